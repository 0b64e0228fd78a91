import PyProof.Rows.All
import Wide.All
import OpenK.AllK
import Wide.FinOn
import HandS.ForMost
import HandS.ForExc
import HandS.Nested
import HandS.TupAny
import HandS.IsInst
import HandS.Wide
import HandS.Conv
import HandS.StrMore
import HandS.TupMul
import KE.GoesNew
import KE.GoesMore
import KE.GoesEnum
import HandS.TryMany
import HandS.Small
import HandS.SortInts
import KE.KRevSl
import PyProof.ListStr
import HandS.ExcInit
import HandS.ExcField
import HandS.DictComp
import HandS.Property
import HandS.Gcd
import KE.KMathGC
import HandS.ExcIs
import HandS.EndTab
import PyProof.StrOps2
import PySem.Challenge.RW_stretchprices_k15_whole_rests_and_long_r
set_option Elab.async false
set_option linter.all false
set_option maxRecDepth 100000
set_option maxHeartbeats 4000000
/-! DD1: a value layer over HandS: data D, a store of mutable objects, readings as total functions. -/
namespace DD
open PySem L2 LamX

/-- the tables of code objects that are followed, each with the name that its code objects bear -/
class NMs where
  T : PySem.W.Frag → List (Addr × Str)
/-- the words of a lambda, and the names that it captures -/
structure LW where
  qual : Str
  params : Arguments
  body : Expr
  scope : Scope
  fr : List Str
abbrev LW.obj (W : LW) (cl : List (Str × Addr)) (pm : Value) (c' : Addr) (ctv : Value) : Obj := PySem.W.kla_obj "<lambda>" W.qual W.params W.body W.scope cl pm c' ctv
/-- a known object, for ever as it is -/
def Kn (o : Obj) : HO := .frz o (.ext fun _ => True)
theorem kn_inj {o o' : Obj} (h : Kn o = Kn o') : o = o' := by unfold Kn at h; cases h; rfl
/-- they are there, tracked -/
def Held (L : List (Addr × Obj)) (H : Hp) : Prop := ∀ b o, L.lookup b = some o → H b = some (Kn o)
/-- what a handed lambda is: its object, its code object, its cells with what they hold -/
structure LamAt (L : List (Addr × Obj)) (H : Hp) (f : Addr) (W : LW) (xs : List V) : Prop where
  ob : ∃ cl pm c' ctv, H f = some (Kn (W.obj cl pm c' ctv)) ∧ H c' = some (CodeO c' W.qual) ∧ (∀ y c, cl.lookup y = some c → ∃ o v, L.lookup c = some o ∧ o.data = .cell v) ∧ (∀ x y c, cl.lookup x = some c → cl.lookup y = some c → x = y) ∧
    ∀ (i : Nat) (y : Str), W.fr[i]? = some y → ∃ c o u x, cl.lookup y = some c ∧ L.lookup c = some o ∧ o.data = .cell (some u) ∧ xs[i]? = some x ∧ RelV x u
  held : Held L H
  cel : ∀ c o, L.lookup c = some o → ∃ v, o.data = .cell v
  len : xs.length = W.fr.length
/-- what such a lambda leans on stays -/
theorem LamAt.keep {L : List (Addr × Obj)} {H H' : Hp} {f : Addr} {W : LW} {xs : List V} (h : LamAt L H f W xs) (k : ∀ b o, (∃ ob, o = Kn ob) ∨ (∃ c q, o = CodeO c q) → H b = some o → H' b = some o) : LamAt L H' f W xs := by
  obtain ⟨⟨cl, pm, c', ctv, h1, h2, h3, h4, h5⟩, hh, hc, hl⟩ := h
  exact ⟨⟨cl, pm, c', ctv, k _ _ (.inl ⟨_, rfl⟩) h1, k _ _ (.inr ⟨_, _, rfl⟩) h2, h3, h4, h5⟩, fun b o e => k _ _ (.inl ⟨_, rfl⟩) (hh b o e), hc, hl⟩
/-- data: what never changes by value, mutable objects by their place in the store -/
inductive D where
  | non | bl (b : Bool) | int (i : Int) | str (x : Str) | tup (ds : List D) | fz (ds : List D) | sc (ds : List D) | fd (ks : List Key) (ds : List D) | obj (c : Str) (ns : List Str) (ds : List D) | ref (n : Nat) | ty (n : String) | lam (k : Nat) (W : LW) (ds : List D)
  deriving Inhabited
/-- what stands in the store -/
inductive O where
  | lst (ds : List D)
  | ins (c : Str) (ns : List Str) (ds : List D)
  | dct (ks : List Key) (ds : List D)
abbrev Sto := List O
abbrev Env := List (Option D)
/-- an error: its class's name, its field -/
abbrev Xc := Str × Option (Str × D)
inductive Res (α : Type) where
  | ok (a : α) (st : Sto)
  | exc (x : Xc) (st : Sto)
  | bad
def Res.bind {α β : Type} (r : Res α) (f : α → Sto → Res β) : Res β := match r with
  | .ok a st => f a st
  | .exc x st => .exc x st
  | .bad => .bad
@[simp] theorem Res.bind_ok {α β : Type} (a : α) (st : Sto) (f : α → Sto → Res β) : (Res.ok a st).bind f = f a st := rfl
@[simp] theorem Res.bind_exc {α β : Type} (x : Xc) (st : Sto) (f : α → Sto → Res β) : (Res.exc x st : Res α).bind f = .exc x st := rfl
@[simp] theorem Res.bind_bad {α β : Type} (f : α → Sto → Res β) : (Res.bad : Res α).bind f = .bad := rfl
inductive ResS where
  | nx (env : Env) (st : Sto)
  | rt (x : D) (st : Sto)
  | bk (env : Env) (st : Sto)
  | ct (env : Env) (st : Sto)
  | exc (x : Xc) (env : Env) (st : Sto)
  | bad
abbrev DE := Env → Sto → Res D
abbrev DT := Env → Sto → Res Bool
abbrev DA := Env → Sto → Res (List D)
abbrev DS := Env → Sto → ResS
abbrev M := List D → Sto → Res D

/-! ### relations -/
/-- the written part, the module's names, addresses that are set aside -/
structure Bs where
  K : PySem.W.Frag
  mg : Str → Option Value
  ρ : List Addr
def Bs.more (B : Bs) (p : Addr) : Bs := ⟨B.K, B.mg, p :: B.ρ⟩
/-- a list, a tuple that never changes any more -/
def ScL (B : Bs) (H : Hp) (ι : List Addr) (a : Addr) (xs : List V) : Prop :=
  (Rd H a (.lst xs) ∧ a ∉ ι ∧ a ∉ B.ρ) ∨ ∃ (o : Obj) (its : Array Value) (n : Nat), B.K.lookup a = some o ∧ o.cls = .type "list" ∧ o.dict = none ∧ o.data = .seq its n ∧ its.size ≤ sizeLine ∧ Vals xs its.toList
def FzT (B : Bs) (H : Hp) (ι : List Addr) (a : Addr) (xs : List V) : Prop :=
  (Rd H a (.tup xs) ∧ a ∉ ι ∧ a ∉ B.ρ) ∨ ∃ (o : Obj) (its : Array Value) (n : Nat), B.K.lookup a = some o ∧ o.cls = .type "tuple" ∧ o.data = .seq its n ∧ its.size ≤ sizeLine ∧ Vals xs its.toList
theorem ScL.sq {B H ι a xs} (h : ScL B H ι a xs) : SqL B.K H a xs := h.elim (fun x => .inl x.1) .inr
theorem FzT.sq {B H ι a xs} (h : FzT B H ι a xs) : SqT B.K H a xs := h.elim (fun x => .inl x.1) .inr
/-- the heap but the store and what is set aside -/
def offH (B : Bs) (ι : List Addr) (H : Hp) : Hp := fun b => if b ∈ ι ∨ b ∈ B.ρ then none else H b
theorem offH_iff {B : Bs} {ι : List Addr} {H : Hp} {b : Addr} {o : HO} : offH B ι H b = some o ↔ b ∉ ι ∧ b ∉ B.ρ ∧ H b = some o := by
  unfold offH
  by_cases h : b ∈ ι ∨ b ∈ B.ρ
  · rw [if_pos h]
    exact ⟨fun z => (nomatch z), fun z => absurd h (fun y => y.elim z.1 z.2.1)⟩
  · rw [if_neg h]
    exact ⟨fun z => ⟨fun y => h (.inl y), fun y => h (.inr y), z⟩, fun z => z.2.2⟩
theorem LamAt.to {L : List (Addr × Obj)} {B : Bs} {ι : List Addr} {H : Hp} {f : Addr} {W : LW} {xs : List V} (h : LamAt L (offH B ι H) f W xs) : LamAt L H f W xs := h.keep fun b o _ e => (offH_iff.mp e).2.2
mutual
def VR (B : Bs) (H : Hp) (ι : List Addr) : D → V → Prop
  | .non, v => v = .non
  | .bl b, v => v = .bl b
  | .int i, v => v = .int i
  | .str x, v => v = .str x
  | .ty n, v => v = .ty n
  | .ref n, v => ∃ a, ι[n]? = some a ∧ v = .ref a
  | .tup ds, v => ∃ a xs, v = .ref a ∧ FzT B H ι a xs ∧ VRs B H ι ds xs
  | .fz ds, v => ∃ a xs, v = .ref a ∧ H a = some (.lst xs) ∧ (a ∉ ι ∧ a ∉ B.ρ) ∧ VRs B H ι ds xs
  | .sc ds, v => ∃ a xs, v = .ref a ∧ ScL B H ι a xs ∧ VRs B H ι ds xs
  | .fd ks ds, v => ∃ a od kvs xs, v = .ref a ∧ H a = some (.frz od (.dK kvs)) ∧ (a ∉ ι ∧ a ∉ B.ρ) ∧ kvs = ks.zip xs ∧ ks.length = xs.length ∧ VRs B H ι ds xs
  | .obj c ns ds, v => ∃ a C dx fs xs, v = .ref a ∧ B.mg c = some (.ref C) ∧ H a = some (.ins C dx fs) ∧ (a ∉ ι ∧ a ∉ B.ρ) ∧ fs = ns.zip xs ∧ ns.length = xs.length ∧ VRs B H ι ds xs
  | .lam _ W ds, v => ∃ f L xs, v = .ref f ∧ LamAt L (offH B ι H) f W xs ∧ VRs B H ι ds xs
def VRs (B : Bs) (H : Hp) (ι : List Addr) : List D → List V → Prop
  | [], xs => xs = []
  | d :: ds, xs => ∃ x r, xs = x :: r ∧ VR B H ι d x ∧ VRs B H ι ds r
end
def OR (B : Bs) (H : Hp) (ι : List Addr) (a : Addr) : O → Prop
  | .lst ds => ∃ xs, H a = some (.lst xs) ∧ VRs B H ι ds xs
  | .ins c ns ds => ∃ C dx fs xs, B.mg c = some (.ref C) ∧ H a = some (.ins C dx fs) ∧ fs = ns.zip xs ∧ ns.length = xs.length ∧ VRs B H ι ds xs
  | .dct ks ds => ∃ kvs xs, H a = some (.dK kvs) ∧ kvs = ks.zip xs ∧ ks.length = xs.length ∧ VRs B H ι ds xs
theorem tabs_keep {T : List (Addr × Str)} {H H' : Hp} (h : Tabs T H) (k : ∀ b o, ((∃ ps, o = .tbl ps) ∨ ∃ c q, o = CodeO c q) → H b = some o → H' b = some o) : Tabs T H' := fun p hp => by
  obtain ⟨ps, h1, h2, h3⟩ := h p hp
  refine ⟨ps, k _ _ (.inl ⟨_, rfl⟩) h1, h2, fun pos cv hc => ?_⟩
  obtain ⟨c, e1, e2⟩ := h3 pos cv hc
  exact ⟨c, e1, k _ _ (.inr ⟨_, _, rfl⟩) e2⟩
/-- neither a table nor a thing told by what is true of it -/
def Pl : HO → Prop
  | .tbl _ => False
  | .ext _ => False
  | _ => True
theorem Pl.nt {o : HO} (h : Pl o) : ∀ ps, o ≠ .tbl ps := fun ps z => by subst z; exact h
theorem Pl.nc {o : HO} (h : Pl o) : ∀ c q, o ≠ CodeO c q := fun c q z => by subst z; exact h
variable [NMs]
structure Sim (B : Bs) (H : Hp) (ι : List Addr) (st : Sto) : Prop where
  len : ι.length = st.length
  nd : ι.Nodup
  ob : ∀ (n : Nat) (o : O), st[n]? = some o → ∃ a, ι[n]? = some a ∧ OR B H ι a o
  rs : ∀ a ∈ B.ρ, (∃ o, H a = some o) ∧ a ∉ ι
  tab : Tabs (NMs.T B.K) H
  rp : ∀ a ∈ B.ρ, ∀ o, H a = some o → Pl o
/-- nothing but perhaps a table stands there -/
def NoH (H : Hp) (a : Addr) : Prop := ∀ o, H a = some o → ∃ ps, o = .tbl ps
theorem noH {H : Hp} {a : Addr} (h : H a = none) : NoH H a := fun o e => by rw [h] at e; cases e
structure Step (ι : List Addr) (H : Hp) (ι' : List Addr) (H' : Hp) : Prop where
  pre : ∃ more, ι' = ι ++ more ∧ ∀ a ∈ more, NoH H a ∧ a ∉ ι
  rest0 : ∀ a o, a ∉ ι → (∀ ps, o ≠ .tbl ps) → H a = some o → H' a = some o
def VEnv (B : Bs) (H : Hp) (ι : List Addr) (env : Env) (σ : L2.St) : Prop :=
  σ.length = env.length ∧ ∀ (i : Nat) (d : D), env[i]? = some (some d) → ∃ v, σ[i]? = some (some v) ∧ VR B H ι d v

section
variable {B : Bs} {H H' H1 H2 : Hp} {ι ι' ι1 ι2 : List Addr} {st st' : Sto} {env : Env} {σ : L2.St} {a : Addr} {xs : List V}
theorem Step.refl (ι : List Addr) (H : Hp) : Step ι H ι H := ⟨⟨[], by simp, by simp⟩, fun _ _ _ _ h => h⟩
theorem Step.rest (s : Step ι H ι' H') (a : Addr) (o : HO) (hn : a ∉ ι) (h : H a = some o) (nt : ∀ ps, o ≠ .tbl ps := by intro ps z; cases z) : H' a = some o := s.rest0 a o hn nt h
theorem tbl_or (o : HO) : (∃ ps, o = .tbl ps) ∨ ∀ ps, o ≠ .tbl ps := by
  cases o <;> first | exact .inl ⟨_, rfl⟩ | exact .inr (fun ps z => by cases z)
theorem NoH.back (s : Step ι H ι' H') {a : Addr} (hn : a ∉ ι) (n : NoH H' a) : NoH H a := fun o e => by
  rcases tbl_or o with z | z
  · exact z
  · exact n o (s.rest0 a o hn z e)
theorem Step.ix (s : Step ι H ι' H') {n : Nat} {a : Addr} (h : ι[n]? = some a) : ι'[n]? = some a := by
  obtain ⟨more, rfl, _⟩ := s.pre
  rw [List.getElem?_append_left (List.getElem?_eq_some_iff.mp h).1]
  exact h
theorem Step.mem (s : Step ι H ι' H') {a : Addr} (h : a ∈ ι) : a ∈ ι' := by
  obtain ⟨more, rfl, _⟩ := s.pre
  exact List.mem_append_left _ h
theorem Step.notMem (s : Step ι H ι' H') {a : Addr} {o : HO} (h : a ∉ ι) (e : H a = some o) (nt : ∀ ps, o ≠ .tbl ps := by intro ps z; cases z) : a ∉ ι' := by
  obtain ⟨more, rfl, f⟩ := s.pre
  intro z
  rcases List.mem_append.mp z with z | z
  · exact h z
  · obtain ⟨ps, y⟩ := (f a z).1 o e; exact nt ps y
theorem Step.trans (s : Step ι H ι1 H1) (t : Step ι1 H1 ι2 H2) : Step ι H ι2 H2 := by
  obtain ⟨m1, e1, f1⟩ := s.pre
  obtain ⟨m2, e2, f2⟩ := t.pre
  refine ⟨⟨m1 ++ m2, by rw [e2, e1, List.append_assoc], fun a ha => ?_⟩, fun a o hn nt h => ?_⟩
  · rcases List.mem_append.mp ha with h | h
    · exact f1 a h
    · have hm : a ∉ ι := fun z => (f2 a h).2 (s.mem z)
      exact ⟨NoH.back s hm (f2 a h).1, hm⟩
  · exact t.rest0 a o (s.notMem hn h nt) nt (s.rest0 a o hn nt h)
theorem Step.rd (s : Step ι H ι' H') {o : HO} (h : Rd H a o) (hn : a ∉ ι) (nt : ∀ ps, o ≠ .tbl ps := by intro ps z; cases z) : Rd H' a o ∧ a ∉ ι' := by
  rcases h with h | ⟨u, h⟩
  · exact ⟨.inl (s.rest a _ hn h nt), s.notMem hn h nt⟩
  · exact ⟨.inr ⟨u, s.rest a _ hn h⟩, s.notMem hn h⟩
theorem kn_nt (o : Obj) : ∀ ps, Kn o ≠ .tbl ps := fun ps z => by unfold Kn at z; cases z
theorem LamAt.step (s : Step ι H ι' H') {L : List (Addr × Obj)} {f : Addr} {W : LW} (h : LamAt L (offH B ι H) f W xs) : LamAt L (offH B ι' H') f W xs := h.keep fun b o k e => by
  obtain ⟨h1, h2, h3⟩ := offH_iff.mp e
  have nt : ∀ ps, o ≠ .tbl ps := by
    rcases k with ⟨ob, rfl⟩ | ⟨c, q, rfl⟩
    · exact kn_nt ob
    · exact fun ps => codeO_ne ps
  exact offH_iff.mpr ⟨s.notMem h1 h3 nt, h2, s.rest0 b o h1 nt h3⟩
theorem ScL.step (s : Step ι H ι' H') (h : ScL B H ι a xs) : ScL B H' ι' a xs := h.elim (fun x => .inl ⟨(s.rd x.1 x.2.1).1, (s.rd x.1 x.2.1).2, x.2.2⟩) .inr
theorem FzT.step (s : Step ι H ι' H') (h : FzT B H ι a xs) : FzT B H' ι' a xs := h.elim (fun x => .inl ⟨(s.rd x.1 x.2.1).1, (s.rd x.1 x.2.1).2, x.2.2⟩) .inr
mutual
theorem VR.step (s : Step ι H ι' H') : ∀ {d : D} {v : V}, VR B H ι d v → VR B H' ι' d v
  | .non, _, h => h
  | .bl _, _, h => h
  | .int _, _, h => h
  | .str _, _, h => h
  | .ty _, _, h => h
  | .ref _, _, ⟨a, h, e⟩ => ⟨a, s.ix h, e⟩
  | .tup _, _, ⟨a, xs, e, h, r⟩ => ⟨a, xs, e, h.step s, VRs.step s r⟩
  | .fz _, _, ⟨a, xs, e, h, n, r⟩ => ⟨a, xs, e, s.rest _ _ n.1 h, ⟨s.notMem n.1 h, n.2⟩, VRs.step s r⟩
  | .sc _, _, ⟨a, xs, e, h, r⟩ => ⟨a, xs, e, h.step s, VRs.step s r⟩
  | .fd _ _, _, ⟨a, od, fs, xs, e, h, n, e2, l, r⟩ => ⟨a, od, fs, xs, e, s.rest _ _ n.1 h, ⟨s.notMem n.1 h, n.2⟩, e2, l, VRs.step s r⟩
  | .obj _ _ _, _, ⟨a, C, dx, fs, xs, e, c, h, n, e2, l, r⟩ => ⟨a, C, dx, fs, xs, e, c, s.rest _ _ n.1 h, ⟨s.notMem n.1 h, n.2⟩, e2, l, VRs.step s r⟩
  | .lam _ _ _, _, ⟨f, L, xs, e, h, r⟩ => ⟨f, L, xs, e, h.step s, VRs.step s r⟩
theorem VRs.step (s : Step ι H ι' H') : ∀ {ds : List D} {vs : List V}, VRs B H ι ds vs → VRs B H' ι' ds vs
  | [], _, h => h
  | _ :: _, _, ⟨x, r, e, h, t⟩ => ⟨x, r, e, VR.step s h, VRs.step s t⟩
end
/-- one more address set aside: what stood before does not hang on it -/
theorem ScL.more {p : Addr} (n : H p = none) (h : ScL B H ι a xs) : ScL (B.more p) H ι a xs := h.elim (fun x => .inl ⟨x.1, x.2.1, fun z => by
  rcases List.mem_cons.mp z with z | z
  · subst z
    rcases x.1 with q | ⟨_, q⟩ <;> (rw [n] at q; cases q)
  · exact x.2.2 z⟩) .inr
theorem FzT.more {p : Addr} (n : H p = none) (h : FzT B H ι a xs) : FzT (B.more p) H ι a xs := h.elim (fun x => .inl ⟨x.1, x.2.1, fun z => by
  rcases List.mem_cons.mp z with z | z
  · subst z
    rcases x.1 with q | ⟨_, q⟩ <;> (rw [n] at q; cases q)
  · exact x.2.2 z⟩) .inr
mutual
theorem VR.more {p : Addr} (n : H p = none) : ∀ {d : D} {v : V}, VR B H ι d v → VR (B.more p) H ι d v
  | .non, _, h => h
  | .bl _, _, h => h
  | .int _, _, h => h
  | .str _, _, h => h
  | .ty _, _, h => h
  | .ref _, _, h => h
  | .tup _, _, ⟨a, xs, e, h, r⟩ => ⟨a, xs, e, h.more n, VRs.more n r⟩
  | .sc _, _, ⟨a, xs, e, h, r⟩ => ⟨a, xs, e, h.more n, VRs.more n r⟩
  | .fz _, _, ⟨a, xs, e, h, m, r⟩ => ⟨a, xs, e, h, ⟨m.1, fun z => by
      rcases List.mem_cons.mp z with z | z
      · subst z; rw [n] at h; cases h
      · exact m.2 z⟩, VRs.more n r⟩
  | .fd _ _, _, ⟨a, od, fs, xs, e, h, m, e2, l, r⟩ => ⟨a, od, fs, xs, e, h, ⟨m.1, fun z => by
      rcases List.mem_cons.mp z with z | z
      · subst z; rw [n] at h; cases h
      · exact m.2 z⟩, e2, l, VRs.more n r⟩
  | .obj _ _ _, _, ⟨a, C, dx, fs, xs, e, c, h, m, e2, l, r⟩ => ⟨a, C, dx, fs, xs, e, c, h, ⟨m.1, fun z => by
      rcases List.mem_cons.mp z with z | z
      · subst z; rw [n] at h; cases h
      · exact m.2 z⟩, e2, l, VRs.more n r⟩
  | .lam _ _ _, _, ⟨f, L, xs, e, h, r⟩ => ⟨f, L, xs, e, h.keep (fun b o _ e => by
      obtain ⟨h1, h2, h3⟩ := offH_iff.mp e
      exact offH_iff.mpr ⟨h1, fun z => by
        rcases List.mem_cons.mp z with z | z
        · subst z; rw [n] at h3; cases h3
        · exact h2 z, h3⟩), VRs.more n r⟩
theorem VRs.more {p : Addr} (n : H p = none) : ∀ {ds : List D} {vs : List V}, VRs B H ι ds vs → VRs (B.more p) H ι ds vs
  | [], _, h => h
  | _ :: _, _, ⟨x, r, e, h, t⟩ => ⟨x, r, e, VR.more n h, VRs.more n t⟩
end
/-- an address set aside is free again, or goes into the store -/
theorem ScL.less {p : Addr} (h : ScL (B.more p) H ι a xs) : ScL B H ι a xs ∧ ScL B H (ι ++ [p]) a xs := by
  rcases h with x | x
  · have h1 : a ∉ B.ρ := fun z => x.2.2 (List.mem_cons_of_mem _ z)
    exact ⟨.inl ⟨x.1, x.2.1, h1⟩, .inl ⟨x.1, fun z => by
      rcases List.mem_append.mp z with z | z
      · exact x.2.1 z
      · have : a = p := by simpa using z
        exact x.2.2 (by rw [this]; exact List.mem_cons_self), h1⟩⟩
  · exact ⟨.inr x, .inr x⟩
theorem FzT.less {p : Addr} (h : FzT (B.more p) H ι a xs) : FzT B H ι a xs ∧ FzT B H (ι ++ [p]) a xs := by
  rcases h with x | x
  · have h1 : a ∉ B.ρ := fun z => x.2.2 (List.mem_cons_of_mem _ z)
    exact ⟨.inl ⟨x.1, x.2.1, h1⟩, .inl ⟨x.1, fun z => by
      rcases List.mem_append.mp z with z | z
      · exact x.2.1 z
      · have : a = p := by simpa using z
        exact x.2.2 (by rw [this]; exact List.mem_cons_self), h1⟩⟩
  · exact ⟨.inr x, .inr x⟩
mutual
theorem VR.less {p : Addr} : ∀ {d : D} {v : V}, VR (B.more p) H ι d v → VR B H ι d v ∧ VR B H (ι ++ [p]) d v
  | .non, _, h => ⟨h, h⟩
  | .bl _, _, h => ⟨h, h⟩
  | .int _, _, h => ⟨h, h⟩
  | .str _, _, h => ⟨h, h⟩
  | .ty _, _, h => ⟨h, h⟩
  | .ref _, _, ⟨a, h, e⟩ => ⟨⟨a, h, e⟩, ⟨a, by rw [List.getElem?_append_left (List.getElem?_eq_some_iff.mp h).1]; exact h, e⟩⟩
  | .tup _, _, ⟨a, xs, e, h, r⟩ => ⟨⟨a, xs, e, h.less.1, (VRs.less r).1⟩, ⟨a, xs, e, h.less.2, (VRs.less r).2⟩⟩
  | .sc _, _, ⟨a, xs, e, h, r⟩ => ⟨⟨a, xs, e, h.less.1, (VRs.less r).1⟩, ⟨a, xs, e, h.less.2, (VRs.less r).2⟩⟩
  | .fz _, _, ⟨a, xs, e, h, m, r⟩ => by
    have h1 : a ∉ B.ρ := fun z => m.2 (List.mem_cons_of_mem _ z)
    refine ⟨⟨a, xs, e, h, ⟨m.1, h1⟩, (VRs.less r).1⟩, ⟨a, xs, e, h, ⟨fun z => ?_, h1⟩, (VRs.less r).2⟩⟩
    rcases List.mem_append.mp z with z | z
    · exact m.1 z
    · have : a = p := by simpa using z
      exact m.2 (by rw [this]; exact List.mem_cons_self)
  | .fd _ _, _, ⟨a, od, fs, xs, e, h, m, e2, l, r⟩ => by
    have h1 : a ∉ B.ρ := fun z => m.2 (List.mem_cons_of_mem _ z)
    refine ⟨⟨a, od, fs, xs, e, h, ⟨m.1, h1⟩, e2, l, (VRs.less r).1⟩, ⟨a, od, fs, xs, e, h, ⟨fun z => ?_, h1⟩, e2, l, (VRs.less r).2⟩⟩
    rcases List.mem_append.mp z with z | z
    · exact m.1 z
    · have : a = p := by simpa using z
      exact m.2 (by rw [this]; exact List.mem_cons_self)
  | .obj _ _ _, _, ⟨a, C, dx, fs, xs, e, c, h, m, e2, l, r⟩ => by
    have h1 : a ∉ B.ρ := fun z => m.2 (List.mem_cons_of_mem _ z)
    refine ⟨⟨a, C, dx, fs, xs, e, c, h, ⟨m.1, h1⟩, e2, l, (VRs.less r).1⟩, ⟨a, C, dx, fs, xs, e, c, h, ⟨fun z => ?_, h1⟩, e2, l, (VRs.less r).2⟩⟩
    rcases List.mem_append.mp z with z | z
    · exact m.1 z
    · have : a = p := by simpa using z
      exact m.2 (by rw [this]; exact List.mem_cons_self)
  | .lam _ _ _, _, ⟨f, L, xs, e, h, r⟩ => by
    refine ⟨⟨f, L, xs, e, h.keep (fun b o _ e => ?_), (VRs.less r).1⟩, ⟨f, L, xs, e, h.keep (fun b o _ e => ?_), (VRs.less r).2⟩⟩
    · obtain ⟨h1, h2, h3⟩ := offH_iff.mp e
      exact offH_iff.mpr ⟨h1, fun z => h2 (List.mem_cons_of_mem _ z), h3⟩
    · obtain ⟨h1, h2, h3⟩ := offH_iff.mp e
      exact offH_iff.mpr ⟨fun z => by
        rcases List.mem_append.mp z with z | z
        · exact h1 z
        · have : b = p := by simpa using z
          exact h2 (by rw [this]; exact List.mem_cons_self), fun z => h2 (List.mem_cons_of_mem _ z), h3⟩
theorem VRs.less {p : Addr} : ∀ {ds : List D} {vs : List V}, VRs (B.more p) H ι ds vs → VRs B H ι ds vs ∧ VRs B H (ι ++ [p]) ds vs
  | [], _, h => ⟨h, h⟩
  | _ :: _, _, ⟨x, r, e, h, t⟩ => ⟨⟨x, r, e, (VR.less h).1, (VRs.less t).1⟩, ⟨x, r, e, (VR.less h).2, (VRs.less t).2⟩⟩
end
theorem VRs.length : ∀ {ds : List D} {vs : List V}, VRs B H ι ds vs → ds.length = vs.length
  | [], _, h => by cases h; rfl
  | _ :: _, _, ⟨x, r, e, _, t⟩ => by subst e; simp [VRs.length t]
theorem VRs.get : ∀ {ds : List D} {vs : List V} {i : Nat} {d : D}, VRs B H ι ds vs → ds[i]? = some d → ∃ v, vs[i]? = some v ∧ VR B H ι d v
  | [], _, _, _, _, e => by simp at e
  | _ :: _, _, 0, _, ⟨x, r, e, h, _⟩, q => by subst e; simp at q; subst q; exact ⟨x, rfl, h⟩
  | _ :: _, _, i + 1, d, ⟨x, r, e, _, t⟩, q => by
    subst e
    obtain ⟨v, h1, h2⟩ := VRs.get (i := i) (d := d) t (by simpa using q)
    exact ⟨v, by simpa using h1, h2⟩
theorem VRs.append : ∀ {ds es : List D} {vs ws : List V}, VRs B H ι ds vs → VRs B H ι es ws → VRs B H ι (ds ++ es) (vs ++ ws)
  | [], _, _, _, h, k => by cases h; exact k
  | _ :: _, _, _, _, ⟨x, r, e, h, t⟩, k => by subst e; exact ⟨x, r ++ _, rfl, h, VRs.append t k⟩
theorem VRs.take : ∀ {ds : List D} {vs : List V} (n : Nat), VRs B H ι ds vs → VRs B H ι (ds.take n) (vs.take n)
  | _, _, 0, _ => rfl
  | [], _, _ + 1, h => by cases h; rfl
  | _ :: _, _, n + 1, ⟨x, r, e, h, t⟩ => by subst e; exact ⟨x, r.take n, rfl, h, VRs.take n t⟩
theorem VRs.drop : ∀ {ds : List D} {vs : List V} (n : Nat), VRs B H ι ds vs → VRs B H ι (ds.drop n) (vs.drop n)
  | _, _, 0, h => h
  | [], _, _ + 1, h => by cases h; rfl
  | _ :: _, _, n + 1, ⟨x, r, e, h, t⟩ => by subst e; exact VRs.drop n t
theorem VRs.set {d : D} {v : V} (hd : VR B H ι d v) : ∀ {ds : List D} {vs : List V} (n : Nat), VRs B H ι ds vs → VRs B H ι (ds.set n d) (vs.set n v)
  | [], _, _, h => by cases h; rfl
  | _ :: _, _, 0, ⟨x, r, e, h, t⟩ => by subst e; exact ⟨v, r, rfl, hd, t⟩
  | _ :: _, _, n + 1, ⟨x, r, e, h, t⟩ => by subst e; exact ⟨x, r.set n v, rfl, h, VRs.set hd n t⟩
theorem VRs.ints : ∀ (ns : List Int), VRs B H ι (ns.map D.int) (ns.map V.int)
  | [] => rfl
  | n :: ns => ⟨.int n, ns.map V.int, rfl, rfl, VRs.ints ns⟩
theorem VRs.one {d : D} {v : V} (h : VR B H ι d v) : VRs B H ι [d] [v] := ⟨v, [], rfl, h, rfl⟩
theorem VEnv.step (s : Step ι H ι' H') (h : VEnv B H ι env σ) : VEnv B H' ι' env σ :=
  ⟨h.1, fun i d e => let ⟨v, a, b⟩ := h.2 i d e; ⟨v, a, b.step s⟩⟩
theorem VEnv.set {i : Nat} {d : D} {v : V} (h : VEnv B H ι env σ) (r : VR B H ι d v) : VEnv B H ι (env.set i (some d)) (σ.set i (some v)) := by
  refine ⟨by simp [h.1], fun j e q => ?_⟩
  by_cases hj : i = j
  · subst hj
    by_cases hl : i < env.length
    · rw [List.getElem?_set_self hl] at q
      cases q
      exact ⟨v, by rw [List.getElem?_set_self (by rw [h.1]; exact hl)], r⟩
    · rw [List.getElem?_eq_none (by simpa using hl)] at q; cases q
  · rw [List.getElem?_set_ne hj] at q
    rw [List.getElem?_set_ne hj]
    exact h.2 j e q
/-- a slot that is forgotten -/
theorem VEnv.forget {i : Nat} (h : VEnv B H ι env σ) : VEnv B H ι (env.set i none) σ := by
  refine ⟨by simp [h.1], fun j e q => ?_⟩
  by_cases hj : i = j
  · subst hj
    by_cases hl : i < env.length
    · rw [List.getElem?_set_self hl] at q; cases q
    · rw [List.getElem?_eq_none (by simpa using hl)] at q; cases q
  · rw [List.getElem?_set_ne hj] at q
    exact h.2 j e q
theorem VEnv.gone {i : Nat} (h : VEnv B H ι env σ) : VEnv B H ι (env.set i none) (σ.set i none) := by
  refine ⟨by simp [h.1], fun j e q => ?_⟩
  by_cases hj : i = j
  · subst hj
    by_cases hl : i < env.length
    · rw [List.getElem?_set_self hl] at q; cases q
    · rw [List.getElem?_eq_none (by simpa using hl)] at q; cases q
  · rw [List.getElem?_set_ne hj] at q
    rw [List.getElem?_set_ne hj]
    exact h.2 j e q
theorem VEnv.wipe {vs : List Nat} (h : VEnv B H ι env σ) : VEnv B H ι (vs.foldr (fun i e => e.set i none) env) (L2.wipe σ vs) := by
  induction vs with
  | nil => exact h
  | cons v vs ih => exact VEnv.gone ih
theorem VEnv.start {vs : List V} {ds : List D} (N : List Str) (h : VRs B H ι ds vs) : VEnv B H ι (ds.map some ++ List.replicate (N.length - ds.length) none) (L2.start N vs) := by
  have hl := h.length
  refine ⟨by simp [L2.start, hl], fun i d e => ?_⟩
  by_cases hi : i < ds.length
  · rw [List.getElem?_append_left (by simpa using hi), List.getElem?_map] at e
    cases q : ds[i]? with
    | none => rw [q] at e; cases e
    | some d' =>
      rw [q] at e; cases e
      obtain ⟨v, h1, h2⟩ := h.get q
      refine ⟨v, ?_, h2⟩
      unfold L2.start
      rw [List.getElem?_append_left (by simpa [← hl] using hi), List.getElem?_map, h1]
      rfl
  · rw [List.getElem?_append_right (by simpa using hi), List.getElem?_replicate] at e
    split at e <;> cases e
/-- everything that is in the store is known to the heap -/
theorem Sim.there (S : Sim B H ι st) (h : a ∈ ι) : ∃ o, H a = some o := by
  obtain ⟨n, hn, rfl⟩ := List.mem_iff_getElem.mp h
  have hs : n < st.length := by rw [← S.len]; exact hn
  obtain ⟨b, hb, o⟩ := S.ob n st[n] (List.getElem?_eq_getElem hs)
  rw [List.getElem?_eq_getElem hn] at hb
  cases hb
  cases e : st[n] with
  | lst ds => rw [e] at o; obtain ⟨_, h, _⟩ := o; exact ⟨_, h⟩
  | ins c ns ds => rw [e] at o; obtain ⟨_, _, _, _, _, h, _⟩ := o; exact ⟨_, h⟩
  | dct ks ds => rw [e] at o; obtain ⟨_, _, h, _⟩ := o; exact ⟨_, h⟩
theorem Sim.fresh (S : Sim B H ι st) (h : H a = none) : a ∉ ι := fun z => by
  obtain ⟨o, e⟩ := S.there z
  rw [h] at e; cases e
theorem OR.stays {b : Addr} {o : O} (e : ∀ u, H b = some u → H' b = some u) (hv : ∀ ds xs, VRs B H ι ds xs → VRs B H' ι' ds xs) (h : OR B H ι b o) : OR B H' ι' b o := by
  cases o with
  | lst ds => obtain ⟨xs, h, r⟩ := h; exact ⟨xs, e _ h, hv _ _ r⟩
  | ins c ns ds => obtain ⟨C, dx, fs, xs, c, h, q, l, r⟩ := h; exact ⟨C, dx, fs, xs, c, e _ h, q, l, hv _ _ r⟩
  | dct ks ds => obtain ⟨kvs, xs, h, q, l, r⟩ := h; exact ⟨kvs, xs, e _ h, q, l, hv _ _ r⟩
theorem OR.stays2 {B' : Bs} (hm : B'.mg = B.mg) {b : Addr} {o : O} (hv : ∀ ds xs, VRs B H ι ds xs → VRs B' H ι' ds xs) (h : OR B H ι b o) : OR B' H ι' b o := by
  cases o with
  | lst ds => obtain ⟨xs, h, r⟩ := h; exact ⟨xs, h, hv _ _ r⟩
  | ins c ns ds => obtain ⟨C, dx, fs, xs, c, h, q, l, r⟩ := h; exact ⟨C, dx, fs, xs, by rw [hm]; exact c, h, q, l, hv _ _ r⟩
  | dct ks ds => obtain ⟨kvs, xs, h, q, l, r⟩ := h; exact ⟨kvs, xs, h, q, l, hv _ _ r⟩
/-- what the store has is no table -/
theorem or_tbl {ob : O} (q : OR B H ι a ob) : ∀ ps, H a ≠ some (.tbl ps) := fun ps z => by
  cases ob with
  | lst ds => obtain ⟨_, h, _⟩ := q; rw [h] at z; cases z
  | ins c ns ds => obtain ⟨_, _, _, _, _, h, _⟩ := q; rw [h] at z; cases z
  | dct ks ds => obtain ⟨_, _, h, _⟩ := q; rw [h] at z; cases z
theorem or_nt {o : HO} {ob : O} (q : OR B (upd H a o) ι a ob) : ∀ ps, o ≠ .tbl ps := fun ps z => or_tbl q ps (by rw [upd_same, z])
theorem or_code {ob : O} (q : OR B H ι a ob) : ∀ c n, H a ≠ some (CodeO c n) := fun c n z => by
  cases ob with
  | lst ds => obtain ⟨_, h, _⟩ := q; rw [h] at z; cases z
  | ins c ns ds => obtain ⟨_, _, _, _, _, h, _⟩ := q; rw [h] at z; cases z
  | dct ks ds => obtain ⟨_, _, h, _⟩ := q; rw [h] at z; cases z
/-- a new object that is not of the store -/
theorem Step.new {o : HO} (S : Sim B H ι st) (h : H a = none) : Step ι H ι (upd H a o) :=
  ⟨⟨[], by simp, by simp⟩, fun b u _ _ e => by rw [upd_ne (ne_of_none e h)]; exact e⟩
theorem tab_upd {o : HO} (S : Sim B H ι st) (h : H a = none) : Tabs (NMs.T B.K) (upd H a o) := S.tab.ext fun b u e => by rw [upd_ne (ne_of_none e h)]; exact e
theorem Sim.new {o : HO} (S : Sim B H ι st) (h : H a = none) : Sim B (upd H a o) ι st := by
  have s : Step ι H ι (upd H a o) := Step.new S h
  have t1 := tab_upd (o := o) S h
  refine ⟨S.len, S.nd, fun n ob e => ?_, fun b hb => ?_, t1, fun b hb o' e => ?_⟩
  rotate_left 2
  · have nb : b ≠ a := fun z => by subst z; obtain ⟨⟨o1, e1⟩, _⟩ := S.rs b hb; rw [h] at e1; cases e1
    rw [upd_ne nb] at e; exact S.rp b hb o' e
  · obtain ⟨b, hb, q⟩ := S.ob n ob e
    exact ⟨b, hb, q.stays (fun u z => by rw [upd_ne (ne_of_none z h)]; exact z) fun ds xs r => r.step s⟩
  · obtain ⟨⟨o, e⟩, m⟩ := S.rs b hb
    exact ⟨⟨o, by rw [upd_ne (ne_of_none e h)]; exact e⟩, m⟩
/-- a new object, set aside -/
theorem Sim.reserve {o : HO} (S : Sim B H ι st) (h : H a = none) (pl : Pl o := by trivial) : Sim (B.more a) (upd H a o) ι st := by
  have s : Step ι H ι (upd H a o) := Step.new S h
  have t1 := tab_upd (o := o) S h
  refine ⟨S.len, S.nd, fun n ob e => ?_, fun b hb => ?_, t1, fun b hb o' e => ?_⟩
  rotate_left 2
  · rcases List.mem_cons.mp hb with z | z
    · subst z; rw [upd_same] at e; cases e; exact pl
    · have nb : b ≠ a := fun y => by subst y; obtain ⟨⟨o1, e1⟩, _⟩ := S.rs b z; rw [h] at e1; cases e1
      rw [upd_ne nb] at e; exact S.rp b z o' e
  · obtain ⟨b, hb, q⟩ := S.ob n ob e
    refine ⟨b, hb, ?_⟩
    have q1 : OR (B.more a) H ι b ob := OR.stays2 (B := B) (B' := B.more a) rfl (fun _ _ r => r.more h) q
    exact q1.stays (fun u z => by rw [upd_ne (ne_of_none z h)]; exact z) fun ds xs r => r.step s
  · rcases List.mem_cons.mp hb with z | z
    · subst z; exact ⟨⟨o, upd_same⟩, S.fresh h⟩
    · obtain ⟨⟨o', e⟩, m⟩ := S.rs b z
      exact ⟨⟨o', by rw [upd_ne (ne_of_none e h)]; exact e⟩, m⟩
theorem Sim.fr (S : Sim B H ι st) (h : H a = none) : a ∉ B.ρ := fun z => by
  obtain ⟨⟨o, e⟩, _⟩ := S.rs a z
  rw [h] at e; cases e
/-- a new object of the store -/
theorem Step.alloc {o : HO} (S : Sim B H ι st) (h : H a = none) : Step ι H (ι ++ [a]) (upd H a o) :=
  ⟨⟨[a], rfl, fun b hb => by have e : b = a := by simpa using hb
                             subst e; exact ⟨noH h, S.fresh h⟩⟩, fun b u _ _ e => by rw [upd_ne (ne_of_none e h)]; exact e⟩
theorem Sim.alloc {o : HO} {ob : O} (S : Sim B H ι st) (h : H a = none) (hq : OR B (upd H a o) (ι ++ [a]) a ob) : Sim B (upd H a o) (ι ++ [a]) (st ++ [ob]) := by
  have s : Step ι H (ι ++ [a]) (upd H a o) := Step.alloc S h
  have t1 := tab_upd (o := o) S h
  refine ⟨by simp [S.len], ?_, fun n ob' e => ?_, fun b hb => ?_, t1, fun b hb o' e => ?_⟩
  rotate_left 3
  · have nb : b ≠ a := fun z => by subst z; obtain ⟨⟨o1, e1⟩, _⟩ := S.rs b hb; rw [h] at e1; cases e1
    rw [upd_ne nb] at e; exact S.rp b hb o' e
  rotate_left 2
  · obtain ⟨⟨o', e⟩, m⟩ := S.rs b hb
    refine ⟨⟨o', by rw [upd_ne (ne_of_none e h)]; exact e⟩, fun z => ?_⟩
    rcases List.mem_append.mp z with z | z
    · exact m z
    · have : b = a := by simpa using z
      subst this; rw [h] at e; cases e
  · rw [List.nodup_append]
    refine ⟨S.nd, by simp, fun x hx y hy => ?_⟩
    have : y = a := by simpa using hy
    subst this
    rintro rfl
    exact S.fresh h hx
  · by_cases hn : n < st.length
    · rw [List.getElem?_append_left hn] at e
      obtain ⟨b, hb, q⟩ := S.ob n ob' e
      exact ⟨b, s.ix hb, q.stays (fun u z => by rw [upd_ne (ne_of_none z h)]; exact z) fun ds xs r => r.step s⟩
    · have hn' : n = st.length := by
        have := (List.getElem?_eq_some_iff.mp e).1
        simp at this
        omega
      subst hn'
      rw [List.getElem?_append_right (by omega)] at e
      simp at e
      subst e
      exact ⟨a, by rw [← S.len, List.getElem?_append_right (by omega)]; simp, hq⟩
theorem Sim.less {p : Addr} (S : Sim (B.more p) H ι st) : Sim B H ι st :=
  ⟨S.len, S.nd, fun n' o e => let ⟨a, h, q⟩ := S.ob n' o e; ⟨a, h, OR.stays2 (B := B.more p) (B' := B) rfl (fun _ _ r => r.less.1) q⟩, fun a ha => S.rs a (List.mem_cons_of_mem _ ha), S.tab, fun a ha => S.rp a (List.mem_cons_of_mem _ ha)⟩
theorem VEnv.more {p : Addr} (h : VEnv B H ι env σ) (n : H p = none) : VEnv (B.more p) H ι env σ :=
  ⟨h.1, fun i d e => let ⟨v, a, b⟩ := h.2 i d e; ⟨v, a, b.more n⟩⟩
theorem VEnv.less {p : Addr} (h : VEnv (B.more p) H ι env σ) : VEnv B H ι env σ :=
  ⟨h.1, fun i d e => let ⟨v, a, b⟩ := h.2 i d e; ⟨v, a, b.less.1⟩⟩
/-- a list that was set aside goes into the store -/
theorem Sim.take {p : Addr} {ds : List D} {xs : List V} (S : Sim (B.more p) H ι st) (hb : p ∉ B.ρ) (hp : H p = some (.lst xs)) (r : VRs (B.more p) H ι ds xs) : Sim B H (ι ++ [p]) (st ++ [.lst ds]) := by
  have h : p ∉ ι := (S.rs p List.mem_cons_self).2
  refine ⟨by simp [S.len], ?_, fun n ob' e => ?_, fun b hb' => ⟨(S.rs b (List.mem_cons_of_mem _ hb')).1, fun z => ?_⟩, S.tab, fun b hb' => S.rp b (List.mem_cons_of_mem _ hb')⟩
  rotate_left 2
  · rcases List.mem_append.mp z with z | z
    · exact (S.rs b (List.mem_cons_of_mem _ hb')).2 z
    · have : b = p := by simpa using z
      subst this; exact hb hb'
  · rw [List.nodup_append]
    refine ⟨S.nd, by simp, fun x hx y hy => ?_⟩
    have : y = p := by simpa using hy
    subst this
    rintro rfl
    exact h hx
  · by_cases hn : n < st.length
    · rw [List.getElem?_append_left hn] at e
      obtain ⟨b, hb, q⟩ := S.ob n ob' e
      exact ⟨b, by rw [List.getElem?_append_left (List.getElem?_eq_some_iff.mp hb).1]; exact hb, OR.stays2 (B := B.more p) (B' := B) rfl (fun _ _ r => r.less.2) q⟩
    · have hn' : n = st.length := by
        have := (List.getElem?_eq_some_iff.mp e).1
        simp at this
        omega
      subst hn'
      rw [List.getElem?_append_right (by omega)] at e
      simp at e
      subst e
      exact ⟨p, by rw [← S.len, List.getElem?_append_right (by omega)]; simp, xs, hp, r.less.2⟩
/-- an object of the store changes -/
theorem Step.write {o : HO} {n : Nat} (h : ι[n]? = some a) : Step ι H ι (upd H a o) :=
  ⟨⟨[], by simp, by simp⟩, fun b u hb _ e => by rw [upd_ne (fun z => hb (by rw [z]; exact List.mem_of_getElem? h))]; exact e⟩
theorem Sim.write {o : HO} {ob : O} {n : Nat} (S : Sim B H ι st) (h : ι[n]? = some a) (hq : OR B (upd H a o) ι a ob) : Sim B (upd H a o) ι (st.set n ob) := by
  have s : Step ι H ι (upd H a o) := Step.write h
  obtain ⟨o0, h0⟩ : ∃ o0, st[n]? = some o0 := ⟨_, List.getElem?_eq_getElem (by rw [← S.len]; exact (List.getElem?_eq_some_iff.mp h).1)⟩
  have q0 : OR B H ι a o0 := by
    obtain ⟨b, hb, q⟩ := S.ob n o0 h0
    rw [h] at hb; cases hb; exact q
  have t1 : Tabs (NMs.T B.K) (upd H a o) := tabs_keep S.tab fun b u k e => by
    have nb : b ≠ a := fun z => by
      subst z
      rcases k with ⟨ps, rfl⟩ | ⟨c, q, rfl⟩
      · exact or_tbl q0 _ e
      · exact or_code q0 _ _ e
    rw [upd_ne nb]; exact e
  refine ⟨by simp [S.len], S.nd, fun m ob' e => ?_, fun b hb => ⟨?_, (S.rs b hb).2⟩, t1, fun b hb o' e => by
    rw [upd_ne (fun z => (S.rs b hb).2 (by rw [z]; exact List.mem_of_getElem? h))] at e; exact S.rp b hb o' e⟩
  rotate_left 1
  · obtain ⟨⟨o', e⟩, m⟩ := S.rs b hb
    exact ⟨o', by rw [upd_ne (fun z => m (by rw [z]; exact List.mem_of_getElem? h))]; exact e⟩
  by_cases hm : n = m
  · subst hm
    have hl : n < st.length := by rw [← S.len]; exact (List.getElem?_eq_some_iff.mp h).1
    rw [List.getElem?_set_self hl] at e
    cases e
    exact ⟨a, h, hq⟩
  · rw [List.getElem?_set_ne hm] at e
    obtain ⟨b, hb, q⟩ := S.ob m ob' e
    have nb : b ≠ a := fun z => by
      subst z
      obtain ⟨l1, e1⟩ := List.getElem?_eq_some_iff.mp h
      obtain ⟨l2, e2⟩ := List.getElem?_eq_some_iff.mp hb
      exact hm ((List.getElem_inj S.nd).mp (e1.trans e2.symm))
    exact ⟨b, hb, q.stays (fun u z => by rw [upd_ne nb]; exact z) fun ds xs r => r.step s⟩
theorem Sim.look (S : Sim B H ι st) {n : Nat} {o : O} (h : st[n]? = some o) {a : Addr} (ha : ι[n]? = some a) : OR B H ι a o := by
  obtain ⟨b, hb, q⟩ := S.ob n o h
  rw [ha] at hb; cases hb
  exact q
end
end DD

/-! DD2: readings by total functions; expressions. -/
namespace DD
open PySem L2
variable [NMs]

/-- how a result is seen: from the start (H, ι) to now (H', ι', the store) -/
structure Rel (α β : Type) where
  r : Bs → Hp → List Addr → Hp → List Addr → Sto → α → β → Prop
  back : ∀ {B ι H ι1 H1 H2 ι2 st a b}, Step ι H ι1 H1 → r B H1 ι1 H2 ι2 st a b → r B H ι H2 ι2 st a b
def relV : Rel D V := ⟨fun B _ _ H ι _ d v => VR B H ι d v, fun _ h => h⟩
def relA : Rel (List D) (List V) := ⟨fun B _ _ H ι _ d v => VRs B H ι d v, fun _ h => h⟩
def relB : Rel Bool Bool := ⟨fun _ _ _ _ _ _ d v => v = d, fun _ h => h⟩
/-- a new list, which nothing else hangs on -/
def relL : Rel (List D) V := ⟨fun B H ι H' ι' st ds v => ∃ p xs, v = .ref p ∧ H' p = some (.lst xs) ∧ NoH H p ∧ p ∉ ι ∧ p ∉ B.ρ ∧ VRs (B.more p) H' ι' ds xs ∧ Sim (B.more p) H' ι' st, by
  rintro B ι H ι1 H1 H2 ι2 st a b s ⟨p, xs, e, h, n, m, r⟩
  have m0 : p ∉ ι := fun z => m (s.mem z)
  exact ⟨p, xs, e, h, NoH.back s m0 n, m0, r⟩⟩

def ExcR (B : Bs) (H : Hp) (ι : List Addr) (x : Xc) (cls : Value) (dd : Option Addr) : Prop :=
  ∃ C, cls = .ref C ∧ B.mg x.1 = some (.ref C) ∧ match x.2 with
    | none => dd = none
    | some (f, d) => ∃ p v, dd = some p ∧ H p = some (.xd [(f, v)]) ∧ VR B H ι d v

def Post {α β : Type} (B : Bs) (R : Rel α β) (W : WX) (σ : L2.St) (ι : List Addr) (H : Hp) (r : Res α) (Q : β → Hp → Prop) : Prop := match r with
  | .ok a st' => ∀ ι' H' b, Step ι H ι' H' → Sim B H' ι' st' → R.r B H ι H' ι' st' a b → Q b H'
  | .exc x st' => ∀ ι' H' cls dd, Step ι H ι' H' → Sim B H' ι' st' → ExcR B H' ι' x cls dd → W cls dd σ H'
  | .bad => False
/-- the base of a context -/
abbrev bs (X : Cx) (ρ : List Addr) : Bs := ⟨X.K, X.mg, ρ⟩
def tG {α β : Type} (K : PySem.W.Frag) (mg : Str → Option Value) (R : Rel α β) (W : WX) (d : Env → Sto → Res α) : L2.St → Hp → (β → Hp → Prop) → Prop := fun σ H Q =>
  ∃ ρ ι st env, Sim ⟨K, mg, ρ⟩ H ι st ∧ VEnv ⟨K, mg, ρ⟩ H ι env σ ∧ Post ⟨K, mg, ρ⟩ R W σ ι H (d env st) Q

section
variable {α β γ δ : Type} {B : Bs} {R : Rel α β} {R' : Rel γ δ} {W : WX} {H H' : Hp} {ι ι' : List Addr} {st st' : Sto} {env : Env} {σ : L2.St} {Q : β → Hp → Prop} {Q' : δ → Hp → Prop}
theorem Post.step (s : Step ι H ι' H') {r : Res α} (h : Post B R W σ ι H r Q) : Post B R W σ ι' H' r Q := by
  cases r with
  | ok a st' => exact fun ι2 H2 b s2 S2 r2 => h ι2 H2 b (s.trans s2) S2 (R.back s r2)
  | exc x st' => exact fun ι2 H2 c d s2 S2 r2 => h ι2 H2 c d (s.trans s2) S2 r2
  | bad => exact h
/-- one thing, then another -/
theorem Post.bind {r : Res α} {f : α → Sto → Res γ} {G : β → Hp → Prop} (h : Post B R' W σ ι H (r.bind f) Q')
    (hk : ∀ a st1 ι1 H1 b, Step ι H ι1 H1 → Sim B H1 ι1 st1 → R.r B H ι H1 ι1 st1 a b → Post B R' W σ ι1 H1 (f a st1) Q' → G b H1) : Post B R W σ ι H r G := by
  cases r with
  | ok a st' => exact fun ι1 H1 b s S q => hk a st' ι1 H1 b s S q (Post.step s h)
  | exc x st' => exact h
  | bad => exact h
/-- .. where the second begins elsewhere -/
theorem Post.bind0 {r : Res α} {f : α → Sto → Res γ} {G : β → Hp → Prop} (h : Post B R' W σ ι H (r.bind f) Q')
    (hk : ∀ a st1 ι1 H1 b, Step ι H ι1 H1 → Sim B H1 ι1 st1 → R.r B H ι H1 ι1 st1 a b → Post B R' W σ ι H (f a st1) Q' → G b H1) : Post B R W σ ι H r G := by
  cases r with
  | ok a st' => exact fun ι1 H1 b s S q => hk a st' ι1 H1 b s S q h
  | exc x st' => exact h
  | bad => exact h
theorem Post.ok {a : α} {b : β} (h : Post B R W σ ι H (.ok a st) Q) (S : Sim B H ι st) (r : R.r B H ι H ι st a b) : Q b H := h ι H b (Step.refl _ _) S r
/-- the result lies in a new heap -/
theorem Post.ok' {a : α} {b : β} (h : Post B R W σ ι H (.ok a st) Q) (s : Step ι H ι' H') (S : Sim B H' ι' st) (r : R.r B H ι H' ι' st a b) : Q b H' := h ι' H' b s S r
end

def PEd (X : Cx) (W : WX) (e : Expr) (d : DE) : Prop := PE X e (tG X.K X.mg relV W d)
def PTd (X : Cx) (W : WX) (e : Expr) (d : DT) : Prop := PT X e (tG X.K X.mg relB W d)
def PWd (X : Cx) (W : WX) (e : Expr) (d : DT) : Prop := PW X e (tG X.K X.mg relB W d)
def PAd (X : Cx) (W : WX) (es : List Expr) (d : DA) : Prop := PA X es (tG X.K X.mg relA W d)
/-- an expression that gives a new list -/
def PLd (X : Cx) (W : WX) (e : Expr) (d : DA) : Prop := PE X e (tG X.K X.mg relL W d)

section
variable {X : Cx} {W : WX} {e a b c : Expr} {es : List Expr} {da db dc : DE} {ds : DA} {t t' : TE} {u u' : TT} {v v' : TA}
theorem PE.mono (h : PE X e t) (k : ∀ σ H Q, t' σ H Q → t σ H Q) : PE X e t' := ⟨fun p s σ H Q I q => h.run p s σ H Q I (k σ H Q q)⟩
theorem PT.mono (h : PT X e u) (k : ∀ σ H Q, u' σ H Q → u σ H Q) : PT X e u' := ⟨fun p s σ H Q I q => h.run p s σ H Q I (k σ H Q q)⟩
theorem PW.mono (h : PW X e u) (k : ∀ σ H Q, u' σ H Q → u σ H Q) : PW X e u' := ⟨fun w p s σ H Q I q => h.run w p s σ H Q I (k σ H Q q)⟩
theorem PA.mono (h : PA X es v) (k : ∀ σ H Q, v' σ H Q → v σ H Q) : PA X es v' := ⟨fun po p s σ H Q I q => h.run po p s σ H Q I (k σ H Q q)⟩
theorem PWd.pt {u : DT} (h : PWd X W e u) : PTd X W e u := PW.pt h

/-! ### names, constants -/
def dVar (i : Nat) : DE := fun env st => match env[i]? with
  | some (some d) => .ok d st
  | _ => .bad
def dC (d : D) : DE := fun _ st => .ok d st
theorem pd_var {i : Nat} {x : Expr} (h : PE X x (tVar i)) : PEd X W x (dVar i) := PE.mono h fun σ H Q ⟨ρ, ι, st, env, S, ve, p⟩ => by
  unfold dVar at p
  cases q : env[i]? with
  | none => rw [q] at p; exact p.elim
  | some o => cases o with
    | none => rw [q] at p; exact p.elim
    | some d =>
      rw [q] at p
      obtain ⟨v, h1, h2⟩ := ve.2 i d q
      exact ⟨v, h1, p.ok S h2⟩
/-- what is one and the same value in every heap -/
def Flat : D → V → Prop
  | .non, v => v = .non
  | .bl b, v => v = .bl b
  | .int i, v => v = .int i
  | .str x, v => v = .str x
  | .ty n, v => v = .ty n
  | _, _ => False
theorem Flat.vr {B H ι} {d : D} {v : V} (h : Flat d v) : VR B H ι d v := by
  cases d <;> first | exact h | exact h.elim
theorem pd_c {d : D} {v : V} (h : PE X e (tC v)) (f : Flat d v) : PEd X W e (dC d) := PE.mono h fun σ H Q ⟨ρ, ι, st, env, S, ve, p⟩ => p.ok S f.vr
theorem pd_int {i j pos} : PEd X W (.Constant (.int i) j pos) (dC (.int i)) := pd_c pe_int rfl
theorem pd_bl {i j pos} : PEd X W (.Constant (.bool i) j pos) (dC (.bl i)) := pd_c pe_bl rfl
theorem pd_non {j pos} : PEd X W (.Constant .none j pos) (dC .non) := pd_c pe_non rfl
theorem pd_str {i j pos} : PEd X W (.Constant (.str i) j pos) (dC (.str i)) := pd_c pe_str rfl

/-! ### operators -/
abbrev F2 := D → D → Sto → Res D
/-- a rule by values is answered by a function of data -/
def RD (K : PySem.W.Frag) (mg : Str → Option Value) (r : R2) (f : F2) : Prop :=
  ∀ {ρ ι H st x y v u W σ} {Q : VK}, Sim ⟨K, mg, ρ⟩ H ι st → VR ⟨K, mg, ρ⟩ H ι x v → VR ⟨K, mg, ρ⟩ H ι y u → Post ⟨K, mg, ρ⟩ relV W σ ι H (f x y st) Q → r v u H Q
def dBin (f : F2) (da db : DE) : DE := fun env st => (da env st).bind fun x st1 => (db env st1).bind fun y st2 => f x y st2
theorem bin_read {r : R2} {f : F2} {K : PySem.W.Frag} {mg : Str → Option Value} (hr : RD K mg r f) {σ : L2.St} {H : Hp} {Q : VK} (h : tG K mg relV W (dBin f da db) σ H Q) : tOp r (tG K mg relV W da) (tG K mg relV W db) σ H Q := by
  obtain ⟨ρ, ι, st, env, S, ve, p⟩ := h
  refine ⟨ρ, ι, st, env, S, ve, Post.bind p fun x st1 ι1 H1 v s1 S1 rx p1 => ?_⟩
  refine ⟨ρ, ι1, st1, env, S1, ve.step s1, Post.bind p1 fun y st2 ι2 H2 u s2 S2 ry p2 => ?_⟩
  exact hr S2 (rx.step s2) ry p2
theorem pd_op {op : Operator} {r : R2} {f : F2} {pos : Pos} (ho : OpR X (binaryOp op) r) (hr : RD X.K X.mg r f) (ha : PEd X W a da) (hb : PEd X W b db) : PEd X W (.BinOp a op b pos) (dBin f da db) :=
  PE.mono (pe_op ho ha hb) fun _ _ _ h => bin_read hr h
theorem pd_cmp {op : CmpOp} {r : R2} {f : F2} {pos : Pos} (ho : OpR X (compareOp op) r) (hr : RD X.K X.mg r f) (ha : PEd X W a da) (hb : PEd X W b db) (hm : behindInMarks op b = false) : PEd X W (.Compare a [op] [b] pos) (dBin f da db) :=
  PE.mono (pe_cmpR ho ha hb hm) fun _ _ _ h => bin_read hr h
theorem pd_ix {r : R2} {f : F2} {pos : Pos} (ho : IxR X r) (hr : RD X.K X.mg r f) (ha : PEd X W a da) (hb : PEd X W b db) (hs : PlainIx b := by exact fun _ _ => rfl) : PEd X W (.Subscript a b pos) (dBin f da db) :=
  PE.mono (pe_ix ho ha hb hs) fun _ _ _ h => bin_read hr h
theorem OpR.or {f : Value → Value → Sem Value} {r1 r2 : R2} (h1 : OpR X f r1) (h2 : OpR X f r2) : OpR X f (fun x y H Q => r1 x y H Q ∨ r2 x y H Q) := fun pins s σ H x y v u Q I rx ry h => h.elim (h1 pins s σ H x y v u Q I rx ry) (h2 pins s σ H x y v u Q I rx ry)
/-- one place -/
abbrev F1 := D → Sto → Res D
def RU1 (K : PySem.W.Frag) (mg : Str → Option Value) (r : V → Hp → VK → Prop) (f : F1) : Prop :=
  ∀ {ρ ι H st x v W σ} {Q : VK}, Sim ⟨K, mg, ρ⟩ H ι st → VR ⟨K, mg, ρ⟩ H ι x v → Post ⟨K, mg, ρ⟩ relV W σ ι H (f x st) Q → r v H Q
def dUn (f : F1) (da : DE) : DE := fun env st => (da env st).bind fun x st1 => f x st1
theorem pd_un {op : UnaryOp} {r : V → Hp → VK → Prop} {f : F1} {pos : Pos} (ho : UnR X (unaryOp op) r) (hr : RU1 X.K X.mg r f) (ha : PEd X W a da) : PEd X W (.UnaryOp op a pos) (dUn f da) :=
  PE.mono (pe_un ho ha) fun _ _ _ ⟨ρ, ι, st, env, S, ve, p⟩ => ⟨ρ, ι, st, env, S, ve, Post.bind p fun x st1 ι1 H1 v s1 S1 rx p1 => hr S1 rx p1⟩

/-! ### arguments, tuples, lists -/
def dNil : DA := fun _ st => .ok [] st
def dCons (da : DE) (ds : DA) : DA := fun env st => (da env st).bind fun x st1 => (ds env st1).bind fun xs st2 => .ok (x :: xs) st2
theorem pad_nil : PAd X W [] dNil := PA.mono pa_nil fun σ H Q ⟨ρ, ι, st, env, S, ve, p⟩ => p.ok S rfl
theorem cons_read {K : PySem.W.Frag} {mg : Str → Option Value} {σ : L2.St} {H : Hp} {Q : List V → Hp → Prop} (h : tG K mg relA W (dCons da ds) σ H Q) : tCons (tG K mg relV W da) (tG K mg relA W ds) σ H Q := by
  obtain ⟨ρ, ι, st, env, S, ve, p⟩ := h
  refine ⟨ρ, ι, st, env, S, ve, Post.bind p fun x st1 ι1 H1 v s1 S1 rx p1 => ?_⟩
  refine ⟨ρ, ι1, st1, env, S1, ve.step s1, Post.bind p1 fun y st2 ι2 H2 u s2 S2 ry p2 => ?_⟩
  exact p2.ok S2 ⟨v, u, rfl, rx.step s2, ry⟩
theorem pad_cons (ha : PEd X W e da) (hr : PAd X W es ds) (hs : starEach (e :: es) X.env = (false, eval e X.env) :: starEach es X.env := by rfl) : PAd X W (e :: es) (dCons da ds) :=
  PA.mono (pa_cons ha hr hs) fun _ _ _ h => cons_read h
def bigLine : Nat := 1000000
theorem big_le {n : Nat} (h : n ≤ bigLine) : n ≤ sizeLine := Nat.le_trans h (by decide)
theorem big_lt {n : Nat} (h : n ≤ bigLine) : n < sizeLine := Nat.lt_of_le_of_lt h (by decide)
def dTup (ds : DA) : DE := fun env st => (ds env st).bind fun xs st1 => if xs.length ≤ bigLine then .ok (.tup xs) st1 else .bad
theorem pd_tup {x1 pos} (h : PAd X W es ds) : PEd X W (.Tuple es x1 pos) (dTup ds) := PE.mono (pe_tup h) fun σ H Q ⟨ρ, ι, st, env, S, ve, p⟩ => by
  refine ⟨ρ, ι, st, env, S, ve, Post.bind p fun xs st1 ι1 H1 vs s1 S1 rx p1 => ?_⟩
  have rx : VRs (bs X ρ) H1 ι1 xs vs := rx
  by_cases hl : xs.length ≤ bigLine
  · rw [if_pos hl] at p1
    refine ⟨by rw [← rx.length]; exact big_le hl, fun q hq => ?_⟩
    exact p1.ok' (Step.new S1 hq) (S1.new hq) ⟨q, vs, rfl, .inl ⟨.inl upd_same, S1.fresh hq, S1.fr hq⟩, rx.step (Step.new S1 hq)⟩
  · rw [if_neg hl] at p1; exact p1.elim
def dLst (ds : DA) : DA := fun env st => (ds env st).bind fun xs st1 => if xs.length ≤ bigLine then .ok xs st1 else .bad
theorem pld_lst {pos} (h : PAd X W es ds) : PLd X W (.List es pos) (dLst ds) := PE.mono (pe_lst h) fun σ H Q ⟨ρ, ι, st, env, S, ve, p⟩ => by
  refine ⟨ρ, ι, st, env, S, ve, Post.bind p fun xs st1 ι1 H1 vs s1 S1 rx p1 => ?_⟩
  have rx : VRs (bs X ρ) H1 ι1 xs vs := rx
  by_cases hl : xs.length ≤ bigLine
  · rw [if_pos hl] at p1
    refine ⟨by rw [← rx.length]; exact big_le hl, fun q hq => ?_⟩
    exact p1.ok' (Step.new S1 hq) (S1.new hq) ⟨q, vs, rfl, upd_same, noH hq, S1.fresh hq, S1.fr hq, (rx.more hq).step (Step.new S1 hq), S1.reserve hq⟩
  · rw [if_neg hl] at p1; exact p1.elim
/-- a new list that will not change: by value -/
def dFz (ds : DA) : DE := fun env st => (ds env st).bind fun xs st1 => .ok (.fz xs) st1
theorem pd_fz (h : PLd X W e ds) : PEd X W e (dFz ds) := PE.mono h fun σ H Q ⟨ρ, ι, st, env, S, ve, p⟩ => by
  refine ⟨ρ, ι, st, env, S, ve, Post.bind p fun xs st1 ι1 H1 v s1 S1 rx p1 => ?_⟩
  obtain ⟨q, ys, rfl, h1, h2, m, m', r, S2⟩ := rx
  exact p1.ok S1 ⟨q, ys, rfl, h1, ⟨(S2.rs q List.mem_cons_self).2, m'⟩, r.less.1⟩
/-- a new list that goes into the store -/
def dNew (ds : DA) : DE := fun env st => (ds env st).bind fun xs st1 => .ok (.ref st1.length) (st1 ++ [.lst xs])
theorem pd_new (h : PLd X W e ds) : PEd X W e (dNew ds) := PE.mono h fun σ H Q ⟨ρ, ι, st, env, S, ve, p⟩ => by
  refine ⟨ρ, ι, st, env, S, ve, Post.bind0 p fun xs st1 ι1 H1 v s1 S1 rx p1 => ?_⟩
  obtain ⟨q, ys, rfl, h1, h2, m, m', r, S2⟩ := rx
  obtain ⟨more, e1, f1⟩ := id s1.pre
  have sT : Step ι H (ι1 ++ [q]) H1 := ⟨⟨more ++ [q], by rw [e1, List.append_assoc], fun a ha => by
    rcases List.mem_append.mp ha with z | z
    · exact f1 a z
    · have : a = q := by simpa using z
      subst this
      exact ⟨h2, m⟩⟩, s1.rest0⟩
  exact p1.ok' sT (S2.take m' h1 r) ⟨q, by rw [← S1.len, List.getElem?_append_right (by omega)]; simp, rfl⟩
end
end DD

/-! DD3: operations on data. -/
namespace DD
open PySem L2 PyProof.Rows
variable [NMs]

section
variable {K : PySem.W.Frag} {mg : Str → Option Value}
/-! ### + -/
def fAdd : F2 := fun x y st => match x, y with
  | .int i, .int j => .ok (.int (i + j)) st
  | .str a, .str b => if a.length + b.length ≤ bigLine then .ok (.str (a ++ b)) st else .bad
  | .tup a, .tup b => if a.length + b.length ≤ bigLine then .ok (.tup (a ++ b)) st else .bad
  | .fz a, .fz b => if a.length + b.length ≤ bigLine then .ok (.fz (a ++ b)) st else .bad
  | .int i, .bl k => .ok (.int (i + b2i k)) st
  | _, _ => .bad
def rAddAll (K : PySem.W.Frag) : R2 := fun x y H Q => (∃ i j, x = .int i ∧ y = .int j ∧ Q (.int (i + j)) H) ∨ (∃ i j, x = .str i ∧ y = .str j ∧ i.length + j.length ≤ sizeLine ∧ Q (.str (i ++ j)) H) ∨ rCatA K x y H Q ∨ rCat x y H Q ∨ (∃ i k, x = .int i ∧ y = .bl k ∧ Q (.int (i + b2i k)) H)
theorem op_addAll {X : Cx} : OpR X (binaryOp .Add) (rAddAll X.K) := OpR.or op_add (OpR.or op_add_str (OpR.or op_catA (OpR.or op_cat op_add_ib)))
theorem rd_add : RD K mg (rAddAll K) fAdd := by
  intro ρ ι H st x y v u W σ Q S rx ry p
  unfold fAdd at p
  cases x <;> cases y <;> (try exact p.elim)
  · cases rx; cases ry; exact .inr (.inr (.inr (.inr ⟨_, _, rfl, rfl, p.ok S rfl⟩)))
  · cases rx; cases ry; exact .inl ⟨_, _, rfl, rfl, p.ok S rfl⟩
  · cases rx; cases ry
    rename_i a b
    by_cases hl : a.length + b.length ≤ bigLine
    · simp only [hl, if_true] at p
      exact .inr (.inl ⟨_, _, rfl, rfl, big_le hl, p.ok S rfl⟩)
    · simp only [hl, if_false] at p; exact p.elim
  · rename_i a b
    by_cases hl : a.length + b.length ≤ bigLine
    · simp only [hl, if_true] at p
      obtain ⟨q1, xs, rfl, h1, r1⟩ := id rx
      obtain ⟨q2, ys, rfl, h2, r2⟩ := id ry
      have l1 := r1.length
      have l2 := r2.length
      refine .inr (.inr (.inl ⟨q1, q2, xs, ys, rfl, rfl, h1.sq, h2.sq, by rw [← l1, ← l2]; exact big_le hl, fun e => ?_, fun _ e => ?_, fun _ _ q hq => ?_⟩))
      · subst e
        have : a = [] := List.length_eq_zero_iff.mp l1
        subst this
        exact p.ok S ry
      · subst e
        have : b = [] := List.length_eq_zero_iff.mp l2
        subst this
        rw [List.append_nil] at p
        exact p.ok S rx
      · have s := Step.new S hq (o := .tup (xs ++ ys))
        exact p.ok' s (S.new hq) ⟨q, xs ++ ys, rfl, .inl ⟨.inl upd_same, S.fresh hq, S.fr hq⟩, (r1.append r2).step s⟩
    · simp only [hl, if_false] at p; exact p.elim
  · rename_i a b
    by_cases hl : a.length + b.length ≤ bigLine
    · simp only [hl, if_true] at p
      obtain ⟨q1, xs, rfl, h1, n1, r1⟩ := id rx
      obtain ⟨q2, ys, rfl, h2, n2, r2⟩ := id ry
      have l1 := r1.length
      have l2 := r2.length
      refine .inr (.inr (.inr (.inl ⟨q1, q2, xs, ys, rfl, rfl, h1, h2, by rw [← l1, ← l2]; exact big_le hl, fun q hq => ?_⟩)))
      have s := Step.new S hq (o := .lst (xs ++ ys))
      exact p.ok' s (S.new hq) ⟨q, xs ++ ys, rfl, upd_same, ⟨S.fresh hq, S.fr hq⟩, (r1.append r2).step s⟩
    · simp only [hl, if_false] at p; exact p.elim
/-! ### ints -/
/-- two ints under a condition -/
def fI (C : Int → Int → Bool) (g : Int → Int → D) : F2 := fun x y st => match x, y with
  | .int i, .int j => if C i j = true then .ok (g i j) st else .bad
  | _, _ => .bad
theorem rd_I {C : Int → Int → Bool} {C' : Int → Int → Prop} {g : Int → Int → D} {g' : Int → Int → V} (h : ∀ i j, C i j = true → C' i j ∧ Flat (g i j) (g' i j)) : RD K mg (rI C' g') (fI C g) := by
  intro ρ ι H st x y v u W σ Q S rx ry p
  unfold fI at p
  cases x <;> cases y <;> (try exact p.elim)
  cases rx; cases ry
  rename_i i j
  by_cases hc : C i j = true
  · simp only [hc, if_true] at p
    exact ⟨_, _, rfl, rfl, (h i j hc).1, p.ok S (h i j hc).2.vr⟩
  · simp only [hc, if_false] at p; exact p.elim
theorem rd_I0 {g : Int → Int → D} {g' : Int → Int → V} (h : ∀ i j, Flat (g i j) (g' i j)) : RD K mg (rI0 g') (fI (fun _ _ => true) g) := by
  intro ρ ι H st x y v u W σ Q S rx ry p
  unfold fI at p
  cases x <;> cases y <;> (try exact p.elim)
  cases rx; cases ry
  exact ⟨_, _, rfl, rfl, p.ok S (h _ _).vr⟩
def fSub : F2 := fI (fun _ _ => true) fun i j => .int (i - j)
theorem rd_sub : RD K mg (rI0 fun i j => .int (i - j)) fSub := by unfold fSub; exact rd_I0 (by intro i j; exact rfl)
def cMul0 (i j : Int) : Bool := (decide (-(2 ^ 64) < i) && decide (i < 2 ^ 64)) || (decide (-(2 ^ 64) < j) && decide (j < 2 ^ 64))
/-- sealed: the kernel is not to reckon with 2 ^ 64 -/
theorem x_cMul : ∃ f : Int → Int → Bool, f = cMul0 := ⟨_, rfl⟩
noncomputable def cMul : Int → Int → Bool := x_cMul.choose
theorem cMul_e : cMul = cMul0 := x_cMul.choose_spec
noncomputable def fMul : F2 := fI cMul fun i j => .int (i * j)
theorem rd_mul : RD K mg (rI CMul fun i j => .int (i * j)) fMul := rd_I fun i j h => by
  rw [cMul_e] at h
  unfold cMul0 at h
  simp only [Bool.or_eq_true, Bool.and_eq_true, decide_eq_true_eq] at h
  exact ⟨h, rfl⟩
def fMod : F2 := fI (fun _ j => decide (0 < j)) fun i j => .int (i % j)
theorem rd_mod : RD K mg (rI (fun _ j => 0 < j) fun i j => .int (i % j)) fMod := by unfold fMod; exact rd_I (by intro i j h; exact ⟨of_decide_eq_true h, rfl⟩)
theorem x_cDiv : ∃ f : Int → Bool, f = fun j => decide (0 < j) && decide (j < 1073741824) := ⟨_, rfl⟩
noncomputable def cDiv : Int → Bool := x_cDiv.choose
theorem cDiv_e : cDiv = fun j => decide (0 < j) && decide (j < 1073741824) := x_cDiv.choose_spec
theorem cDiv_to {j : Int} (h : 0 < j ∧ j < 1073741824) : cDiv j = true := by rw [cDiv_e]; simp [h.1, h.2]
noncomputable def fDiv : F2 := fI (fun _ j => cDiv j) fun i j => .int (i / j)
theorem rd_div : RD K mg (rI CDiv fun i j => .int (i / j)) fDiv := rd_I fun i j h => by
  rw [cDiv_e] at h
  simp only [Bool.and_eq_true, decide_eq_true_eq] at h
  exact ⟨h, rfl⟩
def fPow : F2 := fI (fun i j => decide (0 ≤ j) && decide (j ≤ 1000) && decide (i.natAbs < 1000)) fun i j => .int (i ^ j.toNat)
theorem rd_pow : RD K mg (rI CPow fun i j => .int (i ^ j.toNat)) fPow := rd_I fun i j h => by
  simp only [Bool.and_eq_true, decide_eq_true_eq] at h
  exact ⟨⟨h.1.1, by omega, Nat.lt_trans h.2 (by decide)⟩, rfl⟩
def fLt : F2 := fI (fun _ _ => true) fun i j => .bl (decide (i < j))
def fLe : F2 := fI (fun _ _ => true) fun i j => .bl (decide (i ≤ j))
def fGt : F2 := fI (fun _ _ => true) fun i j => .bl (decide (j < i))
def fGe : F2 := fI (fun _ _ => true) fun i j => .bl (decide (j ≤ i))
theorem rd_lt : RD K mg (rI0 fun i j => .bl (decide (i < j))) fLt := by unfold fLt; exact rd_I0 (by intro i j; exact rfl)
theorem rd_le : RD K mg (rI0 fun i j => .bl (decide (i ≤ j))) fLe := by unfold fLe; exact rd_I0 (by intro i j; exact rfl)
theorem rd_gt : RD K mg (rI0 fun i j => .bl (decide (j < i))) fGt := by unfold fGt; exact rd_I0 (by intro i j; exact rfl)
theorem rd_ge : RD K mg (rI0 fun i j => .bl (decide (j ≤ i))) fGe := by unfold fGe; exact rd_I0 (by intro i j; exact rfl)
/-- < of ints and of texts -/
def fLtS : F2 := fun x y st => match x, y with
  | .int i, .int j => .ok (.bl (decide (i < j))) st
  | .str a, .str b => .ok (.bl (decide (a.cps.toList < b.cps.toList))) st
  | _, _ => .bad
def rLtS : R2 := fun x y H Q => (∃ i j, x = .int i ∧ y = .int j ∧ Q (.bl (decide (i < j))) H) ∨ (∃ i j, x = .str i ∧ y = .str j ∧ Q (.bl (decide (i.cps.toList < j.cps.toList))) H)
theorem op_ltS {X : Cx} : OpR X (compareOp .Lt) rLtS := OpR.or op_lt op_lt_str
theorem rd_ltS : RD K mg rLtS fLtS := by
  intro ρ ι H st x y v u W σ Q S rx ry p
  unfold fLtS at p
  cases x <;> cases y <;> (try exact p.elim)
  · cases rx; cases ry; exact .inl ⟨_, _, rfl, rfl, p.ok S rfl⟩
  · cases rx; cases ry; exact .inr ⟨_, _, rfl, rfl, p.ok S rfl⟩
def fNeg : F1 := fun x st => match x with
  | .int i => .ok (.int (-i)) st
  | _ => .bad
theorem rd_neg : RU1 K mg (rU fun i => .int (-i)) fNeg := by
  intro ρ ι H st x v W σ Q S rx p
  cases x <;> (try exact p.elim)
  cases rx
  exact ⟨_, rfl, p.ok S rfl⟩
/-! ### an item -/
def fIx : F2 := fun x y st => match x, y with
  | .tup ds, .int i => match atI ds i with
    | some d => .ok d st
    | none => .bad
  | .fz ds, .int i => match atI ds i with
    | some d => .ok d st
    | none => .bad
  | .sc ds, .int i => match atI ds i with
    | some d => .ok d st
    | none => .bad
  | .ref n, .int i => match st[n]? with
    | some (.lst ds) => match atI ds i with
      | some d => .ok d st
      | none => .bad
    | _ => .bad
  | .str z, .int i => match atI z.cps.toList i with
    | some c => if z.length ≤ bigLine then .ok (.str ⟨#[c]⟩) st else .bad
    | none => .bad
  | _, _ => .bad
theorem VRs.atI {B H ι} {ds : List D} {vs : List V} {i : Int} {d : D} (h : VRs B H ι ds vs) (e : L2.atI ds i = some d) : ∃ v, L2.atI vs i = some v ∧ VR B H ι d v := by
  unfold L2.atI at e ⊢
  rw [← h.length]
  cases q : ixN ds.length i with
  | none => rw [q] at e; cases e
  | some j =>
    rw [q] at e
    exact h.get e
theorem rd_ix : RD K mg (rIx K) fIx := by
  intro ρ ι H st x y v u W σ Q S rx ry p
  unfold fIx at p
  cases x <;> cases y <;> (try exact p.elim)
  · cases rx; cases ry
    rename_i z i
    simp only [] at p
    split at p
    · rename_i c e
      split at p
      · rename_i hl
        exact .inr (.inr ⟨_, _, _, rfl, rfl, big_le hl, e, p.ok S rfl⟩)
      · exact p.elim
    · exact p.elim
  · cases ry
    obtain ⟨q1, xs, rfl, h1, r1⟩ := id rx
    simp only [] at p
    split at p
    · rename_i d e
      obtain ⟨w, e1, e2⟩ := r1.atI e
      exact .inr (.inl ⟨_, _, _, _, rfl, rfl, h1.sq, e1, p.ok S e2⟩)
    · exact p.elim
  · cases ry
    obtain ⟨q1, xs, rfl, h1, n1, r1⟩ := id rx
    simp only [] at p
    split at p
    · rename_i d e
      obtain ⟨w, e1, e2⟩ := r1.atI e
      exact .inl ⟨_, _, _, _, rfl, rfl, SqL.of h1, e1, p.ok S e2⟩
    · exact p.elim
  · cases ry
    obtain ⟨q1, xs, rfl, h1, r1⟩ := id rx
    simp only [] at p
    split at p
    · rename_i d e
      obtain ⟨w, e1, e2⟩ := r1.atI e
      exact .inl ⟨_, _, _, _, rfl, rfl, h1.sq, e1, p.ok S e2⟩
    · exact p.elim
  · cases ry
    obtain ⟨a, ha, rfl⟩ := id rx
    simp only [] at p
    split at p
    · rename_i ds hs
      obtain ⟨xs, h1, r1⟩ := S.look hs ha
      split at p
      · rename_i d e
        obtain ⟨w, e1, e2⟩ := r1.atI e
        exact .inl ⟨_, _, _, _, rfl, rfl, SqL.of h1, e1, p.ok S e2⟩
      · exact p.elim
    · exact p.elim
/-! ### in -/
def flatD : D → Bool
  | .non => true | .bl _ => true | .int _ => true | .str _ => true | _ => false
def toV : D → V
  | .non => .non | .bl b => .bl b | .int i => .int i | .str x => .str x | _ => .non
theorem toV_of {B H ι} {d : D} {v : V} (f : flatD d = true) (r : VR B H ι d v) : v = toV d ∧ flatV v = true := by
  cases d <;> (try cases f) <;> (cases r; exact ⟨rfl, rfl⟩)
def inD (d : D) (ds : List D) : Bool := inV (toV d) (ds.map toV)
theorem toVs_of {B H ι} : ∀ {ds : List D} {vs : List V}, ds.all flatD = true → VRs B H ι ds vs → vs = ds.map toV ∧ vs.all flatV = true
  | [], _, _, r => by cases r; exact ⟨rfl, rfl⟩
  | d :: ds, _, f, ⟨x, r, e, h, t⟩ => by
    rw [List.all_cons, Bool.and_eq_true] at f
    obtain ⟨e1, f1⟩ := toV_of f.1 h
    obtain ⟨e2, f2⟩ := toVs_of f.2 t
    subst e
    exact ⟨by rw [List.map_cons, ← e1, ← e2], by rw [List.all_cons, f1, f2]; rfl⟩
/-- x in y: a text in a text (one sign), a flat thing in a list or tuple -/
def fIn (neg : Bool) : F2 := fun x y st => match x, y with
  | .str a, .str z => match a.cps.toList with
    | [c] => .ok (.bl (if neg then !decide (c ∈ z.cps.toList) else decide (c ∈ z.cps.toList))) st
    | _ => .bad
  | x, .tup ds => if flatD x && ds.all flatD then .ok (.bl (if neg then !inD x ds else inD x ds)) st else .bad
  | x, .fz ds => if flatD x && ds.all flatD then .ok (.bl (if neg then !inD x ds else inD x ds)) st else .bad
  | _, _ => .bad
def rInAll (K : PySem.W.Frag) (neg : Bool) : R2 := fun x y H Q => (∃ (c : Nat) (z : Str), x = .str ⟨#[c]⟩ ∧ y = .str z ∧ Q (.bl (if neg then !decide (c ∈ z.cps.toList) else decide (c ∈ z.cps.toList))) H) ∨ rIn K neg x y H Q
theorem op_inAll {X : Cx} : OpR X (compareOp .In) (rInAll X.K false) := OpR.or op_in_sign op_in_seq
theorem op_notInAll {X : Cx} : OpR X (compareOp .NotIn) (rInAll X.K true) := OpR.or op_notIn_sign op_notIn_seq
theorem rd_in {neg : Bool} : RD K mg (rInAll K neg) (fIn neg) := by
  intro ρ ι H st x y v u W σ Q S rx ry p
  have tup : ∀ ds, y = .tup ds → (Post ⟨K, mg, ρ⟩ relV W σ ι H (if flatD x && ds.all flatD then .ok (.bl (if neg then !inD x ds else inD x ds)) st else .bad) Q) → rInAll K neg v u H Q := by
    rintro ds rfl p
    split at p
    · rename_i f
      rw [Bool.and_eq_true] at f
      obtain ⟨q1, xs, rfl, h1, r1⟩ := id ry
      obtain ⟨e1, f1⟩ := toV_of f.1 rx
      obtain ⟨e2, f2⟩ := toVs_of f.2 r1
      refine .inr ⟨q1, xs, rfl, .inr h1.sq, f1, f2, ?_⟩
      rw [e1, e2]
      exact p.ok S rfl
    · exact p.elim
  have fz : ∀ ds, y = .fz ds → (Post ⟨K, mg, ρ⟩ relV W σ ι H (if flatD x && ds.all flatD then .ok (.bl (if neg then !inD x ds else inD x ds)) st else .bad) Q) → rInAll K neg v u H Q := by
    rintro ds rfl p
    split at p
    · rename_i f
      rw [Bool.and_eq_true] at f
      obtain ⟨q1, xs, rfl, h1, n1, r1⟩ := id ry
      obtain ⟨e1, f1⟩ := toV_of f.1 rx
      obtain ⟨e2, f2⟩ := toVs_of f.2 r1
      refine .inr ⟨q1, xs, rfl, .inl (SqL.of h1), f1, f2, ?_⟩
      rw [e1, e2]
      exact p.ok S rfl
    · exact p.elim
  unfold fIn at p
  split at p
  · cases rx; cases ry
    rename_i a z
    split at p
    · rename_i c e
      refine .inl ⟨c, z, ?_, rfl, p.ok S rfl⟩
      obtain ⟨arr⟩ := a
      have : arr = #[c] := by
        apply Array.ext'
        simpa using e
      rw [this]
    · exact p.elim
  · exact tup _ rfl p
  · exact fz _ rfl p
  · exact p.elim
/-! ### is None -/
def isNon : D → Bool
  | .non => true | _ => false
def fIs (neg : Bool) : F2 := fun x y st => match y with
  | .non => .ok (.bl (if neg then !isNon x else isNon x)) st
  | _ => .bad
theorem isNon_of {B H ι} {d : D} {v : V} (r : VR B H ι d v) : decide (v = .non) = isNon d := by
  cases d with
  | non => cases r; rfl
  | bl _ => cases r; rfl
  | int _ => cases r; rfl
  | str _ => cases r; rfl
  | ty _ => cases r; rfl
  | tup _ => obtain ⟨_, _, rfl, _⟩ := r; rfl
  | fz _ => obtain ⟨_, _, rfl, _⟩ := r; rfl
  | sc _ => obtain ⟨_, _, rfl, _⟩ := r; rfl
  | fd _ _ => obtain ⟨_, _, _, _, rfl, _⟩ := r; rfl
  | obj _ _ _ => obtain ⟨_, _, _, _, _, rfl, _⟩ := r; rfl
  | lam _ _ _ => obtain ⟨_, _, _, rfl, _⟩ := r; rfl
  | ref _ => obtain ⟨_, _, rfl⟩ := r; rfl
theorem rd_is : RD K mg (fun x y H Q => y = .non ∧ Q (.bl (decide (x = .non))) H) (fIs false) := by
  intro ρ ι H st x y v u W σ Q S rx ry p
  unfold fIs at p
  cases y <;> (try exact p.elim)
  cases ry
  refine ⟨rfl, ?_⟩
  rw [isNon_of rx]
  exact p.ok S rfl
theorem rd_isNot : RD K mg (fun x y H Q => y = .non ∧ Q (.bl (!decide (x = .non))) H) (fIs true) := by
  intro ρ ι H st x y v u W σ Q S rx ry p
  unfold fIs at p
  cases y <;> (try exact p.elim)
  cases ry
  refine ⟨rfl, ?_⟩
  rw [isNon_of rx]
  exact p.ok S rfl
end
end DD

/-! DD4: tests, calls, fields. -/
namespace DD
open PySem L2 PyProof.Rows
variable [NMs]

section
variable {X : Cx} {W : WX} {e a b c o : Expr} {es : List Expr} {da db dc : DE} {ds : DA} {t u : DT} {pos : Pos}
/-! ### truth -/
def tru : D → Sto → Option Bool
  | .non, _ => some false
  | .bl b, _ => some b
  | .int i, _ => some (i != 0)
  | .str x, _ => if x.length ≤ bigLine then some ((x.length : Int) != 0) else none
  | .tup ds, _ => some (!ds.isEmpty)
  | .fz ds, _ => some (!ds.isEmpty)
  | .sc ds, _ => some (!ds.isEmpty)
  | .ref n, st => match st[n]? with
    | some (.lst ds) => some (!ds.isEmpty)
    | some (.dct ks _) => some (!ks.isEmpty)
    | _ => none
  | _, _ => none
theorem VRs.isEmpty {B H ι} {ds : List D} {vs : List V} (h : VRs B H ι ds vs) : vs.isEmpty = ds.isEmpty := by
  have := h.length
  cases ds <;> cases vs <;> first | rfl | (simp at this)
theorem zip_isEmpty {α β : Type} {ks : List α} {xs : List β} (h : ks.length = xs.length) : (ks.zip xs).isEmpty = ks.isEmpty := by
  cases ks <;> cases xs <;> first | rfl | (simp at h)
theorem tru_of {B : Bs} {H ι st} {d : D} {v : V} {k : Bool} (S : Sim B H ι st) (r : VR B H ι d v) (h : tru d st = some k) : TruV B.K v H k := by
  cases d with
  | non => cases r; cases h; rfl
  | bl _ => cases r; cases h; rfl
  | int _ => cases r; cases h; rfl
  | str x =>
    cases r
    simp only [tru] at h
    split at h
    · rename_i hl; cases h; exact ⟨big_le hl, rfl⟩
    · cases h
  | tup ds =>
    obtain ⟨a, xs, rfl, h1, r1⟩ := r
    cases h
    exact .inr (.inl ⟨xs, h1.sq, by rw [r1.isEmpty]⟩)
  | fz ds =>
    obtain ⟨a, xs, rfl, h1, n1, r1⟩ := r
    cases h
    exact .inl ⟨xs, SqL.of h1, by rw [r1.isEmpty]⟩
  | sc ds =>
    obtain ⟨a, xs, rfl, h1, r1⟩ := r
    cases h
    exact .inl ⟨xs, h1.sq, by rw [r1.isEmpty]⟩
  | fd ks ds => cases h
  | ref n =>
    obtain ⟨a, ha, rfl⟩ := r
    simp only [tru] at h
    split at h
    · rename_i ds e
      cases h
      obtain ⟨xs, h1, r1⟩ := S.look e ha
      exact .inl ⟨xs, SqL.of h1, by rw [r1.isEmpty]⟩
    · rename_i ks ds e
      cases h
      obtain ⟨kvs, xs, h1, e, l, r1⟩ := S.look e ha
      exact .inr (.inr ⟨kvs, h1, by rw [e, zip_isEmpty l]⟩)
    · cases h
  | ty _ => cases h
  | obj _ _ _ => cases h
  | lam _ _ _ => cases h
def dTru (da : DE) : DT := fun env st => (da env st).bind fun x st1 => match tru x st1 with
  | some k => .ok k st1
  | none => .bad
theorem ptd_truth (ha : PEd X W a da) (he : ∀ whole, isTrue a X.env whole = (do let v ← whole; standAt a.pos; holding [v] (truthy v)) := by intro _; rfl) : PTd X W a (dTru da) :=
  PT.mono (pt_truth ha he) fun σ H Q ⟨ρ, ι, st, env, S, ve, p⟩ => ⟨ρ, ι, st, env, S, ve, Post.bind p fun x st1 ι1 H1 v s1 S1 rx p1 => by
    cases q : tru x st1 with
    | none => simp only [q] at p1; exact p1.elim
    | some k => simp only [q] at p1; exact ⟨k, tru_of S1 rx q, p1.ok S1 rfl⟩⟩
/-- a value that is a flag -/
def dTst (da : DE) : DT := fun env st => (da env st).bind fun x st1 => match x with
  | .bl k => .ok k st1
  | _ => .bad
theorem ptd_cmp {op : CmpOp} {r : R2} {f : F2} (ho : OpR X (compareOp op) r) (hr : RD X.K X.mg r f) (ha : PEd X W a da) (hb : PEd X W b db) (hm : behindInMarks op b = false) : PTd X W (.Compare a [op] [b] pos) (dTst (dBin f da db)) :=
  PT.mono (pt_cmpR ho ha hb hm) fun σ H Q ⟨ρ, ι, st, env, S, ve, p⟩ => bin_read hr ⟨ρ, ι, st, env, S, ve, Post.bind p fun x st1 ι1 H1 v s1 S1 rx p1 => by
    cases x <;> (try exact p1.elim)
    cases rx
    exact ⟨_, rfl, p1.ok S1 rfl⟩⟩
/-- a < b < c -/
def dChain (f g : F2) (da db dc : DE) : DE := fun env st => (da env st).bind fun x st1 => (db env st1).bind fun y st2 => (f x y st2).bind fun z st3 => match z with
  | .bl true => (dc env st3).bind fun w st4 => g y w st4
  | .bl false => .ok (.bl false) st3
  | _ => .bad
theorem chain_read {K : PySem.W.Frag} {mg : Str → Option Value} {r r' : R2} {f g : F2} (hr : RD K mg r f) (hr' : RD K mg r' g) {σ : L2.St} {H : Hp} {Q : VK} (h : tG K mg relV W (dChain f g da db dc) σ H Q) :
    tChain r r' (tG K mg relV W da) (tG K mg relV W db) (tG K mg relV W dc) σ H Q := by
  obtain ⟨ρ, ι, st, env, S, ve, p⟩ := h
  refine ⟨ρ, ι, st, env, S, ve, Post.bind p fun x st1 ι1 H1 v s1 S1 rx p1 => ?_⟩
  refine ⟨ρ, ι1, st1, env, S1, ve.step s1, Post.bind p1 fun y st2 ι2 H2 u s2 S2 ry p2 => ?_⟩
  refine hr S2 (rx.step s2) ry (Post.bind (R := relV) p2 fun z st3 ι3 H3 w s3 S3 rz p3 => ?_)
  cases z <;> (try exact p3.elim)
  rename_i k
  cases rz
  refine ⟨k, rfl, ?_⟩
  cases k with
  | true => exact iteT ⟨ρ, ι3, st3, env, S3, ((ve.step s1).step s2).step s3, Post.bind p3 fun w st4 ι4 H4 z s4 S4 rw p4 => hr' S4 ((VR.step s3 ry).step s4) rw p4⟩
  | false => exact iteF (p3.ok S3 rfl)
theorem pd_chain {op op' : CmpOp} {r r' : R2} {f g : F2} (ho : OpR X (compareOp op) r) (ho' : OpR X (compareOp op') r') (hr : RD X.K X.mg r f) (hr' : RD X.K X.mg r' g) (ha : PEd X W a da) (hb : PEd X W b db) (hc : PEd X W c dc)
    (h1 : lastMarks [op, op'] [b, c] = false := by rfl) : PEd X W (.Compare a [op, op'] [b, c] pos) (dChain f g da db dc) :=
  PE.mono (pe_chain ho ho' ha hb hc h1) fun _ _ _ h => chain_read hr hr' h
theorem ptd_chain {op op' : CmpOp} {r r' : R2} {f g : F2} (ho : OpR X (compareOp op) r) (ho' : OpR X (compareOp op') r') (hr : RD X.K X.mg r f) (hr' : RD X.K X.mg r' g) (ha : PEd X W a da) (hb : PEd X W b db) (hc : PEd X W c dc)
    (h1 : lastMarks [op, op'] [b, c] = false := by rfl) : PTd X W (.Compare a [op, op'] [b, c] pos) (dTst (dChain f g da db dc)) :=
  PT.mono (pt_chain ho ho' ha hb hc h1) fun σ H Q ⟨ρ, ι, st, env, S, ve, p⟩ => chain_read hr hr' ⟨ρ, ι, st, env, S, ve, Post.bind p fun x st1 ι1 H1 v s1 S1 rx p1 => by
    cases x <;> (try exact p1.elim)
    cases rx
    exact ⟨_, rfl, p1.ok S1 rfl⟩⟩
/-! ### and, or, not, if -/
def dAnd (t u : DT) : DT := fun env st => (t env st).bind fun k st1 => if k = true then u env st1 else .ok false st1
def dOr (t u : DT) : DT := fun env st => (t env st).bind fun k st1 => if k = true then .ok true st1 else u env st1
def dNot (t : DT) : DT := fun env st => (t env st).bind fun k st1 => .ok (!k) st1
theorem pwd_and1 (h : PTd X W a t) : PWd X W (.BoolOp .And [a] pos) t := pw_and1 h
theorem pwd_or1 (h : PTd X W a t) : PWd X W (.BoolOp .Or [a] pos) t := pw_or1 h
theorem pwd_and {rest : List Expr} (ha : PTd X W a t) (hb : PWd X W (.BoolOp .And (b :: rest) pos) u) : PWd X W (.BoolOp .And (a :: b :: rest) pos) (dAnd t u) :=
  PW.mono (pw_and ha hb) fun σ H Q ⟨ρ, ι, st, env, S, ve, p⟩ => ⟨ρ, ι, st, env, S, ve, Post.bind p fun k st1 ι1 H1 v s1 S1 rx p1 => by
    cases rx
    cases k with
    | true => exact iteT ⟨ρ, ι1, st1, env, S1, ve.step s1, p1⟩
    | false => exact iteF (p1.ok S1 rfl)⟩
theorem pwd_or {rest : List Expr} (ha : PTd X W a t) (hb : PWd X W (.BoolOp .Or (b :: rest) pos) u) : PWd X W (.BoolOp .Or (a :: b :: rest) pos) (dOr t u) :=
  PW.mono (pw_or ha hb) fun σ H Q ⟨ρ, ι, st, env, S, ve, p⟩ => ⟨ρ, ι, st, env, S, ve, Post.bind p fun k st1 ι1 H1 v s1 S1 rx p1 => by
    cases rx
    cases k with
    | true => exact iteT (p1.ok S1 rfl)
    | false => exact iteF ⟨ρ, ι1, st1, env, S1, ve.step s1, p1⟩⟩
theorem ptd_w {t : DT} (h : PWd X W e t) : PTd X W e t := PW.pt h
theorem ptd_not (ha : PTd X W a t) : PTd X W (.UnaryOp .Not a pos) (dNot t) :=
  PT.mono (pt_not ha) fun σ H Q ⟨ρ, ι, st, env, S, ve, p⟩ => ⟨ρ, ι, st, env, S, ve, Post.bind p fun k st1 ι1 H1 v s1 S1 rx p1 => by
    cases rx
    exact p1.ok S1 rfl⟩
def dIf (t : DT) (da db : DE) : DE := fun env st => (t env st).bind fun k st1 => if k = true then da env st1 else db env st1
theorem pd_if (hc : PTd X W c t) (ha : PEd X W a da) (hb : PEd X W b db) : PEd X W (.IfExp c a b pos) (dIf t da db) :=
  PE.mono (pe_ifExp hc ha hb) fun σ H Q ⟨ρ, ι, st, env, S, ve, p⟩ => ⟨ρ, ι, st, env, S, ve, Post.bind p fun k st1 ι1 H1 v s1 S1 rx p1 => by
    cases rx
    cases k with
    | true => exact iteT ⟨ρ, ι1, st1, env, S1, ve.step s1, p1⟩
    | false => exact iteF ⟨ρ, ι1, st1, env, S1, ve.step s1, p1⟩⟩
/-- as values: all but the last are flags -/
def dAndV (da db : DE) : DE := fun env st => (da env st).bind fun x st1 => match x with
  | .bl true => db env st1
  | .bl false => .ok (.bl false) st1
  | _ => .bad
def dOrV (da db : DE) : DE := fun env st => (da env st).bind fun x st1 => match x with
  | .bl true => .ok (.bl true) st1
  | .bl false => db env st1
  | _ => .bad
def dNotV (da : DE) : DE := fun env st => (da env st).bind fun x st1 => match x with
  | .bl k => .ok (.bl (!k)) st1
  | _ => .bad
theorem pd_one {op} (h : PEd X W a da) : PEd X W (.BoolOp op [a] pos) da := pe_one h
theorem pd_and {rest : List Expr} (ha : PEd X W a da) (hb : PEd X W (.BoolOp .And (b :: rest) pos) db) : PEd X W (.BoolOp .And (a :: b :: rest) pos) (dAndV da db) :=
  PE.mono (pe_and ha hb) fun σ H Q ⟨ρ, ι, st, env, S, ve, p⟩ => ⟨ρ, ι, st, env, S, ve, Post.bind p fun x st1 ι1 H1 v s1 S1 rx p1 => by
    cases x <;> (try exact p1.elim)
    rename_i k
    cases rx
    cases k with
    | true => exact ⟨_, rfl, iteT ⟨ρ, ι1, st1, env, S1, ve.step s1, p1⟩⟩
    | false => exact ⟨_, rfl, iteF (p1.ok S1 rfl)⟩⟩
theorem pd_or {rest : List Expr} (ha : PEd X W a da) (hb : PEd X W (.BoolOp .Or (b :: rest) pos) db) : PEd X W (.BoolOp .Or (a :: b :: rest) pos) (dOrV da db) :=
  PE.mono (pe_or ha hb) fun σ H Q ⟨ρ, ι, st, env, S, ve, p⟩ => ⟨ρ, ι, st, env, S, ve, Post.bind p fun x st1 ι1 H1 v s1 S1 rx p1 => by
    cases x <;> (try exact p1.elim)
    rename_i k
    cases rx
    cases k with
    | true => exact ⟨_, rfl, iteT (p1.ok S1 rfl)⟩
    | false => exact ⟨_, rfl, iteF ⟨ρ, ι1, st1, env, S1, ve.step s1, p1⟩⟩⟩
theorem pd_not (ha : PEd X W a da) : PEd X W (.UnaryOp .Not a pos) (dNotV da) :=
  PE.mono (pe_not ha) fun σ H Q ⟨ρ, ι, st, env, S, ve, p⟩ => ⟨ρ, ι, st, env, S, ve, Post.bind p fun x st1 ι1 H1 v s1 S1 rx p1 => by
    cases x <;> (try exact p1.elim)
    cases rx
    exact ⟨_, rfl, p1.ok S1 rfl⟩⟩

/-! ### calls by values -/
abbrev FC := List D → Sto → Res D
def RC (K : PySem.W.Frag) (mg : Str → Option Value) (r : List V → Hp → VK → Prop) (f : FC) : Prop :=
  ∀ {ρ ι H st xs vs W σ} {Q : VK}, Sim ⟨K, mg, ρ⟩ H ι st → VRs ⟨K, mg, ρ⟩ H ι xs vs → Post ⟨K, mg, ρ⟩ relV W σ ι H (f xs st) Q → r vs H Q
/-- .. whose answer is a new list -/
abbrev FL := List D → Sto → Res (List D)
def RCL (K : PySem.W.Frag) (mg : Str → Option Value) (r : List V → Hp → VK → Prop) (f : FL) : Prop :=
  ∀ {ρ ι H st xs vs W σ} {Q : VK}, Sim ⟨K, mg, ρ⟩ H ι st → VRs ⟨K, mg, ρ⟩ H ι xs vs → Post ⟨K, mg, ρ⟩ relL W σ ι H (f xs st) Q → r vs H Q
def dCall (f : FC) (ds : DA) : DE := fun env st => (ds env st).bind fun xs st1 => f xs st1
def dCallL (f : FL) (ds : DA) : DA := fun env st => (ds env st).bind fun xs st1 => f xs st1
variable {x id T : Str} {p : Pos} {r : List V → Hp → VK → Prop} {f : FC} {fl : FL}
theorem pd_callB {id : String} (hc : CallR X (.builtin id) r) (hr : RC X.K X.mg r f) (hg : Gl X x) (hm : X.mg x = none) (hv : bootBuiltins x = some (.builtin id)) (ha : PAd X W (e :: es) ds) (hn : x ≠ "__name__" := by decide) (hdb : (x == ("__debug__" : Str)) = false := by decide)
    (he : starEach (e :: es) X.env = (false, eval e X.env) :: starEach es X.env := by rfl) (hpl : (backTo pos (starEach es X.env)).any (·.1) = false := by rfl) : PEd X W (.Call (.Name x p) (e :: es) [] pos) (dCall f ds) :=
  PE.mono (pe_callB hc hg hm hv ha hn hdb he hpl) fun σ H Q ⟨ρ, ι, st, env, S, ve, p⟩ => ⟨ρ, ι, st, env, S, ve, Post.bind p fun xs st1 ι1 H1 vs s1 S1 rx p1 => hr S1 rx p1⟩
theorem pd_callTy {T : String} (hc : CallR X (.type T) r) (hr : RC X.K X.mg r f) (hg : Gl X x) (hm : X.mg x = none) (hv : bootBuiltins x = some (.type T)) (ha : PAd X W (e :: es) ds) (hn : x ≠ "__name__" := by decide) (hdb : (x == ("__debug__" : Str)) = false := by decide)
    (he : starEach (e :: es) X.env = (false, eval e X.env) :: starEach es X.env := by rfl) (hpl : (backTo pos (starEach es X.env)).any (·.1) = false := by rfl) : PEd X W (.Call (.Name x p) (e :: es) [] pos) (dCall f ds) :=
  PE.mono (pe_callTy hc hg hm hv ha hn hdb he hpl) fun σ H Q ⟨ρ, ι, st, env, S, ve, p⟩ => ⟨ρ, ι, st, env, S, ve, Post.bind p fun xs st1 ι1 H1 vs s1 S1 rx p1 => hr S1 rx p1⟩
theorem pld_callB {id : String} (hc : CallR X (.builtin id) r) (hr : RCL X.K X.mg r fl) (hg : Gl X x) (hm : X.mg x = none) (hv : bootBuiltins x = some (.builtin id)) (ha : PAd X W (e :: es) ds) (hn : x ≠ "__name__" := by decide) (hdb : (x == ("__debug__" : Str)) = false := by decide)
    (he : starEach (e :: es) X.env = (false, eval e X.env) :: starEach es X.env := by rfl) (hpl : (backTo pos (starEach es X.env)).any (·.1) = false := by rfl) : PLd X W (.Call (.Name x p) (e :: es) [] pos) (dCallL fl ds) :=
  PE.mono (pe_callB hc hg hm hv ha hn hdb he hpl) fun σ H Q ⟨ρ, ι, st, env, S, ve, p⟩ => ⟨ρ, ι, st, env, S, ve, Post.bind p fun xs st1 ι1 H1 vs s1 S1 rx p1 => hr S1 rx p1⟩
theorem pld_callTy {T : String} (hc : CallR X (.type T) r) (hr : RCL X.K X.mg r fl) (hg : Gl X x) (hm : X.mg x = none) (hv : bootBuiltins x = some (.type T)) (ha : PAd X W (e :: es) ds) (hn : x ≠ "__name__" := by decide) (hdb : (x == ("__debug__" : Str)) = false := by decide)
    (he : starEach (e :: es) X.env = (false, eval e X.env) :: starEach es X.env := by rfl) (hpl : (backTo pos (starEach es X.env)).any (·.1) = false := by rfl) : PLd X W (.Call (.Name x p) (e :: es) [] pos) (dCallL fl ds) :=
  PE.mono (pe_callTy hc hg hm hv ha hn hdb he hpl) fun σ H Q ⟨ρ, ι, st, env, S, ve, p⟩ => ⟨ρ, ι, st, env, S, ve, Post.bind p fun xs st1 ι1 H1 vs s1 S1 rx p1 => hr S1 rx p1⟩
end
/-! ### calls of own defs -/
/-- what a def promises: its answer is m of its arguments -/
def spD (K : PySem.W.Frag) (mg : Str → Option Value) (m : M) (n : Nat) : Sp := fun vs H Q E => vs.length = n ∧ ∃ ρ ι st ds, Sim ⟨K, mg, ρ⟩ H ι st ∧ VRs ⟨K, mg, ρ⟩ H ι ds vs ∧
  Post ⟨K, mg, ρ⟩ relV (fun c d _ H => E c d H) [] ι H (m ds st) Q
/-- an error of a callee reaches what is wished here -/
def Lets (X : Cx) (W : WX) : Prop := ∀ σ, PassesAt (L2.CX X.prog X.w) X σ (WE W σ)
theorem lets_of {X : Cx} {W : WX} (tk : Takes X W) : Lets X W := passAt tk
def W0 : WX := fun _ _ _ _ => False
theorem lets0 {X : Cx} : Lets X W0 := fun σ pins H s e s' I h => by
  obtain ⟨_, _, _, _, _, _, _, _, _, _, _, _, z⟩ := h
  exact z.elim
def dOwn (m : M) (n : Nat) (ds : DA) : DE := fun env st => (ds env st).bind fun xs st1 => if xs.length = n then m xs st1 else .bad
section
variable {X : Cx} {W : WX} {e : Expr} {es : List Expr} {ds : DA} {pos p : Pos} {k : Nat} {f : Addr} {fd : FuncData} {ps : List Str} {m : M} {n : Nat} {x : Str}
theorem Post.wish {B : Bs} {W : WX} {σ : L2.St} {ι : List Addr} {H : Hp} {r : Res D} {Q : VK} (h : Post B relV W σ ι H r Q) : Post B relV (fun c d _ H => WE W σ c d H) [] ι H r Q := by
  cases r <;> exact h
theorem pd_own (F : FnOk X.prog X.w X.K X.mg X.base (L2.CX X.prog X.w) k f fd ps (spD X.K X.mg m n)) (hr : Room k X.A) (hg : Gl X x) (hm : X.mg x = some (.ref f)) (hk : PySem.W.keepIn X.K (.ref f) = true) (hb : Binds X.K fd ps []) (hx : Lets X W)
    (ha : PAd X W (e :: es) ds) (hdb : (x == ("__debug__" : Str)) = false := by decide) (he : starEach (e :: es) X.env = (false, eval e X.env) :: starEach es X.env := by rfl) (hpl : (backTo pos (starEach es X.env)).any (·.1) = false := by rfl) :
    PEd X W (.Call (.Name x p) (e :: es) [] pos) (dOwn m n ds) :=
  PE.mono (pe_callS (E := fun σ => WE W σ) F hr hg hm hk hb hx ha hdb he hpl) fun σ H Q ⟨ρ, ι, st, env, S, ve, p⟩ => ⟨ρ, ι, st, env, S, ve, Post.bind p fun xs st1 ι1 H1 vs s1 S1 rx p1 => by
    have rx : VRs ⟨X.K, X.mg, ρ⟩ H1 ι1 xs vs := rx
    by_cases hl : xs.length = n
    · simp only [hl, if_true] at p1
      exact ⟨by rw [← rx.length, hl], ρ, ι1, st1, xs, S1, rx, Post.wish p1⟩
    · simp only [hl, if_false] at p1; exact p1.elim⟩
end
end DD

/-! DD5: statements, defs. -/
namespace DD
open PySem L2 PyProof.Rows
variable [NMs]

def PostS (B : Bs) (W : WX) (E : Ends) (σ : L2.St) (ι : List Addr) (H : Hp) (r : ResS) : Prop := match r with
  | .nx env' st' => ∀ ι' H' σ', Step ι H ι' H' → Sim B H' ι' st' → VEnv B H' ι' env' σ' → E.nx σ' H'
  | .bk env' st' => ∀ ι' H' σ', Step ι H ι' H' → Sim B H' ι' st' → VEnv B H' ι' env' σ' → E.bk σ' H'
  | .ct env' st' => ∀ ι' H' σ', Step ι H ι' H' → Sim B H' ι' st' → VEnv B H' ι' env' σ' → E.ct σ' H'
  | .rt x st' => ∀ ι' H' v, Step ι H ι' H' → Sim B H' ι' st' → VR B H' ι' x v → E.rt v H'
  | .exc x env' st' => ∀ ι' H' σ' cls dd, Step ι H ι' H' → Sim B H' ι' st' → VEnv B H' ι' env' σ' → ExcR B H' ι' x cls dd → W cls dd σ' H'
  | .bad => False
def tSd (K : PySem.W.Frag) (mg : Str → Option Value) (W : WX) (d : DS) : TS := fun E σ H =>
  ∃ ρ ι st env, Sim ⟨K, mg, ρ⟩ H ι st ∧ VEnv ⟨K, mg, ρ⟩ H ι env σ ∧ PostS ⟨K, mg, ρ⟩ W E σ ι H (d env st)
def PSd (X : Cx) (W : WX) (s : Stmt) (d : DS) : Prop := PS X s (tSd X.K X.mg W d)
def PSsd (X : Cx) (W : WX) (s : List Stmt) (d : DS) : Prop := PSs X s (tSd X.K X.mg W d)
theorem PS.mono {X : Cx} {s : Stmt} {t t' : TS} (h : PS X s t) (k : ∀ D σ H, t' D σ H → t D σ H) : PS X s t' := ⟨fun p s σ H D I q => h.run p s σ H D I (k D σ H q)⟩
theorem PSs.mono {X : Cx} {s : List Stmt} {t t' : TS} (h : PSs X s t) (k : ∀ D σ H, t' D σ H → t D σ H) : PSs X s t' := ⟨fun p s σ H D I q => h.run p s σ H D I (k D σ H q)⟩
section
variable {B : Bs} {W : WX} {E : Ends} {σ σ' : L2.St} {ι ι' : List Addr} {H H' : Hp} {env : Env}
theorem PostS.step (s : Step ι H ι' H') {r : ResS} (h : PostS B W E σ ι H r) : PostS B W E σ' ι' H' r := by
  cases r with
  | nx e st => exact fun ι2 H2 σ2 s2 => h ι2 H2 σ2 (s.trans s2)
  | bk e st => exact fun ι2 H2 σ2 s2 => h ι2 H2 σ2 (s.trans s2)
  | ct e st => exact fun ι2 H2 σ2 s2 => h ι2 H2 σ2 (s.trans s2)
  | rt x st => exact fun ι2 H2 v s2 => h ι2 H2 v (s.trans s2)
  | exc x e st => exact fun ι2 H2 σ2 c d s2 => h ι2 H2 σ2 c d (s.trans s2)
  | bad => exact h
/-- an expression, then a statement -/
def Res.bindS {α : Type} (r : Res α) (env : Env) (f : α → Sto → ResS) : ResS := match r with
  | .ok a st => f a st
  | .exc x st => .exc x env st
  | .bad => .bad
@[simp] theorem Res.bindS_ok {α : Type} (a : α) (st : Sto) (env : Env) (f : α → Sto → ResS) : (Res.ok a st).bindS env f = f a st := rfl
@[simp] theorem Res.bindS_exc {α : Type} (x : Xc) (st : Sto) (env : Env) (f : α → Sto → ResS) : (Res.exc x st : Res α).bindS env f = .exc x env st := rfl
@[simp] theorem Res.bindS_bad {α : Type} (env : Env) (f : α → Sto → ResS) : (Res.bad : Res α).bindS env f = .bad := rfl
theorem PostS.bind {α β : Type} {R : Rel α β} {r : Res α} {f : α → Sto → ResS} {G : β → Hp → Prop} (ve : VEnv B H ι env σ) (h : PostS B W E σ ι H (r.bindS env f))
    (hk : ∀ a st1 ι1 H1 b, Step ι H ι1 H1 → Sim B H1 ι1 st1 → R.r B H ι H1 ι1 st1 a b → PostS B W E σ ι1 H1 (f a st1) → G b H1) : Post B R W σ ι H r G := by
  cases r with
  | ok a st' => exact fun ι1 H1 b s S q => hk a st' ι1 H1 b s S q (PostS.step s h)
  | exc x st' => exact fun ι1 H1 c d s S q => h ι1 H1 σ c d s S (ve.step s) q
  | bad => exact h
end
section
variable {X : Cx} {W : WX} {s : Stmt} {rest : List Stmt} {d d1 d2 : DS} {e c : Expr} {da : DE} {t : DT} {pos : Pos}
def dNext : DS := fun env st => .nx env st
def dSeq (d1 d2 : DS) : DS := fun env st => match d1 env st with
  | .nx env1 st1 => d2 env1 st1
  | r => r
theorem pssd_nil : PSsd X W [] dNext := PSs.mono pss_nil fun D σ H ⟨ρ, ι, st, env, S, ve, p⟩ => p ι H σ (Step.refl _ _) S ve
theorem pssd_one (h : PSd X W s d) : PSsd X W [s] d := pss_one h
theorem pssd_cons (h1 : PSd X W s d1) (h2 : PSsd X W rest d2) : PSsd X W (s :: rest) (dSeq d1 d2) := PSs.mono (pss_cons h1 h2) fun E σ H ⟨ρ, ι, st, env, S, ve, p⟩ => by
  refine ⟨ρ, ι, st, env, S, ve, ?_⟩
  unfold dSeq at p
  cases q : d1 env st with
  | nx env1 st1 =>
    simp only [q] at p
    exact fun ι1 H1 σ1 s1 S1 ve1 => ⟨ρ, ι1, st1, env1, S1, ve1, PostS.step s1 p⟩
  | rt x st1 => simp only [q] at p; exact p
  | bk e st1 => simp only [q] at p; exact p
  | ct e st1 => simp only [q] at p; exact p
  | exc x e st1 => simp only [q] at p; exact p
  | bad => simp only [q] at p; exact p
theorem psd_pass : PSd X W (.Pass pos) dNext := PS.mono ps_pass fun D σ H ⟨ρ, ι, st, env, S, ve, p⟩ => p ι H σ (Step.refl _ _) S ve
def dBreak : DS := fun env st => .bk env st
def dCont : DS := fun env st => .ct env st
theorem psd_break : PSd X W (.Break pos) dBreak := PS.mono ps_break fun D σ H ⟨ρ, ι, st, env, S, ve, p⟩ => p ι H σ (Step.refl _ _) S ve
theorem psd_cont : PSd X W (.Continue pos) dCont := PS.mono ps_continue fun D σ H ⟨ρ, ι, st, env, S, ve, p⟩ => p ι H σ (Step.refl _ _) S ve
def dExpr (da : DE) : DS := fun env st => (da env st).bindS env fun _ st1 => .nx env st1
theorem psd_expr (he : PEd X W e da) (hs : swapsWith e none pos.line X.env = pure false := by rfl) : PSd X W (.Expr e pos) (dExpr da) := PS.mono (ps_expr he hs) fun E σ H ⟨ρ, ι, st, env, S, ve, p⟩ =>
  ⟨ρ, ι, st, env, S, ve, PostS.bind ve p fun x st1 ι1 H1 v s1 S1 rx p1 => p1 ι1 H1 σ (Step.refl _ _) S1 (ve.step s1)⟩
def dRet (da : DE) : DS := fun env st => (da env st).bindS env fun x st1 => .rt x st1
theorem psd_ret (he : PEd X W e da) : PSd X W (.Return (some e) pos) (dRet da) := PS.mono (ps_ret he) fun E σ H ⟨ρ, ι, st, env, S, ve, p⟩ =>
  ⟨ρ, ι, st, env, S, ve, PostS.bind ve p fun x st1 ι1 H1 v s1 S1 rx p1 => p1 ι1 H1 v (Step.refl _ _) S1 rx⟩
def dRetN : DS := fun _ st => .rt .non st
theorem psd_retN : PSd X W (.Return none pos) dRetN := PS.mono ps_retN fun E σ H ⟨ρ, ι, st, env, S, ve, p⟩ => p ι H .non (Step.refl _ _) S rfl
def dIfS (t : DT) (d1 d2 : DS) : DS := fun env st => (t env st).bindS env fun k st1 => if k = true then d1 env st1 else d2 env st1
theorem psd_if {a b : List Stmt} (hc : PTd X W c t) (ha : PSsd X W a d1) (hb : PSsd X W b d2) : PSd X W (.If c a b pos) (dIfS t d1 d2) := PS.mono (ps_if hc ha hb) fun E σ H ⟨ρ, ι, st, env, S, ve, p⟩ =>
  ⟨ρ, ι, st, env, S, ve, PostS.bind ve p fun k st1 ι1 H1 v s1 S1 rx p1 => by
    cases rx
    cases k with
    | true => exact iteT ⟨ρ, ι1, st1, env, S1, ve.step s1, p1⟩
    | false => exact iteF ⟨ρ, ι1, st1, env, S1, ve.step s1, p1⟩⟩
def dSet (i : Nat) (da : DE) : DS := fun env st => (da env st).bindS env fun x st1 => .nx (env.set i (some x)) st1
theorem psd_set {i : Nat} {x : Str} {pos' : Pos} (hN : X.N.Nodup) (hi : X.N[i]? = some x) (hx : Loc X.env.scope x) (he : PEd X W e da) (hs : swapsWith e (some (.Name x pos')) pos.line X.env = pure false := by rfl) (hf : X.fn x = true ∨ X.env.scope.names.lookup x = some .local := by first | exact .inl rfl | exact .inr rfl) :
    PSd X W (.Assign [.Name x pos'] e pos) (dSet i da) := PS.mono (ps_set hN hi hx he hs hf) fun E σ H ⟨ρ, ι, st, env, S, ve, p⟩ =>
  ⟨ρ, ι, st, env, S, ve, PostS.bind ve p fun x st1 ι1 H1 v s1 S1 rx p1 => p1 ι1 H1 _ (Step.refl _ _) S1 ((ve.step s1).set rx)⟩
/-! ### targets -/
/-- a target: how the environment changes -/
abbrev DG := D → Env → Option Env
def Off (ix : List Nat) (σ σ' : L2.St) : Prop := σ'.length = σ.length ∧ ∀ j : Nat, j ∉ ix → σ'[j]? = σ[j]?
def GS (K : PySem.W.Frag) (mg : Str → Option Value) (G : TG) (ix : List Nat) (g : DG) : Prop := ∀ {ρ ι H st env σ x v env'} {Q : L2.St → Hp → Prop}, Sim ⟨K, mg, ρ⟩ H ι st → VEnv ⟨K, mg, ρ⟩ H ι env σ → VR ⟨K, mg, ρ⟩ H ι x v → g x env = some env' →
  (∀ σ', VEnv ⟨K, mg, ρ⟩ H ι env' σ' → Off ix σ σ' → Q σ' H) → G v σ H Q
def gdName (i : Nat) : DG := fun x env => some (env.set i (some x))
theorem gs_name {K mg} (i : Nat) : GS K mg (gName i) [i] (gdName i) :=
  fun S ve r e k => by cases e; exact k _ (ve.set r) ⟨by simp, fun j hj => by rw [List.getElem?_set_ne (fun z => hj (by simp [z]))]⟩
abbrev DGs := List D → Env → Option Env
def GSs (K : PySem.W.Frag) (mg : Str → Option Value) (G : TGs) (ix : List Nat) (g : DGs) : Prop := ∀ {ρ ι H st env σ xs vs env'} {Q : L2.St → Hp → Prop}, Sim ⟨K, mg, ρ⟩ H ι st → VEnv ⟨K, mg, ρ⟩ H ι env σ → VRs ⟨K, mg, ρ⟩ H ι xs vs → g xs env = some env' →
  (∀ σ', VEnv ⟨K, mg, ρ⟩ H ι env' σ' → Off ix σ σ' → Q σ' H) → G vs σ H Q
def gdNil : DGs := fun xs env => match xs with
  | [] => some env
  | _ => none
def gdCons (g : DG) (gs : DGs) : DGs := fun xs env => match xs with
  | x :: r => (g x env).bind fun env1 => gs r env1
  | _ => none
theorem gss_nil {K mg} : GSs K mg gNil [] gdNil := fun {ρ ι H st env σ xs vs env'} {Q} S ve r e k => by
  cases xs with
  | nil => cases r; cases e; exact ⟨rfl, k _ ve ⟨rfl, fun _ _ => rfl⟩⟩
  | cons x r => cases e
theorem gss_cons {K mg} {g : DG} {gs : DGs} {G : TG} {Gs : TGs} {ix ixs : List Nat} (h1 : GS K mg G ix g) (h2 : GSs K mg Gs ixs gs) : GSs K mg (gCons G Gs) (ix ++ ixs) (gdCons g gs) := fun {ρ ι H st env σ xs vs env'} {Q} S ve r e k => by
  cases xs with
  | nil => cases e
  | cons x xr =>
    obtain ⟨v, vr, rfl, h, t⟩ := r
    have e' : (g x env).bind (fun env1 => gs xr env1) = some env' := e
    cases q : g x env with
    | none => rw [q] at e'; cases e'
    | some env1 =>
      rw [q] at e'
      exact ⟨v, vr, rfl, h1 S ve h q fun σ' ve' o1 => h2 S ve' t e' fun σ2 ve2 o2 => k σ2 ve2 ⟨o2.1.trans o1.1, fun j hj => by
        rw [List.mem_append, not_or] at hj
        rw [o2.2 j hj.2, o1.2 j hj.1]⟩⟩
def gdTup (n : Nat) (gs : DGs) : DG := fun x env => match x with
  | .tup ds => if ds.length = n then gs ds env else none
  | _ => none
theorem gs_tup {K mg} {gs : DGs} {Gs : TGs} {ix : List Nat} (n : Nat) (h : GSs K mg Gs ix gs) : GS K mg (gTup K n Gs) ix (gdTup n gs) := fun {ρ ι H st env σ x v env'} {Q} S ve r e kk => by
  cases x <;> (try (cases e))
  rename_i ds
  obtain ⟨a, xs, rfl, h1, r1⟩ := r
  have e : (if ds.length = n then gs ds env else none) = some env' := e
  by_cases hl : ds.length = n
  · rw [if_pos hl] at e
    exact ⟨a, xs, rfl, h1.sq, by rw [← r1.length, hl], h S ve r1 e kk⟩
  · rw [if_neg hl] at e; cases e
def dAsg (da : DE) (g : DG) : DS := fun env st => (da env st).bindS env fun x st1 => match g x env with
  | some env1 => .nx env1 st1
  | none => .bad
theorem psd_asg {tg : Expr} {g : DG} {G : TG} {ix : List Nat} (he : PEd X W e da) (pg : PG X tg G) (k : GS X.K X.mg G ix g) (hs : swapsWithSole [tg] e pos.line X.env = pure false := by rfl) (hw : swappedStores [tg] e X.env = pure none := by rfl)
    (h1 : (assignEach [tg] X.env).map (·.2) = [assign tg X.env] := by rfl) : PSd X W (.Assign [tg] e pos) (dAsg da g) := by
  refine PS.mono (ps_asg he pg hs hw h1) fun E σ H ⟨ρ, ι, st, env, S, ve, p⟩ => ⟨ρ, ι, st, env, S, ve, PostS.bind ve p fun x st1 ι1 H1 v s1 S1 rx p1 => ?_⟩
  cases q : g x env with
  | none => simp only [q] at p1; exact p1.elim
  | some env1 =>
    simp only [q] at p1
    exact k S1 (ve.step s1) rx q fun σ' ve' _ => p1 ι1 H1 σ' (Step.refl _ _) S1 ve'
/-- name += int -/
def dAug (i : Nat) (f : Int → Int → Int) (da : DE) : DS := fun env st => match env[i]? with
  | some (some (.int a)) => (da env st).bindS env fun y st1 => match y with
    | .int b => .nx (env.set i (some (.int (f a b)))) st1
    | _ => .bad
  | _ => .bad
theorem psd_aug {i : Nat} {x : Str} {op : Operator} {f : Int → Int → Int} {pos' : Pos} (hN : X.N.Nodup) (hi : X.N[i]? = some x) (hx : Loc X.env.scope x) (he : PEd X W e da) (ho : PIp X op (ipI f)) (hf : X.fn x = true ∨ X.env.scope.names.lookup x = some .local := by first | exact .inl rfl | exact .inr rfl) :
    PSd X W (.AugAssign (.Name x pos') op e pos) (dAug i f da) := PS.mono (ps_aug hN hi hx he ho hf) fun E σ H ⟨ρ, ι, st, env, S, ve, p⟩ => by
  unfold dAug at p
  split at p
  · rename_i a q
    obtain ⟨v, h1, h2⟩ := ve.2 i _ q
    cases h2
    refine ⟨_, h1, ρ, ι, st, env, S, ve, PostS.bind ve p fun y st1 ι1 H1 v s1 S1 rx p1 => ?_⟩
    cases y <;> (try exact p1.elim)
    cases rx
    exact ⟨_, _, rfl, rfl, p1 ι1 H1 _ (Step.refl _ _) S1 (VEnv.set (d := .int _) (ve.step s1) rfl)⟩
  · exact p.elim
/-- xs[k] = e, a list of the store -/
def dSetItem (da dx dk : DE) : DS := fun env st => (da env st).bindS env fun x st1 => (dx env st1).bindS env fun o st2 => (dk env st2).bindS env fun i st3 => match o, i with
  | .ref n, .int k => match st3[n]? with
    | some (.lst ds) => match ixN ds.length k with
      | some j => .nx env (st3.set n (.lst (ds.set j x)))
      | none => .bad
    | _ => .bad
  | _, _ => .bad
theorem psd_setItem {o i : Expr} {dx dk : DE} {p' : Pos} (he : PEd X W e da) (ho : PEd X W o dx) (hi : PEd X W i dk) (hs : swapsWithSole [Expr.Subscript o i p'] e pos.line X.env = pure false := by rfl) (hw : swappedStores [Expr.Subscript o i p'] e X.env = pure none := by rfl)
    (h1 : (assignEach [Expr.Subscript o i p'] X.env).map (·.2) = [assign (Expr.Subscript o i p') X.env] := by rfl)
    (ha : ∀ v, assign (.Subscript o i p') X.env v = (do
      let ov ← holding [v] (eval o X.env)
      let iv ← holding [v, ov] (eval i X.env)
      standAt p'
      holding [v, ov, iv] (setItem ov iv v)
      release [v, ov, iv] []) := by intro _; rfl) : PSd X W (.Assign [.Subscript o i p'] e pos) (dSetItem da dx dk) :=
  PS.mono (ps_asg he (pg_sub ho hi set_list ha) hs hw h1) fun E σ H ⟨ρ, ι, st, env, S, ve, p⟩ => ⟨ρ, ι, st, env, S, ve, PostS.bind ve p fun x st1 ι1 H1 v s1 S1 rx p1 =>
    ⟨ρ, ι1, st1, env, S1, ve.step s1, PostS.bind (ve.step s1) p1 fun o st2 ι2 H2 w s2 S2 ro p2 => ⟨ρ, ι2, st2, env, S2, (ve.step s1).step s2, PostS.bind ((ve.step s1).step s2) p2 fun i st3 ι3 H3 z s3 S3 ri p3 => by
      cases o <;> cases i <;> (try exact p3.elim)
      cases ri
      obtain ⟨a, ha, rfl⟩ := VR.step s3 ro
      simp only [] at p3
      split at p3
      · rename_i ds q
        obtain ⟨xs, h1, r1⟩ := S3.look q ha
        split at p3
        · rename_i j ej
          refine ⟨a, xs, _, j, rfl, rfl, h1, by rw [← r1.length]; exact ej, ?_⟩
          have sw : Step ι3 H3 ι3 (upd H3 a (.lst (xs.set j v))) := Step.write ha
          exact p3 ι3 _ σ sw (S3.write ha ⟨_, upd_same, (r1.set ((VR.step s2 rx).step s3) j).step sw⟩) ((((ve.step s1).step s2).step s3).step sw)
        · exact p3.elim
      · exact p3.elim⟩⟩⟩
end

/-! ### a def -/
def mOf (d : DS) (N : Nat) : M := fun ds st => match d (ds.map some ++ List.replicate (N - ds.length) none) st with
  | .nx _ st' => .ok .non st'
  | .rt x st' => .ok x st'
  | .exc x _ st' => .exc x st'
  | _ => .bad
section
variable {P : Program} {w : World} {K : PySem.W.Frag} {mg : Str → Option Value} {base : Heap}
theorem fn_d {x qual : Str} {st : Stmt} {f : Addr} {fd : FuncData} {N ps : List Str} {k : Nat} {d : DS} (F : Fun K x qual st f fd) (S : FnScope N ps (defScope st))
    (body : ∀ (cdv : Value) (A : Around) (outer : List PySem.Env) (s : Shared) (H : Hp) (E : XK), Room k (A.deeper (envOfC qual (defScope st) s.heap.objs.size f cdv)) →
      Takes (cxOf (L2.CX P w) P w K mg base N qual (defScope st) f cdv A outer s H E) (fun c dd _ H => E c dd H) → Lets (cxOf (L2.CX P w) P w K mg base N qual (defScope st) f cdv A outer s H E) (fun c dd _ H => E c dd H) →
      PSsd (cxOf (L2.CX P w) P w K mg base N qual (defScope st) f cdv A outer s H E) (fun c dd _ H => E c dd H) (defBody st) d) : FnOk P w K mg base (L2.CX P w) (k + 1) f fd ps (spD K mg (mOf d N.length) ps.length) := by
  refine F.okX S (fun vs H Q E h => h.1) (fun cdv A outer s H vs Q E hr h => ?_)
  have tk : Takes (cxOf (L2.CX P w) P w K mg base N qual (defScope st) f cdv A outer s H E) (fun c dd _ H => E c dd H) := takes_of rfl rfl rfl rfl
  refine ⟨_, body cdv A outer s H E hr tk (lets_of tk), ?_⟩
  obtain ⟨hl, ρ, ι, st0, ds, S0, r, p⟩ := h
  refine ⟨ρ, ι, st0, _, S0, VEnv.start N r, ?_⟩
  unfold mOf at p
  cases q : d (ds.map some ++ List.replicate (N.length - ds.length) none) st0 with
  | nx env1 st1 => simp only [q] at p; exact fun ι1 H1 σ1 s1 S1 _ => p ι1 H1 .non s1 S1 rfl
  | rt x st1 => simp only [q] at p; exact fun ι1 H1 v s1 S1 rx => p ι1 H1 v s1 S1 rx
  | exc x e st1 => simp only [q] at p; exact fun ι1 H1 σ1 c dd s1 S1 _ ex => p ι1 H1 c dd s1 S1 ex
  | bk e st1 => simp only [q] at p; exact p.elim
  | ct e st1 => simp only [q] at p; exact p.elim
  | bad => simp only [q] at p; exact p.elim
end
end DD

/-! DD6: what is walked, for, while, comprehensions. -/
namespace DD
open PySem L2 PyProof.Rows
variable [NMs]

/-! ### the same under other reserved addresses -/
def Fine (H : Hp) (ρ ρ' : List Addr) : Prop := ∀ a ∈ ρ', a ∈ ρ ∨ H a = none
theorem Fine.refl (H : Hp) (ρ : List Addr) : Fine H ρ ρ := fun _ h => .inl h
theorem Fine.no {H : Hp} {ρ ρ' : List Addr} (f : Fine H ρ ρ') {a : Addr} {o : HO} (e : H a = some o) (h : a ∉ ρ) : a ∉ ρ' := fun z => by
  rcases f a z with z | z
  · exact h z
  · rw [e] at z; cases z
section
variable {K : PySem.W.Frag} {mg : Str → Option Value} {ρ ρ' ι ι' : List Addr} {H H' : Hp}
theorem ScL.fine {a xs} (f : Fine H ρ ρ') (h : ScL ⟨K, mg, ρ⟩ H ι a xs) : ScL ⟨K, mg, ρ'⟩ H ι a xs := by
  rcases h with ⟨r, m, n⟩ | h
  · refine .inl ⟨r, m, ?_⟩
    rcases id r with r | ⟨_, r⟩ <;> exact f.no r n
  · exact .inr h
theorem FzT.fine {a xs} (f : Fine H ρ ρ') (h : FzT ⟨K, mg, ρ⟩ H ι a xs) : FzT ⟨K, mg, ρ'⟩ H ι a xs := by
  rcases h with ⟨r, m, n⟩ | h
  · refine .inl ⟨r, m, ?_⟩
    rcases id r with r | ⟨_, r⟩ <;> exact f.no r n
  · exact .inr h
mutual
theorem VR.fine (f : Fine H ρ ρ') : ∀ {d : D} {v : V}, VR ⟨K, mg, ρ⟩ H ι d v → VR ⟨K, mg, ρ'⟩ H ι d v
  | .non, _, h => h
  | .bl _, _, h => h
  | .int _, _, h => h
  | .str _, _, h => h
  | .ty _, _, h => h
  | .ref _, _, h => h
  | .tup _, _, ⟨a, xs, e, h, r⟩ => ⟨a, xs, e, h.fine f, VRs.fine f r⟩
  | .sc _, _, ⟨a, xs, e, h, r⟩ => ⟨a, xs, e, h.fine f, VRs.fine f r⟩
  | .fz _, _, ⟨a, xs, e, h, m, r⟩ => ⟨a, xs, e, h, ⟨m.1, f.no h m.2⟩, VRs.fine f r⟩
  | .fd _ _, _, ⟨a, od, fs, xs, e, h, m, e2, l, r⟩ => ⟨a, od, fs, xs, e, h, ⟨m.1, f.no h m.2⟩, e2, l, VRs.fine f r⟩
  | .obj _ _ _, _, ⟨a, C, dx, fs, xs, e, c, h, m, e2, l, r⟩ => ⟨a, C, dx, fs, xs, e, c, h, ⟨m.1, f.no h m.2⟩, e2, l, VRs.fine f r⟩
  | .lam _ _ _, _, ⟨g, L, xs, e, h, r⟩ => ⟨g, L, xs, e, h.keep (fun b o _ e => by
      obtain ⟨h1, h2, h3⟩ := offH_iff.mp e
      exact offH_iff.mpr ⟨h1, f.no h3 h2, h3⟩), VRs.fine f r⟩
theorem VRs.fine (f : Fine H ρ ρ') : ∀ {ds : List D} {vs : List V}, VRs ⟨K, mg, ρ⟩ H ι ds vs → VRs ⟨K, mg, ρ'⟩ H ι ds vs
  | [], _, h => h
  | _ :: _, _, ⟨x, r, e, h, t⟩ => ⟨x, r, e, VR.fine f h, VRs.fine f t⟩
end
theorem VEnv.fine {env σ} (f : Fine H ρ ρ') (h : VEnv ⟨K, mg, ρ⟩ H ι env σ) : VEnv ⟨K, mg, ρ'⟩ H ι env σ :=
  ⟨h.1, fun i d e => let ⟨v, a, b⟩ := h.2 i d e; ⟨v, a, b.fine f⟩⟩
/-- what is set aside changes -/
theorem Step.scr {p : Addr} {o : HO} (s : Step ι H ι' H') (n : H p = none) : Step ι H ι' (upd H' p o) :=
  ⟨s.pre, fun a u m nt e => by rw [upd_ne (ne_of_none e n)]; exact s.rest0 a u m nt e⟩
end
section
variable {B : Bs} {ι : List Addr} {H : Hp} {st : Sto} {p : Addr} {o : HO}
theorem ScL.scr {a xs} (h : ScL (B.more p) H ι a xs) : ScL (B.more p) (upd H p o) ι a xs := by
  rcases h with ⟨r, m, n⟩ | h
  · have ne : a ≠ p := fun z => n (by rw [z]; exact List.mem_cons_self)
    refine .inl ⟨?_, m, n⟩
    rcases r with r | ⟨u, r⟩
    · exact .inl (by rw [upd_ne ne]; exact r)
    · exact .inr ⟨u, by rw [upd_ne ne]; exact r⟩
  · exact .inr h
theorem FzT.scr {a xs} (h : FzT (B.more p) H ι a xs) : FzT (B.more p) (upd H p o) ι a xs := by
  rcases h with ⟨r, m, n⟩ | h
  · have ne : a ≠ p := fun z => n (by rw [z]; exact List.mem_cons_self)
    refine .inl ⟨?_, m, n⟩
    rcases r with r | ⟨u, r⟩
    · exact .inl (by rw [upd_ne ne]; exact r)
    · exact .inr ⟨u, by rw [upd_ne ne]; exact r⟩
  · exact .inr h
theorem nep {a : Addr} (n : a ∉ (B.more p).ρ) : a ≠ p := fun z => n (by rw [z]; exact List.mem_cons_self)
mutual
theorem VR.scr : ∀ {d : D} {v : V}, VR (B.more p) H ι d v → VR (B.more p) (upd H p o) ι d v
  | .non, _, h => h
  | .bl _, _, h => h
  | .int _, _, h => h
  | .str _, _, h => h
  | .ty _, _, h => h
  | .ref _, _, h => h
  | .tup _, _, ⟨a, xs, e, h, r⟩ => ⟨a, xs, e, h.scr, VRs.scr r⟩
  | .sc _, _, ⟨a, xs, e, h, r⟩ => ⟨a, xs, e, h.scr, VRs.scr r⟩
  | .fz _, _, ⟨a, xs, e, h, m, r⟩ => ⟨a, xs, e, by rw [upd_ne (nep m.2)]; exact h, m, VRs.scr r⟩
  | .fd _ _, _, ⟨a, od, fs, xs, e, h, m, e2, l, r⟩ => ⟨a, od, fs, xs, e, by rw [upd_ne (nep m.2)]; exact h, m, e2, l, VRs.scr r⟩
  | .obj _ _ _, _, ⟨a, C, dx, fs, xs, e, c, h, m, e2, l, r⟩ => ⟨a, C, dx, fs, xs, e, c, by rw [upd_ne (nep m.2)]; exact h, m, e2, l, VRs.scr r⟩
  | .lam _ _ _, _, ⟨g, L, xs, e, h, r⟩ => ⟨g, L, xs, e, h.keep (fun b o _ e => by
      obtain ⟨h1, h2, h3⟩ := offH_iff.mp e
      exact offH_iff.mpr ⟨h1, h2, by rw [upd_ne (nep h2)]; exact h3⟩), VRs.scr r⟩
theorem VRs.scr : ∀ {ds : List D} {vs : List V}, VRs (B.more p) H ι ds vs → VRs (B.more p) (upd H p o) ι ds vs
  | [], _, h => h
  | _ :: _, _, ⟨x, r, e, h, t⟩ => ⟨x, r, e, VR.scr h, VRs.scr t⟩
end
theorem Sim.scr (S : Sim (B.more p) H ι st) (pl : Pl o := by trivial) : Sim (B.more p) (upd H p o) ι st := by
  refine ⟨S.len, S.nd, fun n ob e => ?_, fun b hb => ?_, tabs_keep S.tab fun b u k e => ?_, fun b hb o' e => ?_⟩
  rotate_left 2
  · rw [upd_ne (fun z => ?_)]
    · exact e
    · subst z
      rcases k with ⟨ps, rfl⟩ | ⟨c, q, rfl⟩
      · exact (S.rp b List.mem_cons_self _ e).elim
      · exact absurd rfl ((S.rp b List.mem_cons_self _ e).nc c q)
  · by_cases hp : b = p
    · subst hp; rw [upd_same] at e; cases e; exact pl
    · rw [upd_ne hp] at e; exact S.rp b hb o' e
  · obtain ⟨b, hb, q⟩ := S.ob n ob e
    have nb : b ≠ p := fun z => (S.rs p List.mem_cons_self).2 (by rw [← z]; exact List.mem_of_getElem? hb)
    exact ⟨b, hb, q.stays (fun u z => by rw [upd_ne nb]; exact z) fun ds xs r => r.scr⟩
  · by_cases hp : b = p
    · subst hp; exact ⟨⟨o, upd_same⟩, (S.rs b hb).2⟩
    · exact ⟨by rw [upd_ne hp]; exact (S.rs b hb).1, (S.rs b hb).2⟩
end

/-! ### what is walked -/
structure ItOk (B : Bs) (J : It) (ι1 : List Addr) (H1 : Hp) (keep : Sto → Bool) (ds : List D) : Prop where
  go : ∀ ρ' (i : Nat) ι' H' st', Fine H1 B.ρ ρ' → Step ι1 H1 ι' H' → Sim ⟨B.K, B.mg, ρ'⟩ H' ι' st' → keep st' = true → i < ds.length → J.go i H'
  yld : ∀ ρ' (i : Nat) d ι' H' st' v H'', Fine H1 B.ρ ρ' → Step ι1 H1 ι' H' → Sim ⟨B.K, B.mg, ρ'⟩ H' ι' st' → keep st' = true → ds[i]? = some d → J.yld i H' v H'' → Step ι' H' ι' H'' ∧ Sim ⟨B.K, B.mg, ρ'⟩ H'' ι' st' ∧ VR ⟨B.K, B.mg, ρ'⟩ H'' ι' d v
  stop : ∀ ρ' (i : Nat) ι' H' st', Fine H1 B.ρ ρ' → Step ι1 H1 ι' H' → Sim ⟨B.K, B.mg, ρ'⟩ H' ι' st' → keep st' = true → ds.length ≤ i → J.stop i H'
abbrev DI := Env → Sto → Res (List D × (Sto → Bool))
/-- an iterator over the items that stand there now; what was said of it is told from the heap where it is made -/
def relI : Rel (List D × (Sto → Bool)) It := ⟨fun B _ _ H ι st a J => ItOk B J ι H a.2 a.1 ∧ a.2 st = true, fun _ h => h⟩
def PId (X : Cx) (W : WX) (tg it : Expr) (di : DI) : Prop := PI X tg it (tG X.K X.mg relI W di)
theorem PI.mono {X : Cx} {tg it : Expr} {w w' : TI} (h : PI X tg it w) (k : ∀ σ H R, w' σ H R → w σ H R) : PI X tg it w' := ⟨fun p s σ H R I q => h.run p s σ H R I (k σ H R q)⟩
def yes : Sto → Bool := fun _ => true
section
variable {X : Cx} {W : WX} {tg e : Expr} {es : List Expr} {da : DE} {ds : DA} {pos p : Pos}
/-- over a list or tuple -/
def dItems (da : DE) : DI := fun env st => (da env st).bind fun x st1 => match x with
  | .fz ds => .ok (ds, yes) st1
  | .sc ds => .ok (ds, yes) st1
  | _ => .bad
def dItemsT (da : DE) : DI := fun env st => (da env st).bind fun x st1 => match x with
  | .tup ds => .ok (ds, yes) st1
  | _ => .bad
theorem itl_ok {B : Bs} {ι1 : List Addr} {H1 : Hp} {a : Addr} {xs : List V} {ds : List D} (h : ScL B H1 ι1 a xs ∨ (H1 a = some (.lst xs) ∧ a ∉ ι1 ∧ a ∉ B.ρ)) (r : VRs B H1 ι1 ds xs) : ItOk B (Itl B.K a) ι1 H1 yes ds := by
  have key : ∀ ι' H', Step ι1 H1 ι' H' → SqL B.K H' a xs := fun ι' H' s => by
    rcases h with h | ⟨h, m, _⟩
    · exact (h.step s).sq
    · exact SqL.of (s.rest _ _ m h)
  have l := r.length
  refine ⟨fun ρ' i ι' H' st' f s S k hi => ?_, fun ρ' i d ι' H' st' v H'' f s S k hd y => ?_, fun ρ' i ι' H' st' f s S k hi => ⟨xs, key ι' H' s, by omega⟩⟩
  · obtain ⟨v, hv, _⟩ := r.get (List.getElem?_eq_getElem hi)
    exact ⟨xs, v, key ι' H' s, hv⟩
  · obtain ⟨e, y⟩ := y
    subst e
    obtain ⟨w, hw, vr⟩ := r.get hd
    have : v = w := Option.some.inj ((y xs (key ι' _ s)).symm.trans hw)
    subst this
    exact ⟨Step.refl _ _, S, (vr.fine f).step s⟩
theorem pid_list (ha : PEd X W e da) : PId X W tg e (dItems da) := PI.mono (pi_list ha) fun σ H R ⟨ρ, ι, st, env, S, ve, p⟩ => ⟨ρ, ι, st, env, S, ve, Post.bind p fun x st1 ι1 H1 v s1 S1 rx p1 => by
  cases x <;> (try exact p1.elim)
  · obtain ⟨a, xs, rfl, h, m, r⟩ := rx
    exact ⟨a, rfl, ⟨xs, SqL.of h⟩, p1.ok S1 ⟨itl_ok (B := ⟨X.K, X.mg, ρ⟩) (.inr ⟨h, m⟩) r, rfl⟩⟩
  · obtain ⟨a, xs, rfl, h, r⟩ := rx
    exact ⟨a, rfl, ⟨xs, h.sq⟩, p1.ok S1 ⟨itl_ok (B := ⟨X.K, X.mg, ρ⟩) (.inl h) r, rfl⟩⟩⟩
theorem itt_ok {B : Bs} {ι1 : List Addr} {H1 : Hp} {a : Addr} {xs : List V} {ds : List D} (h : FzT B H1 ι1 a xs) (r : VRs B H1 ι1 ds xs) : ItOk B (Itt B.K a) ι1 H1 yes ds := by
  have key : ∀ ι' H', Step ι1 H1 ι' H' → SqT B.K H' a xs := fun ι' H' s => (h.step s).sq
  have l := r.length
  refine ⟨fun ρ' i ι' H' st' f s S k hi => ?_, fun ρ' i d ι' H' st' v H'' f s S k hd y => ?_, fun ρ' i ι' H' st' f s S k hi => ⟨xs, key ι' H' s, by omega⟩⟩
  · obtain ⟨v, hv, _⟩ := r.get (List.getElem?_eq_getElem hi)
    exact ⟨xs, v, key ι' H' s, hv⟩
  · obtain ⟨e, y⟩ := y
    subst e
    obtain ⟨w, hw, vr⟩ := r.get hd
    have : v = w := Option.some.inj ((y xs (key ι' _ s)).symm.trans hw)
    subst this
    exact ⟨Step.refl _ _, S, (vr.fine f).step s⟩
theorem pid_tup (ha : PEd X W e da) : PId X W tg e (dItemsT da) := PI.mono (pi_tup ha) fun σ H R ⟨ρ, ι, st, env, S, ve, p⟩ => ⟨ρ, ι, st, env, S, ve, Post.bind p fun x st1 ι1 H1 v s1 S1 rx p1 => by
  cases x <;> (try exact p1.elim)
  obtain ⟨a, xs, rfl, h, r⟩ := rx
  exact ⟨a, rfl, ⟨xs, h.sq⟩, p1.ok S1 ⟨itt_ok (B := ⟨X.K, X.mg, ρ⟩) h r, rfl⟩⟩⟩
/-- the signs of a text -/
def signs (x : Str) : List D := x.cps.toList.map fun c => .str ⟨#[c]⟩
def dSigns (da : DE) : DI := fun env st => (da env st).bind fun x st1 => match x with
  | .str x => .ok (signs x, yes) st1
  | _ => .bad
theorem its_ok {B : Bs} {ι1 : List Addr} {H1 : Hp} {x : Str} : ItOk B (Its x) ι1 H1 yes (signs x) := by
  refine ⟨fun ρ' i ι' H' st' f s S k hi => ?_, fun ρ' i d ι' H' st' v H'' f s S k hd y => ?_, fun ρ' i ι' H' st' f s S k hi => ?_⟩
  · show i < x.cps.size
    simpa [signs] using hi
  · obtain ⟨e, c, hc, rfl⟩ := y
    subst e
    have : d = .str ⟨#[c]⟩ := by
      unfold signs at hd
      rw [List.getElem?_map] at hd
      rw [Array.getElem?_toList, hc] at hd
      cases hd; rfl
    subst this
    exact ⟨Step.refl _ _, S, rfl⟩
  · show x.cps.size ≤ i
    simpa [signs] using hi
theorem pid_str (ha : PEd X W e da) : PId X W tg e (dSigns da) := PI.mono (pi_str ha) fun σ H R ⟨ρ, ι, st, env, S, ve, p⟩ => ⟨ρ, ι, st, env, S, ve, Post.bind p fun x st1 ι1 H1 v s1 S1 rx p1 => by
  cases x <;> (try exact p1.elim)
  cases rx
  exact ⟨_, rfl, p1.ok S1 ⟨its_ok, rfl⟩⟩⟩
/-- range -/
def intsD (lo : Int) (n : Nat) : List D := (List.range n).map fun i => .int (lo + (i : Nat))
/-- sealed: the kernel is not to reckon with 2 ^ 62 -/
theorem x_rg62 : ∃ f : Int → Bool, f = fun j => decide (-(2 ^ 62) ≤ j ∧ j < 2 ^ 62) := ⟨_, rfl⟩
noncomputable def rg62 : Int → Bool := x_rg62.choose
theorem rg62_of {j : Int} (h : rg62 j = true) : -(2 ^ 62) ≤ j ∧ j < 2 ^ 62 := by
  have e : rg62 = fun j => decide (-(2 ^ 62) ≤ j ∧ j < 2 ^ 62) := x_rg62.choose_spec
  rw [e] at h; exact of_decide_eq_true h
theorem rg62_to {j : Int} (h : -(2 ^ 62) ≤ j ∧ j < 2 ^ 62) : rg62 j = true := by
  have e : rg62 = fun j => decide (-(2 ^ 62) ≤ j ∧ j < 2 ^ 62) := x_rg62.choose_spec
  rw [e]; exact decide_eq_true h
noncomputable def dRange1 (ds : DA) : DI := fun env st => (ds env st).bind fun xs st1 => match xs with
  | [.int j] => if rg62 j = true then .ok (intsD 0 j.toNat, yes) st1 else .bad
  | _ => .bad
noncomputable def dRange2 (ds : DA) : DI := fun env st => (ds env st).bind fun xs st1 => match xs with
  | [.int i, .int j] => if rg62 i = true ∧ rg62 j = true then .ok (intsD i (j - i).toNat, yes) st1 else .bad
  | _ => .bad
theorem itr_ok {B : Bs} {ι1 : List Addr} {H1 : Hp} {lo : Int} {n : Nat} : ItOk B (Itr lo n) ι1 H1 yes (intsD lo n) := by
  refine ⟨fun ρ' i ι' H' st' f s S k hi => ?_, fun ρ' i d ι' H' st' v H'' f s S k hd y => ?_, fun ρ' i ι' H' st' f s S k hi => ?_⟩
  · show i < n
    simpa [intsD] using hi
  · obtain ⟨e, rfl⟩ := y
    subst e
    have : d = .int (lo + (i : Nat)) := by
      unfold intsD at hd
      rw [List.getElem?_map] at hd
      have hi : i < n := by
        have := (List.getElem?_eq_some_iff (l := List.map (fun i => D.int (lo + (i : Nat))) (List.range n))).mp (by rw [List.getElem?_map]; exact hd)
        obtain ⟨h, _⟩ := this
        simpa using h
      rw [List.getElem?_range hi] at hd
      cases hd; rfl
    subst this
    exact ⟨Step.refl _ _, S, rfl⟩
  · show n ≤ i
    simpa [intsD] using hi
theorem vr1 {B H ι} {d : D} {vs : List V} (h : VRs B H ι [d] vs) : ∃ v, vs = [v] ∧ VR B H ι d v := by
  obtain ⟨x, r, rfl, h, t⟩ := h
  cases t
  exact ⟨x, rfl, h⟩
theorem vr2 {B H ι} {d e : D} {vs : List V} (h : VRs B H ι [d, e] vs) : ∃ v w, vs = [v, w] ∧ VR B H ι d v ∧ VR B H ι e w := by
  obtain ⟨x, r, rfl, h, t⟩ := h
  obtain ⟨w, rfl, k⟩ := vr1 t
  exact ⟨x, w, rfl, h, k⟩
theorem pid_range1 {a : Expr} (hg : Gl X "range") (hm : X.mg "range" = none) (ha : PAd X W [a] ds) (hs : starEach [a] X.env = [(false, eval a X.env)] := by rfl) : PId X W tg (.Call (.Name "range" p) [a] [] pos) (dRange1 ds) :=
  PI.mono (pi_range1 hg hm ha hs) fun σ H R ⟨ρ, ι, st, env, S, ve, p⟩ => ⟨ρ, ι, st, env, S, ve, Post.bind p fun xs st1 ι1 H1 v s1 S1 rx p1 => by
    split at p1
    · rename_i j
      split at p1
      · rename_i hb
        obtain ⟨v, rfl, h⟩ := vr1 rx
        cases h
        exact ⟨j, rfl, (rg62_of hb).1, (rg62_of hb).2, p1.ok S1 ⟨itr_ok, rfl⟩⟩
      · exact p1.elim
    · exact p1.elim⟩
theorem pid_range2 {a b : Expr} (hg : Gl X "range") (hm : X.mg "range" = none) (ha : PAd X W [a, b] ds) (hs : starEach [a, b] X.env = [(false, eval a X.env), (false, eval b X.env)] := by rfl) (hs2 : starEach [b] X.env = [(false, eval b X.env)] := by rfl) : PId X W tg (.Call (.Name "range" p) [a, b] [] pos) (dRange2 ds) :=
  PI.mono (pi_range2 hg hm ha hs hs2) fun σ H R ⟨ρ, ι, st, env, S, ve, p⟩ => ⟨ρ, ι, st, env, S, ve, Post.bind p fun xs st1 ι1 H1 v s1 S1 rx p1 => by
    split at p1
    · rename_i i j
      split at p1
      · rename_i hb
        obtain ⟨v, w, rfl, h, k⟩ := vr2 rx
        cases h
        cases k
        exact ⟨i, j, rfl, ⟨(rg62_of hb.1).1, (rg62_of hb.1).2, (rg62_of hb.2).1, (rg62_of hb.2).2⟩, p1.ok S1 ⟨itr_ok, rfl⟩⟩
      · exact p1.elim
    · exact p1.elim⟩
end

/-! ### for -/
def loop (g : DG) (d : DS) (keep : Sto → Bool) : List D → Env → Sto → ResS
  | [], env, st => if keep st = true then .nx env st else .bad
  | x :: r, env, st => if keep st = true then (match g x env with
    | none => .bad
    | some env1 => match d env1 st with
      | .nx env2 st2 => loop g d keep r env2 st2
      | .ct env2 st2 => loop g d keep r env2 st2
      | .bk env2 st2 => .nx env2 st2
      | res => res) else .bad
def dFor (di : DI) (g : DG) (d : DS) : DS := fun env st => (di env st).bindS env fun a st1 => loop g d a.2 a.1 env st1
theorem psd_for {X : Cx} {W : WX} {tg iter : Expr} {body : List Stmt} {di : DI} {g : DG} {G : TG} {ix : List Nat} {d : DS} {pos : Pos} (hp : PassesOwn (model X.prog X.w) X.A X.env X.xe) (hc : X.calm = true) (hi : PId X W tg iter di) (hg : PG X tg G) (gs : GS X.K X.mg G ix g) (hb : PSsd X W body d)
    (hs : ∀ x, foldedSetIterable iter X.env x = pure x := by intro _; rfl) : PSd X W (.For tg iter body [] pos) (dFor di g d) := by
  refine PS.mono (ps_for hp hc hi hg hb hs) fun E σ H ⟨ρ, ι, st, env, S, ve, p⟩ => ⟨ρ, ι, st, env, S, ve, PostS.bind ve p fun a st1 ι1 H1 J s1 S1 rx p1 => ?_⟩
  obtain ⟨ds, keep⟩ := a
  obtain ⟨io, k0⟩ := rx
  refine ⟨fun i m σ' H' => i + m = ds.length ∧ ∃ ι' st' env', Step ι1 H1 ι' H' ∧ Sim ⟨X.K, X.mg, ρ⟩ H' ι' st' ∧ VEnv ⟨X.K, X.mg, ρ⟩ H' ι' env' σ' ∧ PostS ⟨X.K, X.mg, ρ⟩ W E σ' ι' H' (loop g d keep (ds.drop i) env' st'),
    ⟨ds.length, by omega, ι1, st1, env, Step.refl _ _, S1, ve.step s1, p1⟩, ?_⟩
  rintro i m σ' H' ⟨em, ι', st', env', s', S', ve', p'⟩
  by_cases hi : i < ds.length
  · rw [List.drop_eq_getElem_cons hi] at p'
    unfold loop at p'
    by_cases hk : keep st' = true
    · simp only [hk, if_true] at p'
      refine .inr ⟨io.go ρ i ι' H' st' (Fine.refl _ _) s' S' hk hi, fun σ2 H2 => ∃ ι2 st2 env2, Step ι1 H1 ι2 H2 ∧ Sim ⟨X.K, X.mg, ρ⟩ H2 ι2 st2 ∧ VEnv ⟨X.K, X.mg, ρ⟩ H2 ι2 env2 σ2 ∧ PostS ⟨X.K, X.mg, ρ⟩ W E σ2 ι2 H2 (loop g d keep (ds.drop (i + 1)) env2 st2),
        fun σ2 H2 ⟨ι2, st2, env2, s2, S2, ve2, p2⟩ => ⟨m - 1, by omega, by omega, ι2, st2, env2, s2, S2, ve2, p2⟩, fun x H'' hy => ?_⟩
      obtain ⟨s3, S3, vr⟩ := io.yld ρ i ds[i] ι' H' st' x H'' (Fine.refl _ _) s' S' hk (List.getElem?_eq_getElem hi) hy
      have S3 : Sim ⟨X.K, X.mg, ρ⟩ H'' ι' st' := S3
      cases q : g ds[i] env' with
      | none => rw [q] at p'; exact p'.elim
      | some env1 =>
        rw [q] at p'
        simp only [] at p'
        refine gs S3 (ve'.step s3) vr q fun σ4 ve4 _ => ⟨ρ, ι', st', env1, S3, ve4, ?_⟩
        have s4 := s'.trans s3
        have p' := PostS.step (σ' := σ4) s3 p'
        cases q2 : d env1 st' with
        | nx e2 st2 =>
          rw [q2] at p'
          exact fun ι5 H5 σ5 s5 S5 ve5 => ⟨ι5, st2, e2, s4.trans s5, S5, ve5, PostS.step s5 p'⟩
        | ct e2 st2 =>
          rw [q2] at p'
          exact fun ι5 H5 σ5 s5 S5 ve5 => ⟨ι5, st2, e2, s4.trans s5, S5, ve5, PostS.step s5 p'⟩
        | bk e2 st2 => rw [q2] at p'; exact p'
        | rt y st2 => rw [q2] at p'; exact p'
        | exc y e2 st2 => rw [q2] at p'; exact p'
        | bad => rw [q2] at p'; exact p'
    · simp only [hk, if_false] at p'; exact p'.elim
  · have e : ds.drop i = [] := List.drop_eq_nil_of_le (by omega)
    rw [e] at p'
    unfold loop at p'
    by_cases hk : keep st' = true
    · simp only [hk, if_true] at p'
      exact .inl ⟨io.stop ρ i ι' H' st' (Fine.refl _ _) s' S' hk (Nat.le_of_not_lt hi), p' ι' H' σ' (Step.refl _ _) S' ve'⟩
    · simp only [hk, if_false] at p'; exact p'.elim
end DD

/-! DD7: comprehensions, while. -/
namespace DD
open PySem L2 PyProof.Rows
variable [NMs]

theorem wipe_get {σ : L2.St} : ∀ {vs : List Nat} {j : Nat}, (wipe σ vs)[j]? = if j ∈ vs then (if j < σ.length then some none else none) else σ[j]?
  | [], j => by simp [wipe]
  | v :: vs, j => by
    unfold wipe
    by_cases h : v = j
    · subst h
      simp only [List.mem_cons_self, if_true]
      by_cases hl : v < σ.length
      · rw [List.getElem?_set_self (by rw [wipe_length]; exact hl), if_pos hl]
      · rw [List.getElem?_eq_none (by rw [List.length_set, wipe_length]; omega), if_neg hl]
    · rw [List.getElem?_set_ne h, wipe_get]
      have : j ∈ v :: vs ↔ j ∈ vs := by simp [show ¬ j = v from fun z => h z.symm]
      by_cases hm : j ∈ vs
      · rw [if_pos hm, if_pos (this.mpr hm)]
      · rw [if_neg hm, if_neg (fun z => hm (this.mp z))]
theorem wipe_off {σ σ' : L2.St} {vs ix : List Nat} (o : Off ix (wipe σ vs) σ') (h : ∀ j ∈ ix, j ∈ vs) : wipe σ' vs = wipe σ vs := by
  apply List.ext_getElem?
  intro j
  rw [wipe_get, wipe_get]
  have hl : σ'.length = σ.length := by rw [o.1, wipe_length]
  by_cases hm : j ∈ vs
  · rw [if_pos hm, if_pos hm, hl]
  · rw [if_neg hm, if_neg hm, o.2 j (fun z => hm (h j z)), wipe_get, if_neg hm]
def wipeE (vs : List Nat) (env : Env) : Env := vs.foldr (fun i e => e.set i none) env
/-- the turns of a comprehension -/
def lcLoop (g : DG) (t : DT) (de : DE) (keep : Sto → Bool) (env : Env) : List D → Sto → Res (List D)
  | [], st => if keep st = true then .ok [] st else .bad
  | x :: r, st => if keep st = true then (match g x env with
    | none => .bad
    | some env1 => match t env1 st with
      | .ok true st1 => match de env1 st1 with
        | .ok y st2 => (lcLoop g t de keep env r st2).bind fun ys st3 => .ok (y :: ys) st3
        | _ => .bad
      | .ok false st1 => lcLoop g t de keep env r st1
      | _ => .bad) else .bad
def dLc (di : DI) (g : DG) (t : DT) (de : DE) (vs : List Nat) : DA := fun env st => (di env st).bind fun a st1 => if a.1.length ≤ bigLine then lcLoop g t de a.2 (wipeE vs env) a.1 st1 else .bad
def dYes : DT := fun _ st => .ok true st
theorem Post.ok_id {α β : Type} {B : Bs} {R : Rel α β} {W : WX} {σ ι H Q} {r : Res α} (h : Post B R W σ ι H r Q) : Post B R W σ ι H (r.bind fun a st => .ok a st) Q := by
  cases r <;> exact h
theorem bind_assoc {α β γ : Type} (r : Res α) (f : α → Sto → Res β) (g : β → Sto → Res γ) : (r.bind f).bind g = r.bind fun a st => (f a st).bind g := by cases r <;> rfl
theorem lc_read {K : PySem.W.Frag} {mg : Str → Option Value} {W : WX} {g : DG} {G : TG} {ix vs : List Nat} {t : DT} {de : DE} {di : DI} (gs : GS K mg G ix g) (hix : ∀ j ∈ ix, j ∈ vs) {σ : L2.St} {H : Hp} {Q : VK} (h : tG K mg relL W (dLc di g t de vs) σ H Q) :
    tLc (tG K mg relI W di) G (tG K mg relB W0 t) (tG K mg relV W0 de) vs σ H Q := by
  obtain ⟨ρ, ι, st, env, S, ve, p⟩ := h
  refine ⟨ρ, ι, st, env, S, ve, Post.bind0 p fun a st1 ι1 H1 J s1 S1 rx p1 => ?_⟩
  obtain ⟨ds, keep⟩ := a
  obtain ⟨io, k0⟩ := rx
  intro Dd hD
  by_cases hz : ds.length ≤ bigLine
  case neg => simp only [hz, if_false] at p1; exact p1.elim
  simp only [hz, if_true] at p1
  have m1 : Dd ∉ ι1 := S1.fresh hD
  have hρ : Dd ∉ ρ := S1.fr hD
  have fine : Fine H1 ρ (Dd :: ρ) := fun a ha => by
    rcases List.mem_cons.mp ha with z | z
    · subst z; exact .inr hD
    · exact .inl z
  have hD0 : NoH H Dd ∧ Dd ∉ ι := by
    have m0 : Dd ∉ ι := fun z => m1 (s1.mem z)
    exact ⟨NoH.back s1 m0 (noH hD), m0⟩
  refine ⟨fun i m H' => i + m = ds.length ∧ ∃ ι' st' acc vs', Step ι1 H1 ι' H' ∧ Sim ((⟨K, mg, ρ⟩ : Bs).more Dd) H' ι' st' ∧ H' Dd = some (.lst vs') ∧ VRs ((⟨K, mg, ρ⟩ : Bs).more Dd) H' ι' acc vs' ∧ acc.length ≤ i ∧
      Post ⟨K, mg, ρ⟩ relL W σ ι H ((lcLoop g t de keep (wipeE vs env) (ds.drop i) st').bind fun ys st => .ok (acc ++ ys) st) Q,
    ⟨ds.length, by omega, ι1, st1, [], [], Step.new S1 hD, S1.reserve hD, upd_same, rfl, Nat.le_refl _, Post.ok_id p1⟩, ?_⟩
  rintro i m H' ⟨em, ι', st', acc, vs', s', S', hl, ra, la, p'⟩
  have ve0 : VEnv ((⟨K, mg, ρ⟩ : Bs).more Dd) H' ι' (wipeE vs env) (wipe σ vs) := VEnv.wipe (VEnv.step s' (VEnv.fine (K := K) (mg := mg) fine (ve.step s1)))
  by_cases hi : i < ds.length
  · rw [List.drop_eq_getElem_cons hi] at p'
    unfold lcLoop at p'
    by_cases hk : keep st' = true
    case neg => simp only [hk, if_false] at p'; exact p'.elim
    simp only [hk, if_true] at p'
    refine .inr ⟨io.go (Dd :: ρ) i ι' H' st' fine s' S' hk hi, fun H2 => ∃ ι2 st2 acc2 vs2, Step ι1 H1 ι2 H2 ∧ Sim ((⟨K, mg, ρ⟩ : Bs).more Dd) H2 ι2 st2 ∧ H2 Dd = some (.lst vs2) ∧ VRs ((⟨K, mg, ρ⟩ : Bs).more Dd) H2 ι2 acc2 vs2 ∧ acc2.length ≤ i + 1 ∧
      Post ⟨K, mg, ρ⟩ relL W σ ι H ((lcLoop g t de keep (wipeE vs env) (ds.drop (i + 1)) st2).bind fun ys st => .ok (acc2 ++ ys) st) Q,
      fun H2 ⟨ι2, st2, acc2, vs2, s2, S2, h2, r2, l2, p2⟩ => ⟨m - 1, by omega, by omega, ι2, st2, acc2, vs2, s2, S2, h2, r2, l2, p2⟩, fun x H'' hy => ?_⟩
    obtain ⟨s3, S3, vr⟩ := io.yld (Dd :: ρ) i ds[i] ι' H' st' x H'' fine s' S' hk (List.getElem?_eq_getElem hi) hy
    have S3 : Sim ⟨K, mg, Dd :: ρ⟩ H'' ι' st' := S3
    have mD : Dd ∉ ι' := (S'.rs Dd List.mem_cons_self).2
    have hl3 : H'' Dd = some (.lst vs') := s3.rest _ _ mD hl
    cases q : g ds[i] (wipeE vs env) with
    | none => rw [q] at p'; exact p'.elim
    | some env1 =>
      rw [q] at p'
      simp only [] at p'
      refine gs S3 (ve0.step s3) vr q fun σ4 ve4 off => ⟨wipe_off off hix, Dd :: ρ, ι', st', env1, S3, ve4, ?_⟩
      cases q2 : t env1 st' with
      | bad => rw [q2] at p'; exact p'.elim
      | exc y st2 => rw [q2] at p'; exact p'.elim
      | ok b st2 =>
        rw [q2] at p'
        intro ι5 H5 b' s5 S5 eb
        cases eb
        have s15 := (s'.trans s3).trans s5
        cases b with
        | false =>
          refine iteF ⟨ι5, st2, acc, vs', s15, S5, s5.rest _ _ mD hl3, (ra.step s3).step s5, by omega, p'⟩
        | true =>
          refine iteT ⟨Dd :: ρ, ι5, st2, env1, S5, ve4.step s5, ?_⟩
          simp only [] at p'
          cases q3 : de env1 st2 with
          | bad => rw [q3] at p'; exact p'.elim
          | exc y st3 => rw [q3] at p'; exact p'.elim
          | ok y st3 =>
            rw [q3] at p'
            intro ι6 H6 v6 s6 S6 r6
            have m5 : Dd ∉ ι5 := (S5.rs Dd List.mem_cons_self).2
            have hl6 : H6 Dd = some (.lst vs') := s6.rest _ _ m5 (s5.rest _ _ mD hl3)
            have ra6 := ((ra.step s3).step s5).step s6
            have lv := ra6.length
            have S6 : Sim ((⟨K, mg, ρ⟩ : Bs).more Dd) H6 ι6 st3 := S6
            refine ⟨vs', hl6, Nat.lt_of_le_of_lt (by omega : vs'.length ≤ ds.length) (big_lt hz), ι6, st3, acc ++ [y], vs' ++ [v6], (s15.trans s6).scr hD, S6.scr, upd_same, (ra6.append (VRs.one (B := (⟨K, mg, ρ⟩ : Bs).more Dd) r6)).scr, by simp; omega, ?_⟩
            simp only [bind_assoc, Res.bind_ok] at p'
            simpa only [List.append_assoc, List.singleton_append] using p'
  · have e : ds.drop i = [] := List.drop_eq_nil_of_le (by omega)
    rw [e] at p'
    unfold lcLoop at p'
    by_cases hk : keep st' = true
    case neg => simp only [hk, if_false] at p'; exact p'.elim
    simp only [hk, if_true, Res.bind_ok, List.append_nil] at p'
    refine .inl ⟨io.stop (Dd :: ρ) i ι' H' st' fine s' S' hk (Nat.le_of_not_lt hi), ?_⟩
    exact p' ι' H' (.ref Dd) (s1.trans s') S'.less ⟨Dd, vs', rfl, hl, hD0.1, hD0.2, hρ, ra, S'⟩
section
variable {X : Cx} {W : WX} {elt tg iter : Expr} {ifs : List Expr} {scope : Scope} {own : List (Str × Nat)} {pos spos : Pos} {g : DG} {G : TG} {ix : List Nat} {t : DT} {de : DE} {di : DI}
def PTsd (X : Cx) (W : WX) (ifs : List Expr) (t : DT) : Prop := PTs X ifs (tG X.K X.mg relB W t)
theorem ptsd_nil {X : Cx} {W : WX} : PTsd X W [] dYes := ⟨fun pins s σ H Q I ⟨ρ, ι, st, env, S, ve, p⟩ => pts_nil.run pins s σ H Q I (p.ok S rfl)⟩
theorem ptsd_one {X : Cx} {W : WX} {c : Expr} {t : DT} (h : PTd X W c t) : PTsd X W [c] t := pts_one h
theorem pld_lc0 (hc : X.calm = true) (hN : X.N.Nodup) (hi : PId X W tg iter di) (ok : BlkOk X.N X.env.scope scope own) (gs : GS X.K X.mg G ix g) (hix : ∀ j ∈ ix, j ∈ own.map (·.2))
    (hg : ∀ (s : Shared) (H : Hp) (C : Addr) (cl : List (Str × Addr)) (fp : List Addr), PG (X.blk s H scope (compEnvC scope cl C X.env) fp) tg G) (ht : ∀ (s : Shared) (H : Hp) (C : Addr) (cl : List (Str × Addr)) (fp : List Addr), PTsd (X.blk s H scope (compEnvC scope cl C X.env) fp) W0 ifs t)
    (he : ∀ (s : Shared) (H : Hp) (C : Addr) (cl : List (Str × Addr)) (fp : List Addr), PEd (X.blk s H scope (compEnvC scope cl C X.env) fp) W0 elt de) (hs : ∀ x, foldedSetIterable iter X.env x = pure x := by intro _; rfl) :
    PLd X W (.ListComp elt [⟨tg, iter, ifs, 0⟩] scope pos) (dLc di g t de (own.map (·.2))) :=
  PE.mono (pe_lc (tt := tG X.K X.mg relB W0 t) (te := tG X.K X.mg relV W0 de) hc hN hi ok hg ht he hs) fun _ _ _ h => lc_read gs hix h
theorem pld_lc {ixs : List Nat} (hc : X.calm = true) (hN : X.N.Nodup) (hi : PId X W tg iter di) (ok : BlkOk X.N X.env.scope scope own) (gs : GS X.K X.mg G ix g) (hix : ∀ j ∈ ix, j ∈ own.map (·.2))
    (hg : ∀ (s : Shared) (H : Hp) (C : Addr) (cl : List (Str × Addr)) (fp : List Addr), PG (X.blk s H scope (compEnvC scope cl C X.env) fp) tg G) (ht : ∀ (s : Shared) (H : Hp) (C : Addr) (cl : List (Str × Addr)) (fp : List Addr), PTsd (X.blk s H scope (compEnvC scope cl C X.env) fp) W0 ifs t)
    (he : ∀ (s : Shared) (H : Hp) (C : Addr) (cl : List (Str × Addr)) (fp : List Addr), PEd (X.blk s H scope (compEnvC scope cl C X.env) fp) W0 elt de) (hox : own.map (·.2) = ixs := by rfl) (hs : ∀ x, foldedSetIterable iter X.env x = pure x := by intro _; rfl) :
    PLd X W (.ListComp elt [⟨tg, iter, ifs, 0⟩] scope pos) (dLc di g t de ixs) := by subst hox; exact pld_lc0 hc hN hi ok gs hix hg ht he hs
/-- y = [..]: by value, or into the store -/
theorem psd_setLcFz0 {i : Nat} {y : Str} {py : Pos} (hy : X.N[i]? = some y) (hyl : X.env.scope.names.lookup y = some .local) (hsw : swapsWith (.ListComp elt [⟨tg, iter, ifs, 0⟩] scope pos) (some (.Name y py)) spos.line X.env = pure true)
    (hc : X.calm = true) (hN : X.N.Nodup) (hi : PId X W tg iter di) (ok : BlkOk X.N X.env.scope scope own) (gs : GS X.K X.mg G ix g) (hix : ∀ j ∈ ix, j ∈ own.map (·.2))
    (hg : ∀ (s : Shared) (H : Hp) (C : Addr) (cl : List (Str × Addr)) (fp : List Addr), PG (X.blk s H scope (compEnvC scope cl C X.env) fp) tg G) (ht : ∀ (s : Shared) (H : Hp) (C : Addr) (cl : List (Str × Addr)) (fp : List Addr), PTsd (X.blk s H scope (compEnvC scope cl C X.env) fp) W0 ifs t)
    (he : ∀ (s : Shared) (H : Hp) (C : Addr) (cl : List (Str × Addr)) (fp : List Addr), PEd (X.blk s H scope (compEnvC scope cl C X.env) fp) W0 elt de) (hs : ∀ x, foldedSetIterable iter X.env x = pure x := by intro _; rfl) :
    PSd X W (.Assign [.Name y py] (.ListComp elt [⟨tg, iter, ifs, 0⟩] scope pos) spos) (dSet i (dFz (dLc di g t de (own.map (·.2))))) :=
  PS.mono (ps_setLc (i := i) (tt := tG X.K X.mg relB W0 t) (te := tG X.K X.mg relV W0 de) hc hN hy hyl hsw hi ok hg ht he hs) fun E σ H ⟨ρ, ι, st, env, S, ve, p⟩ => lc_read gs hix ⟨ρ, ι, st, env, S, ve, by
    have p : PostS ⟨X.K, X.mg, ρ⟩ W E σ ι H ((dFz (dLc di g t de (own.map (·.2))) env st).bindS env fun x st1 => .nx (env.set i (some x)) st1) := p
    unfold dFz at p
    cases q : dLc di g t de (own.map (·.2)) env st with
    | bad => rw [q] at p; exact p.elim
    | exc x st1 => rw [q] at p; exact fun ι1 H1 c d s S1 ex => p ι1 H1 σ c d s S1 (ve.step s) ex
    | ok xs st1 =>
      rw [q] at p
      intro ι1 H1 v s S1 rx
      obtain ⟨a, ys, rfl, h1, h2, m, m', r, S2⟩ := rx
      exact p ι1 H1 _ s S1 (VEnv.set (d := .fz xs) (ve.step s) ⟨a, ys, rfl, h1, ⟨(S2.rs a List.mem_cons_self).2, m'⟩, r.less.1⟩)⟩
theorem psd_setLcFz {ixs : List Nat} {i : Nat} {y : Str} {py : Pos} (hy : X.N[i]? = some y) (hyl : X.env.scope.names.lookup y = some .local) (hsw : swapsWith (.ListComp elt [⟨tg, iter, ifs, 0⟩] scope pos) (some (.Name y py)) spos.line X.env = pure true)
    (hc : X.calm = true) (hN : X.N.Nodup) (hi : PId X W tg iter di) (ok : BlkOk X.N X.env.scope scope own) (gs : GS X.K X.mg G ix g) (hix : ∀ j ∈ ix, j ∈ own.map (·.2))
    (hg : ∀ (s : Shared) (H : Hp) (C : Addr) (cl : List (Str × Addr)) (fp : List Addr), PG (X.blk s H scope (compEnvC scope cl C X.env) fp) tg G) (ht : ∀ (s : Shared) (H : Hp) (C : Addr) (cl : List (Str × Addr)) (fp : List Addr), PTsd (X.blk s H scope (compEnvC scope cl C X.env) fp) W0 ifs t)
    (he : ∀ (s : Shared) (H : Hp) (C : Addr) (cl : List (Str × Addr)) (fp : List Addr), PEd (X.blk s H scope (compEnvC scope cl C X.env) fp) W0 elt de) (hox : own.map (·.2) = ixs := by rfl) (hs : ∀ x, foldedSetIterable iter X.env x = pure x := by intro _; rfl) :
    PSd X W (.Assign [.Name y py] (.ListComp elt [⟨tg, iter, ifs, 0⟩] scope pos) spos) (dSet i (dFz (dLc di g t de ixs))) := by subst hox; exact psd_setLcFz0 hy hyl hsw hc hN hi ok gs hix hg ht he hs
theorem psd_setLcNew0 {i : Nat} {y : Str} {py : Pos} (hy : X.N[i]? = some y) (hyl : X.env.scope.names.lookup y = some .local) (hsw : swapsWith (.ListComp elt [⟨tg, iter, ifs, 0⟩] scope pos) (some (.Name y py)) spos.line X.env = pure true)
    (hc : X.calm = true) (hN : X.N.Nodup) (hi : PId X W tg iter di) (ok : BlkOk X.N X.env.scope scope own) (gs : GS X.K X.mg G ix g) (hix : ∀ j ∈ ix, j ∈ own.map (·.2))
    (hg : ∀ (s : Shared) (H : Hp) (C : Addr) (cl : List (Str × Addr)) (fp : List Addr), PG (X.blk s H scope (compEnvC scope cl C X.env) fp) tg G) (ht : ∀ (s : Shared) (H : Hp) (C : Addr) (cl : List (Str × Addr)) (fp : List Addr), PTsd (X.blk s H scope (compEnvC scope cl C X.env) fp) W0 ifs t)
    (he : ∀ (s : Shared) (H : Hp) (C : Addr) (cl : List (Str × Addr)) (fp : List Addr), PEd (X.blk s H scope (compEnvC scope cl C X.env) fp) W0 elt de) (hs : ∀ x, foldedSetIterable iter X.env x = pure x := by intro _; rfl) :
    PSd X W (.Assign [.Name y py] (.ListComp elt [⟨tg, iter, ifs, 0⟩] scope pos) spos) (dSet i (dNew (dLc di g t de (own.map (·.2))))) :=
  PS.mono (ps_setLc (i := i) (tt := tG X.K X.mg relB W0 t) (te := tG X.K X.mg relV W0 de) hc hN hy hyl hsw hi ok hg ht he hs) fun E σ H ⟨ρ, ι, st, env, S, ve, p⟩ => lc_read gs hix ⟨ρ, ι, st, env, S, ve, by
    have p : PostS ⟨X.K, X.mg, ρ⟩ W E σ ι H ((dNew (dLc di g t de (own.map (·.2))) env st).bindS env fun x st1 => .nx (env.set i (some x)) st1) := p
    unfold dNew at p
    cases q : dLc di g t de (own.map (·.2)) env st with
    | bad => rw [q] at p; exact p.elim
    | exc x st1 => rw [q] at p; exact fun ι1 H1 c d s S1 ex => p ι1 H1 σ c d s S1 (ve.step s) ex
    | ok xs st1 =>
      rw [q] at p
      intro ι1 H1 v s S1 rx
      obtain ⟨a, ys, rfl, h1, h2, m, m', r, S2⟩ := rx
      obtain ⟨more, e1, f1⟩ := id s.pre
      have sT : Step ι H (ι1 ++ [a]) H1 := ⟨⟨more ++ [a], by rw [e1, List.append_assoc], fun b hb => by
        rcases List.mem_append.mp hb with z | z
        · exact f1 b z
        · have : b = a := by simpa using z
          subst this
          exact ⟨h2, m⟩⟩, s.rest0⟩
      exact p (ι1 ++ [a]) H1 _ sT (S2.take m' h1 r) (VEnv.set (d := .ref st1.length) (ve.step sT) ⟨a, by rw [← S1.len, List.getElem?_append_right (by omega)]; simp, rfl⟩)⟩
theorem psd_setLcNew {ixs : List Nat} {i : Nat} {y : Str} {py : Pos} (hy : X.N[i]? = some y) (hyl : X.env.scope.names.lookup y = some .local) (hsw : swapsWith (.ListComp elt [⟨tg, iter, ifs, 0⟩] scope pos) (some (.Name y py)) spos.line X.env = pure true)
    (hc : X.calm = true) (hN : X.N.Nodup) (hi : PId X W tg iter di) (ok : BlkOk X.N X.env.scope scope own) (gs : GS X.K X.mg G ix g) (hix : ∀ j ∈ ix, j ∈ own.map (·.2))
    (hg : ∀ (s : Shared) (H : Hp) (C : Addr) (cl : List (Str × Addr)) (fp : List Addr), PG (X.blk s H scope (compEnvC scope cl C X.env) fp) tg G) (ht : ∀ (s : Shared) (H : Hp) (C : Addr) (cl : List (Str × Addr)) (fp : List Addr), PTsd (X.blk s H scope (compEnvC scope cl C X.env) fp) W0 ifs t)
    (he : ∀ (s : Shared) (H : Hp) (C : Addr) (cl : List (Str × Addr)) (fp : List Addr), PEd (X.blk s H scope (compEnvC scope cl C X.env) fp) W0 elt de) (hox : own.map (·.2) = ixs := by rfl) (hs : ∀ x, foldedSetIterable iter X.env x = pure x := by intro _; rfl) :
    PSd X W (.Assign [.Name y py] (.ListComp elt [⟨tg, iter, ifs, 0⟩] scope pos) spos) (dSet i (dNew (dLc di g t de ixs))) := by subst hox; exact psd_setLcNew0 hy hyl hsw hc hN hi ok gs hix hg ht he hs
/-- while: at most so many turns -/
def whileN (t : DT) (d : DS) : Nat → Env → Sto → ResS
  | 0, _, _ => .bad
  | n + 1, env, st => (t env st).bindS env fun k st1 => if k = true then (match d env st1 with
    | .nx env2 st2 => whileN t d n env2 st2
    | .ct env2 st2 => whileN t d n env2 st2
    | .bk env2 st2 => .nx env2 st2
    | r => r) else .nx env st1
theorem psd_while (n : Nat) {c : Expr} {body : List Stmt} {d : DS} (hp : PassesOwn (model X.prog X.w) X.A X.env X.xe) (hc : PTd X W c t) (hb : PSsd X W body d) : PSd X W (.While c body [] pos) (whileN t d n) :=
  PS.mono (ps_while hp hc hb) fun E σ H ⟨ρ, ι, st, env, S, ve, p⟩ => by
    refine ⟨fun m σ' H' => ∃ ι' st' env', Step ι H ι' H' ∧ Sim ⟨X.K, X.mg, ρ⟩ H' ι' st' ∧ VEnv ⟨X.K, X.mg, ρ⟩ H' ι' env' σ' ∧ PostS ⟨X.K, X.mg, ρ⟩ W E σ' ι' H' (whileN t d m env' st'), ⟨n, ι, st, env, Step.refl _ _, S, ve, p⟩, ?_⟩
    rintro m σ' H' ⟨ι', st', env', s', S', ve', p'⟩
    cases m with
    | zero => exact p'.elim
    | succ m =>
      refine ⟨ρ, ι', st', env', S', ve', PostS.bind ve' p' fun k st1 ι1 H1 v s1 S1 rx p1 => ?_⟩
      cases rx
      cases k with
      | false => exact iteF (p1 ι1 H1 σ' (Step.refl _ _) S1 (ve'.step s1))
      | true =>
        refine iteT ⟨fun σ2 H2 => ∃ ι2 st2 env2, Step ι H ι2 H2 ∧ Sim ⟨X.K, X.mg, ρ⟩ H2 ι2 st2 ∧ VEnv ⟨X.K, X.mg, ρ⟩ H2 ι2 env2 σ2 ∧ PostS ⟨X.K, X.mg, ρ⟩ W E σ2 ι2 H2 (whileN t d m env2 st2), fun σ2 H2 h => ⟨m, by omega, h⟩, ρ, ι1, st1, env', S1, ve'.step s1, ?_⟩
        simp only [if_true] at p1
        have s4 := s'.trans s1
        cases q2 : d env' st1 with
        | nx e2 st2 =>
          rw [q2] at p1
          exact fun ι5 H5 σ5 s5 S5 ve5 => ⟨ι5, st2, e2, s4.trans s5, S5, ve5, PostS.step s5 p1⟩
        | ct e2 st2 =>
          rw [q2] at p1
          exact fun ι5 H5 σ5 s5 S5 ve5 => ⟨ι5, st2, e2, s4.trans s5, S5, ve5, PostS.step s5 p1⟩
        | bk e2 st2 => rw [q2] at p1; exact p1
        | rt y st2 => rw [q2] at p1; exact p1
        | exc y e2 st2 => rw [q2] at p1; exact p1
        | bad => rw [q2] at p1; exact p1
end
end DD

/-! DD8: built-ins, methods, slices, fields, objects made, == of data. -/
namespace DD
open PySem L2 PyProof.Rows
variable [NMs]

section
variable {K : PySem.W.Frag} {mg : Str → Option Value}
/-! ### len -/
def lenD : D → Sto → Option Nat
  | .str x, _ => if x.length ≤ bigLine then some x.length else none
  | .tup ds, _ => some ds.length
  | .fz ds, _ => some ds.length
  | .sc ds, _ => some ds.length
  | .ref n, st => match st[n]? with
    | some (.lst ds) => some ds.length
    | _ => none
  | _, _ => none
def fLen : FC := fun xs st => match xs with
  | [x] => match lenD x st with
    | some n => .ok (.int n) st
    | none => .bad
  | _ => .bad
theorem rc_len : RC K mg (fun xs H Q => ∃ x n, xs = [x] ∧ LenV K x H n ∧ Q (.int n) H) fLen := by
  intro ρ ι H st xs vs W σ Q S r p
  unfold fLen at p
  split at p
  · rename_i x
    obtain ⟨v, rfl, h⟩ := vr1 r
    split at p
    · rename_i n e
      refine ⟨v, n, rfl, ?_, p.ok S rfl⟩
      cases x with
      | str x =>
        cases h
        simp only [lenD] at e
        split at e
        · rename_i hl; cases e; exact ⟨big_le hl, rfl⟩
        · cases e
      | tup ds => obtain ⟨a, ys, rfl, h1, r1⟩ := h; cases e; exact .inr ⟨ys, h1.sq, r1.length⟩
      | fz ds => obtain ⟨a, ys, rfl, h1, n1, r1⟩ := h; cases e; exact .inl ⟨ys, SqL.of h1, r1.length⟩
      | sc ds => obtain ⟨a, ys, rfl, h1, r1⟩ := h; cases e; exact .inl ⟨ys, h1.sq, r1.length⟩
      | ref m =>
        obtain ⟨a, ha, rfl⟩ := h
        simp only [lenD] at e
        split at e
        · rename_i ds q
          cases e
          obtain ⟨ys, h1, r1⟩ := S.look q ha
          exact .inl ⟨ys, SqL.of h1, r1.length⟩
        · cases e
      | _ => cases e
    · exact p.elim
  · exact p.elim
/-! ### isinstance of a built-in type -/
def tyName : D → Sto → Option String
  | .non, _ => some "NoneType"
  | .bl _, _ => some "bool"
  | .int _, _ => some "int"
  | .str _, _ => some "str"
  | .tup _, _ => some "tuple"
  | .fz _, _ => some "list"
  | .sc _, _ => some "list"
  | .fd _ _, _ => some "dict"
  | .ref n, st => match st[n]? with
    | some (.lst _) => some "list"
    | some (.dct _ _) => some "dict"
    | _ => none
  | _, _ => none
theorem tyX_of {B : Bs} {H ι st} {d : D} {v : V} {T : String} (S : Sim B H ι st) (r : VR B H ι d v) (h : tyName d st = some T) : TyX B.K H v (.type T) := by
  cases d with
  | non => cases r; cases h; exact .base .non
  | bl _ => cases r; cases h; exact .base (.bl _)
  | int _ => cases r; cases h; exact .base (.int _)
  | str _ => cases r; cases h; exact .base (.str _)
  | tup ds =>
    obtain ⟨a, xs, rfl, h1, r1⟩ := r
    cases h
    rcases h1 with ⟨h1 | ⟨o, h1⟩, _⟩ | ⟨o, its, n, k, c, _⟩
    · exact .base (.tup h1)
    · exact .fTuple h1
    · exact .kTuple k c
  | fz ds => obtain ⟨a, xs, rfl, h1, n1, r1⟩ := r; cases h; exact .base (.lst h1)
  | sc ds =>
    obtain ⟨a, xs, rfl, h1, r1⟩ := r
    cases h
    rcases h1 with ⟨h1 | ⟨o, h1⟩, _⟩ | ⟨o, its, n, k, c, _⟩
    · exact .base (.lst h1)
    · exact .base (.frz h1)
    · exact .kList k c
  | fd ks ds => obtain ⟨a, od, kvs, xs, rfl, h1, n1, e, l, r1⟩ := r; cases h; exact .fDict h1
  | ref n =>
    obtain ⟨a, ha, rfl⟩ := r
    simp only [tyName] at h
    split at h
    · rename_i ds e; cases h; obtain ⟨xs, h1, r1⟩ := S.look e ha; exact .base (.lst h1)
    · rename_i ks ds e; cases h; obtain ⟨kvs, xs, h1, _⟩ := S.look e ha; exact .base (.dK h1)
    · cases h
  | _ => cases h
def fIsi : FC := fun xs st => match xs with
  | [x, .ty T] => match tyName x st with
    | some n => match kitB n T with
      | some b => .ok (.bl b) st
      | none => .bad
    | none => .bad
  | _ => .bad
theorem rc_isi : RC K mg (rIsi K) fIsi := by
  intro ρ ι H st xs vs W σ Q S r p
  unfold fIsi at p
  split at p
  · rename_i x T
    obtain ⟨v, w, rfl, h, k⟩ := vr2 r
    cases k
    split at p
    · rename_i n e
      split at p
      · rename_i b eb
        exact ⟨v, .ty T, .type n, .type T, b, rfl, .ty T, tyX_of S h e, kit_ty eb, p.ok S rfl⟩
      · exact p.elim
    · exact p.elim
  · exact p.elim
/-! ### all, any -/
def blsOf : List D → Option (List Bool)
  | [] => some []
  | .bl b :: r => (blsOf r).map (b :: ·)
  | _ => none
theorem bls_of {B H ι} : ∀ {ds : List D} {bs : List Bool} {vs : List V}, blsOf ds = some bs → VRs B H ι ds vs → vs = bs.map V.bl
  | [], bs, vs, e, r => by cases e; cases r; rfl
  | d :: ds, bs, vs, e, ⟨x, t, e1, h, r⟩ => by
    subst e1
    cases d <;> (try (cases e))
    rename_i b
    cases h
    have e' : (blsOf ds).map (b :: ·) = some bs := e
    cases q : blsOf ds with
    | none => rw [q] at e'; cases e'
    | some cs => rw [q] at e'; cases e'; rw [bls_of q r]; rfl
def fAll : FC := fun xs st => match xs with
  | [.fz ds] => match blsOf ds with
    | some bs => .ok (.bl (bs.all id)) st
    | none => .bad
  | _ => .bad
def fAny : FC := fun xs st => match xs with
  | [.fz ds] => match blsOf ds with
    | some bs => .ok (.bl (bs.any id)) st
    | none => .bad
  | _ => .bad
theorem rc_all : RC K mg (rAll K) fAll := by
  intro ρ ι H st xs vs W σ Q S r p
  unfold fAll at p
  split at p
  · rename_i ds
    obtain ⟨v, rfl, a, ys, rfl, h1, n1, r1⟩ := vr1 r
    split at p
    · rename_i bs e
      have := bls_of e r1
      subst this
      exact ⟨a, bs, rfl, SqL.of h1, p.ok S rfl⟩
    · exact p.elim
  · exact p.elim
theorem rc_any : RC K mg (rAny K) fAny := by
  intro ρ ι H st xs vs W σ Q S r p
  unfold fAny at p
  split at p
  · rename_i ds
    obtain ⟨v, rfl, a, ys, rfl, h1, n1, r1⟩ := vr1 r
    split at p
    · rename_i bs e
      have := bls_of e r1
      subst this
      exact ⟨a, bs, rfl, SqL.of h1, p.ok S rfl⟩
    · exact p.elim
  · exact p.elim
/-! ### tuple(..), list(..) -/
def fTuple : FC := fun xs st => match xs with
  | [.fz ds] => .ok (.tup ds) st
  | [.sc ds] => .ok (.tup ds) st
  | [.tup ds] => .ok (.tup ds) st
  | [.ref n] => match st[n]? with
    | some (.lst ds) => .ok (.tup ds) st
    | _ => .bad
  | _ => .bad
def rTuple (K : PySem.W.Frag) : List V → Hp → VK → Prop := fun xs H Q => ∃ p ys, xs = [.ref p] ∧ ((SqL K H p ys ∧ ∀ l, H l = none → Q (.ref l) (upd H l (.tup ys))) ∨ (SqT K H p ys ∧ Q (.ref p) H))
theorem new_tup {B : Bs} {H ι st W σ Q} {ds : List D} {ys : List V} (S : Sim B H ι st) (r : VRs B H ι ds ys) (p : Post B relV W σ ι H (.ok (.tup ds) st) Q) : ∀ l, H l = none → Q (.ref l) (upd H l (.tup ys)) := fun l hl =>
  p.ok' (Step.new S hl) (S.new hl) ⟨l, ys, rfl, .inl ⟨.inl upd_same, S.fresh hl, S.fr hl⟩, r.step (Step.new S hl)⟩
theorem rc_tuple : RC K mg (rTuple K) fTuple := by
  intro ρ ι H st xs vs W σ Q S r p
  unfold fTuple at p
  split at p
  · obtain ⟨v, rfl, a, ys, rfl, h1, n1, r1⟩ := vr1 r
    exact ⟨a, ys, rfl, .inl ⟨SqL.of h1, new_tup S r1 p⟩⟩
  · obtain ⟨v, rfl, a, ys, rfl, h1, r1⟩ := vr1 r
    exact ⟨a, ys, rfl, .inl ⟨h1.sq, new_tup S r1 p⟩⟩
  · obtain ⟨v, rfl, h⟩ := vr1 r
    obtain ⟨a, ys, rfl, h1, r1⟩ := id h
    exact ⟨a, ys, rfl, .inr ⟨h1.sq, p.ok S h⟩⟩
  · obtain ⟨v, rfl, a, ha, rfl⟩ := vr1 r
    split at p
    · rename_i n ds e
      obtain ⟨ys, h1, r1⟩ := S.look e ha
      exact ⟨a, ys, rfl, .inl ⟨SqL.of h1, new_tup S r1 p⟩⟩
    · exact p.elim
  · exact p.elim
def itemsD : D → Sto → Option (List D)
  | .fz ds, _ => some ds
  | .sc ds, _ => some ds
  | .tup ds, _ => some ds
  | .ref n, st => match st[n]? with
    | some (.lst ds) => some ds
    | _ => none
  | _, _ => none
theorem items_of {B : Bs} {H ι st} {d : D} {v : V} {ds : List D} (S : Sim B H ι st) (r : VR B H ι d v) (h : itemsD d st = some ds) : ∃ a ys, v = .ref a ∧ (SqL B.K H a ys ∨ SqT B.K H a ys) ∧ VRs B H ι ds ys := by
  cases d with
  | fz ds => obtain ⟨a, ys, rfl, h1, n1, r1⟩ := r; cases h; exact ⟨a, ys, rfl, .inl (SqL.of h1), r1⟩
  | sc ds => obtain ⟨a, ys, rfl, h1, r1⟩ := r; cases h; exact ⟨a, ys, rfl, .inl h1.sq, r1⟩
  | tup ds => obtain ⟨a, ys, rfl, h1, r1⟩ := r; cases h; exact ⟨a, ys, rfl, .inr h1.sq, r1⟩
  | ref n =>
    obtain ⟨a, ha, rfl⟩ := r
    simp only [itemsD] at h
    split at h
    · rename_i ds e
      cases h
      obtain ⟨ys, h1, r1⟩ := S.look e ha
      exact ⟨a, ys, rfl, .inl (SqL.of h1), r1⟩
    · cases h
  | _ => cases h
theorem new_lst {B : Bs} {H ι st W σ Q} {ds : List D} {ys : List V} (S : Sim B H ι st) (r : VRs B H ι ds ys) (p : Post B relL W σ ι H (.ok ds st) Q) : ∀ l, H l = none → Q (.ref l) (upd H l (.lst ys)) := fun l hl =>
  p.ok' (Step.new S hl) (S.new hl) ⟨l, ys, rfl, upd_same, noH hl, S.fresh hl, S.fr hl, (r.more hl).step (Step.new S hl), S.reserve hl⟩
def fList : FL := fun xs st => match xs with
  | [x] => match itemsD x st with
    | some ds => .ok ds st
    | none => .bad
  | _ => .bad
theorem rcl_list : RCL K mg (fun xs H Q => ∃ p ys, xs = [.ref p] ∧ (SqL K H p ys ∨ SqT K H p ys) ∧ ∀ l, H l = none → Q (.ref l) (upd H l (.lst ys))) fList := by
  intro ρ ι H st xs vs W σ Q S r p
  unfold fList at p
  split at p
  · rename_i x
    obtain ⟨v, rfl, h⟩ := vr1 r
    split at p
    · rename_i ds e
      obtain ⟨a, ys, rfl, hs, r1⟩ := items_of S h e
      exact ⟨a, ys, rfl, hs, new_lst S r1 p⟩
    · exact p.elim
  · exact p.elim
/-! ### int, abs -/
def fInt : FC := fun xs st => match xs with
  | [.int i] => .ok (.int i) st
  | [.bl k] => .ok (.int (if k then 1 else 0)) st
  | _ => .bad
theorem rc_int : RC K mg (fun xs H Q => (∃ i, xs = [.int i] ∧ Q (.int i) H) ∨ ∃ k, xs = [.bl k] ∧ Q (.int (if k then 1 else 0)) H) fInt := by
  intro ρ ι H st xs vs W σ Q S r p
  unfold fInt at p
  split at p
  · obtain ⟨v, rfl, h⟩ := vr1 r; cases h; exact .inl ⟨_, rfl, p.ok S rfl⟩
  · obtain ⟨v, rfl, h⟩ := vr1 r; cases h; exact .inr ⟨_, rfl, p.ok S rfl⟩
  · exact p.elim
def fAbs : FC := fun xs st => match xs with
  | [.int i] => .ok (.int (if i < 0 then -i else i)) st
  | _ => .bad
theorem rc_abs : RC K mg (fun xs H Q => ∃ i, xs = [.int i] ∧ Q (.int (if i < 0 then -i else i)) H) fAbs := by
  intro ρ ι H st xs vs W σ Q S r p
  unfold fAbs at p
  split at p
  · obtain ⟨v, rfl, h⟩ := vr1 r; cases h; exact ⟨_, rfl, p.ok S rfl⟩
  · exact p.elim
end

/-! ### methods of built-in values -/
section
variable {X : Cx} {W : WX} {o e : Expr} {es : List Expr} {dx : DE} {ds : DA} {apos cpos : Pos} {T id : String} {name : Str} {r : V → List V → Hp → VK → Prop}
abbrev FM := D → List D → Sto → Res D
/-- a method by values: that the value is of the type is told, too -/
def RM (K : PySem.W.Frag) (mg : Str → Option Value) (T : String) (r : V → List V → Hp → VK → Prop) (f : FM) (ok : D → Sto → Bool) : Prop :=
  (∀ {ρ ι H st x v}, Sim ⟨K, mg, ρ⟩ H ι st → VR ⟨K, mg, ρ⟩ H ι x v → ok x st = true → tyV K T v H) ∧
  ∀ {ρ ι H st x v xs vs W σ} {Q : VK}, Sim ⟨K, mg, ρ⟩ H ι st → VR ⟨K, mg, ρ⟩ H ι x v → VRs ⟨K, mg, ρ⟩ H ι xs vs → Post ⟨K, mg, ρ⟩ relV W σ ι H (f x xs st) Q → r v vs H Q
def dMeth (ok : D → Sto → Bool) (f : FM) (dx : DE) (ds : DA) : DE := fun env st => (dx env st).bind fun x st1 => if ok x st1 = true then (ds env st1).bind fun xs st2 => f x xs st2 else .bad
theorem pd_bm {f : FM} {ok : D → Sto → Bool} (pa : PlainAttrs T) (slot : Slot T name id) (hty : typeOf (.builtin id) = pure (.type "method_descriptor")) (hm : MtR X id r) (hr : RM X.K X.mg T r f ok) (ho : PEd X W o dx) (ha : PAd X W (e :: es) ds)
    (hbase : attributeBase o name X.env (eval o X.env) = eval o X.env := by rfl)
    (hfew : ((backTo cpos (starEach (e :: es) X.env)).all (fun x => !x.1) && (backToKw cpos (keywordEach [] X.env)).all (fun x => x.1.isSome)
      && decide ((e :: es).length + ([] : List Keyword).length + (if ([] : List Keyword).isEmpty then 0 else 1) < 30)) = true := by rfl)
    (hline : (apos.endLine == cpos.line) = true := by rfl) (hs : starEach (e :: es) X.env = (false, eval e X.env) :: starEach es X.env := by rfl) (hplain : (backTo cpos (starEach es X.env)).any (·.1) = false := by rfl) :
    PEd X W (.Call (.Attribute o name apos) (e :: es) [] cpos) (dMeth ok f dx ds) :=
  PE.mono (pe_bm pa slot hty hm ho ha hbase hfew hline hs hplain) fun σ H Q ⟨ρ, ι, st, env, S, ve, p⟩ => ⟨ρ, ι, st, env, S, ve, Post.bind p fun x st1 ι1 H1 v s1 S1 rx p1 => by
    by_cases hk : ok x st1 = true
    · simp only [hk, if_true] at p1
      exact ⟨hr.1 S1 rx hk, ρ, ι1, st1, env, S1, ve.step s1, Post.bind p1 fun xs st2 ι2 H2 vs s2 S2 rxs p2 => hr.2 S2 (VR.step s2 rx) rxs p2⟩
    · simp only [hk, if_false] at p1; exact p1.elim⟩
theorem pd_bm0 {f : FM} {ok : D → Sto → Bool} (pa : PlainAttrs T) (slot : Slot T name id) (hty : typeOf (.builtin id) = pure (.type "method_descriptor")) (hm : MtR X id r) (hr : RM X.K X.mg T r f ok) (ho : PEd X W o dx)
    (hbase : attributeBase o name X.env (eval o X.env) = eval o X.env := by rfl) (hline : (apos.endLine == cpos.line) = true := by rfl) : PEd X W (.Call (.Attribute o name apos) [] [] cpos) (dMeth ok f dx dNil) :=
  PE.mono (pe_bm0 pa slot hty hm ho hbase hline) fun σ H Q ⟨ρ, ι, st, env, S, ve, p⟩ => ⟨ρ, ι, st, env, S, ve, Post.bind p fun x st1 ι1 H1 v s1 S1 rx p1 => by
    by_cases hk : ok x st1 = true
    · simp only [hk, if_true] at p1
      exact ⟨hr.1 S1 rx hk, hr.2 (xs := []) (vs := []) S1 rx rfl p1⟩
    · simp only [hk, if_false] at p1; exact p1.elim⟩
def isStr : D → Sto → Bool
  | .str _, _ => true
  | _, _ => false
theorem isStr_ty {K : PySem.W.Frag} {mg ρ ι H st} {x : D} {v : V} (S : Sim ⟨K, mg, ρ⟩ H ι st) (r : VR ⟨K, mg, ρ⟩ H ι x v) (h : isStr x st = true) : tyV K "str" v H := by
  cases x <;> (try (cases h))
  cases r
  rfl
def isLst : D → Sto → Bool
  | .ref n, st => match st[n]? with
    | some (.lst _) => true
    | _ => false
  | _, _ => false
theorem isLst_ty {K : PySem.W.Frag} {mg ρ ι H st} {x : D} {v : V} (S : Sim ⟨K, mg, ρ⟩ H ι st) (r : VR ⟨K, mg, ρ⟩ H ι x v) (h : isLst x st = true) : tyV K "list" v H := by
  cases x <;> (try (cases h))
  obtain ⟨a, ha, rfl⟩ := r
  simp only [isLst] at h
  split at h
  · rename_i n ds e
    obtain ⟨ys, h1, r1⟩ := S.look e ha
    exact .inl ⟨rfl, ys, SqL.of h1⟩
  · cases h
/-- xs.append(x) -/
def fAppend : FM := fun x xs st => match x, xs with
  | .ref n, [y] => match st[n]? with
    | some (.lst ds) => if ds.length ≤ bigLine then .ok .non (st.set n (.lst (ds ++ [y]))) else .bad
    | _ => .bad
  | _, _ => .bad
theorem rm_append : RM X.K X.mg "list" rAppend fAppend isLst := ⟨fun S r h => isLst_ty S r h, fun {ρ ι H st x v xs vs W σ} {Q} S r rs p => by
  unfold fAppend at p
  split at p
  · rename_i n y
    obtain ⟨a, ha, rfl⟩ := r
    obtain ⟨w, rfl, hw⟩ := vr1 rs
    split at p
    · rename_i ds e
      obtain ⟨ys, h1, r1⟩ := S.look e ha
      split at p
      · rename_i hl
        have s := Step.write ha (H := H) (o := .lst (ys ++ [w]))
        exact ⟨a, ys, w, rfl, rfl, h1, by rw [← r1.length]; exact big_lt hl, p.ok' s (S.write ha ⟨_, upd_same, (r1.append (VRs.one hw)).step s⟩) rfl⟩
      · exact p.elim
    · exact p.elim
  · exact p.elim⟩
def fClear : FM := fun x xs st => match x, xs with
  | .ref n, [] => match st[n]? with
    | some (.lst _) => .ok .non (st.set n (.lst []))
    | _ => .bad
  | _, _ => .bad
theorem rm_clear : RM X.K X.mg "list" rClear fClear isLst := ⟨fun S r h => isLst_ty S r h, fun {ρ ι H st x v xs vs W σ} {Q} S r rs p => by
  unfold fClear at p
  split at p
  · rename_i n
    obtain ⟨a, ha, rfl⟩ := r
    cases rs
    split at p
    · rename_i ds e
      obtain ⟨ys, h1, r1⟩ := S.look e ha
      have s := Step.write ha (H := H) (o := .lst [])
      exact ⟨a, ys, rfl, rfl, h1, p.ok' s (S.write ha ⟨[], upd_same, rfl⟩) rfl⟩
    · exact p.elim
  · exact p.elim⟩
/-- xs.extend(ys), ys another list -/
def fExtend : FM := fun x xs st => match x, xs with
  | .ref n, [.fz es] => match st[n]? with
    | some (.lst ds) => if ds.length + es.length ≤ bigLine then .ok .non (st.set n (.lst (ds ++ es))) else .bad
    | _ => .bad
  | _, _ => .bad
theorem rm_extend : RM X.K X.mg "list" rExtend fExtend isLst := ⟨fun S r h => isLst_ty S r h, fun {ρ ι H st x v xs vs W σ} {Q} S r rs p => by
  unfold fExtend at p
  split at p
  · rename_i n es
    obtain ⟨a, ha, rfl⟩ := r
    obtain ⟨w, rfl, b, zs, rfl, h2, m2, r2⟩ := vr1 rs
    split at p
    · rename_i ds e
      obtain ⟨ys, h1, r1⟩ := S.look e ha
      split at p
      · rename_i hl
        have s := Step.write ha (H := H) (o := .lst (ys ++ zs))
        exact ⟨a, b, ys, zs, rfl, rfl, h1, h2, by rw [← r1.length, ← r2.length]; exact big_le hl, p.ok' s (S.write ha ⟨_, upd_same, (r1.append r2).step s⟩) rfl⟩
      · exact p.elim
    · exact p.elim
  · exact p.elim⟩
/-- sep.join(xs) -/
def strsOf : List D → Option (List Str)
  | [] => some []
  | .str b :: r => (strsOf r).map (b :: ·)
  | _ => none
theorem strs_of {B H ι} : ∀ {ds : List D} {bs : List Str} {vs : List V}, strsOf ds = some bs → VRs B H ι ds vs → vs = bs.map V.str
  | [], bs, vs, e, r => by cases e; cases r; rfl
  | d :: ds, bs, vs, e, ⟨x, t, e1, h, r⟩ => by
    subst e1
    cases d <;> (try (cases e))
    rename_i b
    cases h
    have e' : (strsOf ds).map (b :: ·) = some bs := e
    cases q : strsOf ds with
    | none => rw [q] at e'; cases e'
    | some cs => rw [q] at e'; cases e'; rw [strs_of q r]; rfl
def fJoin : FM := fun x xs st => match x, xs with
  | .str a, [y] => match itemsD y st with
    | some ds => match strsOf ds with
      | some ys => if (ys.map (·.length)).sum + ys.length * a.length ≤ bigLine then .ok (.str (Txt.join a ys)) st else .bad
      | none => .bad
    | none => .bad
  | _, _ => .bad
theorem rm_join : RM X.K X.mg "str" (fun x xs H Q => ∃ a p, ∃ ys : List Str, x = .str a ∧ xs = [.ref p] ∧ (SqL X.K H p (ys.map V.str) ∨ SqT X.K H p (ys.map V.str)) ∧ (ys.map (·.length)).sum + ys.length * a.length ≤ 16777216 ∧ Q (.str (Txt.join a ys)) H) fJoin isStr :=
  ⟨fun S r h => isStr_ty S r h, fun {ρ ι H st x v xs vs W σ} {Q} S r rs p => by
  unfold fJoin at p
  split at p
  · rename_i a y
    cases r
    obtain ⟨w, rfl, hw⟩ := vr1 rs
    split at p
    · rename_i ds e
      obtain ⟨q, zs, rfl, hs, r1⟩ := items_of S hw e
      split at p
      · rename_i ys e2
        have := strs_of e2 r1
        subst this
        split at p
        · rename_i hl
          exact ⟨a, q, ys, rfl, rfl, hs, Nat.le_trans hl (by decide), p.ok S rfl⟩
        · exact p.elim
      · exact p.elim
    · exact p.elim
  · exact p.elim⟩
def fFind : FM := fun x xs st => match x, xs with
  | .str a, [.str b] => .ok (.int (Txt.find a b)) st
  | _, _ => .bad
theorem rm_find : RM X.K X.mg "str" (fun x xs H Q => ∃ a b, x = .str a ∧ xs = [.str b] ∧ Q (.int (Txt.find a b)) H) fFind isStr :=
  ⟨fun S r h => isStr_ty S r h, fun {ρ ι H st x v xs vs W σ} {Q} S r rs p => by
  unfold fFind at p
  split at p
  · cases r
    obtain ⟨w, rfl, hw⟩ := vr1 rs
    cases hw
    exact ⟨_, _, rfl, rfl, p.ok S rfl⟩
  · exact p.elim⟩
def fUpper : FM := fun x xs st => match x, xs with
  | .str a, [] => if a.length ≤ bigLine then .ok (.str (Txt.upper a)) st else .bad
  | _, _ => .bad
theorem rm_upper : RM X.K X.mg "str" (fun x xs H Q => ∃ a, x = .str a ∧ xs = [] ∧ a.length ≤ 5592405 ∧ Q (.str (Txt.upper a)) H) fUpper isStr :=
  ⟨fun S r h => isStr_ty S r h, fun {ρ ι H st x v xs vs W σ} {Q} S r rs p => by
  unfold fUpper at p
  split at p
  · cases r
    cases rs
    split at p
    · rename_i hl; exact ⟨_, rfl, rfl, Nat.le_trans hl (by decide), p.ok S rfl⟩
    · exact p.elim
  · exact p.elim⟩
end
end DD

/-! DD9: slices, fields, objects made, == of data. -/
namespace DD
open PySem L2 PyProof.Rows
variable [NMs]

/-! ### slices -/
def relO : Rel (Option Int) (Option Int) := ⟨fun _ _ _ _ _ _ d v => v = d, fun _ h => h⟩
abbrev DO := Env → Sto → Res (Option Int)
def POd (X : Cx) (W : WX) (e : Option Expr) (d : DO) : Prop := PO X e (tG X.K X.mg relO W d)
theorem PO.mono {X : Cx} {e : Option Expr} {t t' : TO} (h : PO X e t) (k : ∀ σ H Q, t' σ H Q → t σ H Q) : PO X e t' := ⟨fun p s σ H Q I q => h.run p s σ H Q I (k σ H Q q)⟩
def dNoPart : DO := fun _ st => .ok none st
def dPart (da : DE) : DO := fun env st => (da env st).bind fun x st1 => match x with
  | .int i => .ok (some i) st1
  | _ => .bad
section
variable {X : Cx} {W : WX} {e : Expr} {lo hi : Option Expr} {da : DE} {dl dh : DO} {pos p2 : Pos}
theorem pod_none : POd X W none dNoPart := PO.mono po_none fun σ H Q ⟨ρ, ι, st, env, S, ve, p⟩ => p.ok S rfl
theorem pod_some (h : PEd X W e da) : POd X W (some e) (dPart da) := PO.mono (po_some h) fun σ H Q ⟨ρ, ι, st, env, S, ve, p⟩ => ⟨ρ, ι, st, env, S, ve, Post.bind p fun x st1 ι1 H1 v s1 S1 rx p1 => by
  cases x <;> (try exact p1.elim)
  cases rx
  exact ⟨_, rfl, p1.ok S1 rfl⟩⟩
def cutL {α : Type} (xs : List α) (lo hi : Option Int) : List α := (xs.drop (HT.sIx xs.length 0 lo)).take (HT.sIx xs.length xs.length hi - HT.sIx xs.length 0 lo)
def fSl (x : D) (lo hi : Option Int) (st : Sto) : Res D := match x with
  | .str z => if z.length ≤ bigLine then .ok (.str (cutS z lo hi)) st else .bad
  | .tup ds => .ok (.tup (cutL ds lo hi)) st
  | .fz ds => .ok (.fz (cutL ds lo hi)) st
  | .sc ds => .ok (.fz (cutL ds lo hi)) st
  | .ref n => match st[n]? with
    | some (.lst ds) => .ok (.fz (cutL ds lo hi)) st
    | _ => .bad
  | _ => .bad
theorem cut_vr {B H ι} {ds : List D} {vs : List V} {lo hi : Option Int} (r : VRs B H ι ds vs) : VRs B H ι (cutL ds lo hi) (cutV vs lo hi) := by
  unfold cutL cutV
  rw [r.length]
  exact (r.drop _).take _
def rSl3 (K : PySem.W.Frag) : V → Option Int → Option Int → Hp → VK → Prop := fun x lo hi H Q => rSlS x lo hi H Q ∨ (rSlA K x lo hi H Q ∨ rSlL K x lo hi H Q)
def dSl (da : DE) (dl dh : DO) : DE := fun env st => (da env st).bind fun x st1 => (dl env st1).bind fun l st2 => (dh env st2).bind fun u st3 => fSl x l u st3
theorem cut_whole {ds : List D} {lo hi : Option Int} (h : HT.sIx ds.length 0 lo = 0 ∧ HT.sIx ds.length ds.length hi = ds.length) : cutL ds lo hi = ds := by
  unfold cutL
  rw [h.1, h.2, List.drop_zero, Nat.sub_zero, List.take_length]
theorem new_fz {B : Bs} {H ι st W σ Q} {ds : List D} {ys : List V} (S : Sim B H ι st) (r : VRs B H ι ds ys) (p : Post B relV W σ ι H (.ok (.fz ds) st) Q) : ∀ l, H l = none → Q (.ref l) (upd H l (.lst ys)) := fun l hl =>
  p.ok' (Step.new S hl) (S.new hl) ⟨l, ys, rfl, upd_same, ⟨S.fresh hl, S.fr hl⟩, r.step (Step.new S hl)⟩
theorem pd_slice (he : PEd X W e da) (hl : POd X W lo dl) (hu : POd X W hi dh) : PEd X W (.Subscript e (.Slice lo hi none p2) pos) (dSl da dl dh) :=
  PE.mono (pe_slice (SlR.or sl_str (SlR.or sl_tupA sl_list)) he hl hu) fun σ H Q ⟨ρ, ι, st, env, S, ve, p⟩ =>
    ⟨ρ, ι, st, env, S, ve, Post.bind p fun x st1 ι1 H1 v s1 S1 rx p1 => ⟨ρ, ι1, st1, env, S1, ve.step s1, Post.bind p1 fun l st2 ι2 H2 l' s2 S2 rl p2 => ⟨ρ, ι2, st2, env, S2, (ve.step s1).step s2, Post.bind p2 fun u st3 ι3 H3 u' s3 S3 ru p3 => by
      cases rl
      cases ru
      have rx3 : VR ⟨X.K, X.mg, ρ⟩ H3 ι3 x v := (VR.step s2 rx).step s3
      cases x with
      | str z =>
        cases rx3
        simp only [fSl] at p3
        split at p3
        · rename_i hz; exact .inl ⟨z, rfl, big_le hz, p3.ok S3 rfl⟩
        · exact p3.elim
      | tup ds =>
        obtain ⟨a, xs, rfl, h1, r1⟩ := id rx3
        simp only [fSl] at p3
        have hl := r1.length
        refine .inr (.inl ⟨a, xs, rfl, h1.sq, fun hw => ?_, fun hw q hq => ?_⟩)
        · rw [← hl] at hw
          rw [cut_whole hw] at p3
          exact p3.ok S3 rx3
        · exact new_tup S3 (cut_vr r1) p3 q hq
      | fz ds =>
        obtain ⟨a, xs, rfl, h1, m, r1⟩ := id rx3
        exact .inr (.inr ⟨a, xs, rfl, SqL.of h1, new_fz S3 (cut_vr r1) p3⟩)
      | sc ds =>
        obtain ⟨a, xs, rfl, h1, r1⟩ := id rx3
        exact .inr (.inr ⟨a, xs, rfl, h1.sq, new_fz S3 (cut_vr r1) p3⟩)
      | ref n =>
        obtain ⟨a, ha, rfl⟩ := id rx3
        simp only [fSl] at p3
        split at p3
        · rename_i ds q
          obtain ⟨xs, h1, r1⟩ := S3.look q ha
          exact .inr (.inr ⟨a, xs, rfl, SqL.of h1, new_fz S3 (cut_vr r1) p3⟩)
        · exact p3.elim
      | _ => exact p3.elim⟩⟩⟩
end

/-! ### fields -/
/-- what is known of the classes with these names, for a field -/
def FldOk (K : PySem.W.Frag) (mg : Str → Option Value) (cs : List Str) (f : Str) : Prop := ∀ c ∈ cs, ∀ C, mg c = some (.ref C) → Cls K C ∧ NoAttr K C f
def fFld (cs : List Str) (f : Str) : F1 := fun x st => match x with
  | .obj c ns ds => if c ∈ cs then (match (ns.zip ds).lookup f with
    | some d => .ok d st
    | none => .bad) else .bad
  | .ref n => match st[n]? with
    | some (.ins c ns ds) => if c ∈ cs then (match (ns.zip ds).lookup f with
      | some d => .ok d st
      | none => .bad) else .bad
    | _ => .bad
  | _ => .bad
theorem lookup_vr {B H ι} {f : Str} {d : D} : ∀ {ns : List Str} {ds : List D} {xs : List V}, VRs B H ι ds xs → (ns.zip ds).lookup f = some d → ∃ v, (ns.zip xs).lookup f = some v ∧ VR B H ι d v
  | [], _, _, _, e => by simp at e
  | _ :: _, [], _, _, e => by simp at e
  | n :: ns, d' :: ds, _, ⟨x, r, e1, h, t⟩, e => by
    subst e1
    simp only [List.zip_cons_cons, List.lookup_cons] at e ⊢
    cases q : f == n with
    | true => rw [q] at e; cases e; exact ⟨x, rfl, h⟩
    | false => rw [q] at e; exact lookup_vr t e
section
variable {X : Cx} {W : WX} {e o : Expr} {es : List Expr} {da dv : DE} {ds : DA} {pos pos' p : Pos} {f : Str}
theorem pd_fld {cs : List Str} (hf : FldOk X.K X.mg cs f) (he : PEd X W e da) (hb : attributeBase e f X.env (eval e X.env) = eval e X.env := by rfl) : PEd X W (.Attribute e f pos) (dUn (fFld cs f) da) :=
  PE.mono (pe_fld he hb) fun σ H Q ⟨ρ, ι, st, env, S, ve, p⟩ => ⟨ρ, ι, st, env, S, ve, Post.bind p fun x st1 ι1 H1 v s1 S1 rx p1 => by
    unfold fFld at p1
    split at p1
    · rename_i c ns ds
      obtain ⟨a, C, dx, fs, xs, rfl, hC, h1, m, e1, l, r1⟩ := rx
      split at p1
      · rename_i hc
        split at p1
        · rename_i d q
          obtain ⟨v, h2, r2⟩ := lookup_vr r1 q
          obtain ⟨k1, k2⟩ := hf c hc C hC
          exact ⟨a, C, dx, fs, v, rfl, h1, k1, k2, by rw [e1]; exact h2, p1.ok S1 r2⟩
        · exact p1.elim
      · exact p1.elim
    · rename_i n
      obtain ⟨a, ha, rfl⟩ := rx
      split at p1
      · rename_i c ns ds q0
        obtain ⟨C, dx, fs, xs, hC, h1, e1, l, r1⟩ := S1.look q0 ha
        split at p1
        · rename_i hc
          split at p1
          · rename_i d q
            obtain ⟨v, h2, r2⟩ := lookup_vr r1 q
            obtain ⟨k1, k2⟩ := hf c hc C hC
            exact ⟨a, C, dx, fs, v, rfl, h1, k1, k2, by rw [e1]; exact h2, p1.ok S1 r2⟩
          · exact p1.elim
        · exact p1.elim
      · exact p1.elim
    · exact p1.elim⟩
/-- o.f = e, an object of the store -/
def putD (f : Str) (d : D) : List Str → List D → List Str × List D
  | n :: ns, x :: xs => if n = f then (n :: ns, d :: xs) else let r := putD f d ns xs; (n :: r.1, x :: r.2)
  | _, _ => ([f], [d])
theorem put_vr {B H ι} {d : D} {v : V} (hd : VR B H ι d v) : ∀ {ns : List Str} {ds : List D} {xs : List V}, ns.length = xs.length → VRs B H ι ds xs → ∃ ys, putF f v (ns.zip xs) = (putD f d ns ds).1.zip ys ∧ (putD f d ns ds).1.length = ys.length ∧ VRs B H ι (putD f d ns ds).2 ys
  | [], ds, xs, l, r => by
    have hx : xs = [] := List.length_eq_zero_iff.mp l.symm
    subst hx
    have : ds = [] := List.length_eq_zero_iff.mp r.length
    subst this
    exact ⟨[v], rfl, rfl, VRs.one hd⟩
  | n :: ns, [], xs, l, r => by
    cases r
    simp at l
  | n :: ns, x :: ds, _, l, ⟨y, r, e1, h, t⟩ => by
    subst e1
    simp only [List.length_cons, Nat.add_right_cancel_iff] at l
    by_cases hn : n = f
    · subst hn
      refine ⟨v :: r, ?_, ?_, ?_⟩
      · simp [putD, putF]
      · simp [putD, l]
      · simp only [putD, if_true]; exact ⟨v, r, rfl, hd, t⟩
    · obtain ⟨ys, e2, l2, r2⟩ := put_vr hd l t
      refine ⟨y :: ys, ?_, ?_, ?_⟩
      · simp only [putD, if_neg hn, List.zip_cons_cons, putF, e2]
      · simp only [putD, if_neg hn, List.length_cons, l2]
      · simp only [putD, if_neg hn]; exact ⟨y, ys, rfl, h, r2⟩
def dSetFld (cs : List Str) (f : Str) (dv da : DE) : DS := fun env st => (dv env st).bindS env fun y st1 => (da env st1).bindS env fun x st2 => match x with
  | .ref n => match st2[n]? with
    | some (.ins c ns ds) => if c ∈ cs ∧ ns.length ≤ 900 then .nx env (st2.set n (.ins c (putD f y ns ds).1 (putD f y ns ds).2)) else .bad
    | _ => .bad
  | _ => .bad
theorem psd_setFld {cs : List Str} {value : Expr} (hf : FldOk X.K X.mg cs f) (ho : PEd X W o da) (hv : PEd X W value dv) (hs : swapsWith value (some (.Attribute o f pos')) pos.line X.env = pure false := by rfl) : PSd X W (.Assign [.Attribute o f pos'] value pos) (dSetFld cs f dv da) :=
  PS.mono (ps_fld ho hv hs) fun E σ H ⟨ρ, ι, st, env, S, ve, p⟩ => ⟨ρ, ι, st, env, S, ve, PostS.bind ve p fun y st1 ι1 H1 v s1 S1 ry p1 => ⟨ρ, ι1, st1, env, S1, ve.step s1, PostS.bind (ve.step s1) p1 fun x st2 ι2 H2 w s2 S2 rx p2 => by
    split at p2
    · rename_i n
      obtain ⟨a, ha, rfl⟩ := rx
      split at p2
      · rename_i c ns ds q
        obtain ⟨C, dx, fs, xs, hC, h1, e1, l, r1⟩ := S2.look q ha
        split at p2
        · rename_i hc
          obtain ⟨k1, k2⟩ := hf c hc.1 C hC
          refine ⟨a, C, dx, fs, rfl, h1, k1, k2, ?_, ?_⟩
          · rw [e1, List.length_zip, ← l, Nat.min_self]; omega
          · obtain ⟨ys, e2, l2, r2⟩ := put_vr (f := f) (VR.step s2 ry) l r1
            have sw : Step ι2 H2 ι2 (upd H2 a (.ins C dx (putF f v fs))) := Step.write ha
            exact p2 ι2 _ σ sw (S2.write ha ⟨C, dx, putF f v fs, ys, hC, upd_same, by rw [e1]; exact e2, l2, r2.step sw⟩) (((ve.step s1).step s2).step sw)
        · exact p2.elim
      · exact p2.elim
    · exact p2.elim⟩⟩
end

/-! ### objects made -/
mutual
/-- all places of the store that it names are below n -/
def below (n : Nat) : D → Bool
  | .ref m => decide (m < n)
  | .tup ds => belows n ds
  | .fz ds => belows n ds
  | .sc ds => belows n ds
  | .fd _ ds => belows n ds
  | .obj _ _ ds => belows n ds
  | .lam _ _ ds => belows n ds
  | _ => true
def belows (n : Nat) : List D → Bool
  | [] => true
  | d :: ds => below n d && belows n ds
end
def belowO (n : Nat) : O → Bool
  | .lst ds => belows n ds
  | .ins _ _ ds => belows n ds
  | .dct _ ds => belows n ds
theorem notin_of {ι : List Addr} {x : List Addr} {a : Addr} (h : a ∉ ι ++ x) : a ∉ ι := fun z => h (List.mem_append_left _ z)
mutual
theorem VR.cut {B H} {ι : List Addr} {x : List Addr} : ∀ {d : D} {v : V}, below ι.length d = true → VR B H (ι ++ x) d v → VR B H ι d v
  | .non, _, _, h => h
  | .bl _, _, _, h => h
  | .int _, _, _, h => h
  | .str _, _, _, h => h
  | .ty _, _, _, h => h
  | .ref m, _, b, ⟨a, h, e⟩ => ⟨a, by rw [List.getElem?_append_left (of_decide_eq_true b)] at h; exact h, e⟩
  | .tup _, _, b, ⟨a, xs, e, h, r⟩ => ⟨a, xs, e, h.elim (fun z => .inl ⟨z.1, notin_of z.2.1, z.2.2⟩) .inr, VRs.cut b r⟩
  | .sc _, _, b, ⟨a, xs, e, h, r⟩ => ⟨a, xs, e, h.elim (fun z => .inl ⟨z.1, notin_of z.2.1, z.2.2⟩) .inr, VRs.cut b r⟩
  | .fz _, _, b, ⟨a, xs, e, h, m, r⟩ => ⟨a, xs, e, h, ⟨notin_of m.1, m.2⟩, VRs.cut b r⟩
  | .fd _ _, _, b, ⟨a, od, fs, xs, e, h, m, e2, l, r⟩ => ⟨a, od, fs, xs, e, h, ⟨notin_of m.1, m.2⟩, e2, l, VRs.cut b r⟩
  | .obj _ _ _, _, b, ⟨a, C, dx, fs, xs, e, c, h, m, e2, l, r⟩ => ⟨a, C, dx, fs, xs, e, c, h, ⟨notin_of m.1, m.2⟩, e2, l, VRs.cut b r⟩
  | .lam _ _ _, _, b, ⟨g, L, xs, e, h, r⟩ => ⟨g, L, xs, e, h.keep (fun b o _ e => by
      obtain ⟨h1, h2, h3⟩ := offH_iff.mp e
      exact offH_iff.mpr ⟨notin_of h1, h2, h3⟩), VRs.cut b r⟩
theorem VRs.cut {B H} {ι : List Addr} {x : List Addr} : ∀ {ds : List D} {vs : List V}, belows ι.length ds = true → VRs B H (ι ++ x) ds vs → VRs B H ι ds vs
  | [], _, _, h => h
  | _ :: _, _, b, ⟨y, r, e, h, t⟩ => by
    have b' := Bool.and_eq_true_iff.mp b
    exact ⟨y, r, e, VR.cut b'.1 h, VRs.cut b'.2 t⟩
end
theorem Sim.cut {B H} {ι : List Addr} {x : List Addr} {st : Sto} {o : Sto} (hl : ι.length = st.length) (hb : st.all (belowO ι.length) = true) (S : Sim B H (ι ++ x) (st ++ o)) : Sim B H ι st := by
  refine ⟨hl, (List.nodup_append.mp S.nd).1, fun n ob e => ?_, fun a ha => ⟨(S.rs a ha).1, notin_of (S.rs a ha).2⟩, S.tab, S.rp⟩
  have hn : n < st.length := (List.getElem?_eq_some_iff.mp e).1
  obtain ⟨a, h, q⟩ := S.ob n ob (by rw [List.getElem?_append_left hn]; exact e)
  rw [List.getElem?_append_left (by omega)] at h
  have b := List.all_eq_true.mp hb ob (List.mem_of_getElem? e)
  refine ⟨a, h, ?_⟩
  cases ob with
  | lst ds => obtain ⟨xs, h, r⟩ := q; exact ⟨xs, h, r.cut b⟩
  | ins c ns ds => obtain ⟨C, dx, fs, xs, c, h, e, l, r⟩ := q; exact ⟨C, dx, fs, xs, c, h, e, l, r.cut b⟩
  | dct ks ds => obtain ⟨kvs, xs, h, e, l, r⟩ := q; exact ⟨kvs, xs, h, e, l, r.cut b⟩
theorem take_rest {st2 : Sto} {n : Nat} {o : O} (e : st2[n]? = some o) : st2 = st2.take n ++ st2.drop n ∧ (st2.take n).length = n := by
  have := (List.getElem?_eq_some_iff.mp e).1
  exact ⟨(List.take_append_drop n st2).symm, by rw [List.length_take]; omega⟩
/-- C(..): made in the store, given out by value -/
def dMake (c : Str) (m : M) (n : Nat) (ds : DA) : DE := fun env st => (ds env st).bind fun xs st1 => if xs.length + 1 = n then (match m (.ref st1.length :: xs) (st1 ++ [.ins c [] []]) with
  | .ok .non st2 => (match st2[st1.length]? with
    | some (.ins c' ns ds) => if c' = c ∧ belows st1.length ds = true ∧ (st2.take st1.length).all (belowO st1.length) = true then .ok (.obj c ns ds) (st2.take st1.length) else .bad
    | _ => .bad)
  | .exc (k, none) st2 => (match st2[st1.length]? with
    | some o => if (st2.take st1.length).all (belowO st1.length) = true then .exc (k, none) (st2.take st1.length) else .bad
    | _ => .bad)
  | .exc (k, some (f, d)) st2 => (match st2[st1.length]? with
    | some o => if below st1.length d = true ∧ (st2.take st1.length).all (belowO st1.length) = true then .exc (k, some (f, d)) (st2.take st1.length) else .bad
    | _ => .bad)
  | _ => .bad) else .bad
section
variable {X : Cx} {W : WX} {e : Expr} {es : List Expr} {ds : DA} {pos p : Pos} {CX : CXT} {k : Nat} {f C : Addr} {fd : FuncData} {ps : List Str} {sp : Sp} {x : Str} {E : L2.St → XK} {t : TA}
theorem run_makeS {pins : List (Addr × Obj)} {σ : L2.St} {H : Hp} {s : Shared} {Q : VK} {us : List Value} {vs : List V} (M : Mk X.K C f) (F : FnOk X.prog X.w X.K X.mg X.base CX k f fd ps sp) (hr : Room (k + 1) X.A) (hb : Binds X.K fd ps [])
    (hx : PassesAt CX X σ (E σ)) (I : Inv X pins σ H s) (r : Vals vs us)
    (h : ∀ x dx, H x = none → H dx = none → dx ≠ x → sp (.ref x :: vs) (upd (upd H dx (.own x)) x (.ins C dx [])) (fun v H2 => v = .non ∧ Q (.ref x) H2) (E σ)) :
    wpAny (model X.prog X.w) X.A (call (.ref C) us) (EP X pins σ Q) X.xe s := by
  have hq := h (s.heap.objs.size + 1) s.heap.objs.size (I.hok.fresh (Nat.le_succ _)) (I.hok.fresh (Nat.le_refl _)) (Nat.ne_of_lt (Nat.lt_succ_self _))
  have I2 := Inv.made (C := C) I
  have r2 : Vals (V.ref (s.heap.objs.size + 1) :: vs) (Value.ref (s.heap.objs.size + 1) :: us) := .cons rfl r
  have hl : (Value.ref (s.heap.objs.size + 1) :: us).length = ps.length := by
    have e := r2.length
    rw [F.len _ _ _ _ hq] at e
    exact e.symm
  have b := hb _ (Value.ref (s.heap.objs.size + 1) :: us) I2.kIn (by rw [List.append_nil]; exact hl)
  rw [List.append_nil] at b
  refine wpAny_call (make_map (f := f) I.kIn M.makes M.init (beq_iff_eq.mp M.fn) (codeAny_mono (F.run _ X.stack _ _ ⟨Value.ref (s.heap.objs.size + 1) :: us, []⟩ (Value.ref (s.heap.objs.size + 1) :: us) _ _ (E σ) (hr.make C us [])
    (I2.env0.make C us []) b r2 hq) fun r s' hq' => ?_))
  cases r with
  | error e => exact hx pins _ _ e s' I2 hq'
  | ok fl =>
    cases fl with
    | ret u =>
      obtain ⟨v, H', I3, rv, ev, q3⟩ := I2.after hq'
      subst ev
      exact ⟨rv, ⟨V.ref (s.heap.objs.size + 1), H', I3, rfl, q3⟩⟩
    | next => exact False.elim hq'
    | brk => exact False.elim hq'
    | cont => exact False.elim hq'
def tMakeS (C : Addr) (sp : Sp) (E : L2.St → XK) (t : TA) : TE := fun σ H Q => t σ H fun vs H1 => ∀ x dx, H1 x = none → H1 dx = none → dx ≠ x → sp (.ref x :: vs) (upd (upd H1 dx (.own x)) x (.ins C dx [])) (fun v H2 => v = .non ∧ Q (.ref x) H2) (E σ)
theorem pe_makeS (M : Mk X.K C f) (F : FnOk X.prog X.w X.K X.mg X.base CX k f fd ps sp) (hr : Room (k + 1) X.A) (hg : Gl X x) (hm : X.mg x = some (.ref C)) (hb : Binds X.K fd ps []) (hx : ∀ σ, PassesAt CX X σ (E σ))
    (ha : PA X (e :: es) t) (hdb : (x == ("__debug__" : Str)) = false := by decide) (he : starEach (e :: es) X.env = (false, eval e X.env) :: starEach es X.env := by rfl) (hpl : (backTo pos (starEach es X.env)).any (·.1) = false := by rfl) :
    PE X (.Call (.Name x p) (e :: es) [] pos) (tMakeS C sp E t) := by
  refine ⟨fun pins s σ H Q I h => ?_⟩
  refine wpAny_Call_Name_kw (ld_glob I hg hm ?_ hdb)
  refine PySem.W.callWith_K (h₀ := X.base) I.ok.mod.kin M.kp (thn (ha.run pos pins s σ H _ I h) fun us s1 ⟨vs, H1, I1, r, q⟩ => ⟨I1.kIn, ?_⟩) he hpl
  exact run_makeS M F hr hb (hx σ) I1 r q
theorem pd_make {m : M} {n : Nat} (M : Mk X.K C f) (F : FnOk X.prog X.w X.K X.mg X.base (L2.CX X.prog X.w) k f fd ps (spD X.K X.mg m n)) (hr : Room (k + 1) X.A) (hg : Gl X x) (hm : X.mg x = some (.ref C)) (hb : Binds X.K fd ps []) (hx : Lets X W)
    (ha : PAd X W (e :: es) ds) (hdb : (x == ("__debug__" : Str)) = false := by decide) (he : starEach (e :: es) X.env = (false, eval e X.env) :: starEach es X.env := by rfl) (hpl : (backTo pos (starEach es X.env)).any (·.1) = false := by rfl) :
    PEd X W (.Call (.Name x p) (e :: es) [] pos) (dMake x m n ds) :=
  PE.mono (pe_makeS (E := fun σ => WE W σ) M F hr hg hm hb hx ha hdb he hpl) fun σ H Q ⟨ρ, ι, st, env, S, ve, p⟩ => ⟨ρ, ι, st, env, S, ve, Post.bind p fun xs st1 ι1 H1 vs s1 S1 rx p1 => by
    have rx : VRs ⟨X.K, X.mg, ρ⟩ H1 ι1 xs vs := rx
    intro y dx hy hdx hne
    by_cases hn : xs.length + 1 = n
    case neg => simp only [hn, if_false] at p1; exact p1.elim
    simp only [hn, if_true] at p1
    have sd : Step ι1 H1 ι1 (upd H1 dx (.own y)) := Step.new S1 hdx
    have Sd : Sim ⟨X.K, X.mg, ρ⟩ (upd H1 dx (.own y)) ι1 st1 := S1.new hdx
    have hy' : (upd H1 dx (.own y)) y = none := by rw [upd_ne (Ne.symm hne)]; exact hy
    have sa : Step ι1 (upd H1 dx (.own y)) (ι1 ++ [y]) (upd (upd H1 dx (.own y)) y (.ins C dx [])) := Step.alloc Sd hy'
    have Sa : Sim ⟨X.K, X.mg, ρ⟩ (upd (upd H1 dx (.own y)) y (.ins C dx [])) (ι1 ++ [y]) (st1 ++ [.ins x [] []]) := Sd.alloc hy' ⟨C, dx, [], [], hm, upd_same, rfl, rfl, rfl⟩
    have ra : VRs ⟨X.K, X.mg, ρ⟩ (upd (upd H1 dx (.own y)) y (.ins C dx [])) (ι1 ++ [y]) (.ref st1.length :: xs) (.ref y :: vs) := ⟨_, _, rfl, ⟨y, by rw [← S1.len, List.getElem?_append_right (by omega)]; simp, rfl⟩, (rx.step sd).step sa⟩
    refine ⟨by rw [List.length_cons, ← rx.length, hn], ρ, ι1 ++ [y], st1 ++ [.ins x [] []], .ref st1.length :: xs, Sa, ra, ?_⟩
    have s0 : Step ι1 H1 (ι1 ++ [y]) (upd (upd H1 dx (.own y)) y (.ins C dx [])) := sd.trans sa
    have back : ∀ {ι2 H2}, Step (ι1 ++ [y]) (upd (upd H1 dx (.own y)) y (.ins C dx [])) ι2 H2 → (∃ more, ι2 = ι1 ++ (y :: more)) ∧ Step ι1 H1 ι1 H2 := fun {ι2 H2} s => by
      obtain ⟨more, e, _⟩ := s.pre
      exact ⟨⟨more, by rw [e]; simp⟩, ⟨[], by simp, by simp⟩, (s0.trans s).rest0⟩
    cases q : m (.ref st1.length :: xs) (st1 ++ [.ins x [] []]) with
    | bad => simp only [q] at p1; exact p1.elim
    | ok d st2 =>
      simp only [q] at p1
      cases d <;> (try exact p1.elim)
      intro ι2 H2 v s2 S2 rv
      cases rv
      refine ⟨rfl, ?_⟩
      simp only [] at p1
      split at p1
      · rename_i c' ns ds q2
        split at p1
        · rename_i hc
          obtain ⟨rfl, hb1, hb2⟩ := hc
          obtain ⟨⟨more, e3⟩, s3⟩ := back s2
          subst e3
          obtain ⟨tk, tl⟩ := take_rest q2
          have ha : (ι1 ++ (y :: more))[st1.length]? = some y := by rw [← S1.len, List.getElem?_append_right (by omega)]; simp
          obtain ⟨C2, dx2, fs2, ys, hC2, h2, e4, l2, r2⟩ := S2.look q2 ha
          rw [tk] at S2
          rw [← S1.len] at hb1 hb2 tl
          rw [← S1.len] at S2 p1
          refine p1.ok' s3 (S2.cut tl.symm hb2) ⟨y, C2, dx2, fs2, ys, rfl, hC2, h2, ⟨S1.fresh hy, S1.fr hy⟩, e4, l2, r2.cut hb1⟩
        · exact p1.elim
      · exact p1.elim
    | exc ex st2 =>
      simp only [q] at p1
      obtain ⟨kk, o⟩ := ex
      intro ι2 H2 c dd s2 S2 rex
      cases o with
      | none =>
        simp only [] at p1
        split at p1
        · rename_i ob q2
          split at p1
          · rename_i hc
            have hb2 := hc
            obtain ⟨⟨more, e3⟩, s3⟩ := back s2
            subst e3
            obtain ⟨tk, tl⟩ := take_rest q2
            rw [tk] at S2
            rw [← S1.len] at hb2 S2 p1 tl
            exact p1 ι1 H2 c dd s3 (S2.cut tl.symm hb2) rex
          · exact p1.elim
        · exact p1.elim
      | some fd =>
        obtain ⟨ff, d⟩ := fd
        simp only [] at p1
        split at p1
        · rename_i ob q2
          split at p1
          · rename_i hc
            obtain ⟨hb1, hb2⟩ := hc
            obtain ⟨⟨more, e3⟩, s3⟩ := back s2
            subst e3
            obtain ⟨tk, tl⟩ := take_rest q2
            rw [tk] at S2
            rw [← S1.len] at hb1 hb2 S2 p1 tl
            obtain ⟨C2, c1, c2, pp, vv, c3, c4, c5⟩ := rex
            exact p1 ι1 H2 c dd s3 (S2.cut tl.symm hb2) ⟨C2, c1, c2, pp, vv, c3, c4, c5.cut hb1⟩
          · exact p1.elim
        · exact p1.elim⟩
end
end DD

/-! DD10: zip of lists, tuples and texts in any mix. -/
namespace DD
open PySem L2 PyProof.Rows
variable [NMs]

inductive Sq where
  | L (a : Addr) (xs : List V)
  | T (a : Addr) (xs : List V)
  | S (x : Str)
namespace Sq
def holds (K : PySem.W.Frag) (H : Hp) : Sq → Prop
  | L a xs => SqL K H a xs
  | T a xs => SqT K H a xs
  | S _ => True
def ads : Sq → List Addr
  | L a _ => [a]
  | T a _ => [a]
  | S _ => []
def n : Sq → Nat
  | L _ xs => xs.length
  | T _ xs => xs.length
  | S x => x.cps.size
def at' : Sq → Nat → Option V
  | L _ xs, i => xs[i]?
  | T _ xs, i => xs[i]?
  | S x, i => x.cps[i]?.map fun c => .str ⟨#[c]⟩
def is : Sq → V → Prop
  | L a _, v => v = .ref a
  | T a _, v => v = .ref a
  | S x, v => v = .str x
def st (it : Addr) (t : Tok) (i : Nat) (h : Heap) : Sq → Prop
  | L a _ => h.IsListIter it a i
  | T a _ => h.IsTupleIter it a i
  | S x => h.IsStrIter it (strIterType x) x t i
theorem st_at {it : Addr} {t : Tok} {i : Nat} {h h' : Heap} {q : Sq} (x : q.st it t i h) (k : ∀ o, h.get? it = some o → h'.get? it = some o) : q.st it t i h' := by
  cases q with
  | L a xs => exact Heap.IsListIter.at x k
  | T a xs => exact Heap.IsTupleIter.at x k
  | S y => obtain ⟨o, e, r⟩ := x; exact ⟨o, k o e, r⟩
theorem st_obj {it : Addr} {t : Tok} {i : Nat} {h : Heap} {q : Sq} (x : q.st it t i h) : ∃ o, h.get? it = some o ∧ ∀ v, o.data ≠ .cell v := by
  cases q with
  | L a xs => obtain ⟨o, e, _, d⟩ := x; exact ⟨o, e, fun v z => by rw [d] at z; cases z⟩
  | T a xs => obtain ⟨o, e, _, d⟩ := x; exact ⟨o, e, fun v z => by rw [d] at z; cases z⟩
  | S y => obtain ⟨o, e, _, d⟩ := x; exact ⟨o, e, fun v z => by rw [d] at z; cases z⟩
variable {X : Cx} {pins : List (Addr × Obj)} {σ : L2.St} {H : Hp} {s : Shared}
theorem pack {it : Addr} {t : Tok} (q : Sq) (hc : X.calm = true) (I : Inv X pins σ H s) (h : q.holds X.K H) (hne : ∀ a ∈ q.ads, a ≠ it) : ∃ (P : Nat → Value → Prop) (St : Nat → Heap → Prop), Draws X.prog X.w X.A.in1 it (it :: q.ads) q.n P St ∧
    (∀ i, q.st it t i s.heap → St i s.heap) ∧ (∀ i h', St i h' → q.st it t i h') ∧ (∀ i u, P i u → ∃ x, q.at' i = some x ∧ RelV x u) := by
  have hh : X.A.in1.handled = none := I.ok.hd hc
  cases q with
  | L a xs =>
    obtain ⟨its, r, p, hz⟩ := I.list h
    have D := Draws.list (prog := X.prog) (w := X.w) hh it a (hne a (by simp [ads])) its.toArray
    rw [show its.toArray.size = (Sq.L a xs).n by rw [List.size_toArray]; exact r.length.symm] at D
    refine ⟨_, _, D, fun i x => ⟨x, p.isList⟩, fun i h' x => x.1, fun i u hu => ?_⟩
    have hi : i < its.length := by
      have := (Array.getElem?_eq_some_iff.mp hu).1
      simpa using this
    have hx : i < xs.length := by rw [r.length]; exact hi
    obtain ⟨w, e1, e2⟩ := r.get (List.getElem?_eq_getElem hx)
    have : w = u := by
      have hu' : its[i]? = some u := by simpa using hu
      exact Option.some.inj (e1.symm.trans hu')
    subst this
    exact ⟨_, List.getElem?_eq_getElem hx, e2⟩
  | T a xs =>
    obtain ⟨its, r, p, hz⟩ := I.tuple h
    have D := Draws.tuple (prog := X.prog) (w := X.w) hh it a (hne a (by simp [ads])) its.toArray
    rw [show its.toArray.size = (Sq.T a xs).n by rw [List.size_toArray]; exact r.length.symm] at D
    refine ⟨_, _, D, fun i x => ⟨x, p⟩, fun i h' x => x.1, fun i u hu => ?_⟩
    have hi : i < its.length := by
      have := (Array.getElem?_eq_some_iff.mp hu).1
      simpa using this
    have hx : i < xs.length := by rw [r.length]; exact hi
    obtain ⟨w, e1, e2⟩ := r.get (List.getElem?_eq_getElem hx)
    have : w = u := by
      have hu' : its[i]? = some u := by simpa using hu
      exact Option.some.inj (e1.symm.trans hu')
    subst this
    exact ⟨_, List.getElem?_eq_getElem hx, e2⟩
  | S x =>
    refine ⟨_, _, Draws.text hh it x t, fun i x => x, fun i h' x => x, fun i u hu => ?_⟩
    obtain ⟨c, tk, e1, rfl⟩ := hu
    exact ⟨.str ⟨#[c]⟩, by show x.cps[i]?.map _ = _; rw [e1]; rfl, ⟨tk, rfl⟩⟩
end Sq
def Itz2 (K : PySem.W.Frag) (q1 q2 : Sq) : It :=
  ⟨fun i H => q1.holds K H ∧ q2.holds K H ∧ i < q1.n ∧ i < q2.n, fun i H v H' => ∃ T x y, v = .ref T ∧ H T = none ∧ H' = upd H T (.tup [x, y]) ∧ q1.at' i = some x ∧ q2.at' i = some y,
    fun i H => q1.holds K H ∧ q2.holds K H ∧ (q1.n ≤ i ∨ q2.n ≤ i)⟩
theorem turn_zip2 {P : Program} {w : World} {K : PySem.W.Frag} {elts : List Expr} {kk : Nat} {tpos : Pos} {q1 q2 : Sq} {z TI TO i1 i2 : Addr} {t1 t2 : Tok} (D : ZipSep2 z TI TO i1 i2 (i1 :: q1.ads) (i2 :: q2.ads)) (n1 : ∀ a ∈ q1.ads, a ≠ i1) (n2 : ∀ a ∈ q2.ads, a ≠ i2) :
    Turn P w K (.Tuple elts kk tpos) (Itz2 K q1 q2) [z, TI, TO, i1, i2] z (fun i h => IsZip h z TI TO .none ∧ IsTupOf2 h TI (.ref i1) (.ref i2) ∧ (∃ x y, IsTupOf2 h TO x y) ∧ q1.st i1 t1 i h ∧ q2.st i2 t2 i h ∧ i ≤ q1.n ∧ i ≤ q2.n) where
  mem := by simp
  obj := fun i h st c hc => by
    obtain ⟨hz, hTI, ⟨x, y, hTO⟩, h1, h2, _⟩ := st
    have e' : c = z ∨ c = TI ∨ c = TO ∨ c = i1 ∨ c = i2 := by simpa using hc
    rcases e' with q | q | q | q | q
    · rw [q]; exact ⟨_, hz, fun v q => nomatch q⟩
    · rw [q]; exact ⟨_, hTI, fun v q => nomatch q⟩
    · rw [q]; exact ⟨_, hTO, fun v q => nomatch q⟩
    · rw [q]; exact Sq.st_obj h1
    · rw [q]; exact Sq.st_obj h2
  keep := fun i h h' st k => by
    obtain ⟨hz, hTI, ⟨x, y, hTO⟩, h1, h2, b1, b2⟩ := st
    exact ⟨k z (by simp) _ hz, k TI (by simp) _ hTI, ⟨x, y, k TO (by simp) _ hTO⟩, Sq.st_at h1 fun o q => k i1 (by simp) o q, Sq.st_at h2 fun o q => k i2 (by simp) o q, b1, b2⟩
  item := by
    intro X hP hw hK hc i pins s σ H E I hf st hg
    subst hP hw hK
    obtain ⟨hz, hTI, ⟨x0, y0, hTO⟩, h1, h2, b1, b2⟩ := st
    obtain ⟨g1, g2, l1, l2⟩ := hg
    obtain ⟨P1, St1, D1, in1, out1, ok1⟩ := Sq.pack (t := t1) q1 hc I g1 n1
    obtain ⟨P2, St2, D2, in2, out2, ok2⟩ := Sq.pack (t := t2) q2 hc I g2 n2
    have hzl : z < s.heap.objs.size := Heap.lt_size hz
    refine wpAny_pyNext_zipD2_item D D1 D2 hz hTI hTO (in1 i h1) (in2 i h2) l1 l2 fun u1 u2 h' tk p1 p2 z' TO' h1' h2' hT hsz hk => ?_
    obtain ⟨x, e1, r1⟩ := ok1 i u1 p1
    obtain ⟨y, e2, r2⟩ := ok2 i u2 p2
    refine ⟨_, rfl, wpAny_letOwnedTupleGo_zip (s := { s with heap := h', toks := tk }) z' fun h'' z'' sb => ?_⟩
    have hT2 : h''.get? s.heap.objs.size = some { cls := .type "tuple", data := .seq #[u1, u2] } := (sb.2 _ (Nat.ne_of_gt hzl)).trans hT
    have new : ObjOk X.prog X.w (upd H s.heap.objs.size (.tup [x, y])) h'' s.heap.objs.size (.tup [x, y]) :=
      ⟨by show 2 ≤ sizeLine; decide, [u1, u2], .cons r1 (.cons r2 .nil), ⟨_, hT2, rfl, _, rfl⟩⟩
    have I1 : Inv X pins σ (upd H s.heap.objs.size (.tup [x, y])) { s with heap := h'', toks := tk } :=
      I.turnedNew (t' := tk) (ch := [z, TI, TO, i1, i2]) (fun c o hb q => (sb.2 c (fun q' => hb (by simp [q']))).trans (hk c o (fun q' => hb (by simp [q'])) (fun q' => hb (by simp [q'])) (fun q' => hb (by simp [q'])) (fun q' => hb (by simp [q'])) q)) hf (Nat.le_refl _) new
    have ni1 : i1 ≠ z := fun e => D.zf1 (by rw [← e]; exact List.mem_cons_self)
    have ni2 : i2 ≠ z := fun e => D.zf2 (by rw [← e]; exact List.mem_cons_self)
    refine ⟨.ref s.heap.objs.size, _, I1, rfl, ⟨_, x, y, rfl, I.hok.fresh (Nat.le_refl _), rfl, e1, e2⟩, ⟨z'', ?_, ⟨u1, u2, ?_⟩, ?_, ?_, l1, l2⟩, fun c hcm => ?_⟩
    · exact (sb.2 _ D.TIz).trans (hk _ _ D.TIz D.TITO D.TIi1 D.TIi2 hTI)
    · exact (sb.2 _ D.TOz).trans TO'
    · exact Sq.st_at (out1 _ _ h1') fun o q => (sb.2 _ ni1).trans q
    · exact Sq.st_at (out2 _ _ h2') fun o q => (sb.2 _ ni2).trans q
    · have hlt : c < s.heap.objs.size := by
        have e' : c = z ∨ c = TI ∨ c = TO ∨ c = i1 ∨ c = i2 := by simpa using hcm
        rcases e' with q | q | q | q | q
        · rw [q]; exact hzl
        · rw [q]; exact Heap.lt_size hTI
        · rw [q]; exact Heap.lt_size hTO
        · rw [q]; obtain ⟨_, e1, _⟩ := Sq.st_obj h1; exact Heap.lt_size e1
        · rw [q]; obtain ⟨_, e2, _⟩ := Sq.st_obj h2; exact Heap.lt_size e2
      rw [upd_ne (Nat.ne_of_lt hlt)]
      exact (hf c hcm).1
  done := by
    intro X hP hw hK hc i pins s σ H E I hf st hg
    subst hP hw hK
    obtain ⟨hz, hTI, ⟨x0, y0, hTO⟩, h1, h2, b1, b2⟩ := st
    obtain ⟨g1, g2, hend⟩ := hg
    obtain ⟨P1, St1, D1, in1, out1, ok1⟩ := Sq.pack (t := t1) q1 hc I g1 n1
    obtain ⟨P2, St2, D2, in2, out2, ok2⟩ := Sq.pack (t := t2) q2 hc I g2 n2
    exact wpAny_pyNext_zipD2_end D D1 D2 hz hTI hTO (in1 i h1) (in2 i h2) b1 b2 (by omega) fun h' tk hk => ⟨rfl, I.turnedL (t' := tk) (ch := [z, TI, TO, i1, i2]) (fun c o hb q =>
      hk c o (fun q' => hb (by simp [q'])) (fun q' => hb (by simp [q'])) (fun q' => hb (by simp [q'])) (fun q' => hb (by simp [q'])) q) hf⟩
  self := fun A i s Q E st h => wpAny_pyIter_zip st.1 h
/-! ### the rule -/
section
variable {X : Cx} {W : WX} {e e2 : Expr} {p pos tpos : Pos} {elts : List Expr} {kk : Nat} {ta : TA} {ds : DA}
def iZip2 (K : PySem.W.Frag) (ta : TA) : TI := fun σ H R => ta σ H fun vs H1 => ∃ (v1 v2 : V) (q1 q2 : Sq), vs = [v1, v2] ∧ q1.is v1 ∧ q2.is v2 ∧ q1.holds K H1 ∧ q2.holds K H1 ∧ R (Itz2 K q1 q2) H1
/-- how an iterator over it begins -/
theorem Sq.begins {pins : List (Addr × Obj)} {σ : L2.St} {H : Hp} {s : Shared} (q : Sq) (I : Inv X pins σ H s) (h : q.holds X.K H) {v : V} {u : Value} (hv : q.is v) (r : RelV v u) :
    ∃ (o : Obj) (Hh : Heap → Prop) (t : Tok), Begins u o Hh ∧ Hh s.heap ∧ (∀ it h', h'.get? it = some o → q.st it t 0 h') ∧ ∀ a ∈ q.ads, a < s.heap.objs.size := by
  cases q with
  | L a xs =>
    cases (show v = .ref a from hv)
    cases r
    obtain ⟨its, r, p, hz⟩ := I.list h
    exact ⟨_, _, 0, begins_list a its.toArray, p.isList, fun it h' e => ⟨_, e, rfl, rfl⟩, fun b hb => by
      have : b = a := by simpa [Sq.ads] using hb
      rw [this]; exact p.lt⟩
  | T a xs =>
    cases (show v = .ref a from hv)
    cases r
    obtain ⟨its, r, p, hz⟩ := I.tuple h
    exact ⟨_, _, 0, begins_tuple a its.toArray, p, fun it h' e => ⟨_, e, rfl, rfl⟩, fun b hb => by
      have : b = a := by simpa [Sq.ads] using hb
      rw [this]; exact p.lt⟩
  | S x =>
    cases (show v = .str x from hv)
    obtain ⟨t, rfl⟩ := r
    exact ⟨_, _, t, begins_text x t, trivial, fun it h' e => ⟨_, e, rfl, rfl⟩, fun b hb => by cases hb⟩
theorem pi_zip2 (hg : Gl X "zip") (hm : X.mg "zip" = none) (ha : PA X [e, e2] ta)
    (hs : starEach [e, e2] X.env = (false, eval e X.env) :: starEach [e2] X.env := by rfl) (hpl : (backTo pos (starEach [e2] X.env)).any (·.1) = false := by rfl) :
    PI X (.Tuple elts kk tpos) (.Call (.Name "zip" p) [e, e2] [] pos) (iZip2 X.K ta) := by
  refine ⟨fun pins s σ H R I h => ?_⟩
  refine Call_ (ld_blt I hg hm PyProof.Rows.boot_zip (PyProof.Rows.callWith_type1 (thn (ha.run pos pins s σ H _ I h) fun us s1 ⟨vs, H1, I1, r1, q1⟩ => ?_) hs hpl))
  obtain ⟨v1, v2, s1', s2', ev, i1, i2, g1, g2, q⟩ := q1
  subst ev
  cases r1 with
  | cons r rr =>
    cases rr with
    | cons r' rr =>
      cases rr
      obtain ⟨o1, Hh1, t1, B1, b1, st1, a1⟩ := Sq.begins s1' I1 g1 i1 r
      obtain ⟨o2, Hh2, t2, B2, b2, st2, a2⟩ := Sq.begins s2' I1 g2 i2 r'
      refine zip_begins2 B1 B2 b1 b2 fun h' hz hTI hTO e1 e2 hsz hk => wpAny_pyIter_zip hz ?_
      have I2 : Inv X pins σ H1 { s1 with heap := h' } := I1.kept (t' := s1.toks) hk
      refine ⟨s1.heap.objs.size + 4, [s1.heap.objs.size + 4, s1.heap.objs.size + 2, s1.heap.objs.size + 3, s1.heap.objs.size, s1.heap.objs.size + 1], _, _, H1, rfl, I2,
        turn_zip2 (t1 := t1) (t2 := t2) (zip_sep2 a1 a2) (fun a ha => Nat.ne_of_lt (a1 a ha)) (fun a ha => Nat.ne_of_lt (Nat.lt_succ_of_lt (a2 a ha))), ⟨hz, hTI, ⟨_, _, hTO⟩, st1 _ _ e1, st2 _ _ e2, Nat.zero_le _, Nat.zero_le _⟩, fun c hcm => ?_, q⟩
      have e' : c = s1.heap.objs.size + 4 ∨ c = s1.heap.objs.size + 2 ∨ c = s1.heap.objs.size + 3 ∨ c = s1.heap.objs.size ∨ c = s1.heap.objs.size + 1 := by simpa using hcm
      have hle : s1.heap.objs.size ≤ c := by
        rcases e' with z | z | z | z | z
        · rw [z]; exact Nat.le_add_right _ _
        · rw [z]; exact Nat.le_add_right _ _
        · rw [z]; exact Nat.le_add_right _ _
        · rw [z]; exact Nat.le_refl _
        · rw [z]; exact Nat.le_add_right _ _
      exact I1.fpOk hle (I1.hok.fresh hle)
/-- what zip goes over -/
def seqD : D → Option (List D)
  | .fz ds => some ds
  | .sc ds => some ds
  | .tup ds => some ds
  | .str x => some (signs x)
  | _ => none
def pairsD : List D → List D → List D
  | x :: xs, y :: ys => .tup [x, y] :: pairsD xs ys
  | _, _ => []
theorem pairs_length : ∀ (xs ys : List D), (pairsD xs ys).length = min xs.length ys.length
  | [], _ => by simp [pairsD]
  | _ :: _, [] => by simp [pairsD]
  | _ :: xs, _ :: ys => by simp [pairsD, pairs_length xs ys]
theorem pairs_get : ∀ {xs ys : List D} {i : Nat} {d : D}, (pairsD xs ys)[i]? = some d → ∃ x y, xs[i]? = some x ∧ ys[i]? = some y ∧ d = .tup [x, y]
  | [], _, _, _, e => by simp [pairsD] at e
  | _ :: _, [], _, _, e => by simp [pairsD] at e
  | x :: xs, y :: ys, 0, d, e => by simp [pairsD] at e; exact ⟨x, y, rfl, rfl, e.symm⟩
  | x :: xs, y :: ys, i + 1, d, e => by
    simp only [pairsD, List.getElem?_cons_succ] at e
    obtain ⟨a, b, h1, h2, h3⟩ := pairs_get e
    exact ⟨a, b, by simpa using h1, by simpa using h2, h3⟩
def dZip (ds : DA) : DI := fun env st => (ds env st).bind fun xs st1 => match xs with
  | [x, y] => match seqD x, seqD y with
    | some as, some bs => .ok (pairsD as bs, yes) st1
    | _, _ => .bad
  | _ => .bad
/-- the source of a thing by value, good for all time -/
theorem sq_of_seq {B : Bs} {H : Hp} {ι : List Addr} {d : D} {v : V} {ds : List D} (r : VR B H ι d v) (h : seqD d = some ds) : ∃ q : Sq, q.is v ∧ q.n = ds.length ∧ (∀ ι' H', Step ι H ι' H' → q.holds B.K H') ∧
    (∀ i d', ds[i]? = some d' → ∃ x, q.at' i = some x ∧ VR B H ι d' x) := by
  cases d with
  | str x =>
    cases r; cases h
    refine ⟨.S x, rfl, by simp [Sq.n, signs], fun _ _ _ => trivial, fun i d' e => ?_⟩
    unfold signs at e
    rw [List.getElem?_map, Array.getElem?_toList] at e
    cases q : x.cps[i]? with
    | none => rw [q] at e; cases e
    | some c => rw [q] at e; cases e; exact ⟨.str ⟨#[c]⟩, by show x.cps[i]?.map _ = _; rw [q]; rfl, rfl⟩
  | tup es =>
    obtain ⟨a, xs, rfl, h1, r1⟩ := r; cases h
    exact ⟨.T a xs, rfl, r1.length.symm, fun _ _ s => (h1.step s).sq, fun i d' e => r1.get e⟩
  | fz es =>
    obtain ⟨a, xs, rfl, h1, m, r1⟩ := r; cases h
    exact ⟨.L a xs, rfl, r1.length.symm, fun _ _ s => SqL.of (s.rest _ _ m.1 h1), fun i d' e => r1.get e⟩
  | sc es =>
    obtain ⟨a, xs, rfl, h1, r1⟩ := r; cases h
    exact ⟨.L a xs, rfl, r1.length.symm, fun _ _ s => (h1.step s).sq, fun i d' e => r1.get e⟩
  | _ => cases h
theorem pid_zip (hg : Gl X "zip") (hm : X.mg "zip" = none) (ha : PAd X W [e, e2] ds)
    (hs : starEach [e, e2] X.env = (false, eval e X.env) :: starEach [e2] X.env := by rfl) (hpl : (backTo pos (starEach [e2] X.env)).any (·.1) = false := by rfl) :
    PId X W (.Tuple elts kk tpos) (.Call (.Name "zip" p) [e, e2] [] pos) (dZip ds) :=
  PI.mono (pi_zip2 hg hm ha hs hpl) fun σ H R ⟨ρ, ι, st, env, S, ve, p⟩ => ⟨ρ, ι, st, env, S, ve, Post.bind p fun xs st1 ι1 H1 vs s1 S1 rx p1 => by
    split at p1
    · rename_i x y
      obtain ⟨v, w, rfl, h1, h2⟩ := vr2 rx
      split at p1
      · rename_i as bs e1 e2
        obtain ⟨q1, is1, l1, g1, k1⟩ := sq_of_seq h1 e1
        obtain ⟨q2, is2, l2, g2, k2⟩ := sq_of_seq h2 e2
        refine ⟨v, w, q1, q2, rfl, is1, is2, g1 _ _ (Step.refl _ _), g2 _ _ (Step.refl _ _), p1.ok S1 ⟨?_, rfl⟩⟩
        refine ⟨fun ρ' i ι' H' st' f s S k hi => ?_, fun ρ' i d ι' H' st' v H'' f s S k hd hy => ?_, fun ρ' i ι' H' st' f s S k hi => ?_⟩
        · have hi : i < (pairsD as bs).length := hi
          rw [pairs_length] at hi
          exact ⟨g1 _ _ s, g2 _ _ s, by omega, by omega⟩
        · obtain ⟨T, a, b, rfl, hT, rfl, ha, hb⟩ := hy
          obtain ⟨d1, d2, c1, c2, rfl⟩ := pairs_get hd
          obtain ⟨a', ea, ra⟩ := k1 i d1 c1
          obtain ⟨b', eb, rb⟩ := k2 i d2 c2
          rw [ha] at ea; cases ea
          rw [hb] at eb; cases eb
          have sn : Step ι' H' ι' (upd H' T (.tup [a, b])) := Step.new S hT
          exact ⟨sn, S.new hT, T, [a, b], rfl, .inl ⟨.inl upd_same, S.fresh hT, S.fr hT⟩, ⟨a, [b], rfl, ((ra.fine f).step s).step sn, b, [], rfl, ((rb.fine f).step s).step sn, rfl⟩⟩
        · have hi : (pairsD as bs).length ≤ i := hi
          rw [pairs_length] at hi
          exact ⟨g1 _ _ s, g2 _ _ s, by omega⟩
      · exact p1.elim
    · exact p1.elim⟩
end
end DD

/-! DD11: == of data; text methods that may fail; statements never reached. -/
namespace DD
open PySem L2 PyProof.Rows
variable [NMs]

mutual
/-- a thing as data, without the store -/
def toPy0 : D → Option PyData
  | .non => some .none
  | .bl b => some (.bool b)
  | .int i => some (.int i)
  | .str x => some (.str x)
  | .tup ds => (toPys0 ds).map .tuple
  | .fz ds => (toPys0 ds).map .list
  | .sc ds => (toPys0 ds).map .list
  | _ => none
def toPys0 : List D → Option (List PyData)
  | [] => some []
  | d :: ds => match toPy0 d, toPys0 ds with
    | some x, some xs => some (x :: xs)
    | _, _ => none
end
mutual
def toPy (st : Sto) : D → Option PyData
  | .non => some .none
  | .bl b => some (.bool b)
  | .int i => some (.int i)
  | .str x => some (.str x)
  | .tup ds => (toPys st ds).map .tuple
  | .fz ds => (toPys st ds).map .list
  | .sc ds => (toPys st ds).map .list
  | .ref n => match st[n]? with
    | some (.lst ds) => (toPys0 ds).map .list
    | _ => none
  | _ => none
def toPys (st : Sto) : List D → Option (List PyData)
  | [] => some []
  | d :: ds => match toPy st d, toPys st ds with
    | some x, some xs => some (x :: xs)
    | _, _ => none
end
section
variable {B : Bs} {H : Hp} {ι : List Addr} {st : Sto}
mutual
theorem dp0 : ∀ {d : D} {v : V} {p : PyData}, VR B H ι d v → toPy0 d = some p → Dp B.K H v p
  | .non, _, _, h, e => by cases h; cases e; exact .non
  | .bl _, _, _, h, e => by cases h; cases e; exact .bl _
  | .int _, _, _, h, e => by cases h; cases e; exact .int _
  | .str _, _, _, h, e => by cases h; cases e; exact .str _
  | .tup ds, _, _, ⟨a, xs, e1, h, r⟩, e => by
    subst e1
    simp only [toPy0, Option.map_eq_some_iff] at e
    obtain ⟨ps, e2, rfl⟩ := e
    exact .tup h.sq (dps0 r e2)
  | .fz ds, _, _, ⟨a, xs, e1, h, m, r⟩, e => by
    subst e1
    simp only [toPy0, Option.map_eq_some_iff] at e
    obtain ⟨ps, e2, rfl⟩ := e
    exact .lst (SqL.of h) (dps0 r e2)
  | .sc ds, _, _, ⟨a, xs, e1, h, r⟩, e => by
    subst e1
    simp only [toPy0, Option.map_eq_some_iff] at e
    obtain ⟨ps, e2, rfl⟩ := e
    exact .lst h.sq (dps0 r e2)
  | .fd _ _, _, _, _, e => nomatch e
  | .obj _ _ _, _, _, _, e => nomatch e
  | .lam _ _ _, _, _, _, e => nomatch e
  | .ty _, _, _, _, e => nomatch e
  | .ref _, _, _, _, e => nomatch e
theorem dps0 : ∀ {ds : List D} {vs : List V} {ps : List PyData}, VRs B H ι ds vs → toPys0 ds = some ps → DpAll B.K H vs ps
  | [], _, _, h, e => by cases h; cases e; exact .nil
  | d :: ds, _, _, ⟨x, r, e1, h, t⟩, e => by
    subst e1
    simp only [toPys0] at e
    split at e
    · rename_i y ys q1 q2
      cases e
      exact .cons (dp0 h q1) (dps0 t q2)
    · cases e
end
mutual
theorem dp (S : Sim B H ι st) : ∀ {d : D} {v : V} {p : PyData}, VR B H ι d v → toPy st d = some p → Dp B.K H v p
  | .non, _, _, h, e => by cases h; cases e; exact .non
  | .bl _, _, _, h, e => by cases h; cases e; exact .bl _
  | .int _, _, _, h, e => by cases h; cases e; exact .int _
  | .str _, _, _, h, e => by cases h; cases e; exact .str _
  | .tup ds, _, _, ⟨a, xs, e1, h, r⟩, e => by
    subst e1
    simp only [toPy, Option.map_eq_some_iff] at e
    obtain ⟨ps, e2, rfl⟩ := e
    exact .tup h.sq (dps S r e2)
  | .fz ds, _, _, ⟨a, xs, e1, h, m, r⟩, e => by
    subst e1
    simp only [toPy, Option.map_eq_some_iff] at e
    obtain ⟨ps, e2, rfl⟩ := e
    exact .lst (SqL.of h) (dps S r e2)
  | .sc ds, _, _, ⟨a, xs, e1, h, r⟩, e => by
    subst e1
    simp only [toPy, Option.map_eq_some_iff] at e
    obtain ⟨ps, e2, rfl⟩ := e
    exact .lst h.sq (dps S r e2)
  | .ref n, _, _, ⟨a, ha, e1⟩, e => by
    subst e1
    simp only [toPy] at e
    split at e
    · rename_i ds q
      simp only [Option.map_eq_some_iff] at e
      obtain ⟨ps, e2, rfl⟩ := e
      obtain ⟨xs, h, r⟩ := S.look q ha
      exact .lst (SqL.of h) (dps0 r e2)
    · cases e
  | .fd _ _, _, _, _, e => nomatch e
  | .obj _ _ _, _, _, _, e => nomatch e
  | .lam _ _ _, _, _, _, e => nomatch e
  | .ty _, _, _, _, e => nomatch e
theorem dps (S : Sim B H ι st) : ∀ {ds : List D} {vs : List V} {ps : List PyData}, VRs B H ι ds vs → toPys st ds = some ps → DpAll B.K H vs ps
  | [], _, _, h, e => by cases h; cases e; exact .nil
  | d :: ds, _, _, ⟨x, r, e1, h, t⟩, e => by
    subst e1
    simp only [toPys] at e
    split at e
    · rename_i y ys q1 q2
      cases e
      exact .cons (dp S h q1) (dps S t q2)
    · cases e
end
end
section
variable {K : PySem.W.Frag} {mg : Str → Option Value}
def fEq (neg : Bool) : F2 := fun x y st => match toPy st x, toPy st y with
  | some p, some q => if SeqAt.shaped p = true ∧ SeqAt.shaped q = true then .ok (.bl (if neg then !PyData.eqv p q else PyData.eqv p q)) st else .bad
  | _, _ => .bad
theorem rd_eq : RD K mg (rEqD K) (fEq false) := by
  intro ρ ι H st x y v u W σ Q S rx ry p
  unfold fEq at p
  split at p
  · rename_i a b e1 e2
    split at p
    · rename_i h
      exact ⟨a, b, dp S rx e1, dp S ry e2, h.1, h.2, p.ok S rfl⟩
    · exact p.elim
  · exact p.elim
theorem rd_ne : RD K mg (rNeD K) (fEq true) := by
  intro ρ ι H st x y v u W σ Q S rx ry p
  unfold fEq at p
  split at p
  · rename_i a b e1 e2
    split at p
    · rename_i h
      exact ⟨a, b, dp S rx e1, dp S ry e2, h.1, h.2, p.ok S rfl⟩
    · exact p.elim
  · exact p.elim
end
/-! ### a statement that is never reached -/
def dNever : DS := fun _ _ => .bad
theorem psd_never {X : Cx} {W : WX} {s : Stmt} : PSd X W s dNever := ⟨fun p s σ H D I ⟨ρ, ι, st, env, S, ve, q⟩ => q.elim⟩
/-! ### s.index(t), t is in it -/
section
variable {X : Cx} {W : WX} {o e : Expr} {dx : DE} {ds : DA} {apos cpos : Pos}
def fIndex : FM := fun x xs st => match x, xs with
  | .str a, [.str b] => match Txt.index0 a b with
    | some k => .ok (.int (k : Nat)) st
    | none => .bad
  | _, _ => .bad
theorem pd_index (hc : X.calm = true) (tk : Takes X W) (ho : PEd X W o dx) (ha : PAd X W [e] ds)
    (hbase : attributeBase o "index" X.env (eval o X.env) = eval o X.env := by rfl)
    (hfew : ((backTo cpos (starEach [e] X.env)).all (fun x => !x.1) && (backToKw cpos (keywordEach [] X.env)).all (fun x => x.1.isSome)
      && decide ([e].length + ([] : List Keyword).length + (if ([] : List Keyword).isEmpty then 0 else 1) < 30)) = true := by rfl)
    (hline : (apos.endLine == cpos.line) = true := by rfl) (hs : starEach [e] X.env = (false, eval e X.env) :: starEach [] X.env := by rfl) (hplain : (backTo cpos (starEach [] X.env)).any (·.1) = false := by rfl) :
    PEd X W (.Call (.Attribute o "index" apos) [e] [] cpos) (dMeth isStr fIndex dx ds) :=
  PE.mono (pe_bmS PySem.F.plainAttrs_str PySem.F.slot_str_index PySem.F.type_str_index (mt_indexX hc tk) ho ha hbase hfew hline hs hplain) fun σ H Q ⟨ρ, ι, st, env, S, ve, p⟩ => ⟨ρ, ι, st, env, S, ve, Post.bind p fun x st1 ι1 H1 v s1 S1 rx p1 => by
    by_cases hk : isStr x st1 = true
    · simp only [hk, if_true] at p1
      refine ⟨isStr_ty S1 rx hk, ρ, ι1, st1, env, S1, ve.step s1, Post.bind p1 fun xs st2 ι2 H2 vs s2 S2 rxs p2 => ?_⟩
      unfold fIndex at p2
      split at p2
      · rename_i a b
        cases rx
        obtain ⟨w, rfl, hw⟩ := vr1 rxs
        cases hw
        split at p2
        · rename_i k ek
          exact ⟨a, b, rfl, rfl, fun k' e' => by rw [ek] at e'; cases e'; exact p2.ok S2 rfl, fun e' => by rw [ek] at e'; cases e'⟩
        · exact p2.elim
      · exact p2.elim
    · simp only [hk, if_false] at p1; exact p1.elim⟩
end
end DD

/-! DD12: the end: a law that gives True for each list of integers. -/
namespace DD
open PySem L2 PyProof.Rows LamX
variable [NMs]
/-- the tables of code objects at the start -/
def Tb0 (K : PySem.W.Frag) (H : Hp) : Prop := Tabs (NMs.T K) H
def spLaw (K : PySem.W.Frag) : Sp := fun vs H Q _ => ∃ a, ∃ ns : List Int, vs = [.ref a] ∧ SqL K H a (ns.map V.int) ∧ ns.length ≤ 63 ∧ Tb0 K H ∧ ∀ H', Q (.bl true) H'
theorem vrs_ints {B : Bs} {H : Hp} {ι : List Addr} : ∀ ns : List Int, VRs B H ι (ns.map D.int) (ns.map V.int)
  | [] => rfl
  | n :: r => ⟨_, _, rfl, rfl, vrs_ints r⟩
theorem law_imp {K : PySem.W.Frag} {mg : Str → Option Value} {m : M} (ok : ∀ ns : List Int, ns.length ≤ 63 → ∃ st', m [.sc (ns.map .int)] [] = .ok (.bl true) st') {vs : List V} {H : Hp} {Q : VK} {E : XK} (h : spLaw K vs H Q E) : spD K mg m 1 vs H Q E := by
  obtain ⟨a, ns, rfl, hs, hl, tb, hq⟩ := h
  refine ⟨rfl, [], [], [], [.sc (ns.map .int)], ⟨rfl, List.nodup_nil, fun n o e => by simp at e, fun a ha => by simp at ha, tb, fun a ha => by simp at ha⟩, ⟨_, _, rfl, ⟨a, _, rfl, hs.elim (fun x => .inl ⟨x, by simp, by simp⟩) .inr, vrs_ints ns⟩, rfl⟩, ?_⟩
  obtain ⟨st', e⟩ := ok ns hl
  rw [e]
  intro ι1 H1 v s S q
  cases (show v = V.bl true from q)
  exact hq H1
theorem noExc {P : Program} {w : World} {H : Hp} {s : Shared} {e : Value} {s' : Shared} (h : L2.CX P w [] H s (fun _ _ _ => False) e s') : False := by
  obtain ⟨_, _, _, _, _, _, _, _, _, _, _, _, z⟩ := h
  exact z.elim
theorem walk_ofD {l : PySem.W.OpenLaw} {k : Nat} {q : Program} {loose : List Str} {XP : (Str → Option Value) → Heap → Prop} {YP : World → Heap → Prop} {d : DefRec} {K : Params → PySem.W.Frag}
    (hnd : ∀ K, NMs.T K = []) (hn : l.most = some 63) (hdf : d.params.defaults = []) (hr : Room k callerA)
    (hY : ∀ (w : World) (h : Heap), YP w h → (K w.params).In h)
    (F : ∀ (w : World) (mg : Str → Option Value) (fa : Addr) (h : Heap), (K w.params).In h → h.Ns mainGlobals mg → mg d.name = some (.ref fa) →
      ∃ fd : FuncData, (∀ (s : Shared) (u : Value), BindsTo s fd ⟨[u], []⟩ [("script", u)]) ∧
        ∀ base : Heap, (K w.params).In base → base.Ns mainGlobals mg → FnOk l.prog w (K w.params) mg base (L2.CX l.prog w) k fa fd ["script"] (spLaw (K w.params))) :
    PySem.W.WalkO q loose XP YP l.row.toRowW d [] (fun f vs => PySem.call f vs) :=
  walk_of (l := l) (n := 63) (k := k) (x := "script") (CX := fun w => L2.CX l.prog w) (sp := fun w => spLaw (K w.params)) hn (by decide) hdf hr hY F (fun w H a ns hl hO hS => ⟨a, ns, rfl, hS, hl, (by unfold Tb0; rw [hnd]; exact fun p hp => absurd hp (by simp)), fun _ => rfl⟩) (fun w _ s e s' h => noExc h)
end DD

/-! DD13: equations to run what a def means. -/
namespace DD
open PySem L2 PyProof.Rows
variable [NMs]
section
variable {da db dc : DE} {t u : DT} {ds : DA} {d1 d2 : DS} {env : Env} {st : Sto} {f g : F2} {i : Nat}
def ResS.andS (r : ResS) (d : DS) : ResS := match r with
  | .nx env1 st1 => d env1 st1
  | r => r
@[simp] theorem andS_nx {d : DS} : (ResS.nx env st).andS d = d env st := rfl
@[simp] theorem andS_rt {x : D} {d : DS} : (ResS.rt x st).andS d = .rt x st := rfl
@[simp] theorem andS_bk {d : DS} : (ResS.bk env st).andS d = .bk env st := rfl
@[simp] theorem andS_ct {d : DS} : (ResS.ct env st).andS d = .ct env st := rfl
@[simp] theorem andS_exc {x : Xc} {d : DS} : (ResS.exc x env st).andS d = .exc x env st := rfl
@[simp] theorem andS_bad {d : DS} : (ResS.bad).andS d = .bad := rfl
def ResS.fin (r : ResS) : Res D := match r with
  | .nx _ st' => .ok .non st'
  | .rt x st' => .ok x st'
  | .exc x _ st' => .exc x st'
  | _ => .bad
@[simp] theorem fin_nx : (ResS.nx env st).fin = .ok .non st := rfl
@[simp] theorem fin_rt {x : D} : (ResS.rt x st).fin = .ok x st := rfl
@[simp] theorem fin_exc {x : Xc} : (ResS.exc x env st).fin = .exc x st := rfl
@[simp] theorem fin_bad : (ResS.bad).fin = .bad := rfl
theorem mOf_e {d : DS} {N : Nat} {ds : List D} : mOf d N ds st = (d (ds.map some ++ List.replicate (N - ds.length) none) st).fin := by
  unfold mOf ResS.fin; cases d (ds.map some ++ List.replicate (N - ds.length) none) st <;> rfl
@[simp] theorem dSeq_e : dSeq d1 d2 env st = (d1 env st).andS d2 := rfl
@[simp] theorem dNext_e : dNext env st = .nx env st := rfl
@[simp] theorem dBreak_e : dBreak env st = .bk env st := rfl
@[simp] theorem dCont_e : dCont env st = .ct env st := rfl
@[simp] theorem dExpr_e : dExpr da env st = (da env st).bindS env fun _ st1 => .nx env st1 := rfl
@[simp] theorem dRet_e : dRet da env st = (da env st).bindS env fun x st1 => .rt x st1 := rfl
@[simp] theorem dRetN_e : dRetN env st = .rt .non st := rfl
@[simp] theorem dIfS_e : dIfS t d1 d2 env st = (t env st).bindS env fun k st1 => if k = true then d1 env st1 else d2 env st1 := rfl
@[simp] theorem dSet_e : dSet i da env st = (da env st).bindS env fun x st1 => .nx (env.set i (some x)) st1 := rfl
def gdRes (o : Option Env) (st : Sto) : ResS := match o with
  | some env1 => .nx env1 st
  | none => .bad
@[simp] theorem gdRes_some : gdRes (some env) st = .nx env st := rfl
@[simp] theorem dAsg_e {g : DG} : dAsg da g env st = (da env st).bindS env fun x st1 => gdRes (g x env) st1 := rfl
@[simp] theorem gdName_e {x : D} : gdName i x env = some (env.set i (some x)) := rfl
@[simp] theorem gdTup_e {n : Nat} {gs : DGs} {ds : List D} : gdTup n gs (.tup ds) env = if ds.length = n then gs ds env else none := rfl
@[simp] theorem gdNil_e : gdNil [] env = some env := rfl
@[simp] theorem gdCons_e {g : DG} {gs : DGs} {x : D} {r : List D} : gdCons g gs (x :: r) env = (g x env).bind fun env1 => gs r env1 := rfl
def opR (o : Option (Option D)) (st : Sto) : Res D := match o with
  | some (some d) => .ok d st
  | _ => .bad
@[simp] theorem opR_some {d : D} : opR (some (some d)) st = .ok d st := rfl
@[simp] theorem dVar_e : dVar i env st = opR env[i]? st := rfl
@[simp] theorem dC_e {d : D} : dC d env st = .ok d st := rfl
@[simp] theorem dBin_e : dBin f da db env st = (da env st).bind fun x st1 => (db env st1).bind fun y st2 => f x y st2 := rfl
@[simp] theorem dUn_e {f : F1} : dUn f da env st = (da env st).bind fun x st1 => f x st1 := rfl
@[simp] theorem dNil_e : dNil env st = .ok [] st := rfl
@[simp] theorem dCons_e : dCons da ds env st = (da env st).bind fun x st1 => (ds env st1).bind fun xs st2 => .ok (x :: xs) st2 := rfl
@[simp] theorem dTup_e : dTup ds env st = (ds env st).bind fun xs st1 => if xs.length ≤ bigLine then .ok (.tup xs) st1 else .bad := rfl
@[simp] theorem dLst_e : dLst ds env st = (ds env st).bind fun xs st1 => if xs.length ≤ bigLine then .ok xs st1 else .bad := rfl
@[simp] theorem dFz_e : dFz ds env st = (ds env st).bind fun xs st1 => .ok (.fz xs) st1 := rfl
@[simp] theorem dNew_e : dNew ds env st = (ds env st).bind fun xs st1 => .ok (.ref st1.length) (st1 ++ [.lst xs]) := rfl
def tstR (x : D) (st : Sto) : Res Bool := match x with
  | .bl k => .ok k st
  | _ => .bad
@[simp] theorem tstR_bl {k : Bool} : tstR (.bl k) st = .ok k st := rfl
@[simp] theorem dTst_e : dTst da env st = (da env st).bind tstR := rfl
def truR (o : Option Bool) (st : Sto) : Res Bool := match o with
  | some k => .ok k st
  | none => .bad
@[simp] theorem truR_some {k : Bool} : truR (some k) st = .ok k st := rfl
@[simp] theorem dTru_e : dTru da env st = (da env st).bind fun x st1 => truR (tru x st1) st1 := rfl
@[simp] theorem tru_bl {k : Bool} : tru (.bl k) st = some k := rfl
@[simp] theorem dAnd_e : dAnd t u env st = (t env st).bind fun k st1 => if k = true then u env st1 else .ok false st1 := rfl
@[simp] theorem dOr_e : dOr t u env st = (t env st).bind fun k st1 => if k = true then .ok true st1 else u env st1 := rfl
@[simp] theorem dNot_e : dNot t env st = (t env st).bind fun k st1 => .ok (!k) st1 := rfl
@[simp] theorem dIf_e : dIf t da db env st = (t env st).bind fun k st1 => if k = true then da env st1 else db env st1 := rfl
def andR (x : D) (r : Res D) (st : Sto) : Res D := match x with
  | .bl true => r
  | .bl false => .ok (.bl false) st
  | _ => .bad
@[simp] theorem andR_bl {k : Bool} {r : Res D} : andR (.bl k) r st = if k = true then r else .ok (.bl false) st := by cases k <;> rfl
@[simp] theorem dAndV_e : dAndV da db env st = (da env st).bind fun x st1 => andR x (db env st1) st1 := rfl
def orR (x : D) (r : Res D) (st : Sto) : Res D := match x with
  | .bl true => .ok (.bl true) st
  | .bl false => r
  | _ => .bad
@[simp] theorem orR_bl {k : Bool} {r : Res D} : orR (.bl k) r st = if k = true then .ok (.bl true) st else r := by cases k <;> rfl
@[simp] theorem dOrV_e : dOrV da db env st = (da env st).bind fun x st1 => orR x (db env st1) st1 := rfl
def notR (x : D) (st : Sto) : Res D := match x with
  | .bl k => .ok (.bl (!k)) st
  | _ => .bad
@[simp] theorem notR_bl {k : Bool} : notR (.bl k) st = .ok (.bl (!k)) st := rfl
@[simp] theorem dNotV_e : dNotV da env st = (da env st).bind notR := rfl
@[simp] theorem dChain_e : dChain f g da db dc env st = (da env st).bind fun x st1 => (db env st1).bind fun y st2 => (f x y st2).bind fun z st3 => andR z ((dc env st3).bind fun w st4 => g y w st4) st3 := rfl
@[simp] theorem dCall_e {f : FC} : dCall f ds env st = (ds env st).bind fun xs st1 => f xs st1 := rfl
@[simp] theorem dOwn_e {m : M} {n : Nat} : dOwn m n ds env st = (ds env st).bind fun xs st1 => if xs.length = n then m xs st1 else .bad := rfl
@[simp] theorem dMeth_e {ok : D → Sto → Bool} {f : FM} : dMeth ok f da ds env st = (da env st).bind fun x st1 => if ok x st1 = true then (ds env st1).bind fun xs st2 => f x xs st2 else .bad := rfl
@[simp] theorem dSl_e {dl dh : DO} : dSl da dl dh env st = (da env st).bind fun x st1 => (dl env st1).bind fun l st2 => (dh env st2).bind fun u st3 => fSl x l u st3 := rfl
@[simp] theorem dNoPart_e : dNoPart env st = .ok none st := rfl
def partR (x : D) (st : Sto) : Res (Option Int) := match x with
  | .int i => .ok (some i) st
  | _ => .bad
@[simp] theorem partR_int {i : Int} : partR (.int i) st = .ok (some i) st := rfl
@[simp] theorem dPart_e : dPart da env st = (da env st).bind partR := rfl
/-! ### operators -/
@[simp] theorem fAdd_int {a b : Int} : fAdd (.int a) (.int b) st = .ok (.int (a + b)) st := rfl
@[simp] theorem fAdd_str {a b : Str} : fAdd (.str a) (.str b) st = if a.length + b.length ≤ bigLine then .ok (.str (a ++ b)) st else .bad := rfl
@[simp] theorem fAdd_tup {a b : List D} : fAdd (.tup a) (.tup b) st = if a.length + b.length ≤ bigLine then .ok (.tup (a ++ b)) st else .bad := rfl
@[simp] theorem fI_int {C : Int → Int → Bool} {g : Int → Int → D} {a b : Int} : fI C g (.int a) (.int b) st = if C a b = true then .ok (g a b) st else .bad := rfl
@[simp] theorem fSub_int {a b : Int} : fSub (.int a) (.int b) st = .ok (.int (a - b)) st := rfl
@[simp] theorem fMul_int {a b : Int} : fMul (.int a) (.int b) st = if cMul a b = true then .ok (.int (a * b)) st else .bad := rfl
@[simp] theorem fMod_int {a b : Int} : fMod (.int a) (.int b) st = if 0 < b then .ok (.int (a % b)) st else .bad := by
  simp [fMod]
@[simp] theorem fDiv_int {a b : Int} : fDiv (.int a) (.int b) st = if cDiv b = true then .ok (.int (a / b)) st else .bad := rfl
@[simp] theorem cDiv_16 : cDiv 16 = true := cDiv_to (by omega)
@[simp] theorem cDiv_1009 : cDiv 1009 = true := cDiv_to (by omega)
@[simp] theorem cDiv_2003 : cDiv 2003 = true := cDiv_to (by omega)
@[simp] theorem fLe_int {a b : Int} : fLe (.int a) (.int b) st = .ok (.bl (decide (a ≤ b))) st := rfl
@[simp] theorem fGt_int {a b : Int} : fGt (.int a) (.int b) st = .ok (.bl (decide (b < a))) st := rfl
@[simp] theorem fGe_int {a b : Int} : fGe (.int a) (.int b) st = .ok (.bl (decide (b ≤ a))) st := rfl
@[simp] theorem fLtS_int {a b : Int} : fLtS (.int a) (.int b) st = .ok (.bl (decide (a < b))) st := rfl
@[simp] theorem fLtS_str {a b : Str} : fLtS (.str a) (.str b) st = .ok (.bl (decide (a.cps.toList < b.cps.toList))) st := rfl
@[simp] theorem fPow_18 : fPow (.int 10) (.int 18) st = .ok (.int 1000000000000000000) st := by
  have : (10 : Int) ^ (18 : Int).toNat = 1000000000000000000 := by decide
  simp [fPow, this]
def ofO (o : Option D) (st : Sto) : Res D := match o with
  | some d => .ok d st
  | none => .bad
@[simp] theorem ofO_some {d : D} : ofO (some d) st = .ok d st := rfl
@[simp] theorem fIx_tup {xs : List D} {i : Int} : fIx (.tup xs) (.int i) st = ofO (L2.atI xs i) st := by simp only [fIx]; cases L2.atI xs i <;> rfl
@[simp] theorem fIx_fz {xs : List D} {i : Int} : fIx (.fz xs) (.int i) st = ofO (L2.atI xs i) st := by simp only [fIx]; cases L2.atI xs i <;> rfl
@[simp] theorem fIx_sc {xs : List D} {i : Int} : fIx (.sc xs) (.int i) st = ofO (L2.atI xs i) st := by simp only [fIx]; cases L2.atI xs i <;> rfl
def lstO (o : Option O) (k : List D → Res D) : Res D := match o with
  | some (.lst ds) => k ds
  | _ => .bad
@[simp] theorem lstO_some {ds : List D} {k : List D → Res D} : lstO (some (.lst ds)) k = k ds := rfl
@[simp] theorem fIx_ref {n : Nat} {i : Int} : fIx (.ref n) (.int i) st = lstO st[n]? fun ds => ofO (L2.atI ds i) st := by
  simp only [fIx, lstO]; cases st[n]? with
  | none => rfl
  | some o => cases o <;> rfl
@[simp] theorem atI_nat {α : Type} {xs : List α} {n : Nat} : L2.atI xs (n : Int) = xs[n]? := by
  unfold L2.atI L2.ixN
  by_cases h : n < xs.length
  · simp [h]
  · simp [h, List.getElem?_eq_none (Nat.le_of_not_lt h)]
@[simp] theorem atI_lit {α : Type} {xs : List α} {n : Nat} : L2.atI xs (no_index (OfNat.ofNat n : Int)) = xs[(OfNat.ofNat n : Nat)]? := atI_nat (n := n)
@[simp] theorem atI_0 {α : Type} {xs : List α} : L2.atI xs 0 = xs[0]? := atI_nat (n := 0)
@[simp] theorem atI_1 {α : Type} {xs : List α} : L2.atI xs 1 = xs[1]? := atI_nat (n := 1)
def setR (o : Option O) (k : Int) (x : D) (n : Nat) (env : Env) (st : Sto) : ResS := match o with
  | some (.lst ds) => match L2.ixN ds.length k with
    | some j => .nx env (st.set n (.lst (ds.set j x)))
    | none => .bad
  | _ => .bad
theorem setR_nat {ds : List D} {j : Nat} {x : D} {n : Nat} (h : j < ds.length) : setR (some (.lst ds)) (j : Int) x n env st = .nx env (st.set n (.lst (ds.set j x))) := by
  simp [setR, L2.ixN, h]
@[simp] theorem setR_lit {ds : List D} {j : Nat} {x : D} {n : Nat} : setR (some (.lst ds)) (no_index (OfNat.ofNat j : Int)) x n env st = if (OfNat.ofNat j : Nat) < ds.length then .nx env (st.set n (.lst (ds.set (OfNat.ofNat j : Nat) x))) else .bad := by
  show setR (some (.lst ds)) (j : Int) x n env st = if j < ds.length then .nx env (st.set n (.lst (ds.set j x))) else .bad
  by_cases h : j < ds.length
  · rw [setR_nat h, if_pos h]
  · simp [setR, L2.ixN, h]
def setItR (o i : D) (x : D) (env : Env) (st : Sto) : ResS := match o, i with
  | .ref n, .int k => setR st[n]? k x n env st
  | _, _ => .bad
@[simp] theorem setItR_ref {n : Nat} {k : Int} {x : D} : setItR (.ref n) (.int k) x env st = setR st[n]? k x n env st := rfl
@[simp] theorem dSetItem_e : dSetItem da db dc env st = (da env st).bindS env fun x st1 => (db env st1).bindS env fun o st2 => (dc env st2).bindS env fun i st3 => setItR o i x env st3 := rfl
/-! ### calls -/
@[simp] theorem fLen_fz {xs : List D} : fLen [.fz xs] st = .ok (.int xs.length) st := rfl
@[simp] theorem fLen_sc {xs : List D} : fLen [.sc xs] st = .ok (.int xs.length) st := rfl
@[simp] theorem fLen_tup {xs : List D} : fLen [.tup xs] st = .ok (.int xs.length) st := rfl
theorem fLen_str {x : Str} (h : x.length ≤ bigLine) : fLen [.str x] st = .ok (.int x.length) st := by simp [fLen, lenD, h]
@[simp] theorem fInt_int {a : Int} : fInt [.int a] st = .ok (.int a) st := rfl
@[simp] theorem fAbs_int {a : Int} : fAbs [.int a] st = .ok (.int (if a < 0 then -a else a)) st := rfl
@[simp] theorem fTuple_fz {xs : List D} : fTuple [.fz xs] st = .ok (.tup xs) st := rfl
@[simp] theorem fTuple_sc {xs : List D} : fTuple [.sc xs] st = .ok (.tup xs) st := rfl
@[simp] theorem fTuple_tup {xs : List D} : fTuple [.tup xs] st = .ok (.tup xs) st := rfl
theorem fTuple_ref {n : Nat} {xs : List D} (h : st[n]? = some (.lst xs)) : fTuple [.ref n] st = .ok (.tup xs) st := by simp [fTuple, h]
/-! ### equality -/
theorem shaped_int {a : Int} : SeqAt.shaped (.int a) = true := by simp [SeqAt.shaped, PyData.canLay0, PyData.depth]
@[simp] theorem fEq_int {neg : Bool} {a b : Int} : fEq neg (.int a) (.int b) st = .ok (.bl (if neg then !decide (a = b) else decide (a = b))) st := by
  have h : (a == b) = decide (a = b) := by by_cases q : a = b <;> simp [q]
  simp [fEq, toPy, shaped_int, PyData.eqv, h]
@[simp] theorem fEq_tup2 {neg : Bool} {a b a' b' : Int} : fEq neg (.tup [.int a, .int b]) (.tup [.int a', .int b']) st = .ok (.bl (if neg then !decide (a = a' ∧ b = b') else decide (a = a' ∧ b = b'))) st := by
  have h : (PyData.eqv (.tuple [.int a, .int b]) (.tuple [.int a', .int b'])) = decide (a = a' ∧ b = b') := by
    simp only [PyData.eqv, PyData.eqvAll]
    by_cases q : a = a' <;> by_cases q' : b = b' <;> simp [q, q']
  have k (a b : Int) : SeqAt.shaped (.tuple [.int a, .int b]) = true := by simp [SeqAt.shaped, PyData.canLay0, PyData.canLayAll0, PyData.depth, PyData.depthAll]
  simp [fEq, toPy, toPys, k, h]
end
/-! ### the drawing -/
structure Hand where
  cells : List Int
  pos : Nat
  big : Int
  seed : Int
  turns : Int
def Hand.ds (h : Hand) : List D := [.fz (h.cells.map .int), .int (h.pos : Int), .int h.big, .int h.seed, .int h.turns]
noncomputable def dDraw1 : DS := (dIfS (dAnd (dTst (dBin (fEq false) (dBin fIx (dVar 0) (dC (.int 2))) (dC (.int 0)))) (dTst (dBin fLtS (dBin fIx (dVar 0) (dC (.int 1))) (dCall fLen (dCons (dBin fIx (dVar 0) (dC (.int 0))) dNil))))) (dSeq (dSet 2 (dBin fIx (dBin fIx (dVar 0) (dC (.int 0))) (dBin fIx (dVar 0) (dC (.int 1)))))
    (dSeq (dSetItem (dBin fAdd (dBin fIx (dVar 0) (dC (.int 1))) (dC (.int 1))) (dVar 0) (dC (.int 1)))
    (dSeq (dSetItem (dBin fMod (dCall fInt (dCons (dBin fAdd (dBin fAdd (dBin fMul (dBin fIx (dVar 0) (dC (.int 3))) (dC (.int 69621))) (dVar 2)) (dC (.int 11))) dNil)) (dC (.int 2147483629))) (dVar 0) (dC (.int 3)))
    (dIfS (dTst (dBin fGe (dVar 2) (dBin fPow (dC (.int 10)) (dC (.int 18))))) (dSetItem (dVar 2) (dVar 0) (dC (.int 2))) dNext)))) dNext)
noncomputable def dDraw2 : DS := (dSeq (dIfS (dTst (dBin fGt (dBin fIx (dVar 0) (dC (.int 2))) (dC (.int 0)))) (dSeq (dSet 3 (dBin fMod (dCall fInt (dCons (dBin fIx (dVar 0) (dC (.int 2))) dNil)) (dVar 1)))
    (dSeq (dSetItem (dBin fDiv (dBin fIx (dVar 0) (dC (.int 2))) (dVar 1)) (dVar 0) (dC (.int 2)))
    (dRet (dVar 3)))) dNext)
    (dSeq (dSetItem (dBin fAdd (dBin fIx (dVar 0) (dC (.int 4))) (dC (.int 1))) (dVar 0) (dC (.int 4)))
    (dSeq (dSet 4 (dBin fMod (dCall fInt (dCons (dBin fMul (dCall fInt (dCons (dBin fAdd (dBin fIx (dVar 0) (dC (.int 3))) (dBin fMul (dC (.int 7919)) (dBin fIx (dVar 0) (dC (.int 4))))) dNil)) (dC (.int 48271))) dNil)) (dC (.int 2147483647))))
    (dSeq (dSet 4 (dBin fMod (dCall fInt (dCons (dBin fMul (dVar 4) (dBin fAdd (dBin fDiv (dVar 4) (dC (.int 1009))) (dC (.int 69621)))) dNil)) (dC (.int 2147483647))))
    (dSeq (dSet 4 (dBin fMod (dCall fInt (dCons (dBin fMul (dVar 4) (dBin fAdd (dBin fDiv (dVar 4) (dC (.int 2003))) (dC (.int 40692)))) dNil)) (dC (.int 2147483399))))
    (dRet (dBin fMod (dCall fInt (dCons (dBin fDiv (dVar 4) (dC (.int 16))) dNil)) (dVar 1))))))))
noncomputable def dDraw : DS := dSeq dDraw1 dDraw2
theorem cMul_small {a b : Int} (h : -(2 ^ 64) < b ∧ b < 2 ^ 64) : cMul a b = true := by
  simp only [cMul_e, cMul0, Bool.or_eq_true, Bool.and_eq_true, decide_eq_true_eq]; exact .inr h
theorem cMul_small' {a b : Int} (h : -(2 ^ 64) < a ∧ a < 2 ^ 64) : cMul a b = true := by
  simp only [cMul_e, cMul0, Bool.or_eq_true, Bool.and_eq_true, decide_eq_true_eq]; exact .inl h
end DD

/-! DD14: the drawing, and what is told of lists. -/
namespace DD
open PySem L2 PyProof.Rows
variable [NMs]
theorem cMul_mod1 {x y : Int} : cMul (x % 2147483647) y = true := cMul_small' (by omega)
theorem cMul_mod2 {x y : Int} : cMul (x % 2147483399) y = true := cMul_small' (by omega)
theorem cMul_const1 {x : Int} : cMul x 69621 = true := cMul_small (by omega)
theorem cMul_const2 {x : Int} : cMul 7919 x = true := cMul_small' (by omega)
theorem cMul_const3 {x : Int} : cMul x 48271 = true := cMul_small (by omega)
theorem draw2 {st : Sto} {n : Nat} {h : Hand} {many : Int} {e2 : Option D} (hs : st[n]? = some (.lst h.ds)) (h1 : 0 < many) (h2 : many < 1073741824) :
    ∃ (h' : Hand) (d : Int), 0 ≤ d ∧ d < many ∧ (dDraw2 [some (.ref n), some (.int many), e2, none, none] st).fin = .ok (.int d) (st.set n (.lst h'.ds)) := by
  have hn : n < st.length := (List.getElem?_eq_some_iff.mp hs).1
  have hself : ∀ x : O, (st.set n x)[n]? = some x := fun x => by rw [List.getElem?_set_self hn]
  obtain ⟨cells, pos, big, seed, turns⟩ := h
  by_cases hb : 0 < big
  · refine ⟨⟨cells, pos, big / many, seed, turns⟩, big % many, Int.emod_nonneg _ (by omega), Int.emod_lt_of_pos _ h1, ?_⟩
    simp [dDraw2, hs, Hand.ds, hself, hb, h1, cDiv_to ⟨h1, h2⟩]
  · have : ∃ v : Int, (dDraw2 [some (.ref n), some (.int many), e2, none, none] st).fin = .ok (.int (v % many)) (st.set n (.lst (Hand.mk cells pos big seed (turns + 1)).ds)) := by
      simp [dDraw2, hs, Hand.ds, hself, hb, h1, h2, cMul_mod1, cMul_mod2, cMul_const1, cMul_const2, cMul_const3]
      exact ⟨_, rfl⟩
    obtain ⟨v, e⟩ := this
    exact ⟨_, _, Int.emod_nonneg _ (by omega), Int.emod_lt_of_pos _ h1, e⟩
theorem set_id {st : Sto} {n : Nat} {o : O} (hs : st[n]? = some o) : st.set n o = st := by
  obtain ⟨hn, e⟩ := List.getElem?_eq_some_iff.mp hs
  rw [← e]; exact List.set_getElem_self hn
theorem draw1 {st : Sto} {n : Nat} {h : Hand} {many : Int} (hs : st[n]? = some (.lst h.ds)) :
    ∃ (h' : Hand) (e2 : Option D), dDraw1 [some (.ref n), some (.int many), none, none, none] st = .nx [some (.ref n), some (.int many), e2, none, none] (st.set n (.lst h'.ds)) := by
  have hn : n < st.length := (List.getElem?_eq_some_iff.mp hs).1
  have hself : ∀ x : O, (st.set n x)[n]? = some x := fun x => by rw [List.getElem?_set_self hn]
  have hid := set_id hs
  obtain ⟨cells, pos, big, seed, turns⟩ := h
  by_cases hc : big = 0 ∧ pos < cells.length
  · by_cases hz : 1000000000000000000 ≤ cells[pos]
    · exact ⟨⟨cells, pos + 1, cells[pos], (seed * 69621 + cells[pos] + 11) % 2147483629, turns⟩, some (.int cells[pos]), by simp [dDraw1, hs, Hand.ds, hc, hself, cMul_const1, hz]⟩
    · exact ⟨⟨cells, pos + 1, 0, (seed * 69621 + cells[pos] + 11) % 2147483629, turns⟩, some (.int cells[pos]), by simp [dDraw1, hs, Hand.ds, hc, hself, cMul_const1, hz]⟩
  · refine ⟨⟨cells, pos, big, seed, turns⟩, none, ?_⟩
    rw [hid]
    by_cases hb : big = 0
    · have : ¬ pos < cells.length := fun h => hc ⟨hb, h⟩
      simp [dDraw1, hs, Hand.ds, hb, this]
    · simp [dDraw1, hs, Hand.ds, hb]
theorem draw_spec {st : Sto} {n : Nat} {h : Hand} {many : Int} (hs : st[n]? = some (.lst h.ds)) (h1 : 0 < many) (h2 : many < 1073741824) :
    ∃ (h' : Hand) (d : Int), 0 ≤ d ∧ d < many ∧ mOf dDraw 5 [.ref n, .int many] st = .ok (.int d) (st.set n (.lst h'.ds)) := by
  have hn : n < st.length := (List.getElem?_eq_some_iff.mp hs).1
  obtain ⟨h', e2, e⟩ := draw1 (many := many) hs
  obtain ⟨h3, d, d0, dm, e3⟩ := draw2 (e2 := e2) (st := st.set n (.lst h'.ds)) (n := n) (h := h') (by rw [List.getElem?_set_self hn]) h1 h2
  refine ⟨h3, d, d0, dm, ?_⟩
  rw [mOf_e, dDraw, dSeq_e]
  show ((dDraw1 [some (.ref n), some (.int many), none, none, none] st).andS dDraw2).fin = _
  rw [e, andS_nx, e3, List.set_set]
end DD

/-! DD15: loops and lists of the data side. -/
namespace DD
open PySem L2 PyProof.Rows
variable [NMs]
/-! ### what is gone over -/
section
variable {da : DE} {ds : DA} {env : Env} {st : Sto}
def itR (x : D) (st : Sto) : Res (List D × (Sto → Bool)) := match x with
  | .fz ds => .ok (ds, yes) st
  | .sc ds => .ok (ds, yes) st
  | _ => .bad
def ittR (x : D) (st : Sto) : Res (List D × (Sto → Bool)) := match x with
  | .tup ds => .ok (ds, yes) st
  | _ => .bad
def itsR (x : D) (st : Sto) : Res (List D × (Sto → Bool)) := match x with
  | .str x => .ok (signs x, yes) st
  | _ => .bad
noncomputable def rgR (xs : List D) (st : Sto) : Res (List D × (Sto → Bool)) := match xs with
  | [.int j] => if rg62 j = true then .ok (intsD 0 j.toNat, yes) st else .bad
  | _ => .bad
def zpR (xs : List D) (st : Sto) : Res (List D × (Sto → Bool)) := match xs with
  | [x, y] => match seqD x, seqD y with
    | some as, some bs => .ok (pairsD as bs, yes) st
    | _, _ => .bad
  | _ => .bad
@[simp] theorem dItems_e : dItems da env st = (da env st).bind itR := rfl
@[simp] theorem dItemsT_e : dItemsT da env st = (da env st).bind ittR := rfl
@[simp] theorem dSigns_e : dSigns da env st = (da env st).bind itsR := rfl
@[simp] theorem dRange1_e : dRange1 ds env st = (ds env st).bind rgR := rfl
@[simp] theorem dZip_e : dZip ds env st = (ds env st).bind zpR := rfl
@[simp] theorem itR_fz {xs : List D} : itR (.fz xs) st = .ok (xs, yes) st := rfl
@[simp] theorem itR_sc {xs : List D} : itR (.sc xs) st = .ok (xs, yes) st := rfl
@[simp] theorem ittR_tup {xs : List D} : ittR (.tup xs) st = .ok (xs, yes) st := rfl
@[simp] theorem itsR_str {x : Str} : itsR (.str x) st = .ok (signs x, yes) st := rfl
theorem rgR_ok {j : Int} {n : Nat} (e : j = n) (h : n < 1000000) : rgR [.int j] st = .ok (intsD 0 n, yes) st := by
  subst e
  have h1 : rg62 (n : Int) = true := rg62_to (by omega)
  unfold rgR
  simp only [h1, if_true, Int.toNat_natCast]
@[simp] theorem zpR_st {x y : Str} : zpR [.str x, .str y] st = .ok (pairsD (signs x) (signs y), yes) st := rfl
@[simp] theorem zpR_stt {x : Str} {ys : List D} : zpR [.str x, .tup ys] st = .ok (pairsD (signs x) ys, yes) st := rfl
@[simp] theorem dFor_e {di : DI} {g : DG} {d : DS} : dFor di g d env st = (di env st).bindS env fun a st1 => loop g d a.2 a.1 env st1 := rfl
@[simp] theorem dLc_e {di : DI} {g : DG} {t : DT} {de : DE} {vs : List Nat} : dLc di g t de vs env st = (di env st).bind fun a st1 => if a.1.length ≤ bigLine then lcLoop g t de a.2 (wipeE vs env) a.1 st1 else .bad := rfl
theorem intsD_length {lo : Int} {n : Nat} : (intsD lo n).length = n := by simp [intsD]
theorem intsD_get {lo : Int} {n i : Nat} {x : D} (h : (intsD lo n)[i]? = some x) : i < n ∧ x = .int (lo + (i : Nat)) := by
  simp only [intsD, List.getElem?_map, Option.map_eq_some_iff] at h
  obtain ⟨a, h1, rfl⟩ := h
  have h2 := List.getElem?_eq_some_iff.mp h1
  obtain ⟨h3, h4⟩ := h2
  simp at h3 h4
  exact ⟨h3, by rw [h4]⟩
theorem intsD_mem {n : Nat} {x : D} (h : x ∈ intsD 0 n) : ∃ i : Nat, i < n ∧ x = .int (i : Int) := by
  obtain ⟨i, hi⟩ := List.mem_iff_getElem?.mp h
  obtain ⟨h1, h2⟩ := intsD_get hi
  exact ⟨i, h1, by simpa using h2⟩
end
section
variable {g : DG} {de : DE} {env : Env} {d : DS}
theorem lc_map {st : Sto} {f : D → D} : ∀ xs : List D, (∀ x ∈ xs, ∃ env1, g x env = some env1 ∧ de env1 st = .ok (f x) st) → lcLoop g dYes de yes env xs st = .ok (xs.map f) st
  | [], _ => rfl
  | x :: r, h => by
    obtain ⟨env1, h1, h2⟩ := h x List.mem_cons_self
    have ih := lc_map r fun y hy => h y (List.mem_cons_of_mem _ hy)
    unfold lcLoop
    simp only [yes, if_true, h1, dYes, h2]
    rw [ih]; rfl
theorem lc_inv {I : Sto → Prop} {P : D → Prop} : ∀ (xs : List D) (st : Sto), I st → (∀ x ∈ xs, ∀ st, I st → ∃ env1 y st', g x env = some env1 ∧ de env1 st = .ok y st' ∧ I st' ∧ P y) →
    ∃ ys st', lcLoop g dYes de yes env xs st = .ok ys st' ∧ I st' ∧ ys.length = xs.length ∧ ∀ y ∈ ys, P y
  | [], st, i, _ => ⟨[], st, rfl, i, rfl, fun _ h => by cases h⟩
  | x :: r, st, i, h => by
    obtain ⟨env1, y, st1, h1, h2, i1, p1⟩ := h x List.mem_cons_self st i
    obtain ⟨ys, st2, e, i2, l, p2⟩ := lc_inv r st1 i1 fun z hz => h z (List.mem_cons_of_mem _ hz)
    refine ⟨y :: ys, st2, ?_, i2, by simp [l], fun z hz => ?_⟩
    · unfold lcLoop
      simp only [yes, if_true, h1, dYes, h2]
      rw [e]; rfl
    · rcases List.mem_cons.mp hz with z1 | z1
      · rw [z1]; exact p1
      · exact p2 z z1
theorem for_inv {I : Nat → Env → Sto → Prop} : ∀ (xs : List D) (k : Nat) (env : Env) (st : Sto), I k env st →
    (∀ i x env st, xs[i]? = some x → I (k + i) env st → ∃ env1 env2 st2, g x env = some env1 ∧ (d env1 st = .nx env2 st2 ∨ d env1 st = .ct env2 st2) ∧ I (k + i + 1) env2 st2) →
    ∃ env' st', loop g d yes xs env st = .nx env' st' ∧ I (k + xs.length) env' st'
  | [], k, env, st, i, _ => ⟨env, st, rfl, i⟩
  | x :: r, k, env, st, i, h => by
    obtain ⟨env1, env2, st2, h1, h2, i2⟩ := h 0 x env st rfl i
    obtain ⟨env3, st3, e, i3⟩ := for_inv r (k + 1) env2 st2 i2 fun j y env st hy hi => by
      have := h (j + 1) y env st (by simpa using hy) (by rw [show k + (j + 1) = k + 1 + j by omega]; exact hi)
      rw [show k + (j + 1) = k + 1 + j by omega] at this
      exact this
    refine ⟨env3, st3, ?_, by rw [List.length_cons, show k + (r.length + 1) = k + 1 + r.length by omega]; exact i3⟩
    unfold loop
    simp only [yes, if_true, h1]
    rcases h2 with h2 | h2 <;> simp only [h2, e]
end
theorem list_of {α : Type} {f : α → D} {Q : α → Prop} : ∀ ys : List D, (∀ y ∈ ys, ∃ a, y = f a ∧ Q a) → ∃ as : List α, ys = as.map f ∧ ∀ a ∈ as, Q a
  | [], _ => ⟨[], rfl, fun _ h => by cases h⟩
  | y :: r, h => by
    obtain ⟨a, e, q⟩ := h y List.mem_cons_self
    obtain ⟨as, e2, q2⟩ := list_of (f := f) (Q := Q) r fun z hz => h z (List.mem_cons_of_mem _ hz)
    refine ⟨a :: as, by rw [e, e2]; rfl, fun b hb => ?_⟩
    rcases List.mem_cons.mp hb with z | z
    · rw [z]; exact q
    · exact q2 b z
theorem bls_true : ∀ ys : List D, (∀ y ∈ ys, y = .bl true) → ∃ bs, blsOf ys = some bs ∧ bs.all id = true
  | [], _ => ⟨[], rfl, rfl⟩
  | y :: r, h => by
    obtain ⟨bs, e1, e2⟩ := bls_true r fun z hz => h z (List.mem_cons_of_mem _ hz)
    rw [h y List.mem_cons_self]
    exact ⟨true :: bs, by simp [blsOf, e1], by rw [List.all_cons, e2]; rfl⟩
theorem all_true {ys : List D} {st : Sto} (h : ∀ y ∈ ys, y = .bl true) : fAll [.fz ys] st = .ok (.bl true) st := by
  obtain ⟨bs, e1, e2⟩ := bls_true ys h
  simp only [fAll, e1, e2]
theorem lc_all {g : DG} {de : DE} {env : Env} {st : Sto} (xs : List D) (h : ∀ x ∈ xs, ∃ env1, g x env = some env1 ∧ de env1 st = .ok (.bl true) st) :
    ∃ ys, lcLoop g dYes de yes env xs st = .ok ys st ∧ fAll [.fz ys] st = .ok (.bl true) st := by
  refine ⟨_, lc_map (f := fun _ => .bl true) xs h, all_true fun y hy => ?_⟩
  obtain ⟨_, _, e⟩ := List.mem_map.mp hy
  exact e.symm
/-! ### the hand in the store -/
def HG (n : Nat) (st : Sto) : Prop := ∃ h : Hand, st[n]? = some (.lst h.ds)
def Dr (n : Nat) (st st' : Sto) : Prop := ∃ h : Hand, st' = st.set n (.lst h.ds)
section
variable {n : Nat} {st st' st2 : Sto}
theorem Dr.refl (h : HG n st) : Dr n st st := by obtain ⟨h, e⟩ := h; exact ⟨h, (set_id e).symm⟩
theorem Dr.trans (a : Dr n st st') (b : Dr n st' st2) : Dr n st st2 := by
  obtain ⟨h, rfl⟩ := a
  obtain ⟨h2, rfl⟩ := b
  exact ⟨h2, by rw [List.set_set]⟩
theorem Dr.hg (h : HG n st) (d : Dr n st st') : HG n st' := by
  obtain ⟨h, e⟩ := h
  obtain ⟨h2, rfl⟩ := d
  exact ⟨h2, by rw [List.getElem?_set_self (List.getElem?_eq_some_iff.mp e).1]⟩
theorem Dr.get {m : Nat} (d : Dr n st st') (hm : m ≠ n) : st'[m]? = st[m]? := by
  obtain ⟨h2, rfl⟩ := d
  rw [List.getElem?_set_ne (Ne.symm hm)]
theorem Dr.len (d : Dr n st st') : st'.length = st.length := by
  obtain ⟨h2, rfl⟩ := d
  simp
theorem HG.lt (h : HG n st) : n < st.length := by obtain ⟨h, e⟩ := h; exact (List.getElem?_eq_some_iff.mp e).1
theorem draw_ok {many : Int} (hg : HG n st) (h1 : 0 < many) (h2 : many < 1073741824) : ∃ (d : Nat) (st' : Sto), (d : Int) < many ∧ mOf dDraw 5 [.ref n, .int many] st = .ok (.int d) st' ∧ Dr n st st' := by
  obtain ⟨h, e⟩ := hg
  obtain ⟨h', d, d0, dm, e2⟩ := draw_spec e h1 h2
  exact ⟨d.toNat, _, by omega, by rw [e2, Int.toNat_of_nonneg d0], h', rfl⟩
end
/-! ### nothing in the store names a place -/
def NoRefO (o : O) : Prop := ∀ n, belowO n o = true
def NoRef (st : Sto) : Prop := ∀ o ∈ st, NoRefO o
theorem belows_ints {n : Nat} : ∀ xs : List Int, belows n (xs.map .int) = true
  | [] => rfl
  | _ :: r => by rw [List.map_cons]; unfold belows; rw [belows_ints r]; simp [below]
theorem noRef_hand (h : Hand) : NoRefO (.lst h.ds) := fun n => by
  simp [belowO, Hand.ds, belows, below, belows_ints]
theorem NoRef.set {st : Sto} {n : Nat} {o : O} (h : NoRef st) (ho : NoRefO o) : NoRef (st.set n o) := fun x hx => by
  rcases List.mem_or_eq_of_mem_set hx with z | z
  · exact h x z
  · rw [z]; exact ho
theorem NoRef.dr {st st' : Sto} {n : Nat} (h : NoRef st) (d : Dr n st st') : NoRef st' := by
  obtain ⟨h2, rfl⟩ := d
  exact h.set (noRef_hand h2)
theorem NoRef.app {st : Sto} {o : O} (h : NoRef st) (ho : NoRefO o) : NoRef (st ++ [o]) := fun x hx => by
  rcases List.mem_append.mp hx with z | z
  · exact h x z
  · rw [List.mem_singleton.mp z]; exact ho
/-! ### texts -/
theorem ix_of {x : Str} {c : Nat} (h : c ∈ x.cps.toList) : ∃ i : Nat, i < x.length ∧ Txt.index0 x ⟨#[c]⟩ = some i ∧ Txt.find x ⟨#[c]⟩ = (i : Int) := by
  have h1 := PyProof.Rows.empty_one x c
  cases q : PySem.Builtin.Str.occurrences x ⟨#[c]⟩ 0 x.length 1 with
  | nil => rw [q] at h1; simp [h] at h1
  | cons i r =>
    refine ⟨i, ?_, ?_, ?_⟩
    · have := (PySem.StrLaws.occ_spec x ⟨#[c]⟩ 0 x.length 1 i (by rw [q]; exact List.mem_cons_self)).1
      have : i + 1 ≤ x.length := this
      omega
    · simp [Txt.index0, q]
    · simp [Txt.find, q]
end DD

/-! DD16: machines as data. -/
namespace DD
open PySem L2 PyProof.Rows
variable [NMs]
section
variable {st : Sto}
@[simp] theorem fSl_sc {xs : List D} {lo hi : Option Int} : fSl (.sc xs) lo hi st = .ok (.fz (cutL xs lo hi)) st := rfl
@[simp] theorem fSl_fz {xs : List D} {lo hi : Option Int} : fSl (.fz xs) lo hi st = .ok (.fz (cutL xs lo hi)) st := rfl
@[simp] theorem fSl_tup {xs : List D} {lo hi : Option Int} : fSl (.tup xs) lo hi st = .ok (.tup (cutL xs lo hi)) st := rfl
theorem cut_map {α β : Type} (f : α → β) (xs : List α) (lo hi : Option Int) : cutL (xs.map f) lo hi = (cutL xs lo hi).map f := by
  simp [cutL, List.map_take, List.map_drop]
theorem cut_len {α : Type} (xs : List α) (lo hi : Option Int) : (cutL xs lo hi).length ≤ xs.length := by
  simp only [cutL, List.length_take, List.length_drop]; omega
/-- a text of these signs -/
def tx (cs : List Nat) : Str := ⟨cs.toArray⟩
@[simp] theorem tx_list {cs : List Nat} : (tx cs).cps.toList = cs := rfl
@[simp] theorem tx_length {cs : List Nat} : (tx cs).length = cs.length := rfl
@[simp] theorem tx_append {as bs : List Nat} : tx as ++ tx bs = tx (as ++ bs) := by
  show Str.mk (as.toArray ++ bs.toArray) = Str.mk (as ++ bs).toArray
  simp
@[simp] theorem signs_tx {cs : List Nat} : signs (tx cs) = cs.map fun c => .str (tx [c]) := rfl
theorem tx_nil : (Str.ofString "" : Str) = tx [] := by decide +kernel
theorem tx_letters : (Str.ofString "abcdefghijklmnopqrstuvwxyz" : Str) = tx (List.range' 97 26) := by decide +kernel
theorem fIx_str {z : Str} {i : Nat} {c : Nat} (hl : z.length ≤ bigLine) (h : z.cps.toList[i]? = some c) : fIx (.str z) (.int (i : Int)) st = .ok (.str (tx [c])) st := by
  simp only [fIx]
  have : L2.atI z.cps.toList (i : Int) = some c := by rw [atI_nat]; exact h
  simp only [this, hl, if_true]; rfl
theorem fSl_str_from {cs : List Nat} {i : Nat} (h : cs.length ≤ bigLine) : fSl (.str (tx cs)) (some (i : Int)) none st = .ok (.str (tx (cs.drop i))) st := by
  have hl : (tx cs).length ≤ bigLine := h
  simp only [fSl, hl, if_true]
  congr 2
  show Str.mk ((((tx cs).cps.toList.drop (HT.sIx (tx cs).length 0 (some (i : Int)))).take (HT.sIx (tx cs).length (tx cs).length none - HT.sIx (tx cs).length 0 (some (i : Int))))).toArray = tx (cs.drop i)
  rw [HT.sIx_nat, HT.sIx_none, tx_list, tx_length]
  unfold tx
  congr 2
  by_cases hi : i ≤ cs.length
  · rw [Nat.min_eq_left hi, List.take_of_length_le (by simp)]
  · rw [Nat.min_eq_right (by omega), List.drop_eq_nil_of_le (Nat.le_refl _), List.drop_eq_nil_of_le (by omega), List.take_nil]
@[simp] theorem fIsi_int_int {a : Int} : fIsi [.int a, .ty "int"] st = .ok (.bl true) st := by
  simp [fIsi, tyName, show kitB "int" "int" = some true by decide +kernel]
@[simp] theorem fIsi_int_bool {a : Int} : fIsi [.int a, .ty "bool"] st = .ok (.bl false) st := by
  simp [fIsi, tyName, show kitB "int" "bool" = some false by decide +kernel]
@[simp] theorem fIsi_tup_tup {a : List D} : fIsi [.tup a, .ty "tuple"] st = .ok (.bl true) st := by
  simp [fIsi, tyName, show kitB "tuple" "tuple" = some true by decide +kernel]
@[simp] theorem fIsi_str_str {a : Str} : fIsi [.str a, .ty "str"] st = .ok (.bl true) st := by
  simp [fIsi, tyName, show kitB "str" "str" = some true by decide +kernel]
@[simp] theorem fIn_sign {c : Nat} {z : Str} {neg : Bool} : fIn neg (.str (tx [c])) (.str z) st = .ok (.bl (if neg then !decide (c ∈ z.cps.toList) else decide (c ∈ z.cps.toList))) st := rfl
theorem strOk_tx {cs : List Nat} (h : ∀ c ∈ cs, c < 0x110000) : PyData.strOk (tx cs) = true := by
  simp only [PyData.strOk, tx]
  simpa using h
theorem shaped_str {a : Str} (h : PyData.strOk a = true) : SeqAt.shaped (.str a) = true := by simp [SeqAt.shaped, PyData.canLay0, PyData.depth, h]
theorem fEq_str {neg : Bool} {a b : Str} (ha : PyData.strOk a = true) (hb : PyData.strOk b = true) : fEq neg (.str a) (.str b) st = .ok (.bl (if neg then !decide (a = b) else decide (a = b))) st := by
  have h : (a == b) = decide (a = b) := by by_cases q : a = b <;> simp [q]
  simp [fEq, toPy, shaped_str ha, shaped_str hb, PyData.eqv, h]
end
/-! ### join of signs -/
theorem strs_signs : ∀ cs : List Nat, strsOf (cs.map fun c => D.str (tx [c])) = some (cs.map fun c => tx [c])
  | [] => rfl
  | c :: r => by
    show (strsOf (r.map fun c => D.str (tx [c]))).map (tx [c] :: ·) = _
    rw [strs_signs r]; rfl
theorem sum_ones : ∀ cs : List Nat, ((cs.map fun c => tx [c]).map (·.length)).sum = cs.length
  | [] => rfl
  | c :: r => by
    have := sum_ones r
    simp only [List.map_cons, List.sum_cons, List.length_cons, this]
    show 1 + r.length = r.length + 1
    omega
theorem join_signs : ∀ cs : List Nat, Str.join (tx []) (cs.map fun c => tx [c]) = tx cs
  | [] => rfl
  | [c] => rfl
  | c :: d :: r => by
    have ih := join_signs (d :: r)
    show tx [c] ++ tx [] ++ Str.join (tx []) ((d :: r).map fun c => tx [c]) = _
    rw [ih, tx_append, tx_append]; rfl
theorem fJoin_signs {st : Sto} {cs : List Nat} (h : cs.length ≤ bigLine) : fJoin (.str (tx [])) [.fz (cs.map fun c => D.str (tx [c]))] st = .ok (.str (tx cs)) st := by
  have e : Txt.join (tx []) (cs.map fun c => tx [c]) = tx cs := by
    rw [← join_signs cs]
    exact TL.join_eq _ _
  have z : (tx []).length = 0 := rfl
  simp only [fJoin, itemsD, strs_signs, sum_ones, e, z, Nat.mul_zero, Nat.add_zero, h, if_true]
/-! ### loops that stand in a goal -/
section
variable {g : DG} {d : DS} {de : DE} {xs : List D} {env : Env} {st : Sto}
theorem for_use {r : ResS} (I : Nat → Env → Sto → Prop) (h : loop g d yes xs env st = r) (h0 : I 0 env st)
    (hs : ∀ i x env st, xs[i]? = some x → I i env st → ∃ env1 env2 st2, g x env = some env1 ∧ (d env1 st = .nx env2 st2 ∨ d env1 st = .ct env2 st2) ∧ I (i + 1) env2 st2) :
    ∃ env' st', r = .nx env' st' ∧ I xs.length env' st' := by
  obtain ⟨env', st', e, i⟩ := for_inv (g := g) (d := d) (I := I) xs 0 env st h0 fun i x env st hx hi => by
    rw [Nat.zero_add] at hi ⊢
    exact hs i x env st hx hi
  rw [Nat.zero_add] at i
  exact ⟨env', st', by rw [← h, e], i⟩
theorem lc_use {r : Res (List D)} (I : Sto → Prop) (P : D → Prop) (h : lcLoop g dYes de yes env xs st = r) (h0 : I st)
    (hs : ∀ x ∈ xs, ∀ st, I st → ∃ env1 y st', g x env = some env1 ∧ de env1 st = .ok y st' ∧ I st' ∧ P y) :
    ∃ ys st', r = .ok ys st' ∧ I st' ∧ ys.length = xs.length ∧ ∀ y ∈ ys, P y := by
  obtain ⟨ys, st', e, i⟩ := lc_inv (I := I) (P := P) xs st h0 hs
  exact ⟨ys, st', by rw [← h, e], i⟩
theorem lcm_use {r : Res (List D)} (f : D → D) (h : lcLoop g dYes de yes env xs st = r) (hs : ∀ x ∈ xs, ∃ env1, g x env = some env1 ∧ de env1 st = .ok (f x) st) : r = .ok (xs.map f) st := by
  rw [← h]; exact lc_map xs hs
theorem lca_use {r : Res (List D)} (h : lcLoop g dYes de yes env xs st = r) (hs : ∀ x ∈ xs, ∃ env1, g x env = some env1 ∧ de env1 st = .ok (.bl true) st) : ∃ ys, r = .ok ys st ∧ fAll [.fz ys] st = .ok (.bl true) st := by
  obtain ⟨ys, e, h2⟩ := lc_all xs hs
  exact ⟨ys, by rw [← h, e], h2⟩
end
theorem ints_get {n i : Nat} {x : D} (h : (intsD 0 n)[i]? = some x) : i < n ∧ x = .int (i : Int) := by
  obtain ⟨h1, h2⟩ := intsD_get h
  exact ⟨h1, by simpa using h2⟩
/-! ### machines -/
structure Mach where
  rows : List Nat
  ans : Nat
  mv : List (List (List (Nat × Nat)))
def RowsOk (cs : List Nat) : Prop := cs.Pairwise (· < ·) ∧ (∀ c ∈ cs, 97 ≤ c ∧ c < 123) ∧ 1 ≤ cs.length ∧ cs.length ≤ 4
structure MachOk (w : Mach) : Prop where
  rows : RowsOk w.rows
  ans1 : 1 ≤ w.ans
  ans3 : w.ans ≤ 3
  mv1 : 1 ≤ w.mv.length
  mv12 : w.mv.length ≤ 12
  it : ∀ it ∈ w.mv, it.length = w.rows.length ∧ ∀ ps ∈ it, ps.length = w.ans ∧ ∀ p ∈ ps, 1 ≤ p.1 ∧ p.1 ≤ 99 ∧ p.2 < w.mv.length
def pD (p : Nat × Nat) : D := .tup [.int (p.1 : Int), .int (p.2 : Int)]
def psD (ps : List (Nat × Nat)) : D := .tup (ps.map pD)
def itD (it : List (List (Nat × Nat))) : D := .tup (it.map psD)
def mvD (mv : List (List (List (Nat × Nat)))) : D := .tup (mv.map itD)
def aD (a : Nat) : D := .int (a : Int)
def runD (ch as : List Nat) : D := .tup [.str (tx ch), .tup (as.map aD)]
def Mach.wD (w : Mach) : D := .tup [.str (tx w.rows), .int (w.ans : Int), mvD w.mv]
end DD

/-! DD17: own errors raised without arguments; try with several except clauses. -/
namespace DD
open PySem L2 PyProof.Rows
variable [NMs]
/-- X(), X an own exception class without own __init__ -/
theorem pmk_own0 {X : Cx} {pos : Pos} {C : Addr} {bmB : List Value} {B newId initId : String} {x : Str} {p : Pos} (F : ExcBaseFacts B newId initId bmB) (q : PySem.W.excIn X.K C bmB newId = true) (gC : X.mg x = some (.ref C))
    (kC : PySem.W.keepIn X.K (.ref C) = true) (r : Raises X (.ref C)) (hg : Gl X x) (hdb : (x == ("__debug__" : Str)) = false := by decide) :
    PMk X (.Call (.Name x p) [] [] pos) (fun _ H Q => Q (.ref C) none H) := by
  intro pins s σ H Q I h
  refine wpAny_Call_Name_kw (ld_glob I hg gC ?_ hdb)
  refine PySem.W.callWith_K0 (first := []) I.kIn kC ?_
  show wpAny _ _ (call (.ref C) []) _ _ _
  obtain ⟨bm, N, nm, qn, bs, hdct, sn, sub, ab, col, dd, k0, k1, k2, k3, k5, mN, hC, hN, hni, T⟩ := exc_obj I.kIn q
  refine wpAny_call_exc_subT F T hC hN hni (fun h' e hm => ?_) (Nat.zero_le _)
  exact mk_of I hm r h (I.hok.gone hm.new)
/-- what is written of an own error class without __init__ -/
structure ExcCls (K : PySem.W.Frag) (C : Addr) : Prop where
  q : PySem.W.excIn K C [.type "ValueError", .type "Exception", .type "BaseException", .type "object"] "ValueError.__new__" = true
  kC : PySem.W.keepIn K (.ref C) = true
  exC : PySem.W.subIn K (.ref C) (.type "BaseException") = some true
  tyC : PySem.W.typeIn K (.ref C) = some (.type "type")
/-- an except clause's class, from what is read of it -/
theorem exm_mk {K : PySem.W.Frag} {C D : Addr} {b : Bool} (h1 : PySem.W.subIn K (.ref D) (.type "BaseException") = some true) (h2 : PySem.W.isClsIn K D = true) (h3 : PySem.W.typeIn K (.ref D) = some (.type "type")) (h4 : PySem.W.subIn K (.ref C) (.ref D) = some b) :
    PySem.W.exmOne K (.ref C) (.ref D) = some b := by
  unfold PySem.W.exmOne
  have h2 : (PySem.W.clsIn K D).isSome = true := h2
  simp [h1, h2, h3, h4, PySem.W.kitCls]
/-- raise X() -/
def dRaise0 (c : Str) : DS := fun env st => .exc (c, none) env st
theorem psd_raise0 {X : Cx} {W : WX} {C : Addr} {x : Str} {p pos pos' : Pos} (hc : X.calm = true) (tk : Takes X W) (hE : ExcCls X.K C) (gC : X.mg x = some (.ref C)) (hg : Gl X x) (hdb : (x == ("__debug__" : Str)) = false := by decide) :
    PSd X W (.Raise (some (.Call (.Name x p) [] [] pos')) none pos) (dRaise0 x) :=
  PS.mono (ps_raise hc tk (pmk_own0 F.excBase_ValueError hE.q gC hE.kC (raises_own hE.exC hE.tyC) hg hdb)) fun D σ H ⟨ρ, ι, st, env, S, ve, p⟩ =>
    p ι H σ (.ref C) none (Step.refl _ _) S ve ⟨C, rfl, gC, rfl⟩
/-! ### try -/
def SubOk (K : PySem.W.Frag) (mg : Str → Option Value) (sub : Str → Str → Option Bool) : Prop :=
  ∀ x c b, sub x c = some b → ∀ C D, mg x = some (.ref C) → mg c = some (.ref D) → PySem.W.exmOne K (.ref C) (.ref D) = some b
theorem lookup_mem {α β : Type} [BEq α] [LawfulBEq α] {a : α} {b : β} : ∀ {l : List (α × β)}, l.lookup a = some b → (a, b) ∈ l
  | [], h => by simp at h
  | (x, y) :: r, h => by
    rw [List.lookup_cons] at h
    cases q : a == x with
    | true => rw [q] at h; cases h; rw [eq_of_beq q]; exact List.mem_cons_self
    | false => rw [q] at h; exact List.mem_cons_of_mem _ (lookup_mem h)
theorem subOk_of {K : PySem.W.Frag} {mg : Str → Option Value} {l : List ((Str × Str) × Bool)} (h : ∀ e ∈ l, ∀ C D, mg e.1.1 = some (.ref C) → mg e.1.2 = some (.ref D) → PySem.W.exmOne K (.ref C) (.ref D) = some e.2) : SubOk K mg fun x c => l.lookup (x, c) :=
  fun x c b hb C D h1 h2 => h ((x, c), b) (lookup_mem hb) C D h1 h2
def noExcR (r : ResS) : ResS := match r with
  | .exc _ _ _ => .bad
  | r => r
def hdR (sub : Str → Str → Option Bool) (x : Xc) (env : Env) (st : Sto) : List (Str × DS) → ResS
  | [] => .exc x env st
  | (c, d) :: r => match sub x.1 c with
    | some true => noExcR (d env st)
    | some false => hdR sub x env st r
    | none => .bad
def dTry (sub : Str → Str → Option Bool) (d : DS) (hs : List (Str × DS)) : DS := fun env st => match d env st with
  | .exc x env1 st1 => hdR sub x env1 st1 hs
  | r => r
inductive HdD (X : Cx) : List ExceptHandler → List (Str × DS) → Prop
  | nil : HdD X [] []
  | cons {x : Str} {C : Addr} {b₀ : Stmt} {suite : List Stmt} {np pos' : Pos} {hds : List ExceptHandler} {hs : List (Str × DS)} {dd : DS} (hm : X.mg x = some (.ref C)) (hc : Names X x (.ref C))
      (hsu : ∀ (a : Addr) (oe : Obj) (cls : Value) (d : Option Addr) (pn : List (Addr × Obj)), Zc cls d oe → (∃ vs, oe.data = .fields vs) → PSsd (X.suite a ((a, oe) :: pn)) W0 (b₀ :: suite) dd) (r : HdD X hds hs) :
      HdD X (.ExceptHandler (some (.Name x np)) none (b₀ :: suite) pos' :: hds) ((x, dd) :: hs)
theorem PostS.noExc {B : Bs} {W : WX} {E : Ends} {σ : L2.St} {ι : List Addr} {H : Hp} {r : ResS} (h : PostS B W E σ ι H (noExcR r)) : PostS B W0 E σ ι H r := by
  cases r with
  | exc x e st => exact h.elim
  | nx e st => exact h
  | bk e st => exact h
  | ct e st => exact h
  | rt x st => exact h
  | bad => exact h
theorem hd_list {X : Cx} {W : WX} {sub : Str → Str → Option Bool} (hsub : SubOk X.K X.mg sub) {hds : List ExceptHandler} {hs : List (Str × DS)} (h : HdD X hds hs) :
    ∃ l, HdsOk X hds l ∧ ∀ (D : Ends) (ρ ι : List Addr) (st : Sto) (env : Env) (σ : L2.St) (H : Hp) (x : Xc) (cls : Value) (dd : Option Addr), Sim ⟨X.K, X.mg, ρ⟩ H ι st → VEnv ⟨X.K, X.mg, ρ⟩ H ι env σ → ExcR ⟨X.K, X.mg, ρ⟩ H ι x cls dd →
      PostS ⟨X.K, X.mg, ρ⟩ W D σ ι H (hdR sub x env st hs) → wMany X.K W D l cls dd σ H := by
  induction h with
  | nil => exact ⟨[], .nil, fun D ρ ι st env σ H x cls dd S ve ex p => p ι H σ cls dd (Step.refl _ _) S ve ex⟩
  | @cons x C b₀ suite np pos' hds hs d hm hc hsu r ih =>
    obtain ⟨l, hl, k⟩ := ih
    refine ⟨(.ref C, fun _ _ _ => tSd X.K X.mg W0 d) :: l, .cons hc hsu hl, fun D ρ ι st env σ H y cls dd S ve ex p => ?_⟩
    obtain ⟨Cy, rfl, hy, hd⟩ := id ex
    unfold hdR at p
    cases q : sub y.1 x with
    | none => rw [q] at p; exact p.elim
    | some b =>
      rw [q] at p
      refine ⟨b, hsub _ _ _ q _ _ hy hm, fun hb a _ => ?_, fun hb => ?_⟩
      · subst hb
        exact ⟨ρ, ι, st, env, S, ve, PostS.noExc p⟩
      · subst hb
        exact k D ρ ι st env σ H y _ dd S ve ex p
theorem psd_try {X : Cx} {W : WX} {sub : Str → Str → Option Bool} {body : List Stmt} {h₀ : ExceptHandler} {hds : List ExceptHandler} {hs : List (Str × DS)} {d : DS} {pos : Pos} (hst : X.stack = X.env :: X.outer) (hf : X.env.frame = some X.env.locals) (tk : Takes X W) (hsub : SubOk X.K X.mg sub)
    (hb : ∀ (W' : WX) (pn : List (Addr × Obj)) (xe : Value → Shared → Prop), Takes (X.tr pn xe) W' → PassesOwn (model X.prog X.w) X.A X.env xe → PSsd (X.tr pn xe) W' body d) (hh : HdD X (h₀ :: hds) hs) :
    PSd X W (.Try body (h₀ :: hds) [] [] pos) (dTry sub d hs) := by
  obtain ⟨l, hl, k⟩ := hd_list (W := W) hsub hh
  refine PS.mono (ps_try_many (tb := fun W' => tSd X.K X.mg W' d) hst hf tk hb hl) fun D σ H ⟨ρ, ι, st, env, S, ve, p⟩ => ⟨ρ, ι, st, env, S, ve, ?_⟩
  unfold dTry at p
  cases q : d env st with
  | exc x env1 st1 =>
    rw [q] at p
    exact fun ι1 H1 σ1 cls dd s1 S1 ve1 ex => k D ρ ι1 st1 env1 σ1 H1 x cls dd S1 ve1 ex (PostS.step s1 p)
  | nx e st1 => rw [q] at p; exact p
  | bk e st1 => rw [q] at p; exact p
  | ct e st1 => rw [q] at p; exact p
  | rt x st1 => rw [q] at p; exact p
  | bad => rw [q] at p; exact p
end DD

/-! DD18: comprehensions with two fors. -/
namespace DD
open PySem L2 PyProof.Rows
variable [NMs]
def midLine : Nat := 1000
def lcLoop2 (g : DG) (t : DT) (di1 : DI) (g1 : DG) (t1 : DT) (de : DE) (vs1 : List Nat) (keep : Sto → Bool) (env : Env) : List D → Sto → Res (List D)
  | [], st => if keep st = true then .ok [] st else .bad
  | x :: r, st => if keep st = true then (match g x env with
    | none => .bad
    | some env1 => match t env1 st with
      | .ok true st1 => match di1 env1 st1 with
        | .ok a st2 => if a.1.length ≤ midLine then (lcLoop g1 t1 de a.2 (wipeE vs1 env1) a.1 st2).bind fun ys st3 => (lcLoop2 g t di1 g1 t1 de vs1 keep env r st3).bind fun zs st4 => .ok (ys ++ zs) st4 else .bad
        | _ => .bad
      | .ok false st1 => lcLoop2 g t di1 g1 t1 de vs1 keep env r st1
      | _ => .bad) else .bad
def dLc2 (di : DI) (g : DG) (t : DT) (di1 : DI) (g1 : DG) (t1 : DT) (de : DE) (vs vs1 : List Nat) : DA := fun env st => (di env st).bind fun a st1 => if a.1.length ≤ midLine then lcLoop2 g t di1 g1 t1 de vs1 a.2 (wipeE vs env) a.1 st1 else .bad
theorem mid_lt {i j n : Nat} (h : i < 1000) (h2 : j < 1000) (h3 : n ≤ i * 1000 + j) : n < sizeLine := by rw [sizeLine_eq]; omega
theorem Res.bind_id {α : Type} (r : Res α) : (r.bind fun a st => .ok a st) = r := by cases r <;> rfl
/-! ### an iterator inside another comprehension: what is set aside may change -/
structure ItW (B : Bs) (p : Addr) (J : It) (keep : Sto → Bool) (ds : List D) (Ok : List Addr → Hp → Prop) : Prop where
  st : ∀ ι H ι' H', Ok ι H → Step ι H ι' H' → Ok ι' H'
  sc : ∀ ι H o, Ok ι H → Ok ι (upd H p o)
  go : ∀ i ι H st, Ok ι H → Sim (B.more p) H ι st → keep st = true → i < ds.length → J.go i H
  yld : ∀ i d ι H st v H', Ok ι H → Sim (B.more p) H ι st → keep st = true → ds[i]? = some d → J.yld i H v H' → Step ι H ι H' ∧ Sim (B.more p) H' ι st ∧ VR (B.more p) H' ι d v
  stop : ∀ i ι H st, Ok ι H → Sim (B.more p) H ι st → keep st = true → ds.length ≤ i → J.stop i H
def relIw : Rel (List D × (Sto → Bool)) It := ⟨fun B _ _ H ι st a J => a.2 st = true ∧ ∀ B0 p, B = Bs.more B0 p → ∃ Ok, ItW B0 p J a.2 a.1 Ok ∧ Ok ι H, fun _ h => h⟩
def PIdw (X : Cx) (W : WX) (tg it : Expr) (di : DI) : Prop := PI X tg it (tG X.K X.mg relIw W di)
theorem itlw {B : Bs} {p a : Addr} {xs : List V} {ds : List D} {ι : List Addr} {H : Hp} (h : ScL (B.more p) H ι a xs) (r : VRs (B.more p) H ι ds xs) : ∃ Ok, ItW B p (Itl B.K a) yes ds Ok ∧ Ok ι H := by
  have l := r.length
  refine ⟨fun ι H => ScL (B.more p) H ι a xs ∧ VRs (B.more p) H ι ds xs, ⟨fun ι H ι' H' k s => ⟨k.1.step s, k.2.step s⟩, fun ι H o k => ⟨k.1.scr, k.2.scr⟩, fun i ι H st k S kk hi => ?_, fun i d ι H st v H' k S kk hd y => ?_, fun i ι H st k S kk hi => ⟨xs, k.1.sq, by omega⟩⟩, h, r⟩
  · obtain ⟨v, hv, _⟩ := k.2.get (List.getElem?_eq_getElem hi)
    exact ⟨xs, v, k.1.sq, hv⟩
  · obtain ⟨e, y⟩ := y
    subst e
    obtain ⟨w, hw, vr⟩ := k.2.get hd
    have : v = w := Option.some.inj ((y xs k.1.sq).symm.trans hw)
    subst this
    exact ⟨Step.refl _ _, S, vr⟩
theorem ittw {B : Bs} {p a : Addr} {xs : List V} {ds : List D} {ι : List Addr} {H : Hp} (h : FzT (B.more p) H ι a xs) (r : VRs (B.more p) H ι ds xs) : ∃ Ok, ItW B p (Itt B.K a) yes ds Ok ∧ Ok ι H := by
  have l := r.length
  refine ⟨fun ι H => FzT (B.more p) H ι a xs ∧ VRs (B.more p) H ι ds xs, ⟨fun ι H ι' H' k s => ⟨k.1.step s, k.2.step s⟩, fun ι H o k => ⟨k.1.scr, k.2.scr⟩, fun i ι H st k S kk hi => ?_, fun i d ι H st v H' k S kk hd y => ?_, fun i ι H st k S kk hi => ⟨xs, k.1.sq, by omega⟩⟩, h, r⟩
  · obtain ⟨v, hv, _⟩ := k.2.get (List.getElem?_eq_getElem hi)
    exact ⟨xs, v, k.1.sq, hv⟩
  · obtain ⟨e, y⟩ := y
    subst e
    obtain ⟨w, hw, vr⟩ := k.2.get hd
    have : v = w := Option.some.inj ((y xs k.1.sq).symm.trans hw)
    subst this
    exact ⟨Step.refl _ _, S, vr⟩
/-- iterators that look at no heap -/
theorem itw_free {B : Bs} {p : Addr} {J : It} {ds : List D} {ι : List Addr} {H : Hp} (h : ∀ (B : Bs) (ι : List Addr) (H : Hp), ItOk B J ι H yes ds) : ∃ Ok, ItW B p J yes ds Ok ∧ Ok ι H :=
  ⟨fun _ _ => True, ⟨fun _ _ _ _ _ _ => trivial, fun _ _ _ _ => trivial, fun i ι H st _ S kk hi => (h (B.more p) ι H).go (p :: B.ρ) i ι H st (Fine.refl _ _) (Step.refl _ _) S kk hi,
    fun i d ι H st v H' _ S kk hd y => (h (B.more p) ι H).yld (p :: B.ρ) i d ι H st v H' (Fine.refl _ _) (Step.refl _ _) S kk hd y, fun i ι H st _ S kk hi => (h (B.more p) ι H).stop (p :: B.ρ) i ι H st (Fine.refl _ _) (Step.refl _ _) S kk hi⟩, trivial⟩
section
variable {X : Cx} {W : WX} {tg e : Expr} {da : DE} {ds : DA} {pos p : Pos}
theorem pidw_list (ha : PEd X W e da) : PIdw X W tg e (dItems da) := PI.mono (pi_list ha) fun σ H R ⟨ρ, ι, st, env, S, ve, p⟩ => ⟨ρ, ι, st, env, S, ve, Post.bind p fun x st1 ι1 H1 v s1 S1 rx p1 => by
  cases x <;> (try exact p1.elim)
  · obtain ⟨a, xs, rfl, h, m, r⟩ := rx
    exact ⟨a, rfl, ⟨xs, SqL.of h⟩, p1.ok S1 ⟨rfl, fun B0 p e => by
      have hK : X.K = B0.K := congrArg Bs.K e
      rw [hK]; rw [e] at r m; exact itlw (.inl ⟨.inl h, m.1, m.2⟩) r⟩⟩
  · obtain ⟨a, xs, rfl, h, r⟩ := rx
    exact ⟨a, rfl, ⟨xs, h.sq⟩, p1.ok S1 ⟨rfl, fun B0 p e => by
      have hK : X.K = B0.K := congrArg Bs.K e
      rw [hK]; rw [e] at r h; exact itlw h r⟩⟩⟩
theorem pidw_tup (ha : PEd X W e da) : PIdw X W tg e (dItemsT da) := PI.mono (pi_tup ha) fun σ H R ⟨ρ, ι, st, env, S, ve, p⟩ => ⟨ρ, ι, st, env, S, ve, Post.bind p fun x st1 ι1 H1 v s1 S1 rx p1 => by
  cases x <;> (try exact p1.elim)
  obtain ⟨a, xs, rfl, h, r⟩ := rx
  exact ⟨a, rfl, ⟨xs, h.sq⟩, p1.ok S1 ⟨rfl, fun B0 p e => by
      have hK : X.K = B0.K := congrArg Bs.K e
      rw [hK]; rw [e] at r h; exact ittw h r⟩⟩⟩
theorem pidw_str (ha : PEd X W e da) : PIdw X W tg e (dSigns da) := PI.mono (pi_str ha) fun σ H R ⟨ρ, ι, st, env, S, ve, p⟩ => ⟨ρ, ι, st, env, S, ve, Post.bind p fun x st1 ι1 H1 v s1 S1 rx p1 => by
  cases x <;> (try exact p1.elim)
  cases rx
  exact ⟨_, rfl, p1.ok S1 ⟨rfl, fun B0 p e => itw_free fun _ _ _ => its_ok⟩⟩⟩
theorem pidw_range1 {a : Expr} (hg : Gl X "range") (hm : X.mg "range" = none) (ha : PAd X W [a] ds) (hs : starEach [a] X.env = [(false, eval a X.env)] := by rfl) : PIdw X W tg (.Call (.Name "range" p) [a] [] pos) (dRange1 ds) :=
  PI.mono (pi_range1 hg hm ha hs) fun σ H R ⟨ρ, ι, st, env, S, ve, p⟩ => ⟨ρ, ι, st, env, S, ve, Post.bind p fun xs st1 ι1 H1 v s1 S1 rx p1 => by
    split at p1
    · rename_i j
      split at p1
      · rename_i hb
        obtain ⟨v, rfl, h⟩ := vr1 rx
        cases h
        exact ⟨j, rfl, (rg62_of hb).1, (rg62_of hb).2, p1.ok S1 ⟨rfl, fun B0 p e => itw_free fun _ _ _ => itr_ok⟩⟩
      · exact p1.elim
    · exact p1.elim⟩
end
theorem VEnv.scr {K : PySem.W.Frag} {mg : Str → Option Value} {ρ : List Addr} {p : Addr} {H : Hp} {ι : List Addr} {env : Env} {σ : L2.St} {o : HO} (h : VEnv ⟨K, mg, p :: ρ⟩ H ι env σ) : VEnv ⟨K, mg, p :: ρ⟩ (upd H p o) ι env σ :=
  ⟨h.1, fun i d e => let ⟨v, a, b⟩ := h.2 i d e; ⟨v, a, VR.scr (B := ⟨K, mg, ρ⟩) b⟩⟩
theorem lc2_read {K : PySem.W.Frag} {mg : Str → Option Value} {W : WX} {g g1 : DG} {G G1 : TG} {ix ix1 vs vs1 : List Nat} {t t1 : DT} {de : DE} {di di1 : DI} (gs : GS K mg G ix g) (hix : ∀ j ∈ ix, j ∈ vs) (gs1 : GS K mg G1 ix1 g1) (hix1 : ∀ j ∈ ix1, j ∈ vs1)
    {σ : L2.St} {H : Hp} {Q : VK} (h : tG K mg relL W (dLc2 di g t di1 g1 t1 de vs vs1) σ H Q) :
    tLc2 (tG K mg relI W di) G (tG K mg relB W0 t) (tG K mg relIw W0 di1) G1 (tG K mg relB W0 t1) (tG K mg relV W0 de) vs vs1 σ H Q := by
  obtain ⟨ρ, ι, st, env, S, ve, p⟩ := h
  refine ⟨ρ, ι, st, env, S, ve, Post.bind0 p fun a st1 ι1 H1 J s1 S1 rx p1 => ?_⟩
  obtain ⟨ds, keep⟩ := a
  obtain ⟨io, k0⟩ := rx
  intro Dd hD
  by_cases hz : ds.length ≤ midLine
  case neg => simp only [hz, if_false] at p1; exact p1.elim
  simp only [hz, if_true] at p1
  have hz' : ds.length ≤ 1000 := hz
  have m1 : Dd ∉ ι1 := S1.fresh hD
  have hρ : Dd ∉ ρ := S1.fr hD
  have fine : Fine H1 ρ (Dd :: ρ) := fun a ha => by
    rcases List.mem_cons.mp ha with z | z
    · subst z; exact .inr hD
    · exact .inl z
  have hD0 : NoH H Dd ∧ Dd ∉ ι := by
    have m0 : Dd ∉ ι := fun z => m1 (s1.mem z)
    exact ⟨NoH.back s1 m0 (noH hD), m0⟩
  refine ⟨fun i m H' => i + m = ds.length ∧ ∃ ι' st' acc vs', Step ι1 H1 ι' H' ∧ Sim ((⟨K, mg, ρ⟩ : Bs).more Dd) H' ι' st' ∧ H' Dd = some (.lst vs') ∧ VRs ((⟨K, mg, ρ⟩ : Bs).more Dd) H' ι' acc vs' ∧ acc.length ≤ i * 1000 ∧
      Post ⟨K, mg, ρ⟩ relL W σ ι H ((lcLoop2 g t di1 g1 t1 de vs1 keep (wipeE vs env) (ds.drop i) st').bind fun ys st => .ok (acc ++ ys) st) Q,
    ⟨ds.length, by omega, ι1, st1, [], [], Step.new S1 hD, S1.reserve hD, upd_same, rfl, Nat.zero_le _, Post.ok_id p1⟩, ?_⟩
  rintro i m H' ⟨em, ι', st', acc, vs', s', S', hl, ra, la, p'⟩
  have ve0 : VEnv ((⟨K, mg, ρ⟩ : Bs).more Dd) H' ι' (wipeE vs env) (wipe σ vs) := VEnv.wipe (VEnv.step s' (VEnv.fine (K := K) (mg := mg) fine (ve.step s1)))
  by_cases hi : i < ds.length
  · rw [List.drop_eq_getElem_cons hi] at p'
    unfold lcLoop2 at p'
    by_cases hk : keep st' = true
    case neg => simp only [hk, if_false] at p'; exact p'.elim
    simp only [hk, if_true] at p'
    refine .inr ⟨io.go (Dd :: ρ) i ι' H' st' fine s' S' hk hi, fun H2 => ∃ ι2 st2 acc2 vs2, Step ι1 H1 ι2 H2 ∧ Sim ((⟨K, mg, ρ⟩ : Bs).more Dd) H2 ι2 st2 ∧ H2 Dd = some (.lst vs2) ∧ VRs ((⟨K, mg, ρ⟩ : Bs).more Dd) H2 ι2 acc2 vs2 ∧ acc2.length ≤ (i + 1) * 1000 ∧
      Post ⟨K, mg, ρ⟩ relL W σ ι H ((lcLoop2 g t di1 g1 t1 de vs1 keep (wipeE vs env) (ds.drop (i + 1)) st2).bind fun ys st => .ok (acc2 ++ ys) st) Q,
      fun H2 ⟨ι2, st2, acc2, vs2, s2, S2, h2, r2, l2, p2⟩ => ⟨m - 1, by omega, by omega, ι2, st2, acc2, vs2, s2, S2, h2, r2, l2, p2⟩, fun x H'' hy => ?_⟩
    obtain ⟨s3, S3, vr⟩ := io.yld (Dd :: ρ) i ds[i] ι' H' st' x H'' fine s' S' hk (List.getElem?_eq_getElem hi) hy
    have S3 : Sim ⟨K, mg, Dd :: ρ⟩ H'' ι' st' := S3
    have mD : Dd ∉ ι' := (S'.rs Dd List.mem_cons_self).2
    have hl3 : H'' Dd = some (.lst vs') := s3.rest _ _ mD hl
    cases q : g ds[i] (wipeE vs env) with
    | none => rw [q] at p'; exact p'.elim
    | some env1 =>
      rw [q] at p'
      simp only [] at p'
      refine gs S3 (ve0.step s3) vr q fun σ4 ve4 off => ⟨wipe_off off hix, Dd :: ρ, ι', st', env1, S3, ve4, ?_⟩
      cases q2 : t env1 st' with
      | bad => rw [q2] at p'; exact p'.elim
      | exc y st2 => rw [q2] at p'; exact p'.elim
      | ok b st2 =>
        rw [q2] at p'
        intro ι5 H5 b' s5 S5 eb
        cases eb
        have s15 := (s'.trans s3).trans s5
        cases b with
        | false =>
          exact iteF ⟨ι5, st2, acc, vs', s15, S5, s5.rest _ _ mD hl3, (ra.step s3).step s5, by omega, p'⟩
        | true =>
          refine iteT ⟨Dd :: ρ, ι5, st2, env1, S5, ve4.step s5, ?_⟩
          simp only [] at p'
          cases q3 : di1 env1 st2 with
          | bad => rw [q3] at p'; exact p'.elim
          | exc y st3 => rw [q3] at p'; exact p'.elim
          | ok a st3 =>
            rw [q3] at p'
            obtain ⟨ds1, keep1⟩ := a
            intro ι6 H6 J1 s6 S6 rx1
            obtain ⟨k1, io1⟩ := rx1
            obtain ⟨Ok, iw, ok6⟩ := io1 ⟨K, mg, ρ⟩ Dd rfl
            simp only [] at p'
            by_cases hz1 : ds1.length ≤ midLine
            case neg => simp only [hz1, if_false] at p'; exact p'.elim
            simp only [hz1, if_true] at p'
            have hz1' : ds1.length ≤ 1000 := hz1
            have m5 : Dd ∉ ι5 := (S5.rs Dd List.mem_cons_self).2
            have S6 : Sim ⟨K, mg, Dd :: ρ⟩ H6 ι6 st3 := S6
            have hl6 : H6 Dd = some (.lst vs') := s6.rest _ _ m5 (s5.rest _ _ mD hl3)
            have ra6 := ((ra.step s3).step s5).step s6
            have s16 := s15.trans s6
            have ve6 : VEnv ⟨K, mg, Dd :: ρ⟩ H6 ι6 env1 σ4 := (ve4.step s5).step s6
            refine ⟨fun j k H' => j + k = ds1.length ∧ ∃ ι' st' acc vs', (Ok ι' H' ∧ VEnv ⟨K, mg, Dd :: ρ⟩ H' ι' env1 σ4) ∧ Step ι1 H1 ι' H' ∧ Sim ⟨K, mg, Dd :: ρ⟩ H' ι' st' ∧ H' Dd = some (.lst vs') ∧ VRs ((⟨K, mg, ρ⟩ : Bs).more Dd) H' ι' acc vs' ∧ acc.length ≤ i * 1000 + j ∧
                Post ⟨K, mg, ρ⟩ relL W σ ι H ((lcLoop g1 t1 de keep1 (wipeE vs1 env1) (ds1.drop j) st').bind fun ys st3 => (lcLoop2 g t di1 g1 t1 de vs1 keep (wipeE vs env) (ds.drop (i + 1)) st3).bind fun zs st4 => .ok (acc ++ (ys ++ zs)) st4) Q,
              ⟨ds1.length, by omega, ι6, st3, acc, vs', ⟨ok6, ve6⟩, s16, S6, hl6, ra6, by omega, by simpa only [bind_assoc, Res.bind_ok, List.drop_zero] using p'⟩, ?_⟩
            rintro j k H7 ⟨ek, ι7, st7, acc7, vs7, ⟨ok7, vv7⟩, s17, S7, hl7, ra7, la7, p7⟩
            have ve7 : VEnv ⟨K, mg, Dd :: ρ⟩ H7 ι7 (wipeE vs1 env1) (wipe σ4 vs1) := VEnv.wipe vv7
            by_cases hj : j < ds1.length
            · rw [List.drop_eq_getElem_cons hj] at p7
              unfold lcLoop at p7
              by_cases hk1 : keep1 st7 = true
              case neg => simp only [hk1, if_false] at p7; exact p7.elim
              simp only [hk1, if_true] at p7
              refine .inr ⟨iw.go j ι7 H7 st7 ok7 S7 hk1 hj, fun H2 => ∃ ι2 st2 acc2 vs2, (Ok ι2 H2 ∧ VEnv ⟨K, mg, Dd :: ρ⟩ H2 ι2 env1 σ4) ∧ Step ι1 H1 ι2 H2 ∧ Sim ⟨K, mg, Dd :: ρ⟩ H2 ι2 st2 ∧ H2 Dd = some (.lst vs2) ∧ VRs ((⟨K, mg, ρ⟩ : Bs).more Dd) H2 ι2 acc2 vs2 ∧ acc2.length ≤ i * 1000 + (j + 1) ∧
                Post ⟨K, mg, ρ⟩ relL W σ ι H ((lcLoop g1 t1 de keep1 (wipeE vs1 env1) (ds1.drop (j + 1)) st2).bind fun ys st3 => (lcLoop2 g t di1 g1 t1 de vs1 keep (wipeE vs env) (ds.drop (i + 1)) st3).bind fun zs st4 => .ok (acc2 ++ (ys ++ zs)) st4) Q,
                fun H2 ⟨ι2, st2, acc2, vs2, s2, s2', S2, h2, r2, l2, p2⟩ => ⟨k - 1, by omega, by omega, ι2, st2, acc2, vs2, s2, s2', S2, h2, r2, l2, p2⟩, fun x8 H8 hy8 => ?_⟩
              obtain ⟨s8, S8, vr8⟩ := iw.yld j ds1[j] ι7 H7 st7 x8 H8 ok7 S7 hk1 (List.getElem?_eq_getElem hj) hy8
              have S8 : Sim ⟨K, mg, Dd :: ρ⟩ H8 ι7 st7 := S8
              have mD7 : Dd ∉ ι7 := (S7.rs Dd List.mem_cons_self).2
              have hl8 : H8 Dd = some (.lst vs7) := s8.rest _ _ mD7 hl7
              cases q8 : g1 ds1[j] (wipeE vs1 env1) with
              | none => rw [q8] at p7; exact p7.elim
              | some env8 =>
                rw [q8] at p7
                simp only [] at p7
                refine gs1 S8 (ve7.step s8) vr8 q8 fun σ9 ve9 off9 => ⟨wipe_off off9 hix1, Dd :: ρ, ι7, st7, env8, S8, ve9, ?_⟩
                cases q9 : t1 env8 st7 with
                | bad => rw [q9] at p7; exact p7.elim
                | exc y st2 => rw [q9] at p7; exact p7.elim
                | ok b st9 =>
                  rw [q9] at p7
                  intro ι9 H9 b9 s9 S9 eb9
                  cases eb9
                  have ok9 := iw.st _ _ _ _ (iw.st _ _ _ _ ok7 s8) s9
                  have vv9 : VEnv ⟨K, mg, Dd :: ρ⟩ H9 ι9 env1 σ4 := (vv7.step s8).step s9
                  have s19 := (s17.trans s8).trans s9
                  cases b with
                  | false => exact iteF ⟨ι9, st9, acc7, vs7, ⟨ok9, vv9⟩, s19, S9, s9.rest _ _ mD7 hl8, (ra7.step s8).step s9, by omega, p7⟩
                  | true =>
                    refine iteT ⟨Dd :: ρ, ι9, st9, env8, S9, ve9.step s9, ?_⟩
                    simp only [] at p7
                    cases q10 : de env8 st9 with
                    | bad => rw [q10] at p7; exact p7.elim
                    | exc y st3 => rw [q10] at p7; exact p7.elim
                    | ok y st10 =>
                      rw [q10] at p7
                      intro ι10 H10 v10 s10 S10 r10
                      have m9 : Dd ∉ ι9 := (S9.rs Dd List.mem_cons_self).2
                      have hl10 : H10 Dd = some (.lst vs7) := s10.rest _ _ m9 (s9.rest _ _ mD7 hl8)
                      have ra10 := ((ra7.step s8).step s9).step s10
                      have lv := ra10.length
                      have S10 : Sim ((⟨K, mg, ρ⟩ : Bs).more Dd) H10 ι10 st10 := S10
                      refine ⟨vs7, hl10, mid_lt (i := i) (j := j) (by omega) (by omega) (by omega), ι10, st10, acc7 ++ [y], vs7 ++ [v10], ⟨iw.sc _ _ _ (iw.st _ _ _ _ ok9 s10), VEnv.scr (vv9.step s10)⟩, (s19.trans s10).scr hD, S10.scr, upd_same, (ra10.append (VRs.one (B := (⟨K, mg, ρ⟩ : Bs).more Dd) r10)).scr, by simp; omega, ?_⟩
                      · simp only [bind_assoc, Res.bind_ok] at p7
                        simpa only [List.append_assoc, List.singleton_append, List.cons_append, List.nil_append] using p7
            · have e : ds1.drop j = [] := List.drop_eq_nil_of_le (by omega)
              rw [e] at p7
              unfold lcLoop at p7
              by_cases hk1 : keep1 st7 = true
              case neg => simp only [hk1, if_false] at p7; exact p7.elim
              simp only [hk1, if_true, Res.bind_ok, List.nil_append] at p7
              exact .inl ⟨iw.stop j ι7 H7 st7 ok7 S7 hk1 (Nat.le_of_not_lt hj), ι7, st7, acc7, vs7, s17, S7, hl7, ra7, by omega, p7⟩
  · have e : ds.drop i = [] := List.drop_eq_nil_of_le (by omega)
    rw [e] at p'
    unfold lcLoop2 at p'
    by_cases hk : keep st' = true
    case neg => simp only [hk, if_false] at p'; exact p'.elim
    simp only [hk, if_true, Res.bind_ok, List.append_nil] at p'
    refine .inl ⟨io.stop (Dd :: ρ) i ι' H' st' fine s' S' hk (Nat.le_of_not_lt hi), ?_⟩
    exact p' ι' H' (.ref Dd) (s1.trans s') S'.less ⟨Dd, vs', rfl, hl, hD0.1, hD0.2, hρ, ra, S'⟩
section
variable {X : Cx} {W : WX} {elt tg iter tg1 iter1 : Expr} {ifs ifs1 : List Expr} {scope : Scope} {own : List (Str × Nat)} {pos spos : Pos} {g g1 : DG} {G G1 : TG} {ix ix1 vs1 ixs : List Nat} {t t1 : DT} {de : DE} {di di1 : DI}
theorem pld_lc2 (hc : X.calm = true) (hN : X.N.Nodup) (hi : PId X W tg iter di) (ok : BlkOk X.N X.env.scope scope own) (hv : ∀ i ∈ vs1, i ∈ own.map (·.2)) (gs : GS X.K X.mg G ix g) (hix : ∀ j ∈ ix, j ∈ own.map (·.2)) (gs1 : GS X.K X.mg G1 ix1 g1) (hix1 : ∀ j ∈ ix1, j ∈ vs1)
    (hg : ∀ (s : Shared) (H : Hp) (C : Addr) (cl : List (Str × Addr)) (fp : List Addr), PG (X.blk s H scope (compEnvC scope cl C X.env) fp) tg G) (ht : ∀ (s : Shared) (H : Hp) (C : Addr) (cl : List (Str × Addr)) (fp : List Addr), PTsd (X.blk s H scope (compEnvC scope cl C X.env) fp) W0 ifs t)
    (hi1 : ∀ (s : Shared) (H : Hp) (C : Addr) (cl : List (Str × Addr)) (fp : List Addr), PIdw (X.blk s H scope (compEnvC scope cl C X.env) fp) W0 tg1 iter1 di1)
    (hg1 : ∀ (s : Shared) (H : Hp) (C : Addr) (cl : List (Str × Addr)) (fp : List Addr), PG (X.blk s H scope (compEnvC scope cl C X.env) fp) tg1 G1) (ht1 : ∀ (s : Shared) (H : Hp) (C : Addr) (cl : List (Str × Addr)) (fp : List Addr), PTsd (X.blk s H scope (compEnvC scope cl C X.env) fp) W0 ifs1 t1)
    (he : ∀ (s : Shared) (H : Hp) (C : Addr) (cl : List (Str × Addr)) (fp : List Addr), PEd (X.blk s H scope (compEnvC scope cl C X.env) fp) W0 elt de) (hox : own.map (·.2) = ixs := by rfl) (hs : ∀ x, foldedSetIterable iter X.env x = pure x := by intro _; rfl) (hs1 : ∀ env x, foldedSetIterable iter1 env x = pure x := by intro _ _; rfl) :
    PLd X W (.ListComp elt [⟨tg, iter, ifs, 0⟩, ⟨tg1, iter1, ifs1, 0⟩] scope pos) (dLc2 di g t di1 g1 t1 de ixs vs1) := by
  subst hox
  exact PE.mono (pe_lc2 (wi := tG X.K X.mg relI W di) (wi1 := tG X.K X.mg relIw W0 di1) (tt := tG X.K X.mg relB W0 t) (tt1 := tG X.K X.mg relB W0 t1) (te := tG X.K X.mg relV W0 de) hc hN hi ok hv hg ht hi1 hg1 ht1 he hs hs1) fun _ _ _ h => lc2_read gs hix gs1 hix1 h
theorem psd_setLc2Fz0 {i : Nat} {y : Str} {py : Pos} (hy : X.N[i]? = some y) (hyl : X.env.scope.names.lookup y = some .local) (hsw : swapsWith (.ListComp elt [⟨tg, iter, ifs, 0⟩, ⟨tg1, iter1, ifs1, 0⟩] scope pos) (some (.Name y py)) spos.line X.env = pure true)
    (hc : X.calm = true) (hN : X.N.Nodup) (hi : PId X W tg iter di) (ok : BlkOk X.N X.env.scope scope own) (hv : ∀ i ∈ vs1, i ∈ own.map (·.2)) (gs : GS X.K X.mg G ix g) (hix : ∀ j ∈ ix, j ∈ own.map (·.2)) (gs1 : GS X.K X.mg G1 ix1 g1) (hix1 : ∀ j ∈ ix1, j ∈ vs1)
    (hg : ∀ (s : Shared) (H : Hp) (C : Addr) (cl : List (Str × Addr)) (fp : List Addr), PG (X.blk s H scope (compEnvC scope cl C X.env) fp) tg G) (ht : ∀ (s : Shared) (H : Hp) (C : Addr) (cl : List (Str × Addr)) (fp : List Addr), PTsd (X.blk s H scope (compEnvC scope cl C X.env) fp) W0 ifs t)
    (hi1 : ∀ (s : Shared) (H : Hp) (C : Addr) (cl : List (Str × Addr)) (fp : List Addr), PIdw (X.blk s H scope (compEnvC scope cl C X.env) fp) W0 tg1 iter1 di1)
    (hg1 : ∀ (s : Shared) (H : Hp) (C : Addr) (cl : List (Str × Addr)) (fp : List Addr), PG (X.blk s H scope (compEnvC scope cl C X.env) fp) tg1 G1) (ht1 : ∀ (s : Shared) (H : Hp) (C : Addr) (cl : List (Str × Addr)) (fp : List Addr), PTsd (X.blk s H scope (compEnvC scope cl C X.env) fp) W0 ifs1 t1)
    (he : ∀ (s : Shared) (H : Hp) (C : Addr) (cl : List (Str × Addr)) (fp : List Addr), PEd (X.blk s H scope (compEnvC scope cl C X.env) fp) W0 elt de) (hs : ∀ x, foldedSetIterable iter X.env x = pure x := by intro _; rfl) (hs1 : ∀ env x, foldedSetIterable iter1 env x = pure x := by intro _ _; rfl) :
    PSd X W (.Assign [.Name y py] (.ListComp elt [⟨tg, iter, ifs, 0⟩, ⟨tg1, iter1, ifs1, 0⟩] scope pos) spos) (dSet i (dFz (dLc2 di g t di1 g1 t1 de (own.map (·.2)) vs1))) :=
  PS.mono (ps_setLc2 (i := i) (wi := tG X.K X.mg relI W di) (wi1 := tG X.K X.mg relIw W0 di1) (tt := tG X.K X.mg relB W0 t) (tt1 := tG X.K X.mg relB W0 t1) (te := tG X.K X.mg relV W0 de) hc hN hy hyl hsw hi ok hv hg ht hi1 hg1 ht1 he hs hs1) fun E σ H ⟨ρ, ι, st, env, S, ve, p⟩ => lc2_read gs hix gs1 hix1 ⟨ρ, ι, st, env, S, ve, by
    have p : PostS ⟨X.K, X.mg, ρ⟩ W E σ ι H ((dFz (dLc2 di g t di1 g1 t1 de (own.map (·.2)) vs1) env st).bindS env fun x st1 => .nx (env.set i (some x)) st1) := p
    unfold dFz at p
    cases q : dLc2 di g t di1 g1 t1 de (own.map (·.2)) vs1 env st with
    | bad => rw [q] at p; exact p.elim
    | exc x st1 => rw [q] at p; exact fun ι1 H1 c d s S1 ex => p ι1 H1 σ c d s S1 (ve.step s) ex
    | ok xs st1 =>
      rw [q] at p
      intro ι1 H1 v s S1 rx
      obtain ⟨a, ys, rfl, h1, h2, m, m', r, S2⟩ := rx
      exact p ι1 H1 _ s S1 (VEnv.set (d := .fz xs) (ve.step s) ⟨a, ys, rfl, h1, ⟨(S2.rs a List.mem_cons_self).2, m'⟩, r.less.1⟩)⟩
theorem psd_setLc2Fz {i : Nat} {y : Str} {py : Pos} (hy : X.N[i]? = some y) (hyl : X.env.scope.names.lookup y = some .local) (hsw : swapsWith (.ListComp elt [⟨tg, iter, ifs, 0⟩, ⟨tg1, iter1, ifs1, 0⟩] scope pos) (some (.Name y py)) spos.line X.env = pure true)
    (hc : X.calm = true) (hN : X.N.Nodup) (hi : PId X W tg iter di) (ok : BlkOk X.N X.env.scope scope own) (hv : ∀ i ∈ vs1, i ∈ own.map (·.2)) (gs : GS X.K X.mg G ix g) (hix : ∀ j ∈ ix, j ∈ own.map (·.2)) (gs1 : GS X.K X.mg G1 ix1 g1) (hix1 : ∀ j ∈ ix1, j ∈ vs1)
    (hg : ∀ (s : Shared) (H : Hp) (C : Addr) (cl : List (Str × Addr)) (fp : List Addr), PG (X.blk s H scope (compEnvC scope cl C X.env) fp) tg G) (ht : ∀ (s : Shared) (H : Hp) (C : Addr) (cl : List (Str × Addr)) (fp : List Addr), PTsd (X.blk s H scope (compEnvC scope cl C X.env) fp) W0 ifs t)
    (hi1 : ∀ (s : Shared) (H : Hp) (C : Addr) (cl : List (Str × Addr)) (fp : List Addr), PIdw (X.blk s H scope (compEnvC scope cl C X.env) fp) W0 tg1 iter1 di1)
    (hg1 : ∀ (s : Shared) (H : Hp) (C : Addr) (cl : List (Str × Addr)) (fp : List Addr), PG (X.blk s H scope (compEnvC scope cl C X.env) fp) tg1 G1) (ht1 : ∀ (s : Shared) (H : Hp) (C : Addr) (cl : List (Str × Addr)) (fp : List Addr), PTsd (X.blk s H scope (compEnvC scope cl C X.env) fp) W0 ifs1 t1)
    (he : ∀ (s : Shared) (H : Hp) (C : Addr) (cl : List (Str × Addr)) (fp : List Addr), PEd (X.blk s H scope (compEnvC scope cl C X.env) fp) W0 elt de) (hox : own.map (·.2) = ixs := by rfl) (hs : ∀ x, foldedSetIterable iter X.env x = pure x := by intro _; rfl) (hs1 : ∀ env x, foldedSetIterable iter1 env x = pure x := by intro _ _; rfl) :
    PSd X W (.Assign [.Name y py] (.ListComp elt [⟨tg, iter, ifs, 0⟩, ⟨tg1, iter1, ifs1, 0⟩] scope pos) spos) (dSet i (dFz (dLc2 di g t di1 g1 t1 de ixs vs1))) := by
  subst hox
  exact psd_setLc2Fz0 hy hyl hsw hc hN hi ok hv gs hix gs1 hix1 hg ht hi1 hg1 ht1 he hs hs1
theorem psd_setLc2New0 {i : Nat} {y : Str} {py : Pos} (hy : X.N[i]? = some y) (hyl : X.env.scope.names.lookup y = some .local) (hsw : swapsWith (.ListComp elt [⟨tg, iter, ifs, 0⟩, ⟨tg1, iter1, ifs1, 0⟩] scope pos) (some (.Name y py)) spos.line X.env = pure true)
    (hc : X.calm = true) (hN : X.N.Nodup) (hi : PId X W tg iter di) (ok : BlkOk X.N X.env.scope scope own) (hv : ∀ i ∈ vs1, i ∈ own.map (·.2)) (gs : GS X.K X.mg G ix g) (hix : ∀ j ∈ ix, j ∈ own.map (·.2)) (gs1 : GS X.K X.mg G1 ix1 g1) (hix1 : ∀ j ∈ ix1, j ∈ vs1)
    (hg : ∀ (s : Shared) (H : Hp) (C : Addr) (cl : List (Str × Addr)) (fp : List Addr), PG (X.blk s H scope (compEnvC scope cl C X.env) fp) tg G) (ht : ∀ (s : Shared) (H : Hp) (C : Addr) (cl : List (Str × Addr)) (fp : List Addr), PTsd (X.blk s H scope (compEnvC scope cl C X.env) fp) W0 ifs t)
    (hi1 : ∀ (s : Shared) (H : Hp) (C : Addr) (cl : List (Str × Addr)) (fp : List Addr), PIdw (X.blk s H scope (compEnvC scope cl C X.env) fp) W0 tg1 iter1 di1)
    (hg1 : ∀ (s : Shared) (H : Hp) (C : Addr) (cl : List (Str × Addr)) (fp : List Addr), PG (X.blk s H scope (compEnvC scope cl C X.env) fp) tg1 G1) (ht1 : ∀ (s : Shared) (H : Hp) (C : Addr) (cl : List (Str × Addr)) (fp : List Addr), PTsd (X.blk s H scope (compEnvC scope cl C X.env) fp) W0 ifs1 t1)
    (he : ∀ (s : Shared) (H : Hp) (C : Addr) (cl : List (Str × Addr)) (fp : List Addr), PEd (X.blk s H scope (compEnvC scope cl C X.env) fp) W0 elt de) (hs : ∀ x, foldedSetIterable iter X.env x = pure x := by intro _; rfl) (hs1 : ∀ env x, foldedSetIterable iter1 env x = pure x := by intro _ _; rfl) :
    PSd X W (.Assign [.Name y py] (.ListComp elt [⟨tg, iter, ifs, 0⟩, ⟨tg1, iter1, ifs1, 0⟩] scope pos) spos) (dSet i (dNew (dLc2 di g t di1 g1 t1 de (own.map (·.2)) vs1))) :=
  PS.mono (ps_setLc2 (i := i) (wi := tG X.K X.mg relI W di) (wi1 := tG X.K X.mg relIw W0 di1) (tt := tG X.K X.mg relB W0 t) (tt1 := tG X.K X.mg relB W0 t1) (te := tG X.K X.mg relV W0 de) hc hN hy hyl hsw hi ok hv hg ht hi1 hg1 ht1 he hs hs1) fun E σ H ⟨ρ, ι, st, env, S, ve, p⟩ => lc2_read gs hix gs1 hix1 ⟨ρ, ι, st, env, S, ve, by
    have p : PostS ⟨X.K, X.mg, ρ⟩ W E σ ι H ((dNew (dLc2 di g t di1 g1 t1 de (own.map (·.2)) vs1) env st).bindS env fun x st1 => .nx (env.set i (some x)) st1) := p
    unfold dNew at p
    cases q : dLc2 di g t di1 g1 t1 de (own.map (·.2)) vs1 env st with
    | bad => rw [q] at p; exact p.elim
    | exc x st1 => rw [q] at p; exact fun ι1 H1 c d s S1 ex => p ι1 H1 σ c d s S1 (ve.step s) ex
    | ok xs st1 =>
      rw [q] at p
      intro ι1 H1 v s S1 rx
      obtain ⟨a, ys, rfl, h1, h2, m, m', r, S2⟩ := rx
      obtain ⟨more, e1, f1⟩ := id s.pre
      have sT : Step ι H (ι1 ++ [a]) H1 := ⟨⟨more ++ [a], by rw [e1, List.append_assoc], fun b hb => by
        rcases List.mem_append.mp hb with z | z
        · exact f1 b z
        · have : b = a := by simpa using z
          subst this
          exact ⟨h2, m⟩⟩, s.rest0⟩
      exact p (ι1 ++ [a]) H1 _ sT (S2.take m' h1 r) (VEnv.set (d := .ref st1.length) (ve.step sT) ⟨a, by rw [← S1.len, List.getElem?_append_right (by omega)]; simp, rfl⟩)⟩
theorem psd_setLc2New {i : Nat} {y : Str} {py : Pos} (hy : X.N[i]? = some y) (hyl : X.env.scope.names.lookup y = some .local) (hsw : swapsWith (.ListComp elt [⟨tg, iter, ifs, 0⟩, ⟨tg1, iter1, ifs1, 0⟩] scope pos) (some (.Name y py)) spos.line X.env = pure true)
    (hc : X.calm = true) (hN : X.N.Nodup) (hi : PId X W tg iter di) (ok : BlkOk X.N X.env.scope scope own) (hv : ∀ i ∈ vs1, i ∈ own.map (·.2)) (gs : GS X.K X.mg G ix g) (hix : ∀ j ∈ ix, j ∈ own.map (·.2)) (gs1 : GS X.K X.mg G1 ix1 g1) (hix1 : ∀ j ∈ ix1, j ∈ vs1)
    (hg : ∀ (s : Shared) (H : Hp) (C : Addr) (cl : List (Str × Addr)) (fp : List Addr), PG (X.blk s H scope (compEnvC scope cl C X.env) fp) tg G) (ht : ∀ (s : Shared) (H : Hp) (C : Addr) (cl : List (Str × Addr)) (fp : List Addr), PTsd (X.blk s H scope (compEnvC scope cl C X.env) fp) W0 ifs t)
    (hi1 : ∀ (s : Shared) (H : Hp) (C : Addr) (cl : List (Str × Addr)) (fp : List Addr), PIdw (X.blk s H scope (compEnvC scope cl C X.env) fp) W0 tg1 iter1 di1)
    (hg1 : ∀ (s : Shared) (H : Hp) (C : Addr) (cl : List (Str × Addr)) (fp : List Addr), PG (X.blk s H scope (compEnvC scope cl C X.env) fp) tg1 G1) (ht1 : ∀ (s : Shared) (H : Hp) (C : Addr) (cl : List (Str × Addr)) (fp : List Addr), PTsd (X.blk s H scope (compEnvC scope cl C X.env) fp) W0 ifs1 t1)
    (he : ∀ (s : Shared) (H : Hp) (C : Addr) (cl : List (Str × Addr)) (fp : List Addr), PEd (X.blk s H scope (compEnvC scope cl C X.env) fp) W0 elt de) (hox : own.map (·.2) = ixs := by rfl) (hs : ∀ x, foldedSetIterable iter X.env x = pure x := by intro _; rfl) (hs1 : ∀ env x, foldedSetIterable iter1 env x = pure x := by intro _ _; rfl) :
    PSd X W (.Assign [.Name y py] (.ListComp elt [⟨tg, iter, ifs, 0⟩, ⟨tg1, iter1, ifs1, 0⟩] scope pos) spos) (dSet i (dNew (dLc2 di g t di1 g1 t1 de ixs vs1))) := by
  subst hox
  exact psd_setLc2New0 hy hyl hsw hc hN hi ok hv gs hix gs1 hix1 hg ht hi1 hg1 ht1 he hs hs1
end
end DD

/-! DD19: sorted of texts and of ints, any number of them. -/
namespace DD
open PySem L2 PyProof.Rows
variable [NMs]
theorem perm_sorted_eq {α : Type} {le : α → α → Prop} (anti : ∀ a b, le a b → le b a → a = b) : ∀ {l1 l2 : List α}, l1.Perm l2 → l1.Pairwise le → l2.Pairwise le → l1 = l2
  | [], l2, p, _, _ => p.nil_eq
  | a :: r1, [], p, _, _ => absurd p.length_eq (by simp)
  | a :: r1, b :: r2, p, h1, h2 => by
    have e : a = b := by
      have h1' := List.pairwise_cons.mp h1
      have h2' := List.pairwise_cons.mp h2
      rcases List.mem_cons.mp (p.mem_iff.mp List.mem_cons_self : a ∈ b :: r2) with z | z
      · exact z
      · rcases List.mem_cons.mp (p.mem_iff.mpr List.mem_cons_self : b ∈ a :: r1) with y | y
        · exact y.symm
        · exact anti a b (h1'.1 b y) (h2'.1 a z)
    subst e
    rw [perm_sorted_eq anti (List.Perm.cons_inv p) (List.pairwise_cons.mp h1).2 (List.pairwise_cons.mp h2).2]
def leS (a b : Str) : Prop := ¬ b.cps.toList < a.cps.toList
instance : DecidableRel leS := fun _ _ => inferInstanceAs (Decidable (¬ _))
theorem leS_anti (a b : Str) (h1 : leS a b) (h2 : leS b a) : a = b := by
  have e : a.cps.toList = b.cps.toList := List.le_antisymm (List.not_lt.mp h1) (List.not_lt.mp h2)
  cases a; cases b
  simp only [Str.mk.injEq]
  exact Array.toList_inj.mp e
theorem leS_trans (a b c : Str) (h1 : leS a b) (h2 : leS b c) : leS a c := List.not_lt.mpr (List.le_trans (List.not_lt.mp h1) (List.not_lt.mp h2))
theorem leS_total (a b : Str) : leS a b ∨ leS b a := by
  rcases List.le_total a.cps.toList b.cps.toList with h | h
  · exact .inl (List.not_lt.mpr h)
  · exact .inr (List.not_lt.mpr h)
def sortS (l : List Str) : List Str := l.mergeSort fun a b => decide (leS a b)
theorem sortS_perm (l : List Str) : (sortS l).Perm l := List.mergeSort_perm _ _
theorem sortS_sorted (l : List Str) : (sortS l).Pairwise leS := by
  have := List.pairwise_mergeSort (le := fun a b => decide (leS a b)) (fun a b c h1 h2 => decide_eq_true (leS_trans a b c (of_decide_eq_true h1) (of_decide_eq_true h2))) (fun a b => by
    rcases leS_total a b with h | h
    · simp [h]
    · simp [h]) l
  exact this.imp fun h => of_decide_eq_true h
theorem sortS_eq {l ys : List Str} (p : ys.Perm l) (h : ys.Pairwise leS) : ys = sortS l := perm_sorted_eq leS_anti (p.trans (sortS_perm l).symm) h (sortS_sorted l)
def sortI (l : List Int) : List Int := l.mergeSort fun a b => decide (a ≤ b)
theorem sortI_perm (l : List Int) : (sortI l).Perm l := List.mergeSort_perm _ _
theorem sortI_sorted (l : List Int) : (sortI l).Pairwise (· ≤ ·) := by
  have := List.pairwise_mergeSort (le := fun a b : Int => decide (a ≤ b)) (fun a b c h1 h2 => by simp at *; omega) (fun a b => by simp; omega) l
  exact this.imp fun h => of_decide_eq_true h
theorem sortI_eq {l ys : List Int} (p : ys.Perm l) (h : ys.Pairwise (· ≤ ·)) : ys = sortI l := perm_sorted_eq (fun a b h1 h2 => Int.le_antisymm h1 h2) (p.trans (sortI_perm l).symm) h (sortI_sorted l)
end DD
namespace SrtO
open PySem PyProof.Rows Srt
section
variable {prog : Program} {w : World} {A : Around} {E : Value → Shared → Prop} {s : Shared}
def sv : Value → PySem.Str
  | .str x _ => x
  | _ => ⟨#[]⟩
def ltSv (v u : Value) : Bool := decide ((sv v).cps.toList < (sv u).cps.toList)
theorem swo_str : Swo ltSv := by
  refine ⟨fun x y h => ?_, fun x y z h1 h2 => ?_⟩
  · exact decide_eq_false (List.lt_asymm (of_decide_eq_true (p := (sv x).cps.toList < (sv y).cps.toList) h))
  · exact decide_eq_false (List.not_lt.mpr (List.le_trans (List.not_lt.mp (of_decide_eq_false (p := (sv y).cps.toList < (sv x).cps.toList) h1)) (List.not_lt.mp (of_decide_eq_false (p := (sv z).cps.toList < (sv y).cps.toList) h2))))
theorem strs_mem : ∀ {vs : List Value} {ns : List PySem.Str}, StrsAre vs ns → ∀ v ∈ vs, ∃ i t, v = Value.str i t
  | _, _, .nil, v, h => absurd h (by simp)
  | _, _, .cons n t r, v, h => by
    rcases List.mem_cons.mp h with e | h
    · exact ⟨n, t, e⟩
    · exact strs_mem r v h
theorem strs_sv : ∀ {vs : List Value}, (∀ v ∈ vs, ∃ i t, v = Value.str i t) → StrsAre vs (vs.map sv)
  | [], _ => .nil
  | v :: vs, h => by
    obtain ⟨i, t, e⟩ := h v List.mem_cons_self
    subst e
    exact .cons i t (strs_sv fun u hu => h u (List.mem_cons_of_mem _ hu))
theorem sv_strs : ∀ {vs : List Value} {ns : List PySem.Str}, StrsAre vs ns → vs.map sv = ns
  | _, _, .nil => rfl
  | _, _, .cons n t r => congrArg (n :: ·) (sv_strs r)
theorem str_cmp {vs : List Value} {ns : List PySem.Str} (hI : StrsAre vs ns) : Cmp prog w A s oneType' (fun p => p.1 ∈ vs) (lt2 ltSv) := by
  intro p q hm hm'
  obtain ⟨a, t, e⟩ := strs_mem hI _ hm
  obtain ⟨b, u, e'⟩ := strs_mem hI _ hm'
  show wpAny (model prog w) A (keyLt' oneType' p.1 q.1) (fun r s' => s' = s ∧ r = ltSv p.1 q.1) (fun _ _ => False) s
  rw [e, e', keyLt'_oneType]
  exact oneLt_str ⟨rfl, rfl⟩
theorem strs_sortable {a : Addr} {vs : List Value} {ns : List PySem.Str} (hI : StrsAre vs ns) (h2 : 2 ≤ vs.length) : SortableO prog w A s a vs ltSv := by
  intro h' _
  refine ⟨oneType', fun Q E hq => ?_, str_cmp hI⟩
  match vs, hI, h2 with
  | v1 :: v2 :: rest, hI, _ =>
    rw [keyKind_strs hI]
    exact wpAny_pure hq
  | [], _, h => exact absurd h (by decide)
  | [v], _, h => exact absurd h (by simp)
theorem strs_out {vs out : List Value} {ns : List PySem.Str} (hI : StrsAre vs ns) (hs : Srtd ltSv out) (hb : Stb ltSv out vs) : StrsAre out (out.map sv) ∧ (out.map sv).Perm ns ∧ (out.map sv).Pairwise DD.leS := by
  refine ⟨strs_sv fun v hv => strs_mem hI v (hb.perm.mem_iff.mp hv), ?_, ?_⟩
  · have q := hb.perm.map sv
    rw [sv_strs hI] at q
    exact q
  · exact List.pairwise_map.mpr (hs.imp fun {x y} h => of_decide_eq_false (p := (sv y).cps.toList < (sv x).cps.toList) h)
end
end SrtO
namespace DD
open PySem L2 PyProof.Rows
variable [NMs]
def rSortedAny (K : PySem.W.Frag) : List V → Hp → VK → Prop := fun vs H Q => ∃ (a : Addr) (xs : List Str), vs = [V.ref a] ∧ SqL K H a (xs.map V.str) ∧
  ∀ p : Addr, H p = none → Q (.ref p) (upd H p (.lst ((sortS xs).map V.str)))
def rSortedAnyI (K : PySem.W.Frag) : List V → Hp → VK → Prop := fun vs H Q => ∃ (a : Addr) (xs : List Int), vs = [V.ref a] ∧ SqL K H a (xs.map V.int) ∧
  ∀ p : Addr, H p = none → Q (.ref p) (upd H p (.lst ((sortI xs).map V.int)))
section
variable {X : Cx}
theorem cr_sortedAnyS : CallR X (.builtin "sorted") (rSortedAny X.K) := by
  intro pins s σ H vs us Q I r h
  obtain ⟨a, ns, rfl, hs, q⟩ := h
  obtain ⟨its, rv, hl, hz⟩ := I.list hs
  rw [Vals.ref1 r]
  have hi := rv.strs
  refine SrtO.sorted_ord SrtO.swo_str hl.isList (by rw [← rv.length]; exact hz) (fun h2 h₁ a' _ _ => SrtO.strs_sortable hi h2) fun out h1 h2 => ?_
  obtain ⟨k1, k2, k3⟩ := SrtO.strs_out hi h1 h2
  obtain ⟨ep, he'⟩ := PyProof.Rows.sortedAll_at s.heap its out.toArray
  have hlen : ((out.map SrtO.sv).map V.str).length ≤ sizeLine := by
    rw [List.length_map, k2.length_eq]
    rw [List.length_map] at hz
    exact hz
  have e := sortS_eq k2 k3
  exact ⟨.ref _, upd H (s.heap.objs.size + 1) (.lst ((out.map SrtO.sv).map V.str)), I.laid (t' := s.toks) (fun _ _ => PyProof.Rows.sortedAll_old) (Nat.le_succ _) ⟨hlen, out, ep, vals_of_strs k1, he'⟩, rfl, by rw [e]; exact q _ (I.hok.fresh (Nat.le_succ _))⟩
theorem cr_sortedAny : CallR X (.builtin "sorted") (fun xs H Q => rSortedAny X.K xs H Q ∨ rSortedAnyI X.K xs H Q) := by
  intro pins s σ H vs us Q I r h
  rcases h with h | h
  · exact cr_sortedAnyS pins s σ H vs us Q I r h
  · obtain ⟨a, ns, e, hs, q⟩ := h
    exact cr_sortedI pins s σ H vs us Q I r ⟨a, ns, e, hs, fun ns' p k1 k2 hp => by rw [sortI_eq k1 k2]; exact q p hp⟩
end
def intsOf : List D → Option (List Int)
  | [] => some []
  | .int b :: r => (intsOf r).map (b :: ·)
  | _ => none
theorem ints_of {B H ι} : ∀ {ds : List D} {bs : List Int} {vs : List V}, intsOf ds = some bs → VRs B H ι ds vs → vs = bs.map V.int
  | [], bs, vs, e, r => by cases e; cases r; rfl
  | d :: ds, bs, vs, e, ⟨x, t, e1, h, r⟩ => by
    subst e1
    cases d <;> (try (cases e))
    rename_i b
    cases h
    have e' : (intsOf ds).map (b :: ·) = some bs := e
    cases q : intsOf ds with
    | none => rw [q] at e'; cases e'
    | some cs => rw [q] at e'; cases e'; rw [ints_of q r]; rfl
theorem vrs_strs {B : Bs} {H : Hp} {ι : List Addr} : ∀ ns : List Str, VRs B H ι (ns.map D.str) (ns.map V.str)
  | [] => rfl
  | n :: r => ⟨_, _, rfl, rfl, vrs_strs r⟩
def lstD : D → Sto → Option (List D)
  | .fz ds, _ => some ds
  | .sc ds, _ => some ds
  | .ref n, st => match st[n]? with
    | some (.lst ds) => some ds
    | _ => none
  | _, _ => none
theorem lst_of {B : Bs} {H ι st} {d : D} {v : V} {ds : List D} (S : Sim B H ι st) (r : VR B H ι d v) (h : lstD d st = some ds) : ∃ a ys, v = .ref a ∧ SqL B.K H a ys ∧ VRs B H ι ds ys := by
  cases d with
  | fz ds => obtain ⟨a, ys, rfl, h1, n1, r1⟩ := r; cases h; exact ⟨a, ys, rfl, SqL.of h1, r1⟩
  | sc ds => obtain ⟨a, ys, rfl, h1, r1⟩ := r; cases h; exact ⟨a, ys, rfl, h1.sq, r1⟩
  | ref n =>
    obtain ⟨a, ha, rfl⟩ := r
    simp only [lstD] at h
    split at h
    · rename_i ds e
      cases h
      obtain ⟨ys, h1, r1⟩ := S.look e ha
      exact ⟨a, ys, rfl, SqL.of h1, r1⟩
    · cases h
  | _ => cases h
def fSorted : FL := fun xs st => match xs with
  | [x] => match lstD x st with
    | some ds => match strsOf ds with
      | some ss => .ok ((sortS ss).map .str) st
      | none => match intsOf ds with
        | some ns => .ok ((sortI ns).map .int) st
        | none => .bad
    | none => .bad
  | _ => .bad
theorem rcl_sorted {K : PySem.W.Frag} {mg : Str → Option Value} : RCL K mg (fun xs H Q => rSortedAny K xs H Q ∨ rSortedAnyI K xs H Q) fSorted := by
  intro ρ ι H st xs vs W σ Q S r p
  unfold fSorted at p
  split at p
  · rename_i x
    obtain ⟨v, rfl, h⟩ := vr1 r
    split at p
    · rename_i ds e
      obtain ⟨a, ys, rfl, hs, r1⟩ := lst_of S h e
      split at p
      · rename_i ss e2
        have := strs_of e2 r1
        subst this
        exact .inl ⟨a, ss, rfl, hs, new_lst S (vrs_strs _) p⟩
      · split at p
        · rename_i ns e2
          have := ints_of e2 r1
          subst this
          exact .inr ⟨a, ns, rfl, hs, new_lst S (vrs_ints _) p⟩
        · exact p.elim
    · exact p.elim
  · exact p.elim
end DD

/-! DD20: dicts with ints and texts as keys, in the store; a list of the store gone over. -/
namespace DD
open PySem L2 PyProof.Rows
variable [NMs]
/-! ### a list of the store, gone over while it stays as it is -/
theorem x_keep (n : Nat) (ds : List D) : ∃ f : Sto → Bool, ∀ st, f st = true ↔ ∃ o, st[n]? = some o ∧ o = .lst ds := by
  classical
  exact ⟨fun st => decide (∃ o, st[n]? = some o ∧ o = .lst ds), fun st => by simp⟩
noncomputable def keepRef (n : Nat) (ds : List D) : Sto → Bool := (x_keep n ds).choose
theorem keepRef_iff {n : Nat} {ds : List D} {st : Sto} : keepRef n ds st = true ↔ st[n]? = some (.lst ds) := by
  rw [keepRef, (x_keep n ds).choose_spec st]
  exact ⟨fun ⟨o, h, e⟩ => by rw [h, e], fun h => ⟨_, h, rfl⟩⟩
theorem itl_ref {B : Bs} {ι1 : List Addr} {H1 : Hp} {a : Addr} {n : Nat} {ds : List D} (ha : ι1[n]? = some a) : ItOk B (Itl B.K a) ι1 H1 (keepRef n ds) ds := by
  have key : ∀ ρ' ι' H' st', Step ι1 H1 ι' H' → Sim ⟨B.K, B.mg, ρ'⟩ H' ι' st' → keepRef n ds st' = true → ∃ ys, H' a = some (.lst ys) ∧ VRs ⟨B.K, B.mg, ρ'⟩ H' ι' ds ys := fun ρ' ι' H' st' s S k => by
    obtain ⟨ys, h1, r1⟩ := S.look (keepRef_iff.mp k) (s.ix ha)
    exact ⟨ys, h1, r1⟩
  refine ⟨fun ρ' i ι' H' st' f s S k hi => ?_, fun ρ' i d ι' H' st' v H'' f s S k hd y => ?_, fun ρ' i ι' H' st' f s S k hi => ?_⟩
  · obtain ⟨ys, h1, r⟩ := key ρ' ι' H' st' s S k
    obtain ⟨v, hv, _⟩ := r.get (List.getElem?_eq_getElem hi)
    exact ⟨ys, v, SqL.of h1, hv⟩
  · obtain ⟨e, y⟩ := y
    subst e
    obtain ⟨ys, h1, r⟩ := key ρ' ι' _ st' s S k
    obtain ⟨w, hw, vr⟩ := r.get hd
    have : v = w := Option.some.inj ((y ys (SqL.of h1)).symm.trans hw)
    subst this
    exact ⟨Step.refl _ _, S, vr⟩
  · obtain ⟨ys, h1, r⟩ := key ρ' ι' H' st' s S k
    exact ⟨ys, SqL.of h1, by rw [← r.length]; exact hi⟩
noncomputable def dItemsR (da : DE) : DI := fun env st => (da env st).bind fun x st1 => match x with
  | .fz ds => .ok (ds, yes) st1
  | .sc ds => .ok (ds, yes) st1
  | .ref n => match st1[n]? with
    | some (.lst ds) => .ok (ds, keepRef n ds) st1
    | _ => .bad
  | _ => .bad
section
variable {X : Cx} {W : WX} {tg e : Expr} {da dx dk : DE} {pos p : Pos}
theorem pid_listR (ha : PEd X W e da) : PId X W tg e (dItemsR da) := PI.mono (pi_list ha) fun σ H R ⟨ρ, ι, st, env, S, ve, p⟩ => ⟨ρ, ι, st, env, S, ve, Post.bind p fun x st1 ι1 H1 v s1 S1 rx p1 => by
  cases x <;> (try exact p1.elim)
  · obtain ⟨a, xs, rfl, h, m, r⟩ := rx
    exact ⟨a, rfl, ⟨xs, SqL.of h⟩, p1.ok S1 ⟨itl_ok (B := ⟨X.K, X.mg, ρ⟩) (.inr ⟨h, m⟩) r, rfl⟩⟩
  · obtain ⟨a, xs, rfl, h, r⟩ := rx
    exact ⟨a, rfl, ⟨xs, h.sq⟩, p1.ok S1 ⟨itl_ok (B := ⟨X.K, X.mg, ρ⟩) (.inl h) r, rfl⟩⟩
  · rename_i n
    obtain ⟨a, ha', rfl⟩ := rx
    simp only [] at p1
    split at p1
    · rename_i ds q
      obtain ⟨ys, h1, r1⟩ := S1.look q ha'
      exact ⟨a, rfl, ⟨ys, SqL.of h1⟩, p1.ok S1 ⟨itl_ref (B := ⟨X.K, X.mg, ρ⟩) ha', keepRef_iff.mpr q⟩⟩
    · exact p1.elim⟩
/-! ### dicts -/
def dDictNew : DE := fun _ st => .ok (.ref st.length) (st ++ [.dct [] []])
theorem pd_dictNew : PEd X W (.Dict [] [] pos) dDictNew := PE.mono pe_dnewK fun σ H Q ⟨ρ, ι, st, env, S, ve, p⟩ => fun q hq =>
  p (ι ++ [q]) _ (.ref q) (Step.alloc S hq) (Sim.alloc S hq ⟨[], [], upd_same, rfl, rfl, rfl⟩) ⟨q, by rw [← S.len, List.getElem?_append_right (by omega)]; simp, rfl⟩
def keyD : D → Option Key
  | .int i => some (.inl i)
  | .str x => some (.inr x)
  | _ => none
theorem keyD_of {B H ι} {d : D} {v : V} {k : Key} (r : VR B H ι d v) (h : keyD d = some k) : v = kV k := by
  cases d <;> (try (cases h)) <;> (cases r; rfl)
def dK' (k : Key) : D := match k with
  | .inl i => .int i
  | .inr x => .str x
theorem vr_dK {B H ι} (k : Key) : VR B H ι (dK' k) (kV k) := by cases k <;> rfl
def repl {α β : Type} [DecidableEq α] (k : α) (d : β) : List α → List β → List β
  | k' :: ks, x :: xs => (if k' = k then d else x) :: repl k d ks xs
  | _, _ => []
def pkD (k : Key) (d : D) (ks : List Key) (ds : List D) : List Key × List D := if (ks.any fun k' => decide (k' = k)) = true then (ks, repl k d ks ds) else (ks ++ [k], ds ++ [d])
theorem repl_zip {α : Type} [DecidableEq α] (k : α) (v : V) : ∀ (ks : List α) (xs : List V), (ks.zip xs).map (fun kv => if kv.1 = k then (kv.1, v) else kv) = ks.zip (repl k v ks xs)
  | [], _ => rfl
  | _ :: _, [] => rfl
  | k' :: ks, x :: xs => by
    simp only [List.zip_cons_cons, List.map_cons, repl, repl_zip k v ks xs]
    by_cases h : k' = k <;> simp [h]
theorem any_zip {α : Type} [DecidableEq α] (k : α) : ∀ (ks : List α) (xs : List V), ks.length = xs.length → ((ks.zip xs).any fun kv => decide (kv.1 = k)) = ks.any fun k' => decide (k' = k)
  | [], _, _ => rfl
  | _ :: _, [], h => by simp at h
  | k' :: ks, x :: xs, h => by
    rw [List.zip_cons_cons, List.any_cons, List.any_cons, any_zip k ks xs (by simpa using h)]
theorem repl_len {α β : Type} [DecidableEq α] (k : α) (d : β) : ∀ (ks : List α) (xs : List β), ks.length = xs.length → (repl k d ks xs).length = xs.length
  | [], [], _ => rfl
  | [], _ :: _, h => by simp at h
  | _ :: _, [], h => by simp at h
  | _ :: ks, _ :: xs, h => by simp only [repl, List.length_cons, repl_len k d ks xs (by simpa using h)]
theorem repl_vr {B H ι} (k : Key) {d : D} {v : V} (hv : VR B H ι d v) : ∀ (ks : List Key) {ds : List D} {xs : List V}, VRs B H ι ds xs → VRs B H ι (repl k d ks ds) (repl k v ks xs)
  | [], _, _, _ => rfl
  | _ :: _, [], _, r => by cases r; rfl
  | k' :: ks, _ :: _, _, ⟨x, t, e, h, r⟩ => by
    subst e
    refine ⟨_, _, rfl, ?_, repl_vr k hv ks r⟩
    by_cases e : k' = k
    · simp only [e, if_true]; exact hv
    · simp only [e, if_false]; exact h
theorem pk_vr {B H ι} {k : Key} {d : D} {v : V} (hv : VR B H ι d v) {ks : List Key} {ds : List D} {xs : List V} (l : ks.length = xs.length) (r : VRs B H ι ds xs) :
    ∃ ys, putK (ks.zip xs) k v = (pkD k d ks ds).1.zip ys ∧ (pkD k d ks ds).1.length = ys.length ∧ VRs B H ι (pkD k d ks ds).2 ys := by
  unfold putK pkD
  rw [any_zip k ks xs l]
  by_cases h : (ks.any fun k' => decide (k' = k)) = true
  · refine ⟨repl k v ks xs, ?_, ?_, ?_⟩
    · simp only [h, if_true]; exact repl_zip k v ks xs
    · simp only [h, if_true]; rw [repl_len k v ks xs l]; exact l
    · simp only [h, if_true]; exact repl_vr k hv ks r
  · refine ⟨xs ++ [v], ?_, ?_, ?_⟩
    · rw [if_neg h, if_neg h, List.zip_append l]; rfl
    · rw [if_neg h]; simp [l]
    · rw [if_neg h]; exact r.append (VRs.one hv)
def setKeyR (o i x : D) (env : Env) (st : Sto) : ResS := match o, keyD i with
  | .ref n, some k => match st[n]? with
    | some (.dct ks ds) => if ks.length ≤ bigLine then .nx env (st.set n (.dct (pkD k x ks ds).1 (pkD k x ks ds).2)) else .bad
    | _ => .bad
  | _, _ => .bad
def dSetKey (da dx dk : DE) : DS := fun env st => (da env st).bindS env fun x st1 => (dx env st1).bindS env fun o st2 => (dk env st2).bindS env fun i st3 => setKeyR o i x env st3
theorem psd_setKey {o i : Expr} {p' : Pos} (hu : X.A.units + 1 < cLine) (he : PEd X W e da) (ho : PEd X W o dx) (hi : PEd X W i dk) (hs : swapsWithSole [Expr.Subscript o i p'] e pos.line X.env = pure false := by rfl) (hw : swappedStores [Expr.Subscript o i p'] e X.env = pure none := by rfl)
    (h1 : (assignEach [Expr.Subscript o i p'] X.env).map (·.2) = [assign (Expr.Subscript o i p') X.env] := by rfl)
    (ha : ∀ v, assign (.Subscript o i p') X.env v = (do
      let ov ← holding [v] (eval o X.env)
      let iv ← holding [v, ov] (eval i X.env)
      standAt p'
      holding [v, ov, iv] (setItem ov iv v)
      release [v, ov, iv] []) := by intro _; rfl) : PSd X W (.Assign [.Subscript o i p'] e pos) (dSetKey da dx dk) :=
  PS.mono (ps_asg he (pg_sub ho hi (set_dict hu) ha) hs hw h1) fun E σ H ⟨ρ, ι, st, env, S, ve, p⟩ => ⟨ρ, ι, st, env, S, ve, PostS.bind ve p fun x st1 ι1 H1 v s1 S1 rx p1 =>
    ⟨ρ, ι1, st1, env, S1, ve.step s1, PostS.bind (ve.step s1) p1 fun o st2 ι2 H2 w s2 S2 ro p2 => ⟨ρ, ι2, st2, env, S2, (ve.step s1).step s2, PostS.bind ((ve.step s1).step s2) p2 fun i st3 ι3 H3 z s3 S3 ri p3 => by
      unfold setKeyR at p3
      split at p3
      · rename_i n k ek
        obtain ⟨a, ha, rfl⟩ := VR.step s3 ro
        split at p3
        · rename_i ks ds q
          obtain ⟨kvs, xs, h1, e1, l, r1⟩ := S3.look q ha
          split at p3
          · rename_i hl
            have ez := keyD_of ri ek
            obtain ⟨ys, e2, l2, r2⟩ := pk_vr (k := k) ((VR.step s2 rx).step s3) l r1
            have sw : Step ι3 H3 ι3 (upd H3 a (.dK (putK kvs k v))) := Step.write ha
            refine ⟨a, _, rfl, ?_, p3 ι3 _ σ sw (S3.write ha ⟨putK kvs k v, ys, upd_same, by rw [e1]; exact e2, l2, r2.step sw⟩) ((((ve.step s1).step s2).step s3).step sw)⟩
            rw [ez]
            exact DPut.k h1 (by rw [e1, List.length_zip, ← l, Nat.min_self]; exact big_lt hl)
          · exact p3.elim
        · exact p3.elim
      · exact p3.elim⟩⟩⟩
/-- list(x), x a list, a tuple, or a dict: then its keys -/
def fListD : FL := fun xs st => match xs with
  | [.ref n] => match st[n]? with
    | some (.lst ds) => .ok ds st
    | some (.dct ks _) => .ok (ks.map dK') st
    | _ => .bad
  | [.fd ks _] => .ok (ks.map dK') st
  | xs => fList xs st
theorem vrs_keys {B : Bs} {H : Hp} {ι : List Addr} : ∀ (ks : List Key) (xs : List V), ks.length = xs.length → VRs B H ι (ks.map dK') ((ks.zip xs).map fun kv => kV kv.1)
  | [], _, _ => rfl
  | _ :: _, [], h => by simp at h
  | k :: ks, x :: xs, h => ⟨_, _, rfl, vr_dK k, vrs_keys ks xs (by simpa using h)⟩
/-- .. the dict locked -/
def rListF : List V → Hp → VK → Prop := fun xs H Q => ∃ p od kvs, xs = [.ref p] ∧ H p = some (.frz od (.dK kvs)) ∧ ∀ l, H l = none → Q (.ref l) (upd H l (.lst (kvs.map fun kv => kV kv.1)))
theorem cr_listF (hc : X.calm = true) : CallR X (.type "list") rListF := by
  rintro pins s σ H xs us Q I r ⟨p, od, kvs, rfl, hk, q⟩
  obtain ⟨u, rfl, rx⟩ := vals1 r
  cases rx
  obtain ⟨z, lo, vs, rk, hd⟩ := dk_rd I.hok (.inr ⟨od, hk⟩)
  obtain ⟨ep, hat⟩ := hd.dictAt
  have hlen := Paired.length rk
  have keys : ∀ (j : Nat) (k : Key) (y : Value), vs[j]? = some (k, y) → (kvs.map fun kv => kV kv.1)[j]? = some (kV k) := fun j k y e => by
    have := congrArg (fun l => (l.map kV)[j]?) (KV.keys rk)
    simp only [List.map_map, List.getElem?_map, e] at this
    rw [List.getElem?_map]
    exact this
  refine PySem.W.kdl_call (PySem.W.kdl_dict (knd := mixKind X.prog X.w) (kvs := vs) (ep := ep) lo) (I.ok.hd hc) hat (hlen ▸ z) ?_
  intro h' tk acc' c' hkeep hS hacc
  have ob : ObjOk X.prog X.w (upd H s.heap.objs.size (.lst (kvs.map fun kv => kV kv.1))) h' s.heap.objs.size (.lst (kvs.map fun kv => kV kv.1)) := by
    refine ⟨by rw [List.length_map]; exact z, acc'.toList, c', vals_of_at ?_ fun j x w h1 h2 => ?_, hS⟩
    · simp [hacc.1, hlen]
    · rw [Array.getElem?_toList] at h2
      obtain ⟨k, y, e, hi⟩ := hacc.2 j w h2
      cases (keys j k y e).symm.trans h1
      exact keyIs_rel hi
  exact ⟨.ref s.heap.objs.size, _, I.laid hkeep (Nat.le_refl _) ob, rfl, q _ (I.hok.fresh (Nat.le_refl _))⟩
def rListAny (K : PySem.W.Frag) : List V → Hp → VK → Prop := fun xs H Q => (∃ p ys, xs = [.ref p] ∧ (SqL K H p ys ∨ SqT K H p ys) ∧ ∀ l, H l = none → Q (.ref l) (upd H l (.lst ys))) ∨ rListD xs H Q ∨ rListF xs H Q
theorem cr_listAny (hc : X.calm = true) : CallR X (.type "list") (rListAny X.K) := by
  intro pins s σ H xs us Q I r h
  rcases h with h | h | h
  · exact call_list_of pins s σ H xs us Q I r h
  · exact call_list_dK hc pins s σ H xs us Q I r h
  · exact cr_listF hc pins s σ H xs us Q I r h
theorem rcl_listD {K : PySem.W.Frag} {mg : Str → Option Value} : RCL K mg (rListAny K) fListD := by
  intro ρ ι H st xs vs W σ Q S r p
  unfold fListD at p
  split at p
  · rename_i n
    obtain ⟨v, rfl, a, ha, rfl⟩ := vr1 r
    split at p
    · rename_i ds q
      obtain ⟨ys, h1, r1⟩ := S.look q ha
      exact .inl ⟨a, ys, rfl, .inl (SqL.of h1), new_lst S r1 p⟩
    · rename_i ks ds q
      obtain ⟨kvs, ys, h1, e1, l, r1⟩ := S.look q ha
      exact .inr (.inl ⟨a, kvs, rfl, h1, by rw [e1]; exact new_lst S (vrs_keys ks ys l) p⟩)
    · exact p.elim
  · rename_i ks ds
    obtain ⟨v, rfl, a, od, kvs, ys, rfl, h1, n1, e1, l, r1⟩ := vr1 r
    exact .inr (.inr ⟨a, od, kvs, rfl, h1, by rw [e1]; exact new_lst S (vrs_keys ks ys l) p⟩)
  · exact .inl (rcl_list S r p)
end
/-! ### dicts by value -/
section
variable {X : Cx} {W : WX} {pos : Pos} {k v : Expr} {dk dv : DE}
/-- what an expression gives is locked for ever -/
def tFreeze (t : TE) : TE := fun σ H Q => t σ H fun v H1 => ∃ d u, v = .ref d ∧ H1 d = some u ∧ Mut (some u) ∧ ∀ od, Q v (upd H1 d (.frz od u))
theorem pe_freeze {e : Expr} {t : TE} (h : PE X e t) : PE X e (tFreeze t) := by
  refine ⟨fun pins s σ H Q I hw => thn (h.run pins s σ H _ I hw) fun v s1 ⟨x, H1, I1, rx, d, u, ex, hd, mu, q⟩ => ?_⟩
  obtain ⟨od, I2⟩ := I1.lock hd mu
  exact ⟨x, _, I2, rx, q od⟩
theorem upd_upd {H : Hp} {a : Addr} {o o' : HO} : upd (upd H a o) a o' = upd H a o' := by
  funext b
  by_cases h : b = a
  · rw [h, upd_same, upd_same]
  · rw [upd_ne h, upd_ne h, upd_ne h]
/-- a new dict, locked -/
theorem new_fd {B : Bs} {H ι st W σ Q} {ks : List Key} {ds : List D} {xs : List V} (S : Sim B H ι st) (l : ks.length = xs.length) (r : VRs B H ι ds xs) (p : Post B relV W σ ι H (.ok (.fd ks ds) st) Q) : ∀ q, H q = none → ∃ d u, V.ref q = .ref d ∧ (upd H q (.dK (ks.zip xs))) d = some u ∧ Mut (some u) ∧ ∀ od, Q (.ref q) (upd (upd H q (.dK (ks.zip xs))) d (.frz od u)) := fun q hq =>
  ⟨q, _, rfl, upd_same, True.intro, fun od => by
    rw [upd_upd]
    exact p.ok' (Step.new S hq) (S.new hq) ⟨q, od, _, xs, rfl, upd_same, ⟨S.fresh hq, S.fr hq⟩, rfl, l, r.step (Step.new S hq)⟩⟩
def dFd0 : DE := fun _ st => .ok (.fd [] []) st
theorem pd_fd0 : PEd X W (.Dict [] [] pos) dFd0 := PE.mono (pe_freeze pe_dnewK) fun σ H Q ⟨ρ, ι, st, env, S, ve, p⟩ => fun q hq => new_fd S rfl (ds := []) (xs := []) rfl p q hq
def dFd1 (dk dv : DE) : DE := fun env st => match dk env st with
  | .ok k st1 => match dv env st1 with
    | .ok v st2 => match keyD k with
      | some kk => .ok (.fd [kk] [v]) st2
      | none => .bad
    | _ => .bad
  | _ => .bad
theorem pd_fd1 (hk : PEd X W0 k dk) (hv : PEd X W0 v dv) : PEd X W (.Dict [some k] [v] pos) (dFd1 dk dv) :=
  PE.mono (pe_freeze (pe_disp (pps_cons hk hv pps_nil) rfl rfl (by simp) (by simp))) fun σ H Q ⟨ρ, ι, st, env, S, ve, p⟩ => fun q hq => by
    have S0 : Sim ⟨X.K, X.mg, q :: ρ⟩ (upd H q (.dK [])) ι st := S.reserve hq
    have ve0 : VEnv ⟨X.K, X.mg, q :: ρ⟩ (upd H q (.dK [])) ι env σ := VEnv.step (Step.new S hq) (VEnv.more (B := ⟨X.K, X.mg, ρ⟩) ve hq)
    unfold dFd1 at p
    refine ⟨q :: ρ, ι, st, env, S0, ve0, ?_⟩
    cases e1 : dk env st with
    | bad => rw [e1] at p; exact p.elim
    | exc x st1 => rw [e1] at p; exact p.elim
    | ok kd st1 =>
      rw [e1] at p
      intro ι1 H1 x s1 S1 rx
      refine ⟨q :: ρ, ι1, st1, env, S1, ve0.step s1, ?_⟩
      simp only [] at p
      cases e2 : dv env st1 with
      | bad => rw [e2] at p; exact p.elim
      | exc x st1 => rw [e2] at p; exact p.elim
      | ok vd st2 =>
        rw [e2] at p
        intro ι2 H2 y s2 S2 ry
        simp only [] at p
        cases e3 : keyD kd with
        | none => rw [e3] at p; exact p.elim
        | some kk =>
          rw [e3] at p
          have ex := keyD_of rx e3
          have m2 : q ∉ ι2 := (S2.rs q List.mem_cons_self).2
          have m1 : q ∉ ι1 := (S1.rs q List.mem_cons_self).2
          have m0 : q ∉ ι := (S0.rs q List.mem_cons_self).2
          have h2 : H2 q = some (.dK []) := s2.rest _ _ m1 (s1.rest _ _ m0 upd_same)
          have S2' : Sim ((⟨X.K, X.mg, ρ⟩ : Bs).more q) H2 ι2 st2 := S2
          have ry' : VR ((⟨X.K, X.mg, ρ⟩ : Bs).more q) H2 ι2 vd y := ry
          refine ⟨h2, [(kk, y)], by rw [ex]; rfl, by simp, q, _, rfl, upd_same, True.intro, fun od => ?_⟩
          rw [upd_upd]
          exact p ι2 _ (.ref q) ((((Step.new S hq).trans s1).trans s2).scr hq) (S2'.scr.less) ⟨q, od, [(kk, y)], [y], rfl, upd_same, ⟨m2, S.fr hq⟩, rfl, rfl, VRs.one (ry'.scr.less.1)⟩
end
end DD

/-! DD21: equations for what DD17 to DD20 bring; slices of texts. -/
namespace DD
open PySem L2 PyProof.Rows
variable [NMs]
section
variable {da dx dk : DE} {ds : DA} {env : Env} {st : Sto}
@[simp] theorem dRaise0_e {c : Str} : dRaise0 c env st = .exc (c, none) env st := rfl
def tryR (sub : Str → Str → Option Bool) (hs : List (Str × DS)) (r : ResS) : ResS := match r with
  | .exc x env1 st1 => hdR sub x env1 st1 hs
  | r => r
@[simp] theorem tryR_nx {sub : Str → Str → Option Bool} {hs : List (Str × DS)} : tryR sub hs (.nx env st) = .nx env st := rfl
@[simp] theorem tryR_exc {sub : Str → Str → Option Bool} {hs : List (Str × DS)} {x : Xc} : tryR sub hs (.exc x env st) = hdR sub x env st hs := rfl
@[simp] theorem dTry_e {sub : Str → Str → Option Bool} {d : DS} {hs : List (Str × DS)} : dTry sub d hs env st = tryR sub hs (d env st) := rfl
@[simp] theorem dDictNew_e : dDictNew env st = .ok (.ref st.length) (st ++ [.dct [] []]) := rfl
@[simp] theorem dFd0_e : dFd0 env st = .ok (.fd [] []) st := rfl
@[simp] theorem dSetKey_e : dSetKey da dx dk env st = (da env st).bindS env fun x st1 => (dx env st1).bindS env fun o st2 => (dk env st2).bindS env fun i st3 => setKeyR o i x env st3 := rfl
@[simp] theorem dCallL_e {f : FL} : dCallL f ds env st = (ds env st).bind fun xs st1 => f xs st1 := rfl
@[simp] theorem dLc2_e {di di1 : DI} {g g1 : DG} {t t1 : DT} {de : DE} {vs vs1 : List Nat} : dLc2 di g t di1 g1 t1 de vs vs1 env st = (di env st).bind fun a st1 => if a.1.length ≤ midLine then lcLoop2 g t di1 g1 t1 de vs1 a.2 (wipeE vs env) a.1 st1 else .bad := rfl
noncomputable def itrR (x : D) (st : Sto) : Res (List D × (Sto → Bool)) := match x with
  | .fz ds => .ok (ds, yes) st
  | .sc ds => .ok (ds, yes) st
  | .ref n => match st[n]? with
    | some (.lst ds) => .ok (ds, keepRef n ds) st
    | _ => .bad
  | _ => .bad
@[simp] theorem dItemsR_e : dItemsR da env st = (da env st).bind itrR := rfl
theorem itrR_ref {n : Nat} {ds : List D} (h : st[n]? = some (.lst ds)) : itrR (.ref n) st = .ok (ds, keepRef n ds) st := by simp [itrR, h]
noncomputable def rg2R (xs : List D) (st : Sto) : Res (List D × (Sto → Bool)) := match xs with
  | [.int i, .int j] => if rg62 i = true ∧ rg62 j = true then .ok (intsD i (j - i).toNat, yes) st else .bad
  | _ => .bad
@[simp] theorem dRange2_e : dRange2 ds env st = (ds env st).bind rg2R := rfl
theorem rg2R_ok {i j : Int} {a b : Nat} (e : i = a) (e2 : j = b) (h : a < 1000000) (h2 : b < 1000000) : rg2R [.int i, .int j] st = .ok (intsD a (b - a), yes) st := by
  subst e e2
  have h1 : rg62 (a : Int) = true := rg62_to (by omega)
  have h3 : rg62 (b : Int) = true := rg62_to (by omega)
  have h4 : ((b : Int) - (a : Int)).toNat = b - a := by omega
  unfold rg2R
  simp only [h1, h3, and_self, if_true, h4]
theorem fSl_str_to {cs : List Nat} {i : Nat} (h : cs.length ≤ bigLine) (hi : i ≤ cs.length) : fSl (.str (tx cs)) none (some (i : Int)) st = .ok (.str (tx (cs.take i))) st := by
  have hl : (tx cs).length ≤ bigLine := h
  simp only [fSl, hl, if_true]
  congr 2
  show Str.mk ((((tx cs).cps.toList.drop (HT.sIx (tx cs).length 0 none)).take (HT.sIx (tx cs).length (tx cs).length (some (i : Int)) - HT.sIx (tx cs).length 0 none))).toArray = tx (cs.take i)
  rw [HT.sIx_nat, HT.sIx_none, tx_list, tx_length, Nat.min_eq_left hi]
  rfl
theorem fSl_str_mid {cs : List Nat} {a b : Nat} (h : cs.length ≤ bigLine) (hab : a ≤ b) (hb : b ≤ cs.length) : fSl (.str (tx cs)) (some (a : Int)) (some (b : Int)) st = .ok (.str (tx ((cs.drop a).take (b - a)))) st := by
  have hl : (tx cs).length ≤ bigLine := h
  simp only [fSl, hl, if_true]
  congr 2
  show Str.mk ((((tx cs).cps.toList.drop (HT.sIx (tx cs).length 0 (some (a : Int)))).take (HT.sIx (tx cs).length (tx cs).length (some (b : Int)) - HT.sIx (tx cs).length 0 (some (a : Int))))).toArray = tx ((cs.drop a).take (b - a))
  rw [HT.sIx_nat, HT.sIx_nat, tx_list, tx_length, Nat.min_eq_left hb, Nat.min_eq_left (Nat.le_trans hab hb)]
  rfl
end
theorem app_get {s : Sto} {o : O} : (s ++ [o])[s.length]? = some o := by simp
theorem app_set {s : Sto} {o o' : O} : (s ++ [o]).set s.length o' = s ++ [o'] := by simp [List.set_append]
theorem isLst_at {st : Sto} {k : Nat} {ds : List D} (h : st[k]? = some (.lst ds)) : isLst (.ref k) st = true := by simp [isLst, h]
theorem fAppend_at {st : Sto} {k : Nat} {ds : List D} {y : D} (h : st[k]? = some (.lst ds)) (hl : ds.length ≤ bigLine) : fAppend (.ref k) [y] st = .ok .non (st.set k (.lst (ds ++ [y]))) := by
  simp [fAppend, h, hl]
theorem tx_hat : (Str.ofString "^" : Str) = tx [94] := by decide +kernel
theorem tx_a : (Str.ofString "a" : Str) = tx [97] := by decide +kernel
def strD (c : List Nat) : D := .str (tx c)
/-- the stretch that ends behind e rows -/
def cutN (ch : List Nat) (w e : Nat) : List Nat := if e < w then 94 :: ch.take e else (ch.drop (e - w)).take w
def dueN (ch : List Nat) (w : Nat) : List (List Nat) := (List.range ch.length).map fun k => cutN ch w (k + 1)
end DD

/-! DD22: texts and lists turned round, list of a text, own errors with a field, told by the clause that catches them. -/
namespace DD
open PySem L2 PyProof.Rows
variable [NMs]
/-! ### x[::-1] -/
def revS (z : Str) : Str := ⟨z.cps.toList.reverse.toArray⟩
theorem picks_back (z : Str) : (Builtin.Str.strSliceIndices none none (-1) z.length).filterMap (z.cps[·]?) = z.cps.toList.reverse := by
  have h : Builtin.Str.strSliceIndices none none (-1) z.length = (List.range z.cps.size).reverse := by
    rw [← PySem.W.krv_range, ← PySem.W.krv_sliceRange]; rfl
  rw [h, List.filterMap_reverse, PySem.W.krv_all]
theorem revS_length (z : Str) : (revS z).length = z.length := by
  show (z.cps.toList.reverse.toArray).size = z.cps.size
  simp
def tBack (K : PySem.W.Frag) (te : TE) : TE := fun σ H Q => te σ H fun x H1 => (∃ z, x = .str z ∧ z.length ≤ bigLine ∧ Q (.str (revS z)) H1) ∨
  ∃ a xs, x = .ref a ∧ SqL K H1 a xs ∧ ∀ p, H1 p = none → Q (.ref p) (upd H1 p (.lst xs.reverse))
theorem pe_back {X : Cx} {e : Expr} {te : TE} {k : Nat} {p1 p2 p3 pos : Pos} (he : PE X e te) : PE X (.Subscript e (.Slice none none (some (.UnaryOp .USub (.Constant (.int 1) k p1) p2)) p3) pos) (tBack X.K te) := by
  constructor
  intro pins s σ H Q I h
  apply Subscript_
  refine thn (he.run pins s σ H _ I h) ?_
  rintro v s1 ⟨x, H1, I1, r1, q1⟩
  have back : PO X (some (.UnaryOp .USub (.Constant (.int 1) k p1) p2)) _ := po_some (pe_un un_neg pe_int)
  apply wpAny_Slice
  refine thn (po_none.run pins s1 σ H1 (fun o G => o = none ∧ G = H1) I1 ⟨rfl, rfl⟩) ?_
  rintro vl s2 ⟨l, H2, I2, pl, rfl, rfl⟩
  refine thn (po_none.run pins s2 σ H2 (fun o G => o = none ∧ G = H2) I2 ⟨rfl, rfl⟩) ?_
  rintro vu s3 ⟨u, H3, I3, pu, rfl, rfl⟩
  refine thn (back.run pins s3 σ H3 (fun o G => o = some (-1) ∧ G = H3) I3 ⟨1, rfl, -1, rfl, rfl, rfl⟩) ?_
  rintro vs s4 ⟨o, H4, I4, ps, rfl, rfl⟩
  have sl := Heap.IsSliceOf.new s4.heap vl vu vs
  have J : Inv X pins σ H4 { s4 with heap := s4.heap.push { cls := .type "slice", data := .fields #[vl, vu, vs] } } :=
    I4.kept (t' := s4.toks) fun b ob q => Heap.get?_push_of_some _ q
  generalize hs5 : ({ s4 with heap := s4.heap.push { cls := .type "slice", data := .fields #[vl, vu, vs] } } : Shared) = s5 at J
  have sl5 : s5.heap.IsSliceOf s4.heap.objs.size vl vu vs := by rw [← hs5]; exact sl
  rcases q1 with ⟨z, rfl, hz, q⟩ | ⟨a, xs, rfl, hx, q⟩
  · obtain ⟨t, rfl⟩ := r1
    show wpAny _ _ (subscriptTail _ _ _ _) _ _ _
    refine tail_any (T := "str") (ops := [.ref s4.heap.objs.size, .str z t]) (typeIs_str _ _ _) F.slot_str_getitem.lookup ?_ (by with_unfolding_all rfl)
    obtain ⟨os, h1, h2, h3⟩ := sl5
    obtain ⟨l', e1, e2⟩ := IsPart.raw pl
    obtain ⟨u', e3, e4⟩ := IsPart.raw pu
    obtain ⟨m', e5, e6⟩ := IsPart.raw ps
    subst e1 e3 e5
    have f1 : l' = none := Option.map_eq_none_iff.mp e2
    have f2 : u' = none := Option.map_eq_none_iff.mp e4
    subst f1 f2
    refine wpAny_getItem_str_slice (l := none) (u := none) (st := m') ⟨os, h1, h2, h3⟩ (by rw [e6]; decide) ?_
    unfold sliceMade slicePicked
    rw [e6]
    show Made.post (if ((-1 : Int) == 1 && _) = true then _ else Made.str ⟨((Builtin.Str.strSliceIndices none none (-1) z.length).filterMap (z.cps[·]?)).toArray⟩) _ _
    rw [picks_back, show ((-1 : Int) == 1) = false from rfl, Bool.false_and, if_neg Bool.false_ne_true]
    have hl : (revS z).length ≤ sizeLine := by rw [revS_length]; exact big_le hz
    exact ⟨hl, .str (revS z), H4, J.tok _, ⟨_, rfl⟩, q⟩
  · cases r1
    obtain ⟨its, r, ht, hn⟩ := J.list hx
    have hlen := r.length
    show wpAny _ _ (subscriptTail _ _ _ _) _ _ _
    refine tail_any (ops := [.ref a, .ref s4.heap.objs.size]) ht.isList.typeIs (PySem.slot_list_getitem.lookup) ?_ (by with_unfolding_all rfl)
    refine wpAny_getItem_list_slice ht.isList sl5 pl pu ps (by decide) ?_ (by rw [List.size_toArray]; omega)
    rw [PySem.W.krv_pick]
    refine ⟨.ref _, _, J.laid (t' := s5.toks) (o := .lst xs.reverse) (fun b ob q => Heap.get?_push_of_some _ q) (Nat.le_refl _) ⟨?_, _, 0, r.reverse, Heap.get?_push_size _ rfl⟩, rfl, q _ (J.hok.fresh (Nat.le_refl _))⟩
    rw [List.length_reverse]; exact hn

theorem VRs.rev {B : Bs} {H : Hp} {ι : List Addr} : ∀ {ds : List D} {vs : List V}, VRs B H ι ds vs → VRs B H ι ds.reverse vs.reverse
  | [], _, h => by cases h; rfl
  | _ :: _, _, ⟨x, r, e, h, t⟩ => by
    subst e
    rw [List.reverse_cons, List.reverse_cons]
    exact (VRs.rev t).append (VRs.one h)
def dBack (da : DE) : DE := fun env st => (da env st).bind fun x st1 => match x with
  | .str z => if z.length ≤ bigLine then .ok (.str (revS z)) st1 else .bad
  | .fz ds => .ok (.fz ds.reverse) st1
  | .sc ds => .ok (.fz ds.reverse) st1
  | .ref n => match st1[n]? with
    | some (.lst ds) => .ok (.fz ds.reverse) st1
    | _ => .bad
  | _ => .bad
section
variable {X : Cx} {W : WX} {e : Expr} {da : DE} {k : Nat} {p1 p2 p3 pos : Pos}
theorem pd_back (he : PEd X W e da) : PEd X W (.Subscript e (.Slice none none (some (.UnaryOp .USub (.Constant (.int 1) k p1) p2)) p3) pos) (dBack da) :=
  PE.mono (pe_back he) fun σ H Q ⟨ρ, ι, st, env, S, ve, p⟩ => ⟨ρ, ι, st, env, S, ve, Post.bind p fun x st1 ι1 H1 v s1 S1 rx q => by
    cases x with
    | str z =>
      cases rx
      simp only [] at q
      split at q
      · rename_i hz; exact .inl ⟨z, rfl, hz, q.ok S1 rfl⟩
      · exact q.elim
    | fz ds =>
      obtain ⟨a, xs, rfl, h1, m, r1⟩ := rx
      exact .inr ⟨a, xs, rfl, SqL.of h1, new_fz S1 r1.rev q⟩
    | sc ds =>
      obtain ⟨a, xs, rfl, h1, r1⟩ := rx
      exact .inr ⟨a, xs, rfl, h1.sq, new_fz S1 r1.rev q⟩
    | ref n =>
      obtain ⟨a, ha, rfl⟩ := rx
      simp only [] at q
      split at q
      · rename_i ds q0
        obtain ⟨xs, h1, r1⟩ := S1.look q0 ha
        exact .inr ⟨a, xs, rfl, SqL.of h1, new_fz S1 r1.rev q⟩
      · exact q.elim
    | _ => exact q.elim⟩
end
/-! ### list of a text -/
def rListS : List V → Hp → VK → Prop := fun xs H Q => ∃ z : Str, xs = [.str z] ∧ z.length ≤ bigLine ∧ ∀ l, H l = none → Q (.ref l) (upd H l (.lst (z.cps.toList.map fun c => V.str ⟨#[c]⟩)))
theorem cr_listS {X : Cx} (hc : X.calm = true) : CallR X (.type "list") rListS := by
  intro pins s σ H xs us Q I r h
  obtain ⟨z, rfl, hz, q⟩ := h
  obtain ⟨u, rfl, rx⟩ := vals1 r
  obtain ⟨t, rfl⟩ := rx
  refine PySem.call_list_str (I.ok.hd hc) z t (fun h' tk acc' c' hk hS hacc => ?_) (big_le hz)
  refine ⟨.ref s.heap.objs.size, _, I.laid hk (Nat.le_refl _) (show ObjOk X.prog X.w _ _ _ (.lst (z.cps.toList.map fun c => V.str ⟨#[c]⟩)) from ⟨?_, acc'.toList, c', ?_, hS⟩), rfl, q _ (I.hok.fresh (Nat.le_refl _))⟩
  · rw [List.length_map, Array.length_toList]; exact big_le hz
  · refine vals_of_at (by rw [List.length_map, Array.length_toList, Array.length_toList, hacc.1]) fun j x w h1 h2 => ?_
    obtain ⟨c, u, hcc, e⟩ := hacc.2 j w (by rw [← Array.getElem?_toList]; exact h2)
    rw [List.getElem?_map, Array.getElem?_toList, hcc] at h1
    cases h1
    exact ⟨u, e⟩
def rListAll (K : PySem.W.Frag) : List V → Hp → VK → Prop := fun xs H Q => rListAny K xs H Q ∨ rListS xs H Q
theorem cr_listAll {X : Cx} (hc : X.calm = true) : CallR X (.type "list") (rListAll X.K) := by
  intro pins s σ H xs us Q I r h
  rcases h with h | h
  · exact cr_listAny hc pins s σ H xs us Q I r h
  · exact cr_listS hc pins s σ H xs us Q I r h
def fListAll : FL := fun xs st => match xs with
  | [.str z] => if z.length ≤ bigLine then .ok (signs z) st else .bad
  | xs => fListD xs st
theorem vrs_signs {B : Bs} {H : Hp} {ι : List Addr} : ∀ cs : List Nat, VRs B H ι (cs.map fun c => D.str ⟨#[c]⟩) (cs.map fun c => V.str ⟨#[c]⟩)
  | [] => rfl
  | _ :: r => ⟨_, _, rfl, rfl, vrs_signs r⟩
theorem rcl_listAll {K : PySem.W.Frag} {mg : Str → Option Value} : RCL K mg (rListAll K) fListAll := by
  intro ρ ι H st xs vs W σ Q S r p
  unfold fListAll at p
  split at p
  · rename_i z
    obtain ⟨v, rfl, h⟩ := vr1 r
    cases h
    split at p
    · rename_i hz
      exact .inr ⟨z, rfl, hz, new_lst S (vrs_signs _) p⟩
    · exact p.elim
  · exact .inl (rcl_listD S r p)
/-! ### tuple * int -/
theorem VRs.rep {B : Bs} {H : Hp} {ι : List Addr} {ds : List D} {vs : List V} (r : VRs B H ι ds vs) : ∀ n : Nat, VRs B H ι (List.replicate n ds).flatten (List.replicate n vs).flatten
  | 0 => rfl
  | n + 1 => by
    rw [List.replicate_succ, List.replicate_succ, List.flatten_cons, List.flatten_cons]
    exact r.append (VRs.rep r n)
def fRepT : F2 := fun x y st => match x, y with
  | .tup ds, .int k => if ds ≠ [] ∧ 2 ≤ k ∧ k ≤ 1000 ∧ ds.length ≤ 1000 then .ok (.tup (List.replicate k.toNat ds).flatten) st else .bad
  | _, _ => .bad
theorem rd_repT {K : PySem.W.Frag} {mg : Str → Option Value} : RD K mg (rRepT K) fRepT := by
  intro ρ ι H st x y v u W σ Q S rx ry p
  unfold fRepT at p
  split at p
  · rename_i ds k
    split at p
    · rename_i c
      obtain ⟨a, xs, rfl, h1, r1⟩ := id rx
      cases ry
      have hl := r1.length
      refine ⟨a, k, xs, rfl, rfl, h1.sq, fun z => c.1 ?_, c.2.1, c.2.2.1, by rw [← hl]; exact c.2.2.2, fun q hq => ?_⟩
      · subst z; exact List.length_eq_zero_iff.mp hl
      · exact new_tup S (r1.rep k.toNat) p q hq
    · exact p.elim
  · exact p.elim
/-! ### own errors with one field -/
/-- __init__ of such a class: def __init__(self, f): self.f = f -/
def spX (K : PySem.W.Frag) (f : Str) : Sp := fun vs H Q _ => ∃ (a C : Addr) (v : V), vs = [.ref a, v] ∧ OexC K C ∧ PySem.W.findIn K (.ref C) f = some none ∧ H a = some (exo a C none) ∧
  ∀ d, H d = none → d ≠ a → Q .non (upd (upd H d (exd d [(f, v)])) a (exo a C (some d)))
/-- what is written of such a class -/
structure ExcFld (K : PySem.W.Frag) (C fI : Addr) (f : Str) : Prop where
  o : OexC K C
  i : PySem.W.findIn K (.ref C) "__init__" = some (some (.ref fI))
  t : PySem.W.typeIn K (.ref fI) = some (.type "function")
  n : PySem.W.findIn K (.ref C) f = some none
  x : XfC K C
theorem passes0 {X : Cx} : Passes (L2.CX X.prog X.w) X (fun _ _ _ => False) := fun pins σ H s e s' I h => by
  obtain ⟨_, _, _, _, _, _, _, _, _, _, _, _, z⟩ := h
  exact z.elim
def dRaiseX (c f : Str) (da : DE) : DS := fun env st => (da env st).bindS env fun v st1 => .exc (c, some (f, v)) env st1
theorem psd_raiseX {X : Cx} {W : WX} {C fI : Addr} {x f : Str} {g0 g1 : Str} {fd : FuncData} {k : Nat} {e : Expr} {da : DE} {p pos pos' : Pos} (hc : X.calm = true) (tk : Takes X W) (T : ExcFld X.K C fI f)
    (F : FnOk X.prog X.w X.K X.mg X.base (L2.CX X.prog X.w) k fI fd [g0, g1] (spX X.K f)) (hr : Room (k + 1) X.A) (hb : Binds X.K fd [g0, g1] []) (gC : X.mg x = some (.ref C)) (hg : Gl X x) (he : PEd X W e da)
    (hdb : (x == ("__debug__" : Str)) = false := by decide) (hs : starEach (e :: []) X.env = (false, eval e X.env) :: starEach [] X.env := by rfl) (hpl : (backTo pos' (starEach [] X.env)).any (·.1) = false := by rfl) :
    PSd X W (.Raise (some (.Call (.Name x p) [e] [] pos')) none pos) (dRaiseX x f da) :=
  PS.mono (ps_raise hc tk (pmk_oex (dvs := []) T.o T.i T.t F hr hb .nil passes0 hg gC (pa_cons he pa_nil hs) hdb hs hpl)) fun E σ H ⟨ρ, ι, st, env, S, ve, q⟩ => by
    refine ⟨ρ, ι, st, env, S, ve, PostS.bind ve q fun y st1 ι1 H1 v s1 S1 ry q1 => ?_⟩
    refine ⟨Nat.le_of_ble_eq_true rfl, fun a ha => ⟨a, C, v, rfl, T.o, T.n, upd_same, fun d hd hne => ⟨rfl, d, [(f, v)], upd_same, ?_, ?_, ?_⟩⟩⟩
    · rw [upd_ne hne, upd_same]
    · rw [upd_ne hne] at hd; exact hd
    · have hd1 : H1 d = none := by rw [upd_ne hne] at hd; exact hd
      have eq : upd (del (upd (upd (upd H1 a (exo a C none)) d (exd d [(f, v)])) a (exo a C (some d))) a) d (.xd [(f, v)]) = upd H1 d (.xd [(f, v)]) := by
        funext b
        by_cases hbd : b = d
        · rw [hbd, upd_same, upd_same]
        · rw [upd_ne hbd, upd_ne hbd]
          by_cases hba : b = a
          · rw [hba, del_same, ha]
          · rw [del_ne hba, upd_ne hba, upd_ne hbd, upd_ne hba]
      rw [eq]
      have sn : Step ι1 H1 ι1 (upd H1 d (.xd [(f, v)])) := Step.new S1 hd1
      exact q1 ι1 _ σ (.ref C) (some d) sn (S1.new hd1) ((ve.step s1).step sn) ⟨C, rfl, gC, d, v, rfl, upd_same, ry.step sn⟩
/-! ### try: .. except X as n: m = n.f -/
def dTryF (sub : Str → Str → Option Bool) (d : DS) (c : Str) (i j : Nat) (f : Str) : DS := fun env st => match d env st with
  | .exc x env1 st1 => if x.1 = c then (match x.2 with
      | some (g, v) => if g = f ∧ i < env1.length then .nx (((env1.set i none).set j (some v)).set i none) st1 else .bad
      | none => .bad)
    else match sub x.1 c with
      | some false => .exc x env1 st1
      | _ => .bad
  | r => r
theorem VEnv.lose {B : Bs} {H : Hp} {ι : List Addr} {env : Env} {σ : L2.St} {i : Nat} {v : V} (h : VEnv B H ι env σ) : VEnv B H ι (env.set i none) (σ.set i (some v)) := by
  refine ⟨by simp [h.1], fun j d e => ?_⟩
  by_cases hj : i = j
  · subst hj
    by_cases hl : i < env.length
    · rw [List.getElem?_set_self hl] at e; cases e
    · rw [List.getElem?_eq_none (by simpa using hl)] at e; cases e
  · rw [List.getElem?_set_ne hj] at e ⊢
    exact h.2 j d e
theorem psd_tryF {X : Cx} {W : WX} {sub : Str → Str → Option Bool} {body : List Stmt} {x n m f : Str} {C fI : Addr} {i j : Nat} {np pos pos' p1 p2 p3 p4 : Pos} {d : DS} (hst : X.stack = X.env :: X.outer) (hf : X.env.frame = some X.env.locals) (hN : X.N.Nodup)
    (hi : X.N[i]? = some n) (hln : X.env.kindOf n = some .local) (hj : X.N[j]? = some m) (hlm : Loc X.env.scope m) (hc : Names X x (.ref C)) (gC : X.mg x = some (.ref C)) (tk : Takes X W) (T : ExcFld X.K C fI f) (hsub : SubOk X.K X.mg sub) (hself : sub x x = some true)
    (hb : ∀ (W' : WX) (pn : List (Addr × Obj)) (xe : Value → Shared → Prop), Takes (X.tr pn xe) W' → PassesOwn (model X.prog X.w) X.A X.env xe → PSsd (X.tr pn xe) W' body d)
    (hvn : ∀ (a : Addr) (pn : List (Addr × Obj)), PE (X.suite a pn) (.Name n p2) (tVar i)) (hba : attributeBase (.Name n p2) f X.env (eval (.Name n p2) X.env) = eval (.Name n p2) X.env := by rfl)
    (hsw : swapsWith (.Attribute (.Name n p2) f p3) (some (.Name m p1)) p4.line X.env = pure false := by rfl) (hfm : X.fn m = true ∨ X.env.scope.names.lookup m = some .local := by first | exact .inl rfl | exact .inr rfl) :
    PSd X W (.Try body [.ExceptHandler (some (.Name x np)) (some n) [.Assign [.Name m p1] (.Attribute (.Name n p2) f p3) p4] pos'] [] [] pos) (dTryF sub d x i j f) := by
  refine PS.mono (ps_try_as (i := i) (tb := fun W' => tSd X.K X.mg W' d) hst hf hN hi hln hc tk hb
    (fun a oe cls dd pn hz hfl => pss_one (ps_set (X := X.suite a ((a, oe) :: pn)) (i := j) hN hj hlm (pe_xf T.x T.n hz hfl (hvn a _) hba) hsw hfm))) fun E σ H ⟨ρ, ι, st, env, S, ve, p⟩ => ⟨ρ, ι, st, env, S, ve, ?_⟩
  unfold dTryF at p
  cases q : d env st with
  | exc y env1 st1 =>
    rw [q] at p
    intro ι1 H1 σ1 cls dd s1 S1 ve1 ex
    obtain ⟨Cy, rfl, hy, hd⟩ := id ex
    simp only [] at p
    split at p
    · rename_i ey
      rw [ey] at hy
      have hC : Cy = C := by
        have z := hy.symm.trans gC
        cases z; rfl
      subst hC
      refine ⟨true, hsub _ _ _ hself _ _ gC gC, fun _ a ha => ?_, fun z => Bool.noConfusion z⟩
      split at p
      · rename_i g v e2
        split at p
        · rename_i eg
          obtain ⟨eg, hlen⟩ := eg
          subst eg
          rw [e2] at hd
          obtain ⟨ed, u, rfl, hed, ru⟩ := hd
          rw [← ve1.1] at hlen
          refine ⟨_, List.getElem?_set_self hlen, rfl, rfl, ed, [(g, u)], u, rfl, hed, by simp [List.lookup], ?_⟩
          exact p ι1 H1 _ s1 S1 (VEnv.gone ((VEnv.lose ve1).set ru))
        · exact p.elim
      · exact p.elim
    · rename_i ne
      split at p
      · rename_i e2
        refine ⟨false, hsub _ _ _ e2 _ _ hy gC, fun z => Bool.noConfusion z, fun _ => p ι1 H1 σ1 (.ref Cy) dd s1 S1 ve1 ex⟩
      · exact p.elim
  | nx e st1 => rw [q] at p; exact p
  | bk e st1 => rw [q] at p; exact p
  | ct e st1 => rw [q] at p; exact p
  | rt x st1 => rw [q] at p; exact p
  | bad => rw [q] at p; exact p.elim
end DD

/-! DD23: what judges need: kinds of values, comprehensions with an if, loops that search, menus. -/
namespace DD
open PySem L2 PyProof.Rows
variable [NMs]
/-! ### >= of texts -/
def fGeS : F2 := fun x y st => match x, y with
  | .int i, .int j => .ok (.bl (decide (j ≤ i))) st
  | .str a, .str b => .ok (.bl (!decide (a.cps.toList < b.cps.toList))) st
  | _, _ => .bad
def rGeS : R2 := fun x y H Q => rI0 (fun i j => .bl (decide (j ≤ i))) x y H Q ∨ (∃ i j, x = .str i ∧ y = .str j ∧ Q (.bl (!decide (i.cps.toList < j.cps.toList))) H)
theorem op_geS {X : Cx} : OpR X (compareOp .GtE) rGeS := OpR.or op_ge op_ge_str
theorem rd_geS {K : PySem.W.Frag} {mg : Str → Option Value} : RD K mg rGeS fGeS := by
  intro ρ ι H st x y v u W σ Q S rx ry p
  unfold fGeS at p
  cases x <;> cases y <;> (try exact p.elim)
  · exact .inl (rd_ge S rx ry p)
  · cases rx; cases ry; exact .inr ⟨_, _, rfl, rfl, p.ok S rfl⟩
@[simp] theorem fGeS_str {a b : Str} {st : Sto} : fGeS (.str a) (.str b) st = .ok (.bl (!decide (a.cps.toList < b.cps.toList))) st := rfl
@[simp] theorem fGeS_int {a b : Int} {st : Sto} : fGeS (.int a) (.int b) st = .ok (.bl (decide (b ≤ a))) st := rfl
/-! ### kinds -/
def Val : D → Bool
  | .non => true | .bl _ => true | .int _ => true | .str _ => true | .tup _ => true | .fz _ => true | .sc _ => true | .fd _ _ => true | _ => false
def isIntD : D → Bool
  | .int _ => true | _ => false
def isStrD : D → Bool
  | .str _ => true | _ => false
def isTupD : D → Bool
  | .tup _ => true | _ => false
def isFdD : D → Bool
  | .fd _ _ => true | _ => false
def isBlD : D → Bool
  | .bl _ => true | _ => false
section
variable {st : Sto} {d : D}
theorem fIsi_int (h : Val d = true) : fIsi [d, .ty "int"] st = .ok (.bl (isIntD d || isBlD d)) st := by
  cases d <;> first | (cases h; done) | (simp only [fIsi, tyName]; rfl)
theorem fIsi_bool (h : Val d = true) : fIsi [d, .ty "bool"] st = .ok (.bl (isBlD d)) st := by
  cases d <;> first | (cases h; done) | (simp only [fIsi, tyName]; rfl)
theorem fIsi_str (h : Val d = true) : fIsi [d, .ty "str"] st = .ok (.bl (isStrD d)) st := by
  cases d <;> first | (cases h; done) | (simp only [fIsi, tyName]; rfl)
theorem fIsi_tuple (h : Val d = true) : fIsi [d, .ty "tuple"] st = .ok (.bl (isTupD d)) st := by
  cases d <;> first | (cases h; done) | (simp only [fIsi, tyName]; rfl)
theorem fIsi_dict (h : Val d = true) : fIsi [d, .ty "dict"] st = .ok (.bl (isFdD d)) st := by
  cases d <;> first | (cases h; done) | (simp only [fIsi, tyName]; rfl)
end
/-- an integer between two -/
def numD (lo hi : Int) : D → Bool
  | .int i => decide (lo ≤ i) && decide (i ≤ hi)
  | _ => false
def tupJ (n : Int) (J : D → Bool) : D → Bool
  | .tup l => decide ((l.length : Int) = n) && l.all J
  | _ => false
/-- values down to a depth -/
def TT : Nat → D → Prop
  | 0, d => Val d = true
  | n + 1, d => Val d = true ∧ ∀ l, d = .tup l → l.length ≤ 1000 ∧ ∀ x ∈ l, TT n x
theorem TT.val : ∀ {n : Nat} {d : D}, TT n d → Val d = true
  | 0, _, h => h
  | _ + 1, _, h => h.1
theorem TT.tup {n : Nat} {l : List D} (h : TT (n + 1) (.tup l)) : l.length ≤ 1000 ∧ ∀ x ∈ l, TT n x := h.2 l rfl
theorem TT.mk {n : Nat} {l : List D} (h : l.length ≤ 1000) (k : ∀ x ∈ l, TT n x) : TT (n + 1) (.tup l) := ⟨rfl, fun l' e => by cases e; exact ⟨h, k⟩⟩
theorem TT.other {n : Nat} {d : D} (h : Val d = true) (k : isTupD d = false) : TT n d := by
  cases n with
  | zero => exact h
  | succ n => exact ⟨h, fun l e => by subst e; cases k⟩
def TxOk (z : Str) : Prop := z.length ≤ 1000 ∧ ∀ c ∈ z.cps.toList, c < 0x110000
/-! ### menus -/
theorem menu {l : List D} {P : D → Prop} {a : Nat} (h : ∀ x ∈ l, P x) (ha : a < l.length) : ∃ x, l[a]? = some x ∧ P x := ⟨l[a], List.getElem?_eq_getElem ha, h _ (List.getElem_mem ha)⟩
/-! ### comprehensions -/
theorem bls_map {α : Type} (f : α → Bool) : ∀ l : List α, blsOf (l.map fun c => .bl (f c)) = some (l.map f)
  | [] => rfl
  | c :: r => by
    show (blsOf (r.map fun c => .bl (f c))).map (f c :: ·) = _
    rw [bls_map f r]; rfl
theorem fAll_map {α : Type} {f : α → Bool} {l : List α} {st : Sto} : fAll [.fz (l.map fun c => .bl (f c))] st = .ok (.bl (l.all f)) st := by
  simp only [fAll, bls_map, List.all_map]
  rfl
section
variable {g : DG} {t : DT} {de : DE} {d : DS} {env : Env} {st : Sto}
theorem lc_filter {P : D → Bool} {f : D → D} : ∀ xs : List D, (∀ x ∈ xs, ∃ env1, g x env = some env1 ∧ t env1 st = .ok (P x) st ∧ (P x = true → de env1 st = .ok (f x) st)) → lcLoop g t de yes env xs st = .ok ((xs.filter P).map f) st
  | [], _ => rfl
  | x :: r, h => by
    obtain ⟨env1, h1, h2, h3⟩ := h x List.mem_cons_self
    have ih := lc_filter r fun y hy => h y (List.mem_cons_of_mem _ hy)
    unfold lcLoop
    simp only [yes, if_true, h1, h2]
    cases q : P x with
    | true => simp only [h3 q, ih, List.filter_cons_of_pos q, List.map_cons]; rfl
    | false =>
      have nq : ¬ P x = true := by rw [q]; exact Bool.false_ne_true
      simp only [ih, List.filter_cons_of_neg nq]
theorem lcf_use {r : Res (List D)} {xs : List D} (P : D → Bool) (f : D → D) (h : lcLoop g t de yes env xs st = r) (hs : ∀ x ∈ xs, ∃ env1, g x env = some env1 ∧ t env1 st = .ok (P x) st ∧ (P x = true → de env1 st = .ok (f x) st)) : r = .ok ((xs.filter P).map f) st := by
  rw [← h]; exact lc_filter xs hs
/-- a loop that gives False at the first one that is not as told -/
theorem for_all {J : D → Bool} {I : Env → Prop} {y : D} : ∀ (xs : List D) (env : Env), I env → (∀ x ∈ xs, ∀ env, I env → ∃ env1, g x env = some env1 ∧ (if J x = true then ∃ env2, d env1 st = .nx env2 st ∧ I env2 else d env1 st = .rt y st)) →
    if xs.all J = true then ∃ env', loop g d yes xs env st = .nx env' st ∧ I env' else loop g d yes xs env st = .rt y st
  | [], env, i, _ => ⟨env, rfl, i⟩
  | x :: r, env, i, h => by
    obtain ⟨env1, h1, h2⟩ := h x List.mem_cons_self env i
    cases q : J x with
    | true =>
      rw [q, if_pos rfl] at h2
      obtain ⟨env2, e2, i2⟩ := h2
      have ih := for_all r env2 i2 fun y hy => h y (List.mem_cons_of_mem _ hy)
      simp only [List.all_cons, q, Bool.true_and]
      unfold loop
      simp only [yes, if_true, h1, e2]
      exact ih
    | false =>
      rw [q, if_neg Bool.false_ne_true] at h2
      simp only [List.all_cons, q, Bool.false_and, if_neg Bool.false_ne_true]
      unfold loop
      simp only [yes, if_true, h1, h2]
theorem fora_use {r : ResS} {xs : List D} (J : D → Bool) (I : Env → Prop) (y : D) (h : loop g d yes xs env st = r) (i : I env) (hs : ∀ x ∈ xs, ∀ env, I env → ∃ env1, g x env = some env1 ∧ (if J x = true then ∃ env2, d env1 st = .nx env2 st ∧ I env2 else d env1 st = .rt y st)) :
    (xs.all J = true ∧ ∃ env', r = .nx env' st ∧ I env') ∨ (xs.all J = false ∧ r = .rt y st) := by
  have := for_all xs env i hs
  rw [h] at this
  cases q : xs.all J with
  | true => rw [q, if_pos rfl] at this; exact .inl ⟨rfl, this⟩
  | false => rw [q, if_neg Bool.false_ne_true] at this; exact .inr ⟨rfl, this⟩
end
/-! ### texts -/
theorem tx_eta (z : Str) : z = tx z.cps.toList := by cases z; simp [tx]
theorem rev_tx (cs : List Nat) : revS (tx cs) = tx cs.reverse := by simp [revS, tx]
@[simp] theorem dBack_e {da : DE} {env : Env} {st : Sto} : dBack da env st = (da env st).bind fun x st1 => match x with
  | .str z => if z.length ≤ bigLine then .ok (.str (revS z)) st1 else .bad
  | .fz ds => .ok (.fz ds.reverse) st1
  | .sc ds => .ok (.fz ds.reverse) st1
  | .ref n => match st1[n]? with
    | some (.lst ds) => .ok (.fz ds.reverse) st1
    | _ => .bad
  | _ => .bad := rfl
@[simp] theorem dRaiseX_e {c f : Str} {da : DE} {env : Env} {st : Sto} : dRaiseX c f da env st = (da env st).bindS env fun v st1 => .exc (c, some (f, v)) env st1 := rfl
def tryFR (sub : Str → Str → Option Bool) (c : Str) (i j : Nat) (f : Str) (r : ResS) : ResS := match r with
  | .exc x env1 st1 => if x.1 = c then (match x.2 with
      | some (g, v) => if g = f ∧ i < env1.length then .nx (((env1.set i none).set j (some v)).set i none) st1 else .bad
      | none => .bad)
    else match sub x.1 c with
      | some false => .exc x env1 st1
      | _ => .bad
  | r => r
@[simp] theorem dTryF_e {sub : Str → Str → Option Bool} {d : DS} {c : Str} {i j : Nat} {f : Str} {env : Env} {st : Sto} : dTryF sub d c i j f env st = tryFR sub c i j f (d env st) := by
  unfold dTryF tryFR
  cases d env st <;> rfl
@[simp] theorem tryFR_nx {sub : Str → Str → Option Bool} {c : Str} {i j : Nat} {f : Str} {env : Env} {st : Sto} : tryFR sub c i j f (.nx env st) = .nx env st := rfl
@[simp] theorem tryFR_exc {sub : Str → Str → Option Bool} {c : Str} {i j : Nat} {f : Str} {env : Env} {st : Sto} {v : D} : tryFR sub c i j f (.exc (c, some (f, v)) env st) = if i < env.length then .nx (((env.set i none).set j (some v)).set i none) st else .bad := by
  simp [tryFR]
/-! ### equal to itself -/
/-- integers and tuples of such -/
def IntT : Nat → D → Prop
  | 0, d => ∃ i, d = .int i
  | n + 1, d => ∃ l, d = .tup l ∧ ∀ x ∈ l, IntT n x
theorem intT_py {st : Sto} : ∀ (n : Nat) (d : D), IntT n d → ∃ p, toPy st d = some p ∧ p.canLay0 = true ∧ p.depth ≤ n ∧ PyData.eqv p p = true
  | 0, _, ⟨i, e⟩ => by
    subst e
    exact ⟨.int i, rfl, by simp [PyData.canLay0], by simp [PyData.depth], by simp [PyData.eqv]⟩
  | n + 1, _, ⟨l, e, h⟩ => by
    subst e
    have all : ∀ l : List D, (∀ x ∈ l, IntT n x) → ∃ ps, toPys st l = some ps ∧ PyData.canLayAll0 ps = true ∧ PyData.depthAll ps ≤ n ∧ PyData.eqvAll ps ps = true := by
      intro l
      induction l with
      | nil => intro _; exact ⟨[], rfl, by simp [PyData.canLayAll0], by simp [PyData.depthAll], by simp [PyData.eqvAll]⟩
      | cons x r ih =>
        intro h
        obtain ⟨p, e1, c1, d1, q1⟩ := intT_py (st := st) n x (h x List.mem_cons_self)
        obtain ⟨ps, e2, c2, d2, q2⟩ := ih fun y hy => h y (List.mem_cons_of_mem _ hy)
        refine ⟨p :: ps, ?_, ?_, ?_, ?_⟩
        · show (match toPy st x, toPys st r with | some x, some xs => some (x :: xs) | _, _ => none) = _
          rw [e1, e2]
        · simp [PyData.canLayAll0, c1, c2]
        · simp only [PyData.depthAll]; omega
        · simp [PyData.eqvAll, q1, q2]
    obtain ⟨ps, e, c, dd, q⟩ := all l h
    refine ⟨.tuple ps, ?_, ?_, ?_, ?_⟩
    · show (toPys st l).map PyData.tuple = _
      rw [e]; rfl
    · simp [PyData.canLay0, c]
    · simp only [PyData.depth]; omega
    · simp [PyData.eqv, q]
theorem fEq_self {neg : Bool} {n : Nat} {d : D} {st : Sto} (h : IntT n d) (hn : n ≤ 64) : fEq neg d d st = .ok (.bl (!neg)) st := by
  obtain ⟨p, e, c, dd, q⟩ := intT_py (st := st) n d h
  have s : SeqAt.shaped p = true := by
    unfold SeqAt.shaped
    rw [c, decide_eq_true (Nat.le_trans dd hn)]; rfl
  simp only [fEq, e, s, and_self, if_true, q]
  cases neg <;> rfl
end DD

/-! DD24: dicts read, gone over, made by comprehensions and from others; properties; gcd, lcm, sum. -/
namespace DD
open PySem L2 PyProof.Rows
variable [NMs]
/-! ### reading a dict -/
def lookD (k : Key) : List Key → List D → Option D
  | k' :: ks, d :: ds => if k' = k then some d else lookD k ks ds
  | _, _ => none
theorem look_vr {B : Bs} {H : Hp} {ι : List Addr} (k : Key) : ∀ (ks : List Key) {ds : List D} {xs : List V}, ks.length = xs.length → VRs B H ι ds xs →
    (lookD k ks ds = none ∧ valV (ks.zip xs) k = none) ∨ ∃ d v, lookD k ks ds = some d ∧ valV (ks.zip xs) k = some v ∧ VR B H ι d v
  | [], _, _, _, _ => .inl ⟨rfl, rfl⟩
  | _ :: _, [], _, l, r => by cases r; simp at l
  | k' :: ks, d :: ds, _, l, ⟨x, t, e, h, r⟩ => by
    subst e
    by_cases hk : k' = k
    · exact .inr ⟨d, x, by simp [lookD, hk], by simp [valV, hk], h⟩
    · have ih := look_vr k ks (ds := ds) (xs := t) (by simpa using l) r
      have e1 : lookD k (k' :: ks) (d :: ds) = lookD k ks ds := by simp [lookD, hk]
      have e2 : valV ((k', x) :: ks.zip t) k = valV (ks.zip t) k := by simp [valV, hk]
      rw [List.zip_cons_cons, e1, e2]
      exact ih
/-- the pairs of a dict: by value, or in the store -/
def dctOf (x : D) (st : Sto) : Option (List Key × List D) := match x with
  | .fd ks ds => some (ks, ds)
  | .ref n => match st[n]? with
    | some (.dct ks ds) => some (ks, ds)
    | _ => none
  | _ => none
theorem dct_of {B : Bs} {H : Hp} {ι : List Addr} {st : Sto} {x : D} {v : V} {ks : List Key} {ds : List D} (S : Sim B H ι st) (r : VR B H ι x v) (h : dctOf x st = some (ks, ds)) : ∃ a xs, v = .ref a ∧ Rd H a (.dK (ks.zip xs)) ∧ ks.length = xs.length ∧ VRs B H ι ds xs := by
  unfold dctOf at h
  split at h
  · cases h
    obtain ⟨a, od, kvs, xs, rfl, h1, m, e, l, r1⟩ := r
    subst e
    exact ⟨a, xs, rfl, .inr ⟨od, h1⟩, l, r1⟩
  · rename_i n
    obtain ⟨a, ha, rfl⟩ := r
    split at h
    · rename_i ks' ds' q
      cases h
      obtain ⟨kvs, xs, h1, e, l, r1⟩ := S.look q ha
      subst e
      exact ⟨a, xs, rfl, .inl h1, l, r1⟩
    · cases h
  · cases h
def getR (x k : D) (st : Sto) : Res D := match dctOf x st, keyD k with
  | some (ks, ds), some k => match lookD k ks ds with
    | some d => .ok d st
    | none => .bad
  | _, _ => .bad
def dDGet (da dk : DE) : DE := fun env st => (da env st).bind fun x st1 => (dk env st1).bind fun k st2 => getR x k st2
def hasR (neg : Bool) (k x : D) (st : Sto) : Res D := match dctOf x st, keyD k with
  | some (ks, ds), some k => .ok (.bl (if neg then !(lookD k ks ds).isSome else (lookD k ks ds).isSome)) st
  | _, _ => .bad
def dDHas (neg : Bool) (dk da : DE) : DE := fun env st => (dk env st).bind fun k st1 => (da env st1).bind fun x st2 => hasR neg k x st2
section
variable {X : Cx} {W : WX} {o i e a b : Expr} {es : List Expr} {da dk : DE} {ds : DA} {pos p : Pos}
theorem pd_dget (hu : X.A.units + 1 < cLine) (ho : PEd X W o da) (hi : PEd X W i dk) (hs : NoSl i := by exact fun _ _ => rfl) : PEd X W (.Subscript o i pos) (dDGet da dk) :=
  PE.mono (pe_dget hu ho hi hs) fun σ H Q ⟨ρ, ι, st, env, S, ve, q⟩ => ⟨ρ, ι, st, env, S, ve, Post.bind q fun x st1 ι1 H1 v s1 S1 rx q1 => ⟨ρ, ι1, st1, env, S1, ve.step s1, Post.bind q1 fun k st2 ι2 H2 w s2 S2 rk q2 => by
    unfold getR at q2
    split at q2
    · rename_i ks ds kk e1 e2
      obtain ⟨a, xs, rfl, h1, l, r1⟩ := dct_of S2 (VR.step s2 rx) e1
      have ew := keyD_of rk e2
      rcases look_vr kk ks l r1 with ⟨e3, _⟩ | ⟨d, u, e3, e4, ru⟩
      · rw [e3] at q2; exact q2.elim
      · rw [e3] at q2
        exact ⟨a, u, rfl, .inl ⟨_, kk, h1, ew, e4.symm⟩, q2.ok S2 ru⟩
    · exact q2.elim⟩⟩
theorem has_read {neg : Bool} {K : PySem.W.Frag} {mg : Str → Option Value} {σ : L2.St} {H : Hp} {Q : VK} (h : tG K mg relV W (dDHas neg dk da) σ H Q) : (tG K mg relV W dk) σ H fun y H1 => (tG K mg relV W da) σ H1 fun x H2 => ∃ a o, x = .ref a ∧ DGet H2 a y o ∧ Q (.bl (if neg then !o.isSome else o.isSome)) H2 := by
  obtain ⟨ρ, ι, st, env, S, ve, q⟩ := h
  refine ⟨ρ, ι, st, env, S, ve, Post.bind q fun k st1 ι1 H1 w s1 S1 rk q1 => ⟨ρ, ι1, st1, env, S1, ve.step s1, Post.bind q1 fun x st2 ι2 H2 v s2 S2 rx q2 => ?_⟩⟩
  unfold hasR at q2
  split at q2
  · rename_i ks ds kk e1 e2
    obtain ⟨a, xs, rfl, h1, l, r1⟩ := dct_of S2 rx e1
    have ew := keyD_of (VR.step s2 rk) e2
    refine ⟨a, valV (ks.zip xs) kk, rfl, .inl ⟨_, kk, h1, ew, rfl⟩, ?_⟩
    rcases look_vr kk ks l r1 with ⟨e3, e4⟩ | ⟨d, u, e3, e4, ru⟩
    · rw [e4]; rw [e3] at q2; exact q2.ok S2 rfl
    · rw [e4]; rw [e3] at q2; exact q2.ok S2 rfl
  · exact q2.elim
theorem pd_din (hu : X.A.units + 1 < cLine) (hi : PEd X W i dk) (ho : PEd X W o da) (hm : behindInMarks .In o = false := by rfl) : PEd X W (.Compare i [.In] [o] pos) (dDHas false dk da) :=
  PE.mono (pe_cmp (pc_din hu hi ho) hm) fun σ H Q h => has_read (neg := false) h
theorem pd_dnin (hu : X.A.units + 1 < cLine) (hi : PEd X W i dk) (ho : PEd X W o da) (hm : behindInMarks .NotIn o = false := by rfl) : PEd X W (.Compare i [.NotIn] [o] pos) (dDHas true dk da) :=
  PE.mono (pe_cmp (pc_dnotin hu hi ho) hm) fun σ H Q h => has_read (neg := true) h
theorem tst_of {dE : DE} {t : TE} {σ : L2.St} {H : Hp} {Q : Bool → Hp → Prop} {K : PySem.W.Frag} {mg : Str → Option Value} (k : ∀ Q : VK, tG K mg relV W dE σ H Q → t σ H Q) (h : tG K mg relB W (dTst dE) σ H Q) : tB t σ H Q := by
  obtain ⟨ρ, ι, st, env, S, ve, q⟩ := h
  refine k _ ⟨ρ, ι, st, env, S, ve, Post.bind q fun x st1 ι1 H1 v s1 S1 rx q1 => ?_⟩
  cases x <;> (try exact q1.elim)
  cases rx
  exact ⟨_, rfl, q1.ok S1 rfl⟩
theorem ptd_din (hu : X.A.units + 1 < cLine) (hi : PEd X W i dk) (ho : PEd X W o da) (hm : behindInMarks .In o = false := by rfl) : PTd X W (.Compare i [.In] [o] pos) (dTst (dDHas false dk da)) :=
  PT.mono (pt_cmp (pc_din hu hi ho) hm) fun σ H Q h => tst_of (fun Q h => has_read (neg := false) h) h
theorem ptd_dnin (hu : X.A.units + 1 < cLine) (hi : PEd X W i dk) (ho : PEd X W o da) (hm : behindInMarks .NotIn o = false := by rfl) : PTd X W (.Compare i [.NotIn] [o] pos) (dTst (dDHas true dk da)) :=
  PT.mono (pt_cmp (pc_dnotin hu hi ho) hm) fun σ H Q h => tst_of (fun Q h => has_read (neg := true) h) h
/-! ### len, dict -/
def rLenD : List V → Hp → VK → Prop := fun xs H Q => ∃ a kvs, xs = [.ref a] ∧ Rd H a (.dK kvs) ∧ Q (.int (kvs.length : Nat)) H
theorem cr_lenD : CallR X (.builtin "len") rLenD := by
  rintro pins s σ H xs us Q I r ⟨a, kvs, rfl, ha, q⟩
  obtain ⟨u, rfl, ru⟩ := vals1 r
  cases ru
  exact d_len I ha fun t s' I' => ⟨.int (kvs.length : Nat), H, I', ⟨t, rfl⟩, q⟩
def fLenD : FC := fun xs st => match xs with
  | [x] => match dctOf x st with
    | some (ks, _) => .ok (.int (ks.length : Nat)) st
    | none => .bad
  | _ => .bad
theorem zip_len {ks : List Key} {xs : List V} (l : ks.length = xs.length) : (ks.zip xs).length = ks.length := by rw [List.length_zip, ← l, Nat.min_self]
theorem rc_lenD {K : PySem.W.Frag} {mg : Str → Option Value} : RC K mg rLenD fLenD := by
  intro ρ ι H st xs vs W σ Q S r p
  unfold fLenD at p
  split at p
  · rename_i x
    obtain ⟨v, rfl, h⟩ := vr1 r
    split at p
    · rename_i ks ds e
      obtain ⟨a, ys, rfl, h1, l, r1⟩ := dct_of S h e
      exact ⟨a, _, rfl, h1, by rw [zip_len l]; exact p.ok S rfl⟩
    · exact p.elim
  · exact p.elim
def rDictD : List V → Hp → VK → Prop := fun xs H Q => ∃ (a : Addr) (kvs : List (Key × V)), xs = [.ref a] ∧ Rd H a (.dK kvs) ∧ ∀ p, H p = none → Q (.ref p) (upd H p (.dK kvs))
def fDictD : FC := fun xs st => match xs with
  | [x] => match dctOf x st with
    | some (ks, ds) => .ok (.fd ks ds) st
    | none => .bad
  | _ => .bad
theorem pd_dict {x : Str} (hg : Gl X x) (hm : X.mg x = none) (hv : bootBuiltins x = some (.type "dict")) (ha : PAd X W (e :: es) ds) (hn : x ≠ "__name__" := by decide) (hdb : (x == ("__debug__" : Str)) = false := by decide)
    (he : starEach (e :: es) X.env = (false, eval e X.env) :: starEach es X.env := by rfl) (hpl : (backTo pos (starEach es X.env)).any (·.1) = false := by rfl) : PEd X W (.Call (.Name x p) (e :: es) [] pos) (dCall fDictD ds) :=
  PE.mono (pe_freeze (pe_callTy call_dictD hg hm hv ha hn hdb he hpl)) fun σ H Q ⟨ρ, ι, st, env, S, ve, q⟩ => ⟨ρ, ι, st, env, S, ve, Post.bind q fun xs st1 ι1 H1 vs s1 S1 rx q1 => by
    unfold fDictD at q1
    split at q1
    · rename_i x
      obtain ⟨v, rfl, h⟩ := vr1 rx
      split at q1
      · rename_i ks ds e
        obtain ⟨a, ys, rfl, h1, l, r1⟩ := dct_of S1 h e
        exact ⟨a, _, rfl, h1, fun p hp => new_fd S1 l r1 q1 p hp⟩
      · exact q1.elim
    · exact q1.elim⟩
/-! ### gone over by its keys -/
def dKeysD (da : DE) : DI := fun env st => (da env st).bind fun x st1 => match x with
  | .fd ks _ => .ok (ks.map dK', yes) st1
  | _ => .bad
theorem itk_ok {B : Bs} {ι1 : List Addr} {H1 : Hp} {a : Addr} {od : Obj} {ks : List Key} {xs : List V} (h : H1 a = some (.frz od (.dK (ks.zip xs)))) (m : a ∉ ι1) (l : ks.length = xs.length) : ItOk B (Itk a od (ks.zip xs)) ι1 H1 yes (ks.map dK') := by
  refine ⟨fun ρ' i ι' H' st' f s S k hi => ⟨s.rest _ _ m h, ?_⟩, fun ρ' i d ι' H' st' v H'' f s S k hd y => ?_, fun ρ' i ι' H' st' f s S k hi => ⟨s.rest _ _ m h, ?_⟩⟩
  · rw [zip_len l]; simpa using hi
  · obtain ⟨e, kk, w, e1, rfl⟩ := y
    subst e
    refine ⟨Step.refl _ _, S, ?_⟩
    have e2 : ks[i]? = some kk := by
      have := congrArg (fun l => (l.map Prod.fst)[i]?) (rfl : ks.zip xs = ks.zip xs)
      have z : (ks.zip xs).map Prod.fst = ks := List.map_fst_zip (Nat.le_of_eq l)
      have := congrArg (fun o => o.map Prod.fst) e1
      rw [← List.getElem?_map, z] at this
      exact this
    rw [List.getElem?_map, e2] at hd
    cases hd
    exact vr_dK kk
  · rw [zip_len l]; simpa using hi
theorem pid_keys {tg : Expr} (ha : PEd X W e da) : PId X W tg e (dKeysD da) := PI.mono (pi_keys ha) fun σ H R ⟨ρ, ι, st, env, S, ve, q⟩ => ⟨ρ, ι, st, env, S, ve, Post.bind q fun x st1 ι1 H1 v s1 S1 rx q1 => by
  cases x <;> (try exact q1.elim)
  rename_i ks ds
  obtain ⟨a, od, kvs, xs, rfl, h1, m, e, l, r1⟩ := rx
  subst e
  exact ⟨a, od, rfl, .inl ⟨_, h1, q1.ok S1 ⟨itk_ok h1 m.1 l, rfl⟩⟩⟩⟩
/-! ### numbers -/
def fGcd : FC := fun xs st => match xs with
  | [.int a, .int b] => .ok (.int ((Nat.gcd a.natAbs b.natAbs : Nat) : Int)) st
  | _ => .bad
theorem rc_gcd {K : PySem.W.Frag} {mg : Str → Option Value} : RC K mg rGcd fGcd := by
  intro ρ ι H st xs vs W σ Q S r p
  unfold fGcd at p
  split at p
  · obtain ⟨v, w, rfl, h, k⟩ := vr2 r; cases h; cases k; exact ⟨_, _, rfl, p.ok S rfl⟩
  · exact p.elim
def rLcm : List V → Hp → VK → Prop := fun vs H Q => ∃ a b : Int, vs = [.int a, .int b] ∧ a.natAbs < 10 ^ 19 ∧ b.natAbs < 10 ^ 19 ∧ Q (.int ((Nat.lcm a.natAbs b.natAbs : Nat) : Int)) H
theorem cr_lcm : CallR X (.builtin "math.lcm") rLcm := by
  rintro pins s σ H vs us Q I r ⟨a, b, rfl, ha, hb, q⟩
  obtain ⟨t, u, rfl⟩ := Vals.int2 r
  exact PySem.W.mc_lcm (Nat.lt_of_lt_of_le ha (by decide)) (Nat.lt_of_lt_of_le hb (by decide)) fun _ => ⟨.int _, H, I.tok _, ⟨_, rfl⟩, q⟩
def fLcm : FC := fun xs st => match xs with
  | [.int a, .int b] => if a.natAbs < 10 ^ 19 ∧ b.natAbs < 10 ^ 19 then .ok (.int ((Nat.lcm a.natAbs b.natAbs : Nat) : Int)) st else .bad
  | _ => .bad
theorem rc_lcm {K : PySem.W.Frag} {mg : Str → Option Value} : RC K mg rLcm fLcm := by
  intro ρ ι H st xs vs W σ Q S r p
  unfold fLcm at p
  split at p
  · obtain ⟨v, w, rfl, h, k⟩ := vr2 r
    cases h; cases k
    split at p
    · rename_i c; exact ⟨_, _, rfl, c.1, c.2, p.ok S rfl⟩
    · exact p.elim
  · exact p.elim
/-- a module's name for a function of math -/
theorem pd_callF {x : Str} {id : String} {r : List V → Hp → VK → Prop} {f : FC} (hc : CallR X (.builtin id) r) (hr : RC X.K X.mg r f) (hg : Gl X x) (hm : X.mg x = some (.builtin id)) (ha : PAd X W (e :: es) ds) (hdb : (x == ("__debug__" : Str)) = false := by decide)
    (he : starEach (e :: es) X.env = (false, eval e X.env) :: starEach es X.env := by rfl) (hpl : (backTo pos (starEach es X.env)).any (·.1) = false := by rfl) : PEd X W (.Call (.Name x p) (e :: es) [] pos) (dCall f ds) :=
  PE.mono (pe_callBfun hc hg hm ha hdb he hpl) fun σ H Q ⟨ρ, ι, st, env, S, ve, q⟩ => ⟨ρ, ι, st, env, S, ve, Post.bind q fun xs st1 ι1 H1 vs s1 S1 rx q1 => hr S1 rx q1⟩
def intsS : List D → Option (List Int)
  | [] => some []
  | .int i :: r => (intsS r).map (i :: ·)
  | _ => none
theorem intsS_vr {B : Bs} {H : Hp} {ι : List Addr} : ∀ {ds : List D} {xs : List V} {ns : List Int}, VRs B H ι ds xs → intsS ds = some ns → xs = ns.map V.int
  | [], _, _, r, e => by cases r; cases e; rfl
  | d :: ds, _, ns, ⟨x, t, e1, h, r⟩, e => by
    subst e1
    cases d <;> first | (cases e; done) | skip
    rename_i i
    obtain ⟨ms, e2, rfl⟩ := Option.map_eq_some_iff.mp (show (intsS ds).map (i :: ·) = some ns from e)
    cases h
    rw [intsS_vr r e2]; rfl
def fSum : FC := fun xs st => match xs with
  | [x] => match itemsD x st with
    | some ds => match intsS ds with
      | some ns => .ok (.int ns.sum) st
      | none => .bad
    | none => .bad
  | _ => .bad
end
end DD

/-! DD25: dict comprehensions, properties, sum. -/
namespace DD
open PySem L2 PyProof.Rows
variable [NMs]
/-! ### {k: v for x in ..} -/
def dcLoop (g : DG) (t : DT) (dk dv : DE) (keep : Sto → Bool) (env : Env) : List D → List Key → List D → Sto → Res (List Key × List D)
  | [], ks, ds, st => if keep st = true then .ok (ks, ds) st else .bad
  | x :: r, ks, ds, st => if keep st = true then (match g x env with
    | none => .bad
    | some env1 => match t env1 st with
      | .ok true st1 => match dk env1 st1 with
        | .ok k st2 => match dv env1 st2 with
          | .ok v st3 => match keyD k with
            | some kk => dcLoop g t dk dv keep env r (pkD kk v ks ds).1 (pkD kk v ks ds).2 st3
            | none => .bad
          | _ => .bad
        | _ => .bad
      | .ok false st1 => dcLoop g t dk dv keep env r ks ds st1
      | _ => .bad) else .bad
def dDc (di : DI) (g : DG) (t : DT) (dk dv : DE) (vs : List Nat) : DE := fun env st => (di env st).bind fun a st1 => if a.1.length ≤ bigLine then (dcLoop g t dk dv a.2 (wipeE vs env) a.1 [] [] st1).bind fun kd st2 => .ok (.fd kd.1 kd.2) st2 else .bad
theorem pk_len {k : Key} {d : D} {ks : List Key} {ds : List D} : (pkD k d ks ds).1.length ≤ ks.length + 1 := by
  unfold pkD; split <;> simp
theorem dc_read {K : PySem.W.Frag} {mg : Str → Option Value} {W : WX} {g : DG} {G : TG} {ix vs : List Nat} {t : DT} {dk dv : DE} {di : DI} (gs : GS K mg G ix g) (hix : ∀ j ∈ ix, j ∈ vs) {σ : L2.St} {H : Hp} {Q : VK} (h : tG K mg relV W (dDc di g t dk dv vs) σ H Q) :
    tDc (tG K mg relI W di) G (tG K mg relB W0 t) (tG K mg relV W0 dk) (tG K mg relV W0 dv) vs σ H (fun v H1 => ∃ d u, v = .ref d ∧ H1 d = some u ∧ Mut (some u) ∧ ∀ od, Q v (upd H1 d (.frz od u))) := by
  obtain ⟨ρ, ι, st, env, S, ve, p⟩ := h
  refine ⟨ρ, ι, st, env, S, ve, Post.bind0 p fun a st1 ι1 H1 J s1 S1 rx p1 => ?_⟩
  obtain ⟨ds, keep⟩ := a
  obtain ⟨io, k0⟩ := rx
  intro Dd hD
  by_cases hz : ds.length ≤ bigLine
  case neg => simp only [hz, if_false] at p1; exact p1.elim
  simp only [hz, if_true] at p1
  have m1 : Dd ∉ ι1 := S1.fresh hD
  have hρ : Dd ∉ ρ := S1.fr hD
  have fine : Fine H1 ρ (Dd :: ρ) := fun a ha => (List.mem_cons.mp ha).elim (fun z => .inr (z ▸ hD)) .inl
  refine ⟨fun i m H' => i + m = ds.length ∧ ∃ ι' st' ks vd vs', Step ι1 H1 ι' H' ∧ Sim ((⟨K, mg, ρ⟩ : Bs).more Dd) H' ι' st' ∧ H' Dd = some (.dK (ks.zip vs')) ∧ ks.length = vs'.length ∧ VRs ((⟨K, mg, ρ⟩ : Bs).more Dd) H' ι' vd vs' ∧ ks.length ≤ i ∧
      Post ⟨K, mg, ρ⟩ relV W σ ι H ((dcLoop g t dk dv keep (wipeE vs env) (ds.drop i) ks vd st').bind fun kd st2 => .ok (.fd kd.1 kd.2) st2) Q,
    ⟨ds.length, by omega, ι1, st1, [], [], [], Step.new S1 hD, S1.reserve hD, upd_same, rfl, rfl, Nat.le_refl _, p1⟩, ?_⟩
  rintro i m H' ⟨em, ι', st', ks, vd, vs', s', S', hl, ll, ra, la, p'⟩
  have ve0 : VEnv ((⟨K, mg, ρ⟩ : Bs).more Dd) H' ι' (wipeE vs env) (wipe σ vs) := VEnv.wipe (VEnv.step s' (VEnv.fine (K := K) (mg := mg) fine (ve.step s1)))
  by_cases hi : i < ds.length
  · rw [List.drop_eq_getElem_cons hi] at p'
    unfold dcLoop at p'
    by_cases hk : keep st' = true
    case neg => simp only [hk, if_false] at p'; exact p'.elim
    simp only [hk, if_true] at p'
    refine .inr ⟨io.go (Dd :: ρ) i ι' H' st' fine s' S' hk hi, fun H2 => ∃ ι2 st2 ks2 vd2 vs2, Step ι1 H1 ι2 H2 ∧ Sim ((⟨K, mg, ρ⟩ : Bs).more Dd) H2 ι2 st2 ∧ H2 Dd = some (.dK (ks2.zip vs2)) ∧ ks2.length = vs2.length ∧ VRs ((⟨K, mg, ρ⟩ : Bs).more Dd) H2 ι2 vd2 vs2 ∧ ks2.length ≤ i + 1 ∧
      Post ⟨K, mg, ρ⟩ relV W σ ι H ((dcLoop g t dk dv keep (wipeE vs env) (ds.drop (i + 1)) ks2 vd2 st2).bind fun kd st2 => .ok (.fd kd.1 kd.2) st2) Q,
      fun H2 ⟨ι2, st2, ks2, vd2, vs2, s2, S2, h2, e2, r2, l2, p2⟩ => ⟨m - 1, by omega, by omega, ι2, st2, ks2, vd2, vs2, s2, S2, h2, e2, r2, l2, p2⟩, fun x H'' hy => ?_⟩
    obtain ⟨s3, S3, vr⟩ := io.yld (Dd :: ρ) i ds[i] ι' H' st' x H'' fine s' S' hk (List.getElem?_eq_getElem hi) hy
    have S3 : Sim ⟨K, mg, Dd :: ρ⟩ H'' ι' st' := S3
    have mD : Dd ∉ ι' := (S'.rs Dd List.mem_cons_self).2
    have hl3 := s3.rest _ _ mD hl
    cases q : g ds[i] (wipeE vs env) with
    | none => rw [q] at p'; exact p'.elim
    | some env1 =>
      rw [q] at p'
      simp only [] at p'
      refine gs S3 (ve0.step s3) vr q fun σ4 ve4 off => ⟨wipe_off off hix, Dd :: ρ, ι', st', env1, S3, ve4, ?_⟩
      cases q2 : t env1 st' with
      | bad => rw [q2] at p'; exact p'.elim
      | exc y st2 => rw [q2] at p'; exact p'.elim
      | ok b st2 =>
        rw [q2] at p'
        intro ι5 H5 b' s5 S5 eb
        cases eb
        have s15 := (s'.trans s3).trans s5
        have hl5 := s5.rest _ _ mD hl3
        have m5 : Dd ∉ ι5 := (S5.rs Dd List.mem_cons_self).2
        cases b with
        | false => exact iteF ⟨ι5, st2, ks, vd, vs', s15, S5, hl5, ll, (ra.step s3).step s5, by omega, p'⟩
        | true =>
          refine iteT ⟨Dd :: ρ, ι5, st2, env1, S5, ve4.step s5, ?_⟩
          simp only [] at p'
          cases q3 : dk env1 st2 with
          | bad => rw [q3] at p'; exact p'.elim
          | exc y st3 => rw [q3] at p'; exact p'.elim
          | ok y st3 =>
            rw [q3] at p'
            intro ι6 H6 v6 s6 S6 r6
            have hl6 := s6.rest _ _ m5 hl5
            have m6 : Dd ∉ ι6 := (S6.rs Dd List.mem_cons_self).2
            refine ⟨Dd :: ρ, ι6, st3, env1, S6, (ve4.step s5).step s6, ?_⟩
            simp only [] at p'
            cases q4 : dv env1 st3 with
            | bad => rw [q4] at p'; exact p'.elim
            | exc y st3 => rw [q4] at p'; exact p'.elim
            | ok z st4 =>
              rw [q4] at p'
              intro ι7 H7 v7 s7 S7 r7
              have hl7 := s7.rest _ _ m6 hl6
              simp only [] at p'
              cases q5 : keyD y with
              | none => rw [q5] at p'; exact p'.elim
              | some kk =>
                rw [q5] at p'
                have ra7 := (((ra.step s3).step s5).step s6).step s7
                have S7 : Sim ((⟨K, mg, ρ⟩ : Bs).more Dd) H7 ι7 st4 := S7
                obtain ⟨ys, e8, l8, r8⟩ := pk_vr (k := kk) (show VR ((⟨K, mg, ρ⟩ : Bs).more Dd) H7 ι7 z v7 from r7) ll ra7
                refine ⟨ks.zip vs', kk, keyD_of r6 q5, hl7, ?_, ι7, st4, _, _, ys, ((s15.trans s6).trans s7).scr hD, S7.scr, upd_same.trans (by rw [e8]), l8, r8.scr, Nat.le_trans pk_len (by omega), p'⟩
                rw [zip_len ll]
                exact Nat.lt_of_le_of_lt (by omega : ks.length ≤ ds.length) (big_lt hz)
  · have e : ds.drop i = [] := List.drop_eq_nil_of_le (by omega)
    rw [e] at p'
    unfold dcLoop at p'
    by_cases hk : keep st' = true
    case neg => simp only [hk, if_false] at p'; exact p'.elim
    simp only [hk, if_true, Res.bind_ok] at p'
    refine .inl ⟨io.stop (Dd :: ρ) i ι' H' st' fine s' S' hk (Nat.le_of_not_lt hi), Dd, _, rfl, hl, True.intro, fun od => ?_⟩
    have mD : Dd ∉ ι' := (S'.rs Dd List.mem_cons_self).2
    exact p' ι' _ (.ref Dd) (s1.trans (s'.scr hD)) (S'.scr.less) ⟨Dd, od, _, vs', rfl, upd_same, ⟨mD, hρ⟩, rfl, ll, ra.scr.less.1⟩
section
variable {X : Cx} {W : WX} {kx vx tg iter : Expr} {ifs : List Expr} {scope : Scope} {own : List (Str × Nat)} {pos spos : Pos} {g : DG} {G : TG} {ix ixs : List Nat} {t : DT} {dk dv : DE} {di : DI}
theorem pd_dc (hc : X.calm = true) (hN : X.N.Nodup) (hi : PId X W tg iter di) (ok : BlkOk X.N X.env.scope scope own) (gs : GS X.K X.mg G ix g) (hix : ∀ j ∈ ix, j ∈ own.map (·.2))
    (hg : ∀ (s : Shared) (H : Hp) (C : Addr) (cl : List (Str × Addr)) (fp : List Addr), PG (X.blk s H scope (compEnvC scope cl C X.env) fp) tg G) (ht : ∀ (s : Shared) (H : Hp) (C : Addr) (cl : List (Str × Addr)) (fp : List Addr), PTsd (X.blk s H scope (compEnvC scope cl C X.env) fp) W0 ifs t)
    (hk : ∀ (s : Shared) (H : Hp) (C : Addr) (cl : List (Str × Addr)) (fp : List Addr), PEd (X.blk s H scope (compEnvC scope cl C X.env) fp) W0 kx dk)
    (hv : ∀ (s : Shared) (H : Hp) (C : Addr) (cl : List (Str × Addr)) (fp : List Addr), PEd (X.blk s H scope (compEnvC scope cl C X.env) fp) W0 vx dv) (hox : own.map (·.2) = ixs := by rfl) (hs : ∀ x, foldedSetIterable iter X.env x = pure x := by intro _; rfl) :
    PEd X W (.DictComp kx vx [⟨tg, iter, ifs, 0⟩] scope pos) (dDc di g t dk dv ixs) := by
  subst hox
  exact PE.mono (pe_freeze (pe_dc (tt := tG X.K X.mg relB W0 t) (tk := tG X.K X.mg relV W0 dk) (tv := tG X.K X.mg relV W0 dv) hc hN hi ok hg ht hk hv hs)) fun _ _ _ h => dc_read gs hix h
theorem sw_dc {gs : List Comprehension} {py : Pos} {y : Str} {l : Nat} {env : PySem.Env} (hk : env.scope.kind = .function) (hy : env.scope.names.lookup y = some .local) (hl : (py.line == pos.line) = true)
    (ha : (scope.names.any fun (n, k) => n == y && (k == .local || k == .cell)) = false) : swapsWith (.DictComp kx vx gs scope pos) (some (.Name y py)) l env = pure true := by
  have k1 : env.kindOf y = some .local := hy
  have k2 : env.blockKind = .function := by unfold Env.blockKind; rw [hk]; rfl
  unfold swapsWith
  simp only [k2, k1, ha, Expr.pos, hl]
  rfl
/-- y = {..}: by value -/
theorem psd_setDc {i : Nat} {y : Str} {py : Pos} (hy : X.N[i]? = some y) (hyl : X.env.scope.names.lookup y = some .local) (hsw : swapsWith (.DictComp kx vx [⟨tg, iter, ifs, 0⟩] scope pos) (some (.Name y py)) spos.line X.env = pure true)
    (hc : X.calm = true) (hN : X.N.Nodup) (hi : PId X W tg iter di) (ok : BlkOk X.N X.env.scope scope own) (gs : GS X.K X.mg G ix g) (hix : ∀ j ∈ ix, j ∈ own.map (·.2))
    (hg : ∀ (s : Shared) (H : Hp) (C : Addr) (cl : List (Str × Addr)) (fp : List Addr), PG (X.blk s H scope (compEnvC scope cl C X.env) fp) tg G) (ht : ∀ (s : Shared) (H : Hp) (C : Addr) (cl : List (Str × Addr)) (fp : List Addr), PTsd (X.blk s H scope (compEnvC scope cl C X.env) fp) W0 ifs t)
    (hk : ∀ (s : Shared) (H : Hp) (C : Addr) (cl : List (Str × Addr)) (fp : List Addr), PEd (X.blk s H scope (compEnvC scope cl C X.env) fp) W0 kx dk)
    (hv : ∀ (s : Shared) (H : Hp) (C : Addr) (cl : List (Str × Addr)) (fp : List Addr), PEd (X.blk s H scope (compEnvC scope cl C X.env) fp) W0 vx dv) (hox : own.map (·.2) = ixs := by rfl) (hs : ∀ x, foldedSetIterable iter X.env x = pure x := by intro _; rfl) :
    PSd X W (.Assign [.Name y py] (.DictComp kx vx [⟨tg, iter, ifs, 0⟩] scope pos) spos) (dSet i (dDc di g t dk dv ixs)) := by
  subst hox
  refine ⟨fun pins s σ H E I h => ?_⟩
  rw [exec_Assign_Name_used _ _ _ _ hsw]
  refine wpAny_bind (wpAny_standAt (wpAny_bind ?_))
  obtain ⟨ρ, ι, st, env, S, ve, p⟩ := h
  have w := dc_read (W := W) (dk := dk) (dv := dv) (t := t) (Q := fun v H1 => E.nx (σ.set i (some v)) H1) gs hix ⟨ρ, ι, st, env, S, ve, PostS.bind ve (show PostS ⟨X.K, X.mg, ρ⟩ W E σ ι H ((dDc di g t dk dv (own.map (·.2)) env st).bindS env fun x st1 => .nx (env.set i (some x)) st1) from p) fun x st1 ι1 H1 v s1 S1 rx p1 => p1 ι1 H1 _ (Step.refl _ _) S1 ((ve.step s1).set rx)⟩
  show wpAny _ X.A (do let _ ← comprehension (.DictComp kx vx [⟨tg, iter, ifs, 0⟩] scope pos) scope X.env (firstIterPos [⟨tg, iter, ifs, 0⟩] pos) newDict false (eval iter X.env) (some (assign (.Name y py) X.env))) _ _ s
  refine wpAny_bind (thn (dc_core (tt := tG X.K X.mg relB W0 t) (tk := tG X.K X.mg relV W0 dk) (tv := tG X.K X.mg relV W0 dv) (Qf := fun _ s' => SP X pins E .next s') hc hN I hi ok hg ht hk hv hs w fun L C s' m H' J q hn fp => ?_) fun _ s' hq => wpAny_pure (wpAny_pure hq))
  show wpAny _ _ (assign (.Name y py) X.env (.ref L)) _ _ _
  refine wpAny_assign_Name (store_ok2 (v := V.ref L) J hN hy (.inl hyl) rfl (fun s2 J2 ⟨a, sb, ha⟩ => ?_) (.inr hyl))
  obtain ⟨g0, g1, g2, g3, g4, g5⟩ := fp
  have nC : C ≠ a := fun e => ha.elim (fun z => g1 (z ▸ e)) fun z => g4 y a z e.symm
  refine ⟨m, hn.sameBut sb nC, fun h3 sb3 => ?_⟩
  have J3 := J2.turned (t' := s2.toks) (fun b o hb e => (sb3.2 b hb).trans e) g0 g1 g3 g4 g5
  obtain ⟨d, u, ed, hd, mu, q⟩ := q
  obtain ⟨od, J4⟩ := J3.lock hd mu
  exact ⟨_, _, J4, q od⟩
end
/-! ### properties -/
def dProp (c : Str) (m : M) (da : DE) : DE := fun env st => (da env st).bind fun x st1 => match x with
  | .obj c' ns ds => if c' = c then (match m [x] st1 with
    | .ok y st2 => .ok y st2
    | _ => .bad) else .bad
  | _ => .bad
section
variable {X : Cx} {W : WX} {e : Expr} {da : DE} {pos : Pos} {k : Nat} {C p g : Addr} {c f s0 : Str} {fd : FuncData} {m : M}
theorem passes_nox : Passes (L2.CX X.prog X.w) X.nox (fun _ _ _ => False) := fun pins σ H s e s' I h => by
  obtain ⟨_, _, _, _, _, _, _, _, _, _, _, _, z⟩ := h
  exact z.elim
theorem pd_prop (gC : X.mg c = some (.ref C)) (cl : Cls X.K C) (hp : PropOf X.K C f p g) (F : FnOk X.prog X.w X.K X.mg X.base (L2.CX X.prog X.w) k g fd [s0] (spD X.K X.mg m 1)) (hr : Room (k + 1) X.A) (hb : Binds X.K fd [s0] []) (he : PEd X W e da)
    (hab : attributeBase e f X.env (eval e X.env) = eval e X.env := by rfl) : PEd X W (.Attribute e f pos) (dProp c m da) :=
  PE.mono (pe_prop (dvs := []) he cl hp F hr hb .nil passes_nox hab) fun σ H Q ⟨ρ, ι, st, env, S, ve, q⟩ => ⟨ρ, ι, st, env, S, ve, Post.bind q fun x st1 ι1 H1 v s1 S1 rx q1 => by
    cases x <;> (try exact q1.elim)
    rename_i c' ns ds
    simp only [] at q1
    split at q1
    · rename_i ec
      subst ec
      obtain ⟨a, C', dx, fs, xs, rfl, hC, h1, mm, e1, l, r1⟩ := id rx
      cases hC.symm.trans gC
      refine ⟨a, dx, fs, rfl, h1, rfl, ρ, ι1, st1, [.obj c' ns ds], S1, VRs.one rx, ?_⟩
      cases e2 : m [.obj c' ns ds] st1 with
      | ok y st2 => rw [e2] at q1; exact q1
      | exc y st2 => rw [e2] at q1; exact q1.elim
      | bad => rw [e2] at q1; exact q1.elim
    · exact q1.elim⟩
end
/-! ### sum -/
def listD : D → Sto → Option (List D)
  | .fz ds, _ => some ds
  | .sc ds, _ => some ds
  | .ref n, st => match st[n]? with
    | some (.lst ds) => some ds
    | _ => none
  | _, _ => none
theorem list_vr {B : Bs} {H : Hp} {ι : List Addr} {st : Sto} {d : D} {v : V} {ds : List D} (S : Sim B H ι st) (r : VR B H ι d v) (h : listD d st = some ds) : ∃ a ys, v = .ref a ∧ SqL B.K H a ys ∧ VRs B H ι ds ys := by
  cases d with
  | fz ds => obtain ⟨a, ys, rfl, h1, n1, r1⟩ := r; cases h; exact ⟨a, ys, rfl, SqL.of h1, r1⟩
  | sc ds => obtain ⟨a, ys, rfl, h1, r1⟩ := r; cases h; exact ⟨a, ys, rfl, h1.sq, r1⟩
  | ref n =>
    obtain ⟨a, ha, rfl⟩ := r
    simp only [listD] at h
    split at h
    · rename_i ds' q
      cases h
      obtain ⟨ys, h1, r1⟩ := S.look q ha
      exact ⟨a, ys, rfl, SqL.of h1, r1⟩
    · cases h
  | _ => cases h
def fSumL : FC := fun xs st => match xs with
  | [x] => match listD x st with
    | some ds => match intsS ds with
      | some ns => .ok (.int ns.sum) st
      | none => .bad
    | none => .bad
  | _ => .bad
theorem rc_sum {K : PySem.W.Frag} {mg : Str → Option Value} : RC K mg (rSum K) fSumL := by
  intro ρ ι H st xs vs W σ Q S r p
  unfold fSumL at p
  split at p
  · rename_i x
    obtain ⟨v, rfl, h⟩ := vr1 r
    split at p
    · rename_i ds e
      obtain ⟨a, ys, rfl, h1, r1⟩ := list_vr S h e
      split at p
      · rename_i ns e2
        have ey := intsS_vr r1 e2
        subst ey
        exact ⟨a, ns, rfl, h1, p.ok S rfl⟩
      · exact p.elim
    · exact p.elim
  · exact p.elim
end DD

/-! DD26: try with several clauses, with and without a name. -/
namespace DD
open PySem L2 PyProof.Rows
variable [NMs]
abbrev HdT := Value × Option Nat × (Addr → Value → Option Addr → TS)
def endsA (o : Option Nat) (D : Ends) : Ends := match o with
  | none => D
  | some i => { nx := fun σ' H' => D.nx (σ'.set i none) H', rt := D.rt, bk := fun σ' H' => D.bk (σ'.set i none) H', ct := fun σ' H' => D.ct (σ'.set i none) H' }
def slotA (o : Option Nat) (a : Addr) (σ : L2.St) : L2.St := match o with
  | none => σ
  | some i => σ.set i (some (.ref a))
/-- what the clauses wish of an error of the body -/
def wA (K : PySem.W.Frag) (Wout : WX) (D : Ends) : List HdT → WX
  | [] => Wout
  | (c, o, ts) :: r => fun cls d σ H => ∃ b, PySem.W.exmOne K cls c = some b ∧ (b = true → ∀ a, H a = none → ts a cls d (endsA o D) (slotA o a σ) H) ∧ (b = false → wA K Wout D r cls d σ H)
inductive HdsA (X : Cx) : List ExceptHandler → List HdT → Prop
  | nil : HdsA X [] []
  | plain {x : Str} {c : Value} {ts : Addr → Value → Option Addr → TS} {b₀ : Stmt} {suite : List Stmt} {np pos' : Pos} {hds : List ExceptHandler} {l : List HdT} (hc : Names X x c)
      (hsu : ∀ (a : Addr) (oe : Obj) (cls : Value) (d : Option Addr) (pn : List (Addr × Obj)), Zc cls d oe → (∃ vs, oe.data = .fields vs) → PSs (X.suite a ((a, oe) :: pn)) (b₀ :: suite) (ts a cls d)) (r : HdsA X hds l) :
      HdsA X (.ExceptHandler (some (.Name x np)) none (b₀ :: suite) pos' :: hds) ((c, none, ts) :: l)
  | named {x n : Str} {c : Value} {i : Nat} {ts : Addr → Value → Option Addr → TS} {b₀ : Stmt} {suite : List Stmt} {np pos' : Pos} {hds : List ExceptHandler} {l : List HdT} (hc : Names X x c) (hi : X.N[i]? = some n) (hln : X.env.kindOf n = some .local)
      (hsu : ∀ (a : Addr) (oe : Obj) (cls : Value) (d : Option Addr) (pn : List (Addr × Obj)), Zc cls d oe → (∃ vs, oe.data = .fields vs) → PSs (X.suite a ((a, oe) :: pn)) (b₀ :: suite) (ts a cls d)) (r : HdsA X hds l) :
      HdsA X (.ExceptHandler (some (.Name x np)) (some n) (b₀ :: suite) pos' :: hds) ((c, some i, ts) :: l)
section
variable {X : Cx} {body : List Stmt} {h₀ : ExceptHandler} {hds : List ExceptHandler} {l : List HdT} {pos : Pos} {tb : WX → TS} {Wout : WX}
theorem ps_tryA (hst : X.stack = X.env :: X.outer) (hf : X.env.frame = some X.env.locals) (hN : X.N.Nodup) (tk : Takes X Wout)
    (hb : ∀ (W : WX) (pn : List (Addr × Obj)) (xe : Value → Shared → Prop), Takes (X.tr pn xe) W → PassesOwn (model X.prog X.w) X.A X.env xe → PSs (X.tr pn xe) body (tb W))
    (hh : HdsA X (h₀ :: hds) l) : PS X (.Try body (h₀ :: hds) [] [] pos) (fun D σ H => tb (wA X.K Wout D l) D σ H) := by
  constructor
  intro pins s σ H D I h
  have ok := I.ok
  have frames : X.A.frames = some (X.env :: X.outer) := ok.frames.trans (by rw [hst])
  apply wpAny_Try_except
  have run := (hb (wA X.K Wout D l) (X.pn ++ pins) (fun e s₁ => wpAny (model X.prog X.w) X.A (noteFrame e X.env) (fun _ s₂ => wpAny (model X.prog X.w) X.A (setFlight e none) (fun _ s₃ =>
    wpAny (model X.prog X.w) X.A (handleBy e X.env (h₀ :: hds)) (SP X pins D) X.xe s₃) X.xe s₂) X.xe s₁) ?caught PassesOwn.looking).run [] s σ H D (I.toTry _) h
  case caught =>
    rintro u s' ⟨a, Bf, sI, pins', σ', H', cls, d, rfl, J', nb, up, sky, na, os, ag, w⟩
    have J : Inv X pins σ' H' sI := J'.ofTry ok
    rw [show X.stack = X.env :: X.outer from hst] at sky
    show wpAny (model X.prog X.w) X.A (noteFrame (.ref a) X.env) _ _ _
    refine Sky.land Zc.steady frames hf sky fun h3 fl up3 => ?_
    have J3 : Inv X pins σ' H' { s' with heap := h3 } := J.landed nb fl.1 (up.trans up3) os ag
    obtain ⟨o3, fields3, get3, zc3, dat3⟩ := fl.there
    have outside : a ∉ frs (X.env :: X.outer) := fun hm => by
      obtain ⟨_, o', e', hnf⟩ := fl.2.2.1.mem hm
      cases e'.symm.trans get3
      exact hnf _ dat3
    have nL : a ≠ X.env.locals := fun z => outside (List.mem_filterMap.mpr ⟨X.env, List.mem_cons_self, by rw [hf, z]⟩)
    have nF : a ∉ X.fs := fun hm => by
      obtain ⟨e, he, q⟩ := List.mem_filterMap.mp hm
      exact outside (List.mem_filterMap.mpr ⟨e, List.mem_cons_of_mem _ he, q⟩)
    have S3 := J3.suite get3 dat3 na nL nF
    have clauses : ∀ {hs : List ExceptHandler} {l' : List HdT}, HdsA X hs l' → wA X.K Wout D l' cls d σ' H' → wpAny (model X.prog X.w) X.A (handleBy (.ref a) X.env hs) (SP X pins D) X.xe { s' with heap := h3 } := by
      intro hs l' hk
      induction hk with
      | nil =>
        intro w
        apply wpAny_handleBy_nil
        obtain ⟨_, _, _, oe, vs, T, oT, ts', he, hz, hd, h1, hr⟩ := id fl
        unfold PySem.passOn
        refine wpAny_bind (wpAny_field he hd h1 ?_)
        rw [if_neg (show ¬ ((Value.ref T == Value.none) = true) from by simp)]
        have out : wpAny (model X.prog X.w) X.A (setFlight (.ref a) X.env.frame) (fun _ s4 => wpAny (model X.prog X.w) X.A (throw (.ref a) : Sem Flow) (SP X pins D) X.xe s4) X.xe { s' with heap := h3 } := by
          rw [hf]
          exact HandSPX.setFlight_upZ fl fun h4 hh4 up4 => wpAny_throw (tk _ _ ⟨a, Bf, sI, pins, σ', H', cls, d, rfl, J, nb, (up.trans up3).trans up4, .inr (.inr (by rw [hst]; exact hh4)), na, os, ag, w⟩)
        first
          | exact wpAny_bind (wpAny_pure (wpAny_bind out))
          | exact wpAny_bind out
      | @plain x c ts b₀ suite np pos' hds2 l2 hc hsu r ih =>
        rintro ⟨b, hb1, hyes, hno⟩
        refine wpAny_handleBy_cons (codeAny_handlers_test ?_) (by intro q; cases q)
        have LM := PySem.W.exm_one (M := model X.prog X.w) (J3.kIn) (fun A Q E s k q => wpAny_typeOf_ref (k _ _ get3) (by rw [zc3.1]; exact q) : PySem.W.Looks (model X.prog X.w) h3 (typeOf (.ref a)) cls) hb1
        have name : ∀ {Q : Value → Shared → Prop} {E : Value → Shared → Prop}, Q c { s' with heap := h3 } → wpAny (model X.prog X.w) (X.A.mark (some (.ref a))) (eval (.Name x np) X.env) Q E { s' with heap := h3 } := fun {Q E} q => by
          obtain ⟨hg, hdbg, hm | ⟨hm, hv, hnn⟩⟩ := hc
          · exact ld_glob (X := X.suite a ((a, o3) :: (X.pn ++ pins))) S3 hg hm q hdbg
          · exact ld_blt (X := X.suite a ((a, o3) :: (X.pn ++ pins))) S3 hg hm hv q hnn hdbg
        refine name (LM.here ?_)
        cases b with
        | false =>
          show wpAny _ X.A (handleBy (.ref a) X.env hds2) _ _ _
          exact ih (hno rfl)
        | true =>
          refine codeAny_handlers_suite (HandSPX.lands_againZ fl fun h4 fl4 up4 => ?_)
          have J4 : Inv X pins σ' H' { s' with heap := h4 } := J.landed nb fl4.1 ((up.trans up3).trans up4) os ag
          obtain ⟨o4, fields4, get4, zc4, dat4⟩ := fl4.there
          have S4 := J4.suite get4 dat4 na nL nF
          refine wpAny_mono ((hsu a o4 cls d (X.pn ++ pins) zc4 ⟨_, dat4⟩).run [] _ _ H' _ S4 (hyes rfl a na)) (fun f s6 hsp => ?_) (fun _ _ z => False.elim z)
          cases f with
          | next => obtain ⟨σ6, H6, S6, q6⟩ := hsp; exact ⟨_, _, S6.unsuite ok, q6⟩
          | brk => obtain ⟨σ6, H6, S6, q6⟩ := hsp; exact ⟨_, _, S6.unsuite ok, q6⟩
          | cont => obtain ⟨σ6, H6, S6, q6⟩ := hsp; exact ⟨_, _, S6.unsuite ok, q6⟩
          | ret u => obtain ⟨v6, σ6, H6, S6, r6, q6⟩ := hsp; exact ⟨_, _, _, S6.unsuite ok, r6, q6⟩
      | @named x n c i ts b₀ suite np pos' hds2 l2 hc hi hln hsu r ih =>
        rintro ⟨b, hb1, hyes, hno⟩
        refine wpAny_handleBy_cons (codeAny_handlers_test ?_) (by intro q; cases q)
        have LM := PySem.W.exm_one (M := model X.prog X.w) (J3.kIn) (fun A Q E s k q => wpAny_typeOf_ref (k _ _ get3) (by rw [zc3.1]; exact q) : PySem.W.Looks (model X.prog X.w) h3 (typeOf (.ref a)) cls) hb1
        have name : ∀ {Q : Value → Shared → Prop} {E : Value → Shared → Prop}, Q c { s' with heap := h3 } → wpAny (model X.prog X.w) (X.A.mark (some (.ref a))) (eval (.Name x np) X.env) Q E { s' with heap := h3 } := fun {Q E} q => by
          obtain ⟨hg, hdbg, hm | ⟨hm, hv, hnn⟩⟩ := hc
          · exact ld_glob (X := X.suite a ((a, o3) :: (X.pn ++ pins))) S3 hg hm q hdbg
          · exact ld_blt (X := X.suite a ((a, o3) :: (X.pn ++ pins))) S3 hg hm hv q hnn hdbg
        refine name (LM.here ?_)
        cases b with
        | false =>
          show wpAny _ X.A (handleBy (.ref a) X.env hds2) _ _ _
          exact ih (hno rfl)
        | true =>
          refine codeAny_handlers_suite_as (HandSPX.lands_againZ fl fun h4 fl4 up4 => ?_)
          have J4 : Inv X pins σ' H' { s' with heap := h4 } := J.landed nb fl4.1 ((up.trans up3).trans up4) os ag
          obtain ⟨o4, fields4, get4, zc4, dat4⟩ := fl4.there
          have S4 := J4.suite get4 dat4 na nL nF
          refine store_ok (X := X.suite a ((a, o4) :: (X.pn ++ pins))) (v := .ref a) S4 hN hi (.inl hln) rfl (fun s5 S5 => ?_) (.inr hln)
          refine wpAny_mono ((hsu a o4 cls d (X.pn ++ pins) zc4 ⟨_, dat4⟩).run [] s5 _ H' _ S5 (hyes rfl a na)) (fun f s6 hsp => ?_) (fun _ _ z => False.elim z)
          have fin : ∀ {σ6 : L2.St} {H6 : Hp} {Q : Shared → Prop}, Inv (X.suite a ((a, o4) :: (X.pn ++ pins))) [] σ6 H6 s6 → (∀ s7, Inv X pins (σ6.set i none) H6 s7 → Q s7) →
              wpAny (model X.prog X.w) X.A (do bindName X.env n .none; unbindBehindTheSuite X.env n pos') (fun _ s7 => Q s7) X.xe s6 := fun {σ6 H6 Q} S6 hq => gone_ok (S6.unsuite ok) hN hi hln hq
          cases f with
          | next => obtain ⟨σ6, H6, S6, q6⟩ := hsp; exact fin S6 fun s7 J7 => ⟨_, _, J7, q6⟩
          | brk => obtain ⟨σ6, H6, S6, q6⟩ := hsp; exact fin S6 fun s7 J7 => ⟨_, _, J7, q6⟩
          | cont => obtain ⟨σ6, H6, S6, q6⟩ := hsp; exact fin S6 fun s7 J7 => ⟨_, _, J7, q6⟩
          | ret u => obtain ⟨v6, σ6, H6, S6, r6, q6⟩ := hsp; exact fin S6 fun s7 J7 => ⟨_, _, _, J7, r6, q6⟩
    exact clauses hh w
  refine wpAny_mono run (fun f s1 hsp => ?_) (fun e s1 he => he)
  cases f with
  | next => obtain ⟨σ', H', J', q⟩ := hsp; exact wpAny_execs_nil ⟨σ', H', J'.ofTry ok, q⟩
  | brk => obtain ⟨σ', H', J', q⟩ := hsp; exact ⟨σ', H', J'.ofTry ok, q⟩
  | cont => obtain ⟨σ', H', J', q⟩ := hsp; exact ⟨σ', H', J'.ofTry ok, q⟩
  | ret u => obtain ⟨v, σ', H', J', r, q⟩ := hsp; exact ⟨v, σ', H', J'.ofTry ok, r, q⟩
end

/-! ### by data -/
/-- what a clause does: a suite; m = a known value, n the error; m = n.f -/
inductive Hk where
  | plain (d : DS)
  | set (i j : Nat) (v : D)
  | fld (i j : Nat) (f : Str)
def hkR (sub : Str → Str → Option Bool) (x : Xc) (env : Env) (st : Sto) : List (Str × Hk) → ResS
  | [] => .exc x env st
  | (c, .plain d) :: r => match sub x.1 c with
    | some true => noExcR (d env st)
    | some false => hkR sub x env st r
    | none => .bad
  | (c, .set i j v) :: r => if x.1 = c then (match x.2 with
      | none => if i < env.length then .nx (((env.set i none).set j (some v)).set i none) st else .bad
      | some _ => .bad)
    else match sub x.1 c with
      | some false => hkR sub x env st r
      | _ => .bad
  | (c, .fld i j f) :: r => if x.1 = c then (match x.2 with
      | some (g, v) => if g = f ∧ i < env.length then .nx (((env.set i none).set j (some v)).set i none) st else .bad
      | none => .bad)
    else match sub x.1 c with
      | some false => hkR sub x env st r
      | _ => .bad
def tryKR (sub : Str → Str → Option Bool) (hs : List (Str × Hk)) (r : ResS) : ResS := match r with
  | .exc x env1 st1 => hkR sub x env1 st1 hs
  | r => r
def dTryK (sub : Str → Str → Option Bool) (d : DS) (hs : List (Str × Hk)) : DS := fun env st => tryKR sub hs (d env st)
/-- slot i holds the error at a: the value is v -/
def tEx0 (i : Nat) (a : Addr) (v : V) : TE := fun σ H Q => σ[i]? = some (some (.ref a)) ∧ Q v H
/-- perhaps one list is new -/
def NewH (H H' : Hp) : Prop := H' = H ∨ ∃ p xs, H p = none ∧ H' = upd H p (.lst xs)
def tEx (i : Nat) (a : Addr) (v : V) : TE := fun σ H Q => σ[i]? = some (some (.ref a)) ∧ ∀ H', NewH H H' → Q v H'
theorem pe_ex0 {X : Cx} {e : Expr} {i : Nat} {a : Addr} {v : V} (h : PE X e (tEx0 i a v)) : PE X e (tEx i a v) := PE.mono h fun σ H Q ⟨h1, q⟩ => ⟨h1, q H (.inl rfl)⟩
inductive HdK (X : Cx) (sub : Str → Str → Option Bool) : List ExceptHandler → List (Str × Hk) → Prop
  | nil : HdK X sub [] []
  | plain {x : Str} {C : Addr} {b₀ : Stmt} {suite : List Stmt} {np pos' : Pos} {hds : List ExceptHandler} {hs : List (Str × Hk)} {dd : DS} (hm : X.mg x = some (.ref C)) (hc : Names X x (.ref C))
      (hsu : ∀ (a : Addr) (oe : Obj) (cls : Value) (d : Option Addr) (pn : List (Addr × Obj)), Zc cls d oe → (∃ vs, oe.data = .fields vs) → PSsd (X.suite a ((a, oe) :: pn)) W0 (b₀ :: suite) dd) (r : HdK X sub hds hs) :
      HdK X sub (.ExceptHandler (some (.Name x np)) none (b₀ :: suite) pos' :: hds) ((x, .plain dd) :: hs)
  | set {x n m : Str} {C : Addr} {i j : Nat} {e : Expr} {v : V} {vd : D} {np pos' p1 p4 : Pos} {hds : List ExceptHandler} {hs : List (Str × Hk)} (hm : X.mg x = some (.ref C)) (hc : Names X x (.ref C)) (hi : X.N[i]? = some n) (hln : X.env.kindOf n = some .local)
      (hj : X.N[j]? = some m) (hlm : Loc X.env.scope m) (hN : X.N.Nodup) (hself : sub x x = some true) (hE : ∀ (a : Addr) (oe : Obj) (pn : List (Addr × Obj)), Zc (.ref C) none oe → (∃ vs, oe.data = .fields vs) → PE (X.suite a ((a, oe) :: pn)) e (tEx i a v)) (hv : Flat vd v)
      (hsw : swapsWith e (some (.Name m p1)) p4.line X.env = pure false) (hfm : X.fn m = true ∨ X.env.scope.names.lookup m = some .local) (r : HdK X sub hds hs) :
      HdK X sub (.ExceptHandler (some (.Name x np)) (some n) [.Assign [.Name m p1] e p4] pos' :: hds) ((x, .set i j vd) :: hs)
theorem hk_list {X : Cx} {W : WX} {sub : Str → Str → Option Bool} (hsub : SubOk X.K X.mg sub) {hds : List ExceptHandler} {hs : List (Str × Hk)} (h : HdK X sub hds hs) :
    ∃ l, HdsA X hds l ∧ ∀ (D : Ends) (ρ ι : List Addr) (st : Sto) (env : Env) (σ : L2.St) (H : Hp) (x : Xc) (cls : Value) (dd : Option Addr), Sim ⟨X.K, X.mg, ρ⟩ H ι st → VEnv ⟨X.K, X.mg, ρ⟩ H ι env σ → ExcR ⟨X.K, X.mg, ρ⟩ H ι x cls dd →
      PostS ⟨X.K, X.mg, ρ⟩ W D σ ι H (hkR sub x env st hs) → wA X.K W D l cls dd σ H := by
  induction h with
  | nil => exact ⟨[], .nil, fun D ρ ι st env σ H x cls dd S ve ex p => p ι H σ cls dd (Step.refl _ _) S ve ex⟩
  | @plain x C b₀ suite np pos' hds hs d hm hc hsu r ih =>
    obtain ⟨l, hl, k⟩ := ih
    refine ⟨(.ref C, none, fun _ _ _ => tSd X.K X.mg W0 d) :: l, .plain hc hsu hl, fun D ρ ι st env σ H y cls dd S ve ex p => ?_⟩
    obtain ⟨Cy, rfl, hy, hd⟩ := id ex
    unfold hkR at p
    cases q : sub y.1 x with
    | none => rw [q] at p; exact p.elim
    | some b =>
      rw [q] at p
      refine ⟨b, hsub _ _ _ q _ _ hy hm, fun hb a _ => ?_, fun hb => ?_⟩
      · subst hb; exact ⟨ρ, ι, st, env, S, ve, PostS.noExc p⟩
      · subst hb; exact k D ρ ι st env σ H y _ dd S ve ex p
  | @set x n m C i j e v vd np pos' p1 p4 hds hs hm hc hi hln hj hlm hN hself hE hv hsw hfm r ih =>
    obtain ⟨l, hl, k⟩ := ih
    refine ⟨(.ref C, some i, fun a cls d D σ H => cls = .ref C ∧ d = none ∧ σ[i]? = some (some (.ref a)) ∧ ∀ H', NewH H H' → D.nx (σ.set j (some v)) H') :: l, .named hc hi hln (fun a oe cls d pn hz hf => ?_) hl, fun D ρ ι st env σ H y cls dd S ve ex p => ?_⟩
    · refine ⟨fun pins s σ H D I w => ?_⟩
      obtain ⟨rfl, rfl, w1, w2⟩ := w
      exact (pss_one (ps_set (X := X.suite a ((a, oe) :: pn)) (i := j) hN hj hlm (hE a oe pn hz hf) hsw hfm)).run pins s σ H D I ⟨w1, w2⟩
    · obtain ⟨Cy, rfl, hy, hd⟩ := id ex
      unfold hkR at p
      split at p
      · rename_i ey
        rw [ey] at hy
        cases hy.symm.trans hm
        refine ⟨true, hsub _ _ _ hself _ _ hm hm, fun _ a ha => ?_, fun z => Bool.noConfusion z⟩
        split at p
        · rename_i e2
          rw [e2] at hd
          split at p
          · rename_i hlen
            rw [← ve.1] at hlen
            refine ⟨rfl, hd, List.getElem?_set_self hlen, ?_⟩
            rintro H' (rfl | ⟨pn, xs, np, rfl⟩)
            · exact p ι H' _ (Step.refl _ _) S (VEnv.gone ((VEnv.lose ve).set hv.vr))
            · exact p ι _ _ (Step.new S np) (S.new np) (VEnv.gone ((VEnv.lose (ve.step (Step.new S np))).set hv.vr))
          · exact p.elim
        · exact p.elim
      · rename_i ne
        split at p
        · rename_i e2
          exact ⟨false, hsub _ _ _ e2 _ _ hy hm, fun z => Bool.noConfusion z, fun _ => k D ρ ι st env σ H y _ dd S ve ex p⟩
        · exact p.elim
theorem psd_tryK {X : Cx} {W : WX} {sub : Str → Str → Option Bool} {body : List Stmt} {h₀ : ExceptHandler} {hds : List ExceptHandler} {hs : List (Str × Hk)} {d : DS} {pos : Pos} (hst : X.stack = X.env :: X.outer) (hf : X.env.frame = some X.env.locals) (hN : X.N.Nodup) (tk : Takes X W) (hsub : SubOk X.K X.mg sub)
    (hb : ∀ (W' : WX) (pn : List (Addr × Obj)) (xe : Value → Shared → Prop), Takes (X.tr pn xe) W' → PassesOwn (model X.prog X.w) X.A X.env xe → PSsd (X.tr pn xe) W' body d) (hh : HdK X sub (h₀ :: hds) hs) :
    PSd X W (.Try body (h₀ :: hds) [] [] pos) (dTryK sub d hs) := by
  obtain ⟨l, hl, k⟩ := hk_list (W := W) hsub hh
  refine PS.mono (ps_tryA (tb := fun W' => tSd X.K X.mg W' d) hst hf hN tk hb hl) fun D σ H ⟨ρ, ι, st, env, S, ve, p⟩ => ⟨ρ, ι, st, env, S, ve, ?_⟩
  unfold dTryK tryKR at p
  cases q : d env st with
  | exc x env1 st1 =>
    rw [q] at p
    exact fun ι1 H1 σ1 cls dd s1 S1 ve1 ex => k D ρ ι1 st1 env1 σ1 H1 x cls dd S1 ve1 ex (PostS.step s1 p)
  | nx e st1 => rw [q] at p; exact p
  | bk e st1 => rw [q] at p; exact p
  | ct e st1 => rw [q] at p; exact p
  | rt x st1 => rw [q] at p; exact p
  | bad => rw [q] at p; exact p
/-! ### isinstance of the error that a clause holds -/
section
variable {X : Cx} {a D : Addr} {oe : Obj} {pn : List (Addr × Obj)} {i : Nat} {n A : Str} {p1 p2 p3 pos : Pos} {b : Bool} {v : V} {e1 e2 : Expr}
theorem pe_isE {c : V} {cv : Value} (C : ExcC X.K D) (hz : Zc (.ref D) none oe) (hf : ∃ vs, oe.data = .fields vs) (hg : Gl (X.suite a ((a, oe) :: pn)) "isinstance") (hm : X.mg "isinstance" = none) (hv : bootBuiltins "isinstance" = some (.builtin "isinstance"))
    (he : PE (X.suite a ((a, oe) :: pn)) e1 (tVar i)) (hA : PE (X.suite a ((a, oe) :: pn)) e2 (tC c)) (hc : ∀ u, RelV c u → u = cv) (hk : PySem.W.kitOne X.K (.ref D) cv = some b)
    (hs1 : starEach [e1, e2] X.env = (false, eval e1 X.env) :: starEach [e2] X.env := by rfl) (hs2 : starEach [e2] X.env = (false, eval e2 X.env) :: starEach [] X.env := by rfl) (hpl : (backTo pos (starEach [e2] X.env)).any (·.1) = false := by rfl) :
    PE (X.suite a ((a, oe) :: pn)) (.Call (.Name "isinstance" p1) [e1, e2] [] pos) (tEx0 i a (.bl b)) :=
  PE.mono (pe_callB (call_isE C hz hf) hg hm hv (pa_cons he (pa_cons hA pa_nil hs2) hs1) (by decide) (by decide) hs1 hpl) fun σ H Q ⟨h1, q⟩ => ⟨_, h1, c, cv, b, rfl, hc, hk, q⟩
theorem pe_andE (h1 : PE (X.suite a ((a, oe) :: pn)) e1 (tEx0 i a (.bl true))) (h2 : PE (X.suite a ((a, oe) :: pn)) e2 (tEx0 i a v)) : PE (X.suite a ((a, oe) :: pn)) (.BoolOp .And [e1, e2] pos) (tEx0 i a v) :=
  PE.mono (pe_and h1 (pe_one h2)) fun σ H Q ⟨h, q⟩ => ⟨h, _, rfl, iteT ⟨h, q⟩⟩
/-- ["..", ".."][int(that)] -/
theorem pe_selE {s0 s1 : Str} {j0 j1 : Nat} {q0 q1 p4 p5 p6 p7 : Pos} (h : PE (X.suite a ((a, oe) :: pn)) e1 (tEx0 i a (.bl true))) (hg : Gl (X.suite a ((a, oe) :: pn)) "int") (hm : X.mg "int" = none) (hv : bootBuiltins "int" = some (.type "int"))
    (hs1 : starEach [e1] X.env = (false, eval e1 X.env) :: starEach [] X.env := by rfl) (hpl : (backTo p6 (starEach [] X.env)).any (·.1) = false := by rfl) :
    PE (X.suite a ((a, oe) :: pn)) (.Subscript (.List [.Constant (.str s0) j0 q0, .Constant (.str s1) j1 q1] p4) (.Call (.Name "int" p5) [e1] [] p6) p7) (tEx i a (.str s1)) :=
  PE.mono (pe_ix ix_list (pe_lst (pa_cons pe_str (pa_cons pe_str pa_nil))) (pe_callTy call_int1 hg hm hv (pa_cons h pa_nil hs1) (by decide) (by decide) hs1 hpl) (fun _ _ => rfl)) fun σ H Q ⟨h1, q⟩ =>
by
    refine ⟨big_le (n := 2) (by decide), fun p np => ⟨h1, .inr ⟨true, rfl, p, [.str s0, .str s1], 1, .str s1, rfl, rfl, .inl (.inl upd_same), rfl, q _ (.inr ⟨p, _, np, rfl⟩)⟩⟩⟩
end
@[simp] theorem dTryK_e {sub : Str → Str → Option Bool} {d : DS} {hs : List (Str × Hk)} {env : Env} {st : Sto} : dTryK sub d hs env st = tryKR sub hs (d env st) := rfl
@[simp] theorem tryKR_nx {sub : Str → Str → Option Bool} {hs : List (Str × Hk)} {env : Env} {st : Sto} : tryKR sub hs (.nx env st) = .nx env st := rfl
@[simp] theorem tryKR_rt {sub : Str → Str → Option Bool} {hs : List (Str × Hk)} {x : D} {st : Sto} : tryKR sub hs (.rt x st) = .rt x st := rfl
@[simp] theorem tryKR_exc {sub : Str → Str → Option Bool} {hs : List (Str × Hk)} {x : Xc} {env : Env} {st : Sto} : tryKR sub hs (.exc x env st) = hkR sub x env st hs := rfl

theorem kit_own {K : PySem.W.Frag} {C A : Addr} {b : Bool} (h1 : PySem.W.isClsIn K A = true) (h2 : PySem.W.typeIn K (.ref A) = some (.type "type")) (h3 : PySem.W.subIn K (.ref C) (.ref A) = some b) (hb : b = true) : PySem.W.kitOne K (.ref C) (.ref A) = some b := by
  unfold PySem.W.kitOne
  split
  · rw [hb]
  · have h1 : (PySem.W.clsIn K A).isSome = true := h1
    simp [PySem.W.kitCls, h1, h2, h3]
theorem kit_ve {K : PySem.W.Frag} {C : Addr} {T : String} {b : Bool} (h : PySem.W.subIn K (.ref C) (.type T) = some b) (hT : PySem.W.kitMeta T = true := by decide +kernel) : PySem.W.kitOne K (.ref C) (.type T) = some b := by
  have : ((Value.ref C == Value.type T) = true) ↔ False := by constructor <;> intro z <;> simp at z
  unfold PySem.W.kitOne PySem.W.kitCls
  simp [hT, h]
/-- more turns than any loop of numbers takes -/
theorem x_fuel : ∃ n : Nat, 10 ^ 60 < n := ⟨10 ^ 60 + 1, Nat.lt_succ_self _⟩
noncomputable def fuel : Nat := x_fuel.choose
theorem fuel_gt {k : Nat} (h : k ≤ 10 ^ 60) : k < fuel := Nat.lt_of_le_of_lt h x_fuel.choose_spec
end DD

/-! DD27: great numbers; equations for what DD24 to DD26 bring. -/
namespace DD
open PySem L2 PyProof.Rows
variable [NMs]
theorem x_cDivW : ∃ f : Int → Bool, f = fun j => decide (0 < j) && decide (j.natAbs < 2 ^ 200) := ⟨_, rfl⟩
noncomputable def cDivW : Int → Bool := x_cDivW.choose
theorem cDivW_of {j : Int} (h : cDivW j = true) : 0 < j ∧ j.natAbs < 2 ^ 200 := by
  rw [cDivW, x_cDivW.choose_spec] at h
  simpa using h
theorem cDivW_to {j : Int} (h : 0 < j) (h2 : j < 1000000000000000000000000000000) : cDivW j = true := by
  rw [cDivW, x_cDivW.choose_spec]
  have : j.natAbs < 2 ^ 200 := Nat.lt_of_lt_of_le (show j.natAbs < 1000000000000000000000000000000 by omega) (by decide)
  simp [h, this]
noncomputable def fDivW : F2 := fI (fun _ j => cDivW j) fun i j => .int (i / j)
theorem rd_divW {K : PySem.W.Frag} {mg : Str → Option Value} : RD K mg (rI CDivW fun i j => .int (i / j)) fDivW := rd_I fun i j h => by
  obtain ⟨h1, h2⟩ := cDivW_of h
  exact ⟨wide_div h1 h2 (by decide) (by decide), rfl⟩
theorem x_cMulW : ∃ f : Int → Int → Bool, f = fun i j => decide (i.natAbs < 2 ^ 400) && decide (j.natAbs < 2 ^ 400) := ⟨_, rfl⟩
noncomputable def cMulW : Int → Int → Bool := x_cMulW.choose
theorem cMulW_of {i j : Int} (h : cMulW i j = true) : i.natAbs < 2 ^ 400 ∧ j.natAbs < 2 ^ 400 := by
  rw [cMulW, x_cMulW.choose_spec] at h
  simpa using h
theorem cMulW_to {i j : Int} (h1 : i.natAbs < 1000000000000000000000000000000) (h2 : j.natAbs < 1000000000000000000000000000000) : cMulW i j = true := by
  rw [cMulW, x_cMulW.choose_spec]
  have a : i.natAbs < 2 ^ 400 := Nat.lt_of_lt_of_le h1 (by decide)
  have b : j.natAbs < 2 ^ 400 := Nat.lt_of_lt_of_le h2 (by decide)
  simp [a, b]
noncomputable def fMulW : F2 := fI cMulW fun i j => .int (i * j)
theorem rd_mulW {K : PySem.W.Frag} {mg : Str → Option Value} : RD K mg (rI CMulW fun i j => .int (i * j)) fMulW := rd_I fun i j h => by
  obtain ⟨h1, h2⟩ := cMulW_of h
  exact ⟨wide_mul h1 h2 (by decide) (by decide) (by decide), rfl⟩
/-! ### equations -/
section
variable {da db dk dv : DE} {ds : DA} {di : DI} {g : DG} {t : DT} {d : DS} {env : Env} {st : Sto} {vs : List Nat}
@[simp] theorem fDivW_int {a b : Int} : fDivW (.int a) (.int b) st = if cDivW b = true then .ok (.int (a / b)) st else .bad := rfl
@[simp] theorem fMulW_int {a b : Int} : fMulW (.int a) (.int b) st = if cMulW a b = true then .ok (.int (a * b)) st else .bad := rfl
@[simp] theorem dDGet_e : dDGet da dk env st = (da env st).bind fun x st1 => (dk env st1).bind fun k st2 => getR x k st2 := rfl
@[simp] theorem dDHas_e {neg : Bool} : dDHas neg dk da env st = (dk env st).bind fun k st1 => (da env st1).bind fun x st2 => hasR neg k x st2 := rfl
def keysR (x : D) (st : Sto) : Res (List D × (Sto → Bool)) := match x with
  | .fd ks _ => .ok (ks.map dK', yes) st
  | _ => .bad
@[simp] theorem keysR_fd {ks : List Key} {ds : List D} : keysR (.fd ks ds) st = .ok (ks.map dK', yes) st := rfl
@[simp] theorem dKeysD_e : dKeysD da env st = (da env st).bind keysR := rfl
@[simp] theorem dDc_e : dDc di g t dk dv vs env st = (di env st).bind fun a st1 => if a.1.length ≤ bigLine then (dcLoop g t dk dv a.2 (wipeE vs env) a.1 [] [] st1).bind fun kd st2 => .ok (.fd kd.1 kd.2) st2 else .bad := rfl
def propR (c : Str) (m : M) (x : D) (st : Sto) : Res D := match x with
  | .obj c' ns ds => if c' = c then (match m [x] st with
    | .ok y st2 => .ok y st2
    | _ => .bad) else .bad
  | _ => .bad
@[simp] theorem dProp_e {c : Str} {m : M} : dProp c m da env st = (da env st).bind fun x st1 => propR c m x st1 := rfl
theorem propR_ok {c : Str} {m : M} {ns : List Str} {ds : List D} {y : D} {st' : Sto} (h : m [.obj c ns ds] st = .ok y st') : propR c m (.obj c ns ds) st = .ok y st' := by simp [propR, h]
@[simp] theorem dctOf_fd {ks : List Key} {ds : List D} : dctOf (.fd ks ds) st = some (ks, ds) := rfl
theorem dctOf_ref {n : Nat} {ks : List Key} {ds : List D} (h : st[n]? = some (.dct ks ds)) : dctOf (.ref n) st = some (ks, ds) := by simp [dctOf, h]
theorem getR_of {x : D} {k : D} {kk : Key} {d : D} {ks : List Key} {ds : List D} (h1 : dctOf x st = some (ks, ds)) (h2 : keyD k = some kk) (h3 : lookD kk ks ds = some d) : getR x k st = .ok d st := by simp [getR, h1, h2, h3]
theorem hasR_of {neg : Bool} {x : D} {k : D} {kk : Key} {o : Option D} {ks : List Key} {ds : List D} (h1 : dctOf x st = some (ks, ds)) (h2 : keyD k = some kk) (h3 : lookD kk ks ds = o) : hasR neg k x st = .ok (.bl (if neg then !o.isSome else o.isSome)) st := by simp [hasR, h1, h2, h3]
theorem fLenD_of {x : D} {ks : List Key} {ds : List D} (h1 : dctOf x st = some (ks, ds)) : fLenD [x] st = .ok (.int (ks.length : Nat)) st := by simp [fLenD, h1]
theorem fDictD_of {x : D} {ks : List Key} {ds : List D} (h1 : dctOf x st = some (ks, ds)) : fDictD [x] st = .ok (.fd ks ds) st := by simp [fDictD, h1]
@[simp] theorem fGcd_int {a b : Int} : fGcd [.int a, .int b] st = .ok (.int ((Nat.gcd a.natAbs b.natAbs : Nat) : Int)) st := rfl
theorem fLcm_int {a b : Int} (ha : a.natAbs < 10 ^ 19) (hb : b.natAbs < 10 ^ 19) : fLcm [.int a, .int b] st = .ok (.int ((Nat.lcm a.natAbs b.natAbs : Nat) : Int)) st := by simp only [fLcm, ha, hb, and_self, if_true]
/-- a while loop that ends -/
theorem while_inv {I : Nat → Env → Sto → Prop} : ∀ (n m : Nat) (env : Env) (st : Sto), m < n → I m env st →
    (∀ m env st, I m env st → (t env st = .ok false st ∧ True) ∨ (t env st = .ok true st ∧ ∃ env2 st2 m2, d env st = .nx env2 st2 ∧ m2 < m ∧ I m2 env2 st2)) →
    ∃ env' st' m', whileN t d n env st = .nx env' st' ∧ I m' env' st' ∧ t env' st' = .ok false st'
  | 0, m, _, _, h, _, _ => by omega
  | n + 1, m, env, st, hm, i, h => by
    rcases h m env st i with ⟨e, _⟩ | ⟨e, env2, st2, m2, e2, lt, i2⟩
    · exact ⟨env, st, m, by unfold whileN; rw [e]; rfl, i, e⟩
    · obtain ⟨env', st', m', e3, i3, e4⟩ := while_inv n m2 env2 st2 (by omega) i2 h
      refine ⟨env', st', m', ?_, i3, e4⟩
      unfold whileN
      rw [e]
      simp only [Res.bindS_ok, if_true, e2]
      exact e3
end
end DD

/-! DD28: lambdas as values: the made function and the cells that it captured stand in the abstract heap, known for ever, while it is handed about. -/
namespace DD
open PySem L2 PyProof.Rows LamX NdefX
/-- the heap with known objects -/
def pls (L : List (Addr × Obj)) (H : Hp) : Hp := fun b => match L.lookup b with
  | some o => some (Kn o)
  | none => H b
/-- the heap without them -/
def msk (L : List (Addr × Obj)) (H : Hp) : Hp := fun b => match L.lookup b with
  | some _ => none
  | none => H b
section
variable {L : List (Addr × Obj)} {H H' : Hp} {h h' : Heap} {b : Addr} {o : Obj} {P : Program} {w : World}
theorem pls_in (e : L.lookup b = some o) : pls L H b = some (Kn o) := by unfold pls; rw [e]
theorem pls_out (e : L.lookup b = none) : pls L H b = H b := by unfold pls; rw [e]
theorem msk_in (e : L.lookup b = some o) : msk L H b = none := by unfold msk; rw [e]
theorem msk_out (e : L.lookup b = none) : msk L H b = H b := by unfold msk; rw [e]
/-- the known objects are there, untracked -/
def Fresh (L : List (Addr × Obj)) (H : Hp) (h : Heap) : Prop := ∀ b o, L.lookup b = some o → H b = none ∧ h.get? b = some o
theorem kn_ok {Hx : Hp} (e : h.get? b = some o) : ObjOk P w Hx h b (Kn o) := ⟨e, trivial, ⟨o, e⟩, fun _ _ _ _ => trivial⟩
theorem kn_at (x : HOk P w H h) (e : H b = some (Kn o)) : h.get? b = some o := (x b _ e).1
theorem pls_ok (x : HOk P w H h) (F : Fresh L H h) : HOk P w (pls L H) h := fun a u e => by
  have keep : ∀ c v, H c = some v → pls L H c = some v := fun c v q => by
    cases e2 : L.lookup c with
    | none => rw [pls_out e2]; exact q
    | some o => rw [(F c o e2).1] at q; cases q
  cases e2 : L.lookup a with
  | none => rw [pls_out e2] at e; exact (x a u e).stay (fun _ _ _ q => q) (fun c q => keep c _ q) fun c xs q => keep c _ q
  | some o => rw [pls_in e2] at e; cases e; exact kn_ok (F a o e2).2
theorem msk_ok (x : HOk P w H h) (F : Held L H) : HOk P w (msk L H) h := fun a u e => by
  have keep : ∀ c v, (∀ o, v ≠ Kn o) → H c = some v → msk L H c = some v := fun c v n q => by
    cases e2 : L.lookup c with
    | none => rw [msk_out e2]; exact q
    | some o => rw [F c o e2] at q; cases q; exact absurd rfl (n o)
  cases e2 : L.lookup a with
  | none =>
    rw [msk_out e2] at e
    exact (x a u e).stay (fun _ _ _ q => q) (fun c q => keep c _ (fun o z => by unfold Kn at z; cases z) q) fun c xs q => keep c _ (fun o z => by unfold Kn at z; cases z) q
  | some o => rw [msk_in e2] at e; cases e
/-- handed about and back: what a call tells of the greater heap, told of the smaller one -/
theorem un_back {fs : List Addr} (F : Fresh L H h) (u : Un fs [] (pls L H) H' h h') (x : HOk P w H' h') : Un fs [] H (msk L H') h h' ∧ HOk P w (msk L H') h' ∧ Held L H' := by
  have hd : Held L H' := fun b o e => u.frzs b o _ (pls_in e)
  have kp : ∀ b ob, L.lookup b ≠ none → h.get? b = some ob → h'.get? b = some ob := fun b ob n q => by
    cases e : L.lookup b with
    | none => exact absurd e n
    | some o =>
      have : ob = o := Option.some.inj (q.symm.trans (F b o e).2)
      subst this
      exact kn_at x (hd b _ e)
  have up : ∀ c v, H c = some v → L.lookup c = none := fun c v q => by
    cases e : L.lookup c with
    | none => rfl
    | some o => rw [(F c o e).1] at q; cases q
  refine ⟨⟨fun b ob q n hf hx => ?_, fun b ob q n hf hx => ?_, fun b ob q n hx => ?_, fun b ob q hx => u.there b ob q hx, fun b xs q => ?_, fun b ob v q => ?_, fun b ps q => ?_⟩, msk_ok x hd, hd⟩
  · cases e : L.lookup b with
    | none => exact u.keep b ob q (by rw [pls_out e]; exact n) hf hx
    | some o => exact kp b ob (by rw [e]; exact fun z => nomatch z) q
  · cases e : L.lookup b with
    | none => exact u.slot b ob q (by rw [pls_out e]; exact n) hf hx
    | some o => exact ⟨ob.slots, kp b ob (by rw [e]; exact fun z => nomatch z) q⟩
  · cases e : L.lookup b with
    | none => rw [msk_out e]; exact u.free b ob q (by rw [pls_out e]; exact n) hx
    | some o => exact msk_in e
  · have e := up b _ q
    rw [msk_out e]; exact u.tups b xs (by rw [pls_out e]; exact q)
  · have e := up b _ q
    rw [msk_out e]; exact u.frzs b ob v (by rw [pls_out e]; exact q)
  · have e := up b _ q
    rw [msk_out e]; exact u.tbls b ps (by rw [pls_out e]; exact q)
/-- entered and left: what a call tells of the heap without the cells, told of the one that knows them -/
theorem un_in {fs : List Addr} (F : Held L H) (x0 : HOk P w H h) (hf : ∀ b ∈ fs, H b = none) (u : Un fs [] (msk L H) H' h h') (x : HOk P w H' h') : Un fs [] H (pls L H') h h' ∧ HOk P w (pls L H') h' ∧ Fresh L H' h' := by
  have fr : Fresh L H' h' := fun b o e => by
    have e0 := kn_at x0 (F b o e)
    exact ⟨u.free b o e0 (msk_in e) (by simp), u.keep b o e0 (msk_in e) (fun z => by have := hf b z; rw [F b o e] at this; cases this) (by simp)⟩
  refine ⟨⟨fun b ob q n hf hx => ?_, fun b ob q n hf hx => ?_, fun b ob q n hx => ?_, fun b ob q hx => u.there b ob q hx, fun b xs q => ?_, fun b ob v q => ?_, fun b ps q => ?_⟩, pls_ok x fr, fr⟩
  · exact u.keep b ob q (by cases e : L.lookup b with
      | none => rw [msk_out e]; exact n
      | some o => exact msk_in e) hf hx
  · exact u.slot b ob q (by cases e : L.lookup b with
      | none => rw [msk_out e]; exact n
      | some o => exact msk_in e) hf hx
  · cases e : L.lookup b with
    | none => rw [pls_out e]; exact u.free b ob q (by rw [msk_out e]; exact n) hx
    | some o => rw [F b o e] at n; cases n
  · cases e : L.lookup b with
    | none => rw [pls_out e]; exact u.tups b xs (by rw [msk_out e]; exact q)
    | some o => rw [F b o e] at q; unfold Kn at q; cases q
  · cases e : L.lookup b with
    | none => rw [pls_out e]; exact u.frzs b ob v (by rw [msk_out e]; exact q)
    | some o => rw [pls_in e, ← F b o e]; exact q
  · cases e : L.lookup b with
    | none => rw [pls_out e]; exact u.tbls b ps (by rw [msk_out e]; exact q)
    | some o => rw [F b o e] at q; unfold Kn at q; cases q
end
/-! ### a lambda as a value -/
/-- the context of its body -/
abbrev lcx (CX : CXT) (P : Program) (w : World) (K : PySem.W.Frag) (mg : Str → Option Value) (base : Heap) (N : List Str) (W : LW) (cl : List (Str × Addr)) (c' f : Addr) (A : Around) (outer : List PySem.Env) (s : Shared) (H : Hp) (E : XK) : Cx :=
  ncx CX P w K mg base N ⟨"<lambda>", W.qual, W.params, [], W.scope, cl, c'⟩ f A outer s H E
def noX : XK := fun _ _ _ => False
section
variable {Z : Cx} {pins : List (Addr × Obj)} {σ : L2.St} {H : Hp} {s : Shared} {L : List (Addr × Obj)} {f : Addr} {W : LW} {ps N : List Str} {xs vs : List V} {us : List Value} {Q : VK} {k : Nat} {t : TE}
theorem lam_run (I : Inv Z pins σ H s) (La : LamAt L H f W xs) (S : NScope N ps W.fr W.scope)
    (hb : ∀ (cl : List (Str × Addr)) (pm cv ctv : Value) (us : List Value), us.length = ps.length → bindArgs (PySem.W.kla_fn "<lambda>" W.qual W.params W.body W.scope cl pm cv ctv) ⟨us, []⟩ = pure (ps.zip us))
    (r : Vals vs us) (hl : vs.length = ps.length) (hr : Room (k + 1) Z.A)
    (hbody : ∀ (cl : List (Str × Addr)) (c' : Addr) (A : Around) (outer : List PySem.Env) (s : Shared) (H : Hp), Room k (A.deeper (PySem.W.envX W.qual W.scope s.heap.objs.size f (.ref c') cl)) → PE (lcx (L2.CX Z.prog Z.w) Z.prog Z.w Z.K Z.mg Z.base N W cl c' f A outer s H noX) W.body t)
    (q : t (startF N vs (xs.map some)) (msk L H) (fun v H' => (∀ b o, L.lookup b = some o → H' b = none) → Q v (pls L H'))) :
    wpAny (model Z.prog Z.w) Z.A (call (.ref f) us) (EP Z pins σ Q) Z.xe s := by
  obtain ⟨cl, pm, c', ctv, hf, hc, hcel, hinj, hfr⟩ := La.ob
  have of1 := kn_at I.hok hf
  obtain ⟨⟨oc, tvs, tt, hoc, hdc, hvc⟩, _, _⟩ := I.hok c' _ hc
  have e0 := I.env0
  have e1 : Env0 Z.prog Z.w Z.K Z.mg Z.base Z.A Z.stack s (msk L H) := ⟨e0.frames, e0.mod, fun b o e => ⟨(e0.bs b o e).1, by
      cases e2 : L.lookup b with
      | none => rw [msk_out e2]; exact (e0.bs b o e).2
      | some o => exact msk_in e2⟩, e0.bsz, e0.funs, fun b hb => by
      cases e2 : L.lookup b with
      | none => rw [msk_out e2]; exact e0.frf b hb
      | some o => exact msk_in e2, msk_ok e0.hok La.held, e0.bare⟩
  have cellAt : ∀ c o v, L.lookup c = some o → o.data = .cell v → s.heap.IsCell c v := fun c o v e d => ⟨o, kn_at I.hok (La.held c o e), d⟩
  have C : CellsAt cl W.fr (xs.map some) s.heap (msk L H) := ⟨by rw [List.length_map]; exact La.len, fun y c e => by
      obtain ⟨o, v, e2, d⟩ := hcel y c e
      exact ⟨msk_in e2, v, cellAt c o v e2 d⟩, hinj, fun i y e => by
      obtain ⟨c, o, u, x, a1, a2, a3, a4, a5⟩ := hfr i y e
      refine ⟨c, a1, fun v ev => ?_⟩
      rw [List.getElem?_map, a4] at ev
      cases ev
      exact ⟨u, a5, cellAt c o _ a2 a3⟩⟩
  have rc : codeAny (model Z.prog Z.w) Z.A (.call (.ref f) ⟨us, []⟩) (CR (L2.CX Z.prog Z.w) Z.stack Z.prog Z.w (msk L H) s (fun v H' => (∀ b o, L.lookup b = some o → H' b = none) → Q v (pls L H')) noX) s := by
    refine PySem.W.kla_callFunE hr.depth of1 rfl S.co S.gen rfl ⟨c', oc, tvs, tt, rfl, hoc, hdc, hvc⟩ ?_
    rw [hb _ _ _ _ us (by rw [← r.length]; exact hl)]
    refine wpAny_pure (wpAny_newFunctionEnv S.nocell (fun ⟨n, _⟩ hy => S.par n (List.of_mem_zip hy).1) (fun h₁ hns hsb => ⟨I.nolimit.fresh _ hsb, ?_⟩) S.kind)
    show codeAny _ _ (.expr W.body (PySem.W.envX W.qual W.scope s.heap.objs.size f (.ref c') cl)) _ _
    have kp : ∀ b o, s.heap.get? b = some o → h₁.get? b = some o := fun b o e => hsb.extBut b o (Nat.ne_of_lt (Heap.lt_size e)) (Heap.get?_push_of_some _ e)
    have J : Inv (lcx (L2.CX Z.prog Z.w) Z.prog Z.w Z.K Z.mg Z.base N W cl c' f Z.A Z.stack s (msk L H) noX) [] (startF N vs (xs.map some)) (msk L H) { s with heap := h₁, toks := s.toks + (ps.zip us).length } :=
      inv_startN (F := ⟨"<lambda>", W.qual, W.params, [], W.scope, cl, c'⟩) S hr.hd e1 hl r C hns kp
    refine PySem.W.kla_codeExpr (wpAny_mono ((hbody cl c' Z.A Z.stack s (msk L H) (hr.deeper _)).run [] _ _ _ _ J q) (fun v s' hq => ?_) fun e s' hq => hq)
    obtain ⟨w', H', J', rv, q'⟩ := hq
    exact ⟨w', H', J'.os, J'.bare, J'.base, J'.hok, rv, q'⟩
  refine wpAny_call (codeAny_mono rc fun r s' hq => ?_)
  cases r with
  | error e =>
    obtain ⟨_, _, _, _, _, _, _, _, _, _, _, _, z⟩ := hq
    exact z.elim
  | ok fl =>
    cases fl with
    | ret u =>
      obtain ⟨v, H', a1, a2, a3, a4, a5, a6⟩ := hq
      obtain ⟨b1, b2, b3⟩ := un_in La.held I.hok e0.frf a3 a4
      exact I.after ⟨v, pls L H', a1, a2, b1, b2, a5, a6 fun b o e => (b3 b o e).1⟩
    | next => exact False.elim hq
    | brk => exact False.elim hq
    | cont => exact False.elim hq
end
end DD

/-! DD29: a lambda is made: its function is new and known for ever. -/
namespace DD
open PySem L2 PyProof.Rows LamX NdefX
section
variable {X : Cx} {pins : List (Addr × Obj)} {σ : L2.St} {H : Hp} {s : Shared}
theorem lam_made {T : List (Addr × Str)} {c P : Addr} {W : LW} {pos : Pos} {Er Q : Value → Shared → Prop} (I : Inv X pins σ H s) (tb : TabB X.base X.mg c P) (hc : X.env.code = .ref c) (mT : (P, W.qual) ∈ T) (oT : ∀ p ∈ T, p.1 = P → p.2 = W.qual) (ht : Tabs T H)
    (hq : W.qual = X.env.qual ++ "<lambda>") (hd : defaultsOf W.params X.env = ([], [])) (hf : ∀ y ∈ W.scope.names, y.2 = .free → ∃ a, X.env.cells.lookup y.1 = some a)
    (go : ∀ (f c' : Addr) (pm ctv : Value) (H1 : Hp) (s' : Shared), Inv X pins σ H1 s' → ExtN H H1 → Tabs T H1 → H f = none → H1 f = some (Kn (W.obj (cloFrom X.env.cells W.scope.names []) pm c' ctv)) → H1 c' = some (CodeO c' W.qual) → Q (.ref f) s') :
    wpAny (model X.prog X.w) X.A (eval (.Lambda W.params W.body W.scope pos) X.env) Q Er s := by
  obtain ⟨ps, e1, e2, e3⟩ := ht _ mT
  have gP := I.hok P _ e1
  have bP := tb.bm.keeps I.bk
  have gl := I.mod.glob.keeps I.bk
  have cd := tb.code.keeps I.bk
  have cok := closure_ok hf
  refine PySem.W.kla_eval hd ?_
  rw [← hq]
  rcases e4 : codeAmong pos ps.toList with _ | cv
  · refine PySem.W.kla_makeFunction cok I.ok.glob gl hc cd gP e2 e4 tb.gP bP ?_
    intro c' ctv h1 tk ext ge lt rec tab1
    obtain ⟨c2, oc, fs, tq, ec, g1, d1, n1⟩ := rec
    obtain rfl : c' = c2 := by cases ec; rfl
    have nc := I.hok.fresh ge
    have J := inv_table (h' := h1) (t' := tk) (more := #[rawInt pos.line, rawInt pos.col, .ref c']) I e1 ext tab1 ge ⟨oc, fs, tq, g1, d1, n1⟩
    have grow : s.heap.objs.size ≤ h1.objs.size := Nat.le_trans ge (Nat.le_of_lt lt)
    obtain ⟨ob, eob⟩ : ∃ ob : Obj, ob = W.obj (cloFrom X.env.cells W.scope.names []) ((X.mg "__name__").getD .none) c' ctv := ⟨_, rfl⟩
    have J2 := Inv.laid (h' := h1.push ob) (a := h1.objs.size) (o := Kn ob) (t' := tk) J (fun b u e => Heap.get?_push_of_some _ e) (Nat.le_refl _) (kn_ok (Heap.get?_push_size _ (by subst eob; rfl)))
    have fn : H h1.objs.size = none := I.hok.fresh grow
    have ext2 : ExtN H (upd (upd (upd H P (.tbl (ps ++ #[rawInt pos.line, rawInt pos.col, .ref c']))) c' (CodeO c' W.qual)) h1.objs.size (Kn ob)) := fun b o e n => by
      rw [upd_ne (ne_of_none e fn), upd_ne (ne_of_none e nc), upd_ne (fun z => by subst z; rw [e1] at e; cases e; exact n _ rfl)]
      exact e
    rw [eob] at J2 ext2
    refine go h1.objs.size c' _ ctv _ _ J2 ext2 ?_ fn upd_same ?_
    · intro p hp
      by_cases hb : p.1 = P
      · refine ⟨ps ++ #[rawInt pos.line, rawInt pos.col, .ref c'], ?_, ?_, ?_⟩
        · rw [hb, upd_ne (ne_of_none e1 fn), upd_ne (ne_of_none e1 nc), upd_same]
        · rw [show (ps ++ #[rawInt pos.line, rawInt pos.col, .ref c']).toList = ps.toList ++ [rawInt pos.line, rawInt pos.col, .ref c'] by simp]
          exact PySem.TriplesOk_snoc _ _ _ _ e2
        · intro p' v hv
          rw [show (ps ++ #[rawInt pos.line, rawInt pos.col, .ref c']).toList = ps.toList ++ [rawInt pos.line, rawInt pos.col, .ref c'] by simp] at hv
          rw [oT p hp hb]
          rcases among_app ps.toList e2 hv with y | y
          · obtain ⟨a, y1, y2⟩ := e3 p' v y
            exact ⟨a, y1, ext2 _ _ y2 codeO_ne⟩
          · exact ⟨c', y, by rw [upd_ne (fun z => by rw [z] at lt; exact Nat.lt_irrefl _ lt), upd_same]⟩
      · obtain ⟨ps', y1, y2, y3⟩ := ht p hp
        refine ⟨ps', by rw [upd_ne (ne_of_none y1 fn), upd_ne (ne_of_none y1 nc), upd_ne hb]; exact y1, y2, fun p' v hv => ?_⟩
        obtain ⟨a, z1, z2⟩ := y3 p' v hv
        exact ⟨a, z1, ext2 _ _ z2 codeO_ne⟩
    · rw [upd_ne (fun z => by rw [z] at lt; exact Nat.lt_irrefl _ lt), upd_same]
  · obtain ⟨c', rfl, kc⟩ := e3 pos cv e4
    refine PySem.W.kla_makeFunctionHit cok I.ok.glob gl hc cd gP e2 e4 bP ?_
    intro ctv h1 tk ext ge
    obtain ⟨ob, eob⟩ : ∃ ob : Obj, ob = W.obj (cloFrom X.env.cells W.scope.names []) ((X.mg "__name__").getD .none) c' ctv := ⟨_, rfl⟩
    have J2 := Inv.laid (h' := h1.push ob) (a := h1.objs.size) (o := Kn ob) (t' := tk) I (fun b u e => Heap.get?_push_of_some _ (ext b u e)) ge (kn_ok (Heap.get?_push_size _ (by subst eob; rfl)))
    have fn : H h1.objs.size = none := I.hok.fresh ge
    have up : ∀ b o, H b = some o → upd H h1.objs.size (Kn ob) b = some o := fun b o e => by rw [upd_ne (ne_of_none e fn)]; exact e
    rw [eob] at J2 up
    exact go h1.objs.size c' _ ctv _ _ J2 (fun b o e _ => up b o e) (ht.ext up) fn upd_same (up _ _ kc)
end
end DD

/-! DD30: a lambda as an expression; an own def called while the caller's captured cells are known. -/
namespace DD
open PySem L2 PyProof.Rows LamX NdefX
/-- what the captured cells are and hold -/
structure CapAt (cl : List (Str × Addr)) (fr : List Str) (L : List (Addr × Obj)) (xs : List V) : Prop where
  cells : ∀ y c, cl.lookup y = some c → ∃ o v, L.lookup c = some o ∧ o.data = .cell v
  only : ∀ c o, L.lookup c = some o → ∃ v, o.data = .cell v
  inj : ∀ x y c, cl.lookup x = some c → cl.lookup y = some c → x = y
  vals : ∀ (i : Nat) (y : Str), fr[i]? = some y → ∃ c o u x, cl.lookup y = some c ∧ L.lookup c = some o ∧ o.data = .cell (some u) ∧ xs[i]? = some x ∧ RelV x u
  len : xs.length = fr.length
theorem CapAt.lam {cl : List (Str × Addr)} {W : LW} {L : List (Addr × Obj)} {xs : List V} {H : Hp} {f c' : Addr} {pm ctv : Value} (c : CapAt cl W.fr L xs) (hf : H f = some (Kn (W.obj cl pm c' ctv))) (hc : H c' = some (CodeO c' W.qual)) (hh : Held L H) : LamAt L H f W xs :=
  ⟨⟨cl, pm, c', ctv, hf, hc, c.cells, c.inj, c.vals⟩, hh, c.only, c.len⟩
theorem look_mem {L : List (Addr × Obj)} {h : Heap} : ∀ (_ : ∀ p ∈ L, h.get? p.1 = some p.2) {b : Addr} {o : Obj}, (b, o) ∈ L → L.lookup b = some o := by
  induction L with
  | nil => intro _ b o m; simp at m
  | cons p r ih =>
    intro k b o m
    obtain ⟨b1, o1⟩ := p
    by_cases e : b = b1
    · subst e
      have q1 := k (b, o1) List.mem_cons_self
      have q2 := k (b, o) m
      have : o1 = o := Option.some.inj (q1.symm.trans q2)
      subst this
      simp
    · rw [List.lookup_cons, beq_false_of_ne e]
      refine ih (fun q hq => k q (List.mem_cons_of_mem _ hq)) ((List.mem_cons.mp m).resolve_left fun z => e ?_)
      cases z; rfl
theorem mem_look {b : Addr} {o : Obj} : ∀ {L : List (Addr × Obj)}, L.lookup b = some o → (b, o) ∈ L
  | [], e => by cases e
  | (b1, o1) :: r, e => by
    by_cases q : b = b1
    · subst q
      rw [List.lookup_cons, beq_self_eq_true] at e
      cases e
      exact List.mem_cons_self
    · rw [List.lookup_cons, beq_false_of_ne q] at e
      exact List.mem_cons_of_mem _ (mem_look e)
theorem cap_list {cl : List (Str × Addr)} {h : Heap} (all : ∀ y c, cl.lookup y = some c → ∃ o, h.get? c = some o) :
    ∃ L : List (Addr × Obj), (∀ y c, cl.lookup y = some c → ∃ o, h.get? c = some o ∧ L.lookup c = some o) ∧ ∀ b o, L.lookup b = some o → h.get? b = some o ∧ ∃ y, cl.lookup y = some b := by
  obtain ⟨L, eL⟩ : ∃ L : List (Addr × Obj), L = (cl.map (·.1)).filterMap fun y => (cl.lookup y).bind fun c => (h.get? c).map fun o => (c, o) := ⟨_, rfl⟩
  have mem : ∀ b o, (b, o) ∈ L ↔ ∃ y, y ∈ cl.map (·.1) ∧ cl.lookup y = some b ∧ h.get? b = some o := fun b o => by
    rw [eL, List.mem_filterMap]
    constructor
    · rintro ⟨y, hy, e⟩
      cases q : cl.lookup y with
      | none => rw [q] at e; cases e
      | some c =>
        rw [q] at e
        obtain ⟨o', e1, e2⟩ := Option.map_eq_some_iff.mp (show (h.get? c).map (fun o => (c, o)) = some (b, o) from e)
        cases e2
        exact ⟨y, hy, q, e1⟩
    · rintro ⟨y, hy, e1, e2⟩
      exact ⟨y, hy, by rw [e1]; show (h.get? b).map _ = _; rw [e2]; rfl⟩
  have fun_ : ∀ p ∈ L, h.get? p.1 = some p.2 := fun ⟨b, o⟩ hp => by
    obtain ⟨_, _, _, e⟩ := (mem b o).mp hp
    exact e
  refine ⟨L, fun y c e => ?_, fun b o e => ?_⟩
  · obtain ⟨o, ho⟩ := all y c e
    exact ⟨o, ho, look_mem fun_ ((mem c o).mpr ⟨y, List.mem_map.mpr ⟨(y, c), PySem.mem_of_lookup e, rfl⟩, e, ho⟩)⟩
  · obtain ⟨y, _, e1, e2⟩ := (mem b o).mp (mem_look e)
    exact ⟨e2, y, e1⟩
def tLm (X : Cx) (T : List (Addr × Str)) (W : LW) : TE := fun σ H Q => Tabs T H ∧ ∀ (f c' : Addr) (pm ctv : Value) (H1 : Hp), ExtN H H1 → Tabs T H1 → H f = none → H1 f = some (Kn (W.obj (cloFrom X.env.cells W.scope.names []) pm c' ctv)) → H1 c' = some (CodeO c' W.qual) → Q (.ref f) H1
def tCallP (X : Cx) (W : LW) (js : List Nat) (sp : Sp) (ta : TA) : TE := fun σ H Q => ta σ H fun vs H1 => ∃ xs : List V, js.map (slotAt σ) = xs.map some ∧
  ∀ L, CapAt (cloFrom X.env.cells W.scope.names []) W.fr L xs → (∀ b o, L.lookup b = some o → H1 b = none) → sp vs (pls L H1) (fun v H2 => Held L H2 → Q v (msk L H2)) noX
section
variable {X : Cx} {T : List (Addr × Str)} {c P g : Addr} {W : LW} {pos p : Pos} {js : List Nat} {sp : Sp} {ta : TA} {x : Str} {k : Nat} {fd : FuncData} {ps : List Str} {e : Expr} {es : List Expr}
theorem pe_lam (tb : TabB X.base X.mg c P) (hc : X.env.code = .ref c) (mT : (P, W.qual) ∈ T) (oT : ∀ p ∈ T, p.1 = P → p.2 = W.qual) (hq : W.qual = X.env.qual ++ "<lambda>") (hd : defaultsOf W.params X.env = ([], []))
    (hf : X.Ok → ∀ y ∈ W.scope.names, y.2 = .free → ∃ a, X.env.cells.lookup y.1 = some a) : PE X (.Lambda W.params W.body W.scope pos) (tLm X T W) :=
  ⟨fun pins s σ H Q I h => lam_made I tb hc mT oT h.1 hq hd (hf I.ok) fun f c' pm ctv H1 s' I1 a1 a2 a3 a4 a5 => ⟨.ref f, H1, I1, rfl, h.2 f c' pm ctv H1 a1 a2 a3 a4 a5⟩⟩
/-- an own def called with the captured cells known -/
theorem pe_callP (F : FnOk X.prog X.w X.K X.mg X.base (L2.CX X.prog X.w) k g fd ps sp) (hr : Room k X.A) (hg : Gl X x) (hm : X.mg x = some (.ref g)) (hk : PySem.W.keepIn X.K (.ref g) = true) (hb : L2.Binds X.K fd ps [])
    (cp : X.Ok → Caps X (cloFrom X.env.cells W.scope.names []) W.fr js) (own : ∀ y c, (cloFrom X.env.cells W.scope.names []).lookup y = some c → X.fn y = true) (ha : PA X (e :: es) ta) (hdb : (x == ("__debug__" : Str)) = false := by decide)
    (he : starEach (e :: es) X.env = (false, eval e X.env) :: starEach es X.env := by rfl) (hpl : (backTo pos (starEach es X.env)).any (·.1) = false := by rfl) : PE X (.Call (.Name x p) (e :: es) [] pos) (tCallP X W js sp ta) := by
  refine ⟨fun pins s σ H Q I h => ?_⟩
  refine wpAny_Call_Name_kw (ld_glob I hg hm ?_ hdb)
  refine PySem.W.callWith_K (h₀ := X.base) I.ok.mod.kin hk (thn (ha.run pos pins s σ H _ I h) fun us s1 ⟨vs, H1, I1, r, xs, exs, q⟩ => ⟨I1.kIn, ?_⟩) he hpl
  have C := cells_of I1 (cp I1.ok)
  rw [exs] at C
  obtain ⟨L, l1, l2⟩ := cap_list (cl := cloFrom X.env.cells W.scope.names []) (h := s1.heap) fun y a ea => by
    obtain ⟨_, v, o, ho, _⟩ := C.all y a ea
    exact ⟨o, ho⟩
  have fresh : Fresh L H1 s1.heap := fun b o eb => by
    obtain ⟨ho, y, ey⟩ := l2 b o eb
    exact ⟨(C.all y b ey).1, ho⟩
  have isC : ∀ b o, L.lookup b = some o → ∃ v, o.data = .cell v := fun b o eb => by
    obtain ⟨ho, y, ey⟩ := l2 b o eb
    obtain ⟨_, v, o', ho', d⟩ := C.all y b ey
    rw [ho] at ho'; cases ho'
    exact ⟨v, d⟩
  have cap : CapAt (cloFrom X.env.cells W.scope.names []) W.fr L xs := by
    refine ⟨fun y a ea => ?_, isC, C.inj, fun i y ey => ?_, by have := C.len; rwa [List.length_map] at this⟩
    · obtain ⟨o, ho, eo⟩ := l1 y a ea
      obtain ⟨v, d⟩ := isC a o eo
      exact ⟨o, v, eo, d⟩
    · obtain ⟨a, ea, hv⟩ := C.has i y ey
      have hi : i < xs.length := by
        have l := C.len
        rw [List.length_map] at l
        rw [l]; exact (List.getElem?_eq_some_iff.mp ey).1
      obtain ⟨u, ru, o, ho, d⟩ := hv xs[i] (by rw [List.getElem?_map, List.getElem?_eq_getElem hi]; rfl)
      obtain ⟨o', ho', eo⟩ := l1 y a ea
      rw [ho] at ho'; cases ho'
      exact ⟨a, o, u, xs[i], ea, eo, d, List.getElem?_eq_getElem hi, ru⟩
  have hsp := q L cap fun b o eb => (fresh b o eb).1
  have newer : ∀ b o, L.lookup b = some o → X.s_0.heap.objs.size ≤ b ∧ b ≠ X.env.locals := fun b o eb => by
    obtain ⟨_, y, ey⟩ := l2 b o eb
    have ec := (cp I1.ok).sub y b ey
    exact ⟨I1.ok.cab y b (own y b ey) ec, I1.cne y b ec⟩
  have e0 := I1.env0
  have e1 : Env0 X.prog X.w X.K X.mg X.base X.A X.stack s1 (pls L H1) := ⟨e0.frames, e0.mod, fun b o eb => ⟨(e0.bs b o eb).1, by
      cases e2 : L.lookup b with
      | none => rw [pls_out e2]; exact (e0.bs b o eb).2
      | some o' => exact absurd (Nat.lt_of_lt_of_le (Heap.lt_size eb) (Nat.le_trans I1.ok.bsz (newer b o' e2).1)) (Nat.lt_irrefl _)⟩, e0.bsz, e0.funs, fun b hb' => by
      cases e2 : L.lookup b with
      | none => rw [pls_out e2]; exact e0.frf b hb'
      | some o' =>
        exfalso
        rcases List.mem_cons.mp (I1.stkSub b hb') with z | z
        · exact (newer b o' e2).2 z
        · obtain ⟨_, o2, g2, _⟩ := I1.ok.funs.mem z
          exact Nat.lt_irrefl _ (Nat.lt_of_lt_of_le (Heap.lt_size g2) (newer b o' e2).1), pls_ok e0.hok fresh, e0.bare⟩
  have bnd := hb s1 us I1.kIn (by rw [List.append_nil, ← r.length]; exact F.len _ _ _ _ hsp)
  rw [List.append_nil] at bnd
  show wpAny _ _ (call (.ref g) us) _ _ _
  refine wpAny_call (codeAny_mono (F.run X.A X.stack s1 _ ⟨us, []⟩ us vs _ noX hr e1 bnd r hsp) fun rr s' hq => ?_)
  cases rr with
  | error er =>
    obtain ⟨_, _, _, _, _, _, _, _, _, _, _, _, z⟩ := hq
    exact z.elim
  | ok fl =>
    cases fl with
    | ret u =>
      obtain ⟨v, H', a1, a2, a3, a4, a5, a6⟩ := hq
      obtain ⟨b1, b2, b3⟩ := un_back fresh a3 a4
      exact I1.after ⟨v, msk L H', a1, a2, b1, b2, a5, a6 b3⟩
    | next => exact False.elim hq
    | brk => exact False.elim hq
    | cont => exact False.elim hq
end
end DD

/-! DD31: lambdas by data: own defs called with one. -/
namespace DD
open PySem L2 PyProof.Rows LamX NdefX
variable [NMs]
mutual
/-- no lambda in it -/
def noLam : D → Bool
  | .tup ds => noLams ds
  | .fz ds => noLams ds
  | .sc ds => noLams ds
  | .fd _ ds => noLams ds
  | .obj _ _ ds => noLams ds
  | .lam _ _ _ => false
  | .non => true
  | .bl _ => true
  | .int _ => true
  | .str _ => true
  | .ty _ => true
  | .ref _ => true
def noLams : List D → Bool
  | [] => true
  | d :: ds => noLam d && noLams ds
end
def noLamO : O → Bool
  | .lst ds => noLams ds
  | .ins _ _ ds => noLams ds
  | .dct _ ds => noLams ds
section
variable {B : Bs} {H H' : Hp} {ι : List Addr} {st : Sto} {L : List (Addr × Obj)} {a : Addr} {o : HO}
theorem msk_keep (F : Held L H) (n : ∀ ob, o ≠ Kn ob) (e : H a = some o) : msk L H a = some o := by
  cases q : L.lookup a with
  | none => rw [msk_out q]; exact e
  | some ob => rw [F a ob q] at e; cases e; exact absurd rfl (n ob)
theorem FzT.msk {xs : List V} (F : Held L H) (h : FzT B H ι a xs) : FzT B (msk L H) ι a xs := h.elim (fun x => .inl ⟨x.1.elim (fun e => .inl (msk_keep F (fun ob z => by unfold Kn at z; cases z) e)) (fun ⟨o, e⟩ => .inr ⟨o, msk_keep F (fun ob z => by unfold Kn at z; cases z) e⟩), x.2⟩) .inr
theorem ScL.msk {xs : List V} (F : Held L H) (h : ScL B H ι a xs) : ScL B (msk L H) ι a xs := h.elim (fun x => .inl ⟨x.1.elim (fun e => .inl (msk_keep F (fun ob z => by unfold Kn at z; cases z) e)) (fun ⟨o, e⟩ => .inr ⟨o, msk_keep F (fun ob z => by unfold Kn at z; cases z) e⟩), x.2⟩) .inr
mutual
theorem VR.msk (F : Held L H) : ∀ {d : D} {v : V}, noLam d = true → VR B H ι d v → VR B (msk L H) ι d v
  | .non, _, _, h => h
  | .bl _, _, _, h => h
  | .int _, _, _, h => h
  | .str _, _, _, h => h
  | .ty _, _, _, h => h
  | .ref _, _, _, h => h
  | .tup _, _, n, ⟨a, xs, e, h, r⟩ => ⟨a, xs, e, h.msk F, VRs.msk F n r⟩
  | .sc _, _, n, ⟨a, xs, e, h, r⟩ => ⟨a, xs, e, h.msk F, VRs.msk F n r⟩
  | .fz _, _, n, ⟨a, xs, e, h, m, r⟩ => ⟨a, xs, e, msk_keep F (fun ob z => by unfold Kn at z; cases z) h, m, VRs.msk F n r⟩
  | .fd _ _, _, n, ⟨a, od, fs, xs, e, h, m, e2, l, r⟩ => ⟨a, od, fs, xs, e, msk_keep F (fun ob z => by unfold Kn at z; cases z) h, m, e2, l, VRs.msk F n r⟩
  | .obj _ _ _, _, n, ⟨a, C, dx, fs, xs, e, c, h, m, e2, l, r⟩ => ⟨a, C, dx, fs, xs, e, c, msk_keep F (fun ob z => by unfold Kn at z; cases z) h, m, e2, l, VRs.msk F n r⟩
  | .lam _ _ _, _, n, _ => nomatch n
theorem VRs.msk (F : Held L H) : ∀ {ds : List D} {vs : List V}, noLams ds = true → VRs B H ι ds vs → VRs B (msk L H) ι ds vs
  | [], _, _, h => h
  | _ :: _, _, n, ⟨x, r, e, h, t⟩ => by
    have n' := Bool.and_eq_true_iff.mp n
    exact ⟨x, r, e, VR.msk F n'.1 h, VRs.msk F n'.2 t⟩
end
theorem Sim.msk (S : Sim B H ι st) (F : Held L H) (off : ∀ b o, L.lookup b = some o → b ∉ B.ρ) (n : st.all noLamO = true) : Sim B (msk L H) ι st := by
  refine ⟨S.len, S.nd, fun k ob e => ?_, fun b hb => ⟨?_, (S.rs b hb).2⟩, tabs_keep S.tab fun b u k e => ?_, fun b hb u e => ?_⟩
  · obtain ⟨b, hb, q⟩ := S.ob k ob e
    have nn := List.all_eq_true.mp n ob (List.mem_of_getElem? e)
    refine ⟨b, hb, ?_⟩
    cases ob with
    | lst ds => obtain ⟨xs, h, r⟩ := q; exact ⟨xs, msk_keep F (fun ob z => by unfold Kn at z; cases z) h, r.msk F nn⟩
    | ins c ns ds => obtain ⟨C, dx, fs, xs, c, h, e, l, r⟩ := q; exact ⟨C, dx, fs, xs, c, msk_keep F (fun ob z => by unfold Kn at z; cases z) h, e, l, r.msk F nn⟩
    | dct ks ds => obtain ⟨kvs, xs, h, e, l, r⟩ := q; exact ⟨kvs, xs, msk_keep F (fun ob z => by unfold Kn at z; cases z) h, e, l, r.msk F nn⟩
  · obtain ⟨u, e⟩ := (S.rs b hb).1
    refine ⟨u, ?_⟩
    cases q : L.lookup b with
    | none => rw [msk_out q]; exact e
    | some ob => exact absurd hb (off b ob q)
  · refine msk_keep F (fun ob z => ?_) e
    rcases k with ⟨ps, rfl⟩ | ⟨c, q, rfl⟩ <;> (unfold Kn at z; cases z)
  · cases q : L.lookup b with
    | none => rw [msk_out q] at e; exact S.rp b hb u e
    | some ob => rw [msk_in q] at e; cases e
/-- the heap only grows -/
theorem Sim.grow (S : Sim B H ι st) (k : ∀ b u, H b = some u → H' b = some u) (rp : ∀ b ∈ B.ρ, ∀ u, H' b = some u → H b = some u) : Sim B H' ι st ∧ Step ι H ι H' := by
  have s : Step ι H ι H' := ⟨⟨[], by simp, by simp⟩, fun b u _ _ e => k b u e⟩
  exact ⟨⟨S.len, S.nd, fun n ob e => by
    obtain ⟨b, hb, q⟩ := S.ob n ob e
    exact ⟨b, hb, q.stays (k b) fun ds xs r => r.step s⟩, fun b hb => ⟨by obtain ⟨⟨u, e⟩, _⟩ := S.rs b hb; exact ⟨u, k b u e⟩, (S.rs b hb).2⟩, S.tab.ext k, fun b hb u e => S.rp b hb u (rp b hb u e)⟩, s⟩
/-- a table has grown, other things may be new -/
theorem Sim.tables (S : Sim B H ι st) (x : ExtN H H') (t : Tabs (NMs.T B.K) H') : Sim B H' ι st ∧ Step ι H ι H' := by
  have s : Step ι H ι H' := ⟨⟨[], by simp, by simp⟩, fun b u _ nt e => x b u e nt⟩
  refine ⟨⟨S.len, S.nd, fun n ob e => ?_, fun b hb => ⟨?_, (S.rs b hb).2⟩, t, fun b hb u e => ?_⟩, s⟩
  · obtain ⟨b, hb, q⟩ := S.ob n ob e
    exact ⟨b, hb, q.stays (fun u z => x b u z fun ps y => or_tbl q ps (by rw [z, y])) fun ds xs r => r.step s⟩
  · obtain ⟨⟨u, e⟩, _⟩ := S.rs b hb
    exact ⟨u, x b u e (S.rp b hb u e).nt⟩
  · obtain ⟨⟨u', e'⟩, _⟩ := S.rs b hb
    have pl := S.rp b hb u' e'
    have := x b u' e' pl.nt
    rw [e] at this; cases this; exact pl
end
/-! ### arguments that end with a lambda -/
def PAdL (X : Cx) (W : WX) (lw : LW) (es : List Expr) (ds : DA) : Prop := PA X es (fun σ H Q => tG X.K X.mg relA W ds σ H fun vs H1 => tLm X (NMs.T X.K) lw σ H1 fun v H2 => Q (vs ++ [v]) H2)
section
variable {X : Cx} {W : WX} {lw : LW} {e e2 : Expr} {es : List Expr} {da : DE} {ds : DA}
theorem padl_nil {p : Arguments} {b : Expr} {s : Scope} {pos : Pos} (h : PE X (.Lambda p b s pos) (tLm X (NMs.T X.K) lw)) : PAdL X W lw [.Lambda p b s pos] dNil :=
  PA.mono (pa_cons h pa_nil) fun σ H Q ⟨ρ, ι, st, env, S, ve, p⟩ => p.ok S rfl
theorem padl_cons (ha : PEd X W e da) (hr : PAdL X W lw (e2 :: es) ds) (hs : starEach (e :: e2 :: es) X.env = (false, eval e X.env) :: starEach (e2 :: es) X.env := by rfl) : PAdL X W lw (e :: e2 :: es) (dCons da ds) :=
  PA.mono (pa_cons ha hr hs) fun σ H Q h => by
    have := cons_read (da := da) (ds := ds) h
    exact this
end
end DD

/-! DD32: an own def called with a lambda, by data. -/
namespace DD
open PySem L2 PyProof.Rows LamX NdefX
variable [NMs]
def capsE (env : Env) : List Nat → Option (List D)
  | [] => some []
  | j :: r => match env[j]? with
    | some (some d) => (capsE env r).map (d :: ·)
    | _ => none
theorem caps_of {B : Bs} {H : Hp} {ι : List Addr} {env : Env} {σ : L2.St} (ve : VEnv B H ι env σ) : ∀ {js : List Nat} {cs : List D}, capsE env js = some cs → ∃ xs : List V, js.map (slotAt σ) = xs.map some ∧ VRs B H ι cs xs
  | [], cs, e => by cases e; exact ⟨[], rfl, rfl⟩
  | j :: r, cs, e => by
    unfold capsE at e
    split at e
    · rename_i d q
      obtain ⟨cs', e1, rfl⟩ := Option.map_eq_some_iff.mp e
      obtain ⟨v, h1, h2⟩ := ve.2 j d q
      obtain ⟨xs, e2, r2⟩ := caps_of ve e1
      exact ⟨v :: xs, by rw [List.map_cons, slotAt_of h1, e2]; rfl, v, xs, rfl, h2, r2⟩
    · cases e
def dOwnLam (m : M) (n : Nat) (ds : DA) (k : Nat) (lw : LW) (js : List Nat) : DE := fun env st => (ds env st).bind fun xs st1 => match capsE env js with
  | some cs => if xs.length + 1 = n then (match m (xs ++ [.lam k lw cs]) st1 with
    | .ok y st2 => if noLam y = true ∧ st2.all noLamO = true then .ok y st2 else .bad
    | _ => .bad) else .bad
  | none => .bad
section
variable {X : Cx} {W : WX} {lw : LW} {pos p : Pos} {e : Expr} {es : List Expr} {ds : DA} {k kk n : Nat} {g : Addr} {fd : FuncData} {ps : List Str} {m : M} {x : Str} {js : List Nat}
theorem offH_of {B : Bs} {ι : List Addr} {H : Hp} {b : Addr} {o : HO} (h1 : b ∉ ι) (h2 : b ∉ B.ρ) (e : H b = some o) : offH B ι H b = some o := offH_iff.mpr ⟨h1, h2, e⟩
theorem pd_ownLam (F : FnOk X.prog X.w X.K X.mg X.base (L2.CX X.prog X.w) k g fd ps (spD X.K X.mg m n)) (hr : Room k X.A) (hg : Gl X x) (hm : X.mg x = some (.ref g)) (hk : PySem.W.keepIn X.K (.ref g) = true) (hb : L2.Binds X.K fd ps [])
    (cp : X.Ok → Caps X (cloFrom X.env.cells lw.scope.names []) lw.fr js) (own : ∀ y c, (cloFrom X.env.cells lw.scope.names []).lookup y = some c → X.fn y = true) (ha : PAdL X W lw (e :: es) ds)
    (hdb : (x == ("__debug__" : Str)) = false := by decide) (he : starEach (e :: es) X.env = (false, eval e X.env) :: starEach es X.env := by rfl) (hpl : (backTo pos (starEach es X.env)).any (·.1) = false := by rfl) :
    PEd X W (.Call (.Name x p) (e :: es) [] pos) (dOwnLam m n ds kk lw js) := by
  unfold PAdL at ha
  refine PE.mono (pe_callP F hr hg hm hk hb cp own ha hdb he hpl) fun σ H Q ⟨ρ, ι, st, env, S, ve, q⟩ => ⟨ρ, ι, st, env, S, ve, Post.bind q fun xs st1 ι1 H1 vs s1 S1 rx q1 => ?_⟩
  have rx : VRs ⟨X.K, X.mg, ρ⟩ H1 ι1 xs vs := rx
  refine ⟨S1.tab, fun f c' pm ctv H2 x12 t2 nf hf hc => ?_⟩
  cases ec : capsE env js with
  | none => rw [ec] at q1; exact q1.elim
  | some cs =>
  rw [ec] at q1
  simp only [] at q1
  by_cases hl : xs.length + 1 = n
  case neg => simp only [hl, if_false] at q1; exact q1.elim
  simp only [hl, if_true] at q1
  obtain ⟨S2, s2⟩ := S1.tables x12 t2
  have ve2 := (ve.step s1).step s2
  obtain ⟨cxs, e1, rc⟩ := caps_of ve2 ec
  refine ⟨cxs, e1, fun L cap nL => ?_⟩
  have up : ∀ b u, H2 b = some u → pls L H2 b = some u := fun b u eb => by
    cases ql : L.lookup b with
    | none => rw [pls_out ql]; exact eb
    | some o => rw [nL b o ql] at eb; cases eb
  obtain ⟨S3, s3⟩ := S2.grow (H' := pls L H2) up fun b hb u eb => by
    cases ql : L.lookup b with
    | none => rw [pls_out ql] at eb; exact eb
    | some o =>
      obtain ⟨⟨u', e'⟩, _⟩ := S2.rs b hb
      rw [nL b o ql] at e'; cases e'
  have Lι : ∀ b o, L.lookup b = some o → b ∉ ι1 ∧ b ∉ ρ := fun b o ql => ⟨S2.fresh (nL b o ql), S2.fr (nL b o ql)⟩
  have fι : f ∉ ι1 ∧ f ∉ ρ := ⟨S1.fresh nf, S1.fr nf⟩
  have cι : c' ∉ ι1 ∧ c' ∉ ρ := by
    refine ⟨fun z => ?_, fun z => (S2.rp c' z _ hc).nc _ _ rfl⟩
    obtain ⟨i, hi, ei⟩ := List.mem_iff_getElem.mp z
    obtain ⟨ob, eo⟩ : ∃ ob, st1[i]? = some ob := ⟨_, List.getElem?_eq_getElem (by rw [← S2.len]; exact hi)⟩
    obtain ⟨b, hb', qo⟩ := S2.ob i ob eo
    rw [List.getElem?_eq_getElem hi, ei] at hb'
    cases hb'
    exact or_code qo _ _ hc
  have lam : VR ⟨X.K, X.mg, ρ⟩ (pls L H2) ι1 (.lam kk lw cs) (.ref f) := ⟨f, L, cxs, rfl, cap.lam (offH_of fι.1 fι.2 (up _ _ hf)) (offH_of cι.1 cι.2 (up _ _ hc)) (fun b o ql => offH_of (Lι b o ql).1 (Lι b o ql).2 (pls_in ql)), rc.step s3⟩
  refine ⟨by rw [List.length_append, ← rx.length]; exact hl, ρ, ι1, st1, xs ++ [.lam kk lw cs], S3, ((rx.step s2).step s3).append (VRs.one lam), ?_⟩
  cases em : m (xs ++ [.lam kk lw cs]) st1 with
  | bad => rw [em] at q1; exact q1.elim
  | exc y st2 => rw [em] at q1; exact q1.elim
  | ok y st2 =>
    rw [em] at q1
    simp only [] at q1
    by_cases hn : noLam y = true ∧ st2.all noLamO = true
    case neg => simp only [hn, if_false] at q1; exact q1.elim
    simp only [hn, if_true, and_self] at q1
    intro ι4 H4 v s4 S4 ry hh
    have off4 : ∀ b o, L.lookup b = some o → b ∉ ρ := fun b o ql => (Lι b o ql).2
    have S5 := S4.msk hh off4 hn.2
    have s5 : Step ι1 H2 ι4 (msk L H4) := by
      obtain ⟨more, e4, f4⟩ := s4.pre
      refine ⟨⟨more, e4, fun a ha' => ⟨fun o eo => (f4 a ha').1 o (up _ _ eo), (f4 a ha').2⟩⟩, fun a o hn' nt eo => ?_⟩
      have z := s4.rest0 a o hn' nt (up _ _ eo)
      cases ql : L.lookup a with
      | none => rw [msk_out ql]; exact z
      | some ob => rw [nL a ob ql] at eo; cases eo
    exact q1 ι4 (msk L H4) v (s2.trans s5) S5 (VR.msk hh hn.1 ry)
end
end DD

/-! DD33: a name that holds a lambda, called. -/
namespace DD
open PySem L2 PyProof.Rows LamX NdefX
/-- what is known of a lambda's body: its names, how its parameters are bound, its reading in every frame -/
structure LamOk (Z : Cx) (k : Nat) (W : LW) (N ps : List Str) (t : TE) : Prop where
  sc : NScope N ps W.fr W.scope
  bind : ∀ (cl : List (Str × Addr)) (pm cv ctv : Value) (us : List Value), us.length = ps.length → bindArgs (PySem.W.kla_fn "<lambda>" W.qual W.params W.body W.scope cl pm cv ctv) ⟨us, []⟩ = pure (ps.zip us)
  body : ∀ (f : Addr) (cl : List (Str × Addr)) (c' : Addr) (A : Around) (outer : List PySem.Env) (s : Shared) (H : Hp), Room k (A.deeper (PySem.W.envX W.qual W.scope s.heap.objs.size f (.ref c') cl)) → PE (lcx (L2.CX Z.prog Z.w) Z.prog Z.w Z.K Z.mg Z.base N W cl c' f A outer s H noX) W.body t
def tGo (Z : Cx) (k i : Nat) (ta : TA) : TE := fun σ H Q => ∃ f W, σ[i]? = some (some (.ref f)) ∧ (∃ cl pm c' ctv, H f = some (Kn (LW.obj W cl pm c' ctv))) ∧ ta σ H fun vs H1 => ∃ L xs N ps t, LamAt L H1 f W xs ∧ LamOk Z k W N ps t ∧ vs.length = ps.length ∧
  t (startF N vs (xs.map some)) (msk L H1) (fun v H' => (∀ b o, L.lookup b = some o → H' b = none) → Q v (pls L H'))
section
variable {X : Cx} {i k : Nat} {x : Str} {ta : TA} {e : Expr} {es : List Expr} {p pos : Pos}
theorem pe_go (hr : Room (k + 1) X.A) (hN : X.N[i]? = some x) (hv : Vis X.env.scope x) (ha : PA X (e :: es) ta) (hd : (x == ("__debug__" : Str)) = false := by decide) (hcd : (x == ("__classdict__" : Str)) = false := by decide)
    (he : starEach (e :: es) X.env = (false, eval e X.env) :: starEach es X.env := by rfl) (hpl : (backTo pos (starEach es X.env)).any (·.1) = false := by rfl) : PE X (.Call (.Name x p) (e :: es) [] pos) (tGo X k i ta) := by
  refine ⟨fun pins s σ H Q I h => ?_⟩
  obtain ⟨f, W, hs, ⟨cl, pm, c', ctv, hf⟩, ht⟩ := h
  refine wpAny_Call_Name_kw (thn ((pe_var (pos := p) hN hv hd hcd).run pins s σ H (fun v H1 => v = .ref f ∧ H1 = H) I ⟨.ref f, hs, rfl, rfl⟩) fun u s1 ⟨v, H1, I1, r1, q1⟩ => ?_)
  obtain ⟨ev, eH⟩ := q1
  subst ev
  rw [eH] at I1
  obtain rfl : u = Value.ref f := r1
  refine PySem.W.callWith_F (first := []) ⟨_, _, _, _, kn_at I1.hok hf⟩ (thn (ha.run pos pins s1 σ H _ I1 ht) fun us s2 ⟨vs, H2, I2, r, L, xs, N, ps, t, La, ok, hl, q⟩ => ⟨?_, ?_⟩) he hpl
  · obtain ⟨_, _, _, _, hf2, _⟩ := La.ob
    exact ⟨_, _, _, _, kn_at I2.hok hf2⟩
  · show wpAny _ _ (call (.ref f) us) _ _ _
    exact lam_run I2 La ok.sc ok.bind r hl hr (fun cl c' A outer s H hr' => ok.body f cl c' A outer s H hr') q
end
variable [NMs]
/-- a lambda's body as a function of what it gets and what it captured -/
def mLam (d : DE) (N : List Str) (n m : Nat) : M := fun xs st => if xs.length = n + m then d (xs.map some ++ List.replicate (N.length - n - m) none) st else .bad
/-- what a table of lambdas tells is so -/
def TabOk (X : Cx) (k : Nat) (tab : Nat → LW → M) : Prop := ∀ kk W, (∀ xs st, tab kk W xs st = .bad) ∨ ∃ N ps d, LamOk X k W N ps (tG X.K X.mg relV W0 d) ∧ ∀ xs st, tab kk W xs st = if xs.length = ps.length + W.fr.length then d (xs.map some ++ List.replicate (N.length - ps.length - W.fr.length) none) st else .bad
def dLamGo (tab : Nat → LW → M) (i : Nat) (ds : DA) : DE := fun env st => match env[i]? with
  | some (some (.lam kk W cs)) => (ds env st).bind fun xs st1 => if noLams xs = true ∧ noLams cs = true ∧ st1.all noLamO = true ∧ cs.length = W.fr.length then (match tab kk W (xs ++ cs) st1 with
    | .ok y st2 => .ok y st2
    | _ => .bad) else .bad
  | _ => .bad
theorem venv_startF {B : Bs} {H : Hp} {ι : List Addr} {xs cs : List D} {vs ws : List V} (N : List Str) (h1 : VRs B H ι xs vs) (h2 : VRs B H ι cs ws) : VEnv B H ι ((xs ++ cs).map some ++ List.replicate (N.length - xs.length - cs.length) none) (startF N vs (ws.map some)) := by
  have l1 := h1.length
  have l2 := h2.length
  have h := h1.append h2
  have es : startF N vs (ws.map some) = (vs ++ ws).map some ++ List.replicate (N.length - xs.length - cs.length) none := by
    unfold startF
    rw [List.map_append, List.append_assoc, List.length_map, l1, l2]
  rw [es]
  refine ⟨by simp [l1, l2], fun i d e => ?_⟩
  by_cases hi : i < (xs ++ cs).length
  · rw [List.getElem?_append_left (by simpa using hi), List.getElem?_map] at e
    obtain ⟨d', q, e2⟩ := Option.map_eq_some_iff.mp e
    cases e2
    obtain ⟨v, g1, g2⟩ := h.get q
    refine ⟨v, ?_, g2⟩
    have hi2 : i < ((vs ++ ws).map (some : V → Option V)).length := by rw [List.length_map, ← h.length]; exact hi
    rw [List.getElem?_append_left hi2, List.getElem?_map, g1]; rfl
  · rw [List.getElem?_append_right (by simpa using hi), List.getElem?_replicate] at e
    split at e <;> cases e
section
variable {X : Cx} {W : WX} {i k : Nat} {x : Str} {ds : DA} {e : Expr} {es : List Expr} {p pos : Pos} {tab : Nat → LW → M}
theorem pd_lamGo (hT : TabOk X k tab) (hr : Room (k + 1) X.A) (hN : X.N[i]? = some x) (hv : Vis X.env.scope x) (ha : PAd X W (e :: es) ds) (hd : (x == ("__debug__" : Str)) = false := by decide) (hcd : (x == ("__classdict__" : Str)) = false := by decide)
    (he : starEach (e :: es) X.env = (false, eval e X.env) :: starEach es X.env := by rfl) (hpl : (backTo pos (starEach es X.env)).any (·.1) = false := by rfl) : PEd X W (.Call (.Name x p) (e :: es) [] pos) (dLamGo tab i ds) := by
  refine PE.mono (pe_go (k := k) hr hN hv ha hd hcd he hpl) fun σ H Q ⟨ρ, ι, st, env, S, ve, q⟩ => ?_
  unfold dLamGo at q
  split at q
  case h_2 => exact q.elim
  rename_i kk lw cs hi
  obtain ⟨v0, g1, f, L0, xs0, e0, la0, rc0⟩ := ve.2 i _ hi
  subst e0
  obtain ⟨cl, pm, c', ctv, hf, _⟩ := la0.to.ob
  refine ⟨f, lw, g1, ⟨cl, pm, c', ctv, hf⟩, ρ, ι, st, env, S, ve, Post.bind q fun xs st1 ι1 H1 vs s1 S1 rx q1 => ?_⟩
  have rx : VRs ⟨X.K, X.mg, ρ⟩ H1 ι1 xs vs := rx
  by_cases hc : noLams xs = true ∧ noLams cs = true ∧ st1.all noLamO = true ∧ cs.length = lw.fr.length
  case neg => rw [if_neg hc] at q1; exact q1.elim
  rw [if_pos hc] at q1
  obtain ⟨c1, c2, c3, c4⟩ := hc
  have la1 := la0.step s1
  have rc1 := VRs.step s1 rc0
  have held := la1.to.held
  have offL : ∀ b o, L0.lookup b = some o → b ∉ ι1 ∧ b ∉ ρ := fun b o ql => by
    have := offH_iff.mp (la1.held b o ql)
    exact ⟨this.1, this.2.1⟩
  rcases hT kk lw with bad | ⟨N, ps, d, ok, et⟩
  · rw [bad] at q1; exact q1.elim
  rw [et] at q1
  by_cases hl : (xs ++ cs).length = ps.length + lw.fr.length
  case neg => rw [if_neg hl] at q1; exact q1.elim
  rw [if_pos hl] at q1
  have hx : xs.length = ps.length := by rw [List.length_append] at hl; omega
  refine ⟨L0, xs0, N, ps, _, la1.to, ok, by rw [← rx.length]; exact hx, ρ, ι1, st1, _, S1.msk held (fun b o ql => (offL b o ql).2) c3, venv_startF N (VRs.msk held c1 rx) (VRs.msk held c2 rc1), ?_⟩
  rw [hx, c4]
  cases em : d ((xs ++ cs).map some ++ List.replicate (N.length - ps.length - lw.fr.length) none) st1 with
  | bad => rw [em] at q1; exact q1.elim
  | exc y st2 => rw [em] at q1; exact q1.elim
  | ok y st2 =>
    rw [em] at q1
    intro ι4 H4 v s4 S4 ry hh
    have ry : VR ⟨X.K, X.mg, ρ⟩ H4 ι4 y v := ry
    have up : ∀ b u, H4 b = some u → pls L0 H4 b = some u := fun b u eb => by
      cases ql : L0.lookup b with
      | none => rw [pls_out ql]; exact eb
      | some o => rw [hh b o ql] at eb; cases eb
    obtain ⟨S5, s5⟩ := S4.grow (H' := pls L0 H4) up fun b hb u eb => by
      cases ql : L0.lookup b with
      | none => rw [pls_out ql] at eb; exact eb
      | some o => exact absurd hb (offL b o ql).2
    have s6 : Step ι1 H1 ι4 (pls L0 H4) := by
      obtain ⟨more, e4, f4⟩ := s4.pre
      refine ⟨⟨more, e4, fun a ha' => ⟨fun o eo => ?_, (f4 a ha').2⟩⟩, fun a o hn' nt eo => ?_⟩
      · cases ql : L0.lookup a with
        | none => exact (f4 a ha').1 o (by rw [msk_out ql]; exact eo)
        | some ob => exact absurd (by rw [e4]; exact List.mem_append_right _ ha') (S4.fresh (hh a ob ql))
      · cases ql : L0.lookup a with
        | none =>
          rw [pls_out ql]
          exact s4.rest0 a o hn' nt (by rw [msk_out ql]; exact eo)
        | some ob => rw [pls_in ql, ← held a ob ql]; exact eo
    exact q1 ι4 (pls L0 H4) v s6 S5 (VR.step s5 ry)
end
end DD

/-! DD34: lambdas by their places in the text; defs that make lambdas; the end with tables. -/
namespace DD
open PySem L2 PyProof.Rows LamX NdefX
/-! ### places -/
def callArg (i : Nat) : Expr → Expr
  | .Call f as ks p => as.getD i (.Call f as ks p)
  | e => e
def stE (d : Expr) : Stmt → Expr
  | .Return (some e) _ => e
  | .Assign _ v _ => v
  | .Expr v _ => v
  | .For _ it _ _ _ => it
  | _ => d
def stB (i : Nat) : Stmt → List Stmt
  | .For _ _ b e _ => if i = 0 then b else e
  | .While _ b e _ => if i = 0 then b else e
  | .If _ b e _ => if i = 0 then b else e
  | .Try b _ _ _ _ => b
  | _ => []
def lamW (qual : Str) (fr : List Str) (st : Stmt) : Expr → LW
  | .Lambda p b s _ => ⟨qual, p, b, s, fr⟩
  | e => ⟨qual, defArgs st, e, defScope st, fr⟩
def noE : Expr := .Constant .none 0 ⟨0, 0, 0, 0⟩
/-! ### what a lambda captures -/
def capB (sc : Scope) (W : LW) : Bool := W.scope.names.all (fun y => !decide (y.2 = .free) || decide (sc.names.lookup y.1 = some .cell) || decide (sc.names.lookup y.1 = some .free)) && W.fr.all (fun y => decide ((y, NameKind.free) ∈ W.scope.names))
theorem capB_1 {sc : Scope} {W : LW} (h : capB sc W = true) : ∀ y ∈ W.scope.names, y.2 = .free → sc.names.lookup y.1 = some .cell ∨ sc.names.lookup y.1 = some .free := fun y hy e => by
  unfold capB at h
  simp only [Bool.and_eq_true, List.all_eq_true, Bool.or_eq_true, Bool.not_eq_true', decide_eq_true_eq, decide_eq_false_iff_not] at h
  rcases h.1 y hy with (z | z) | z
  · exact absurd e z
  · exact .inl z
  · exact .inr z
theorem caps_by {X : Cx} {W : LW} {sc : Scope} {js : List Nat} (hs : X.env.scope = sc) (h : capB sc W = true) (hj : js.map (fun j => X.N[j]?) = W.fr.map some) : X.Ok → Caps X (cloFrom X.env.cells W.scope.names []) W.fr js := fun ok =>
  Caps.made ok (by rw [hs]; exact capB_1 h) (fun y hy => by
    unfold capB at h
    simp only [Bool.and_eq_true, List.all_eq_true, decide_eq_true_eq] at h
    exact h.2 y hy) hj
/-! ### a lambda among the arguments -/
section
variable [NMs] {X : Cx} {W : WX} {lw : LW}
theorem lam_by {p : Arguments} {b : Expr} {s sc : Scope} {pos : Pos} {c P : Addr} (tb : TabB X.base X.mg c P) (hc : X.env.code = .ref c) (mT : (P, lw.qual) ∈ NMs.T X.K) (oT : ∀ p ∈ NMs.T X.K, p.1 = P → p.2 = lw.qual)
    (e1 : p = lw.params) (e2 : b = lw.body) (e3 : s = lw.scope) (hq : lw.qual = X.env.qual ++ "<lambda>") (hd : defaultsOf p X.env = ([], [])) (hs : X.env.scope = sc) (h : capB sc lw = true) : PE X (.Lambda p b s pos) (tLm X (NMs.T X.K) lw) := by
  subst e1 e2 e3
  exact pe_lam tb hc mT oT hq hd fun ok y hy e => by
    rcases capB_1 h y hy e with z | z
    · exact ok.has _ (.inl (by rw [← hs] at z; exact z))
    · exact ok.has _ (.inr (by rw [← hs] at z; exact z))
end
/-! ### a def that makes lambdas: its code object is known -/
structure FunL (K : PySem.W.Frag) (x qual : Str) (st : Stmt) (f : Addr) (fd : FuncData) (c : Addr) : Prop where
  ex : ∃ (oc : Value) (od : Option Addr) (kV doc pm : Value) (an : Option Addr) (ct : Value) (osl : Array (Option Value)),
    fd = PySem.W.fnOf x qual (defArgs st) (defBody st) (defScope st) .none kV doc pm an (.ref c) ct ∧ K.lookup f = some ⟨oc, od, .func fd, osl⟩ ∧ PySem.W.codeIn K (.ref c) qual = true
section
variable [NMs] {P : Program} {w : World} {K : PySem.W.Frag} {mg : Str → Option Value} {base : Heap}
theorem fn_dL {x qual : Str} {st : Stmt} {f c : Addr} {fd : FuncData} {N ps : List Str} {k : Nat} {d : DS} (F : FunL K x qual st f fd c) (S : FnScope N ps (defScope st))
    (body : ∀ (A : Around) (outer : List PySem.Env) (s : Shared) (H : Hp) (E : XK), Room k (A.deeper (envOfC qual (defScope st) s.heap.objs.size f (.ref c))) →
      Takes (cxOf (L2.CX P w) P w K mg base N qual (defScope st) f (.ref c) A outer s H E) (fun c dd _ H => E c dd H) → Lets (cxOf (L2.CX P w) P w K mg base N qual (defScope st) f (.ref c) A outer s H E) (fun c dd _ H => E c dd H) →
      PSsd (cxOf (L2.CX P w) P w K mg base N qual (defScope st) f (.ref c) A outer s H E) (fun c dd _ H => E c dd H) (defBody st) d) : FnOk P w K mg base (L2.CX P w) (k + 1) f fd ps (spD K mg (mOf d N.length) ps.length) := by
  obtain ⟨oc, od, kV, doc, pm, an, ct, osl, rfl, lk, hcd⟩ := F.ex
  refine fn_of lk hcd S (fun vs H Q E h => h.1) fun A outer s H vs Q E hr h => ?_
  have tk : Takes (cxOf (L2.CX P w) P w K mg base N qual (defScope st) f (.ref c) A outer s H E) (fun c dd _ H => E c dd H) := takes_of rfl rfl rfl rfl
  refine ⟨_, body A outer s H E hr tk (lets_of tk), ?_⟩
  obtain ⟨hl, ρ, ι, st0, ds, S0, r, p⟩ := h
  refine ⟨ρ, ι, st0, _, S0, VEnv.start N r, ?_⟩
  unfold mOf at p
  cases q : d (ds.map some ++ List.replicate (N.length - ds.length) none) st0 with
  | nx env1 st1 => simp only [q] at p; exact fun ι1 H1 σ1 s1 S1 _ => p ι1 H1 .non s1 S1 rfl
  | rt x st1 => simp only [q] at p; exact fun ι1 H1 v s1 S1 rx => p ι1 H1 v s1 S1 rx
  | exc x e st1 => simp only [q] at p; exact fun ι1 H1 σ1 c dd s1 S1 _ ex => p ι1 H1 c dd s1 S1 ex
  | bk e st1 => simp only [q] at p; exact p.elim
  | ct e st1 => simp only [q] at p; exact p.elim
  | bad => simp only [q] at p; exact p.elim
theorem funL_mk {x qual : Str} {st : Stmt} {f c : Addr} {oc : Value} {od an : Option Addr} {osl : Array (Option Value)} {kV doc pm cdv ct : Value} (l : K.lookup f = some ⟨oc, od, .func (PySem.W.fnOf x qual (defArgs st) (defBody st) (defScope st) .none kV doc pm an cdv ct), osl⟩) (hc : PySem.W.codeIn K cdv qual = true) (e : cdv = .ref c) :
    FunL K x qual st f (PySem.W.fnOf x qual (defArgs st) (defBody st) (defScope st) .none kV doc pm an cdv ct) c := by
  subst e
  exact ⟨oc, od, kV, doc, pm, an, ct, osl, rfl, l, hc⟩
end
/-! ### tables of lambdas -/
section
variable [NMs] {P : Program} {w : World} {K : PySem.W.Frag} {mg : Str → Option Value} {base : Heap}
def LamOkP (P : Program) (w : World) (K : PySem.W.Frag) (mg : Str → Option Value) (base : Heap) (k : Nat) (W : LW) (N ps : List Str) (d : DE) : Prop :=
  ∀ Z : Cx, Z.prog = P → Z.w = w → Z.K = K → Z.mg = mg → Z.base = base → LamOk Z k W N ps (tG Z.K Z.mg relV W0 d)
theorem lamOk_mk {k : Nat} {W : LW} {N ps : List Str} {d : DE} (S : NScope N ps W.fr W.scope) (hb : ∀ (cl : List (Str × Addr)) (pm cv ctv : Value) (us : List Value), us.length = ps.length → bindArgs (PySem.W.kla_fn "<lambda>" W.qual W.params W.body W.scope cl pm cv ctv) ⟨us, []⟩ = pure (ps.zip us))
    (hbody : ∀ (f : Addr) (cl : List (Str × Addr)) (c' : Addr) (A : Around) (outer : List PySem.Env) (s : Shared) (H : Hp), Room k (A.deeper (PySem.W.envX W.qual W.scope s.heap.objs.size f (.ref c') cl)) → PEd (lcx (L2.CX P w) P w K mg base N W cl c' f A outer s H noX) W0 W.body d) : LamOkP P w K mg base k W N ps d := by
  intro Z h1 h2 h3 h4 h5
  subst h1 h2 h3 h4 h5
  exact ⟨S, hb, hbody⟩
def TabOkP (P : Program) (w : World) (K : PySem.W.Frag) (mg : Str → Option Value) (base : Heap) (k : Nat) (tab : Nat → LW → M) : Prop :=
  ∀ Z : Cx, Z.prog = P → Z.w = w → Z.K = K → Z.mg = mg → Z.base = base → TabOk Z k tab
def tabNil : Nat → LW → M := fun _ _ _ _ => .bad
open Classical in
noncomputable def tabCons (i : Nat) (W : LW) (m : M) (r : Nat → LW → M) : Nat → LW → M := fun kk V => if kk = i ∧ V = W then m else r kk V
theorem tabCons_hit {i : Nat} {W : LW} {m : M} {r : Nat → LW → M} : tabCons i W m r i W = m := by
  unfold tabCons
  rw [if_pos ⟨rfl, rfl⟩]
theorem tabCons_miss {i j : Nat} {W V : LW} {m : M} {r : Nat → LW → M} (h : (j == i) = false) : tabCons i W m r j V = r j V := by
  unfold tabCons
  rw [if_neg (fun z => by rw [z.1] at h; simp at h)]
theorem tabOk_nil {k : Nat} : TabOkP P w K mg base k tabNil := fun Z _ _ _ _ _ kk W => .inl fun _ _ => rfl
theorem tabOk_cons {i k k1 : Nat} {W : LW} {N ps : List Str} {d : DE} {r : Nat → LW → M} (h : LamOkP P w K mg base k1 W N ps d) (le : k1 ≤ k) (hr : TabOkP P w K mg base k r) : TabOkP P w K mg base k (tabCons i W (mLam d N ps.length W.fr.length) r) := by
  intro Z h1 h2 h3 h4 h5 kk V
  by_cases e : kk = i ∧ V = W
  · obtain ⟨rfl, rfl⟩ := e
    have L := h Z h1 h2 h3 h4 h5
    exact .inr ⟨N, ps, d, ⟨L.sc, L.bind, fun f cl c' A outer s H hR => L.body f cl c' A outer s H (hR.mono le)⟩, fun xs st => by rw [tabCons_hit]; rfl⟩
  · rcases hr Z h1 h2 h3 h4 h5 kk V with z | ⟨N', ps', d', z1, z2⟩
    · exact .inl fun xs st => by unfold tabCons; rw [if_neg e]; exact z xs st
    · exact .inr ⟨N', ps', d', z1, fun xs st => by unfold tabCons; rw [if_neg e]; exact z2 xs st⟩
end
/-! ### the end, with tables -/
open PySem.W in
def tabsOf (K : Frag) : List (Str × Str) → List (Addr × Str)
  | [] => []
  | (x, q) :: r => match tabIn K x with
    | some (_, P) => (P, q) :: tabsOf K r
    | none => tabsOf K r
open PySem.W in
theorem tabsOf_mem {K : Frag} : ∀ {nm : List (Str × Str)} {p : Addr × Str}, p ∈ tabsOf K nm → ∃ x ∈ nm, ∃ c, tabIn K x.1 = some (c, p.1) ∧ x.2 = p.2
  | [], p, h => by simp [tabsOf] at h
  | (x, q) :: r, p, h => by
    unfold tabsOf at h
    split at h
    · rename_i c P e
      rcases List.mem_cons.mp h with z | z
      · subst z; exact ⟨_, List.mem_cons_self, c, e, rfl⟩
      · obtain ⟨y, hy, c', e1, e2⟩ := tabsOf_mem z
        exact ⟨y, List.mem_cons_of_mem _ hy, c', e1, e2⟩
    · obtain ⟨y, hy, c', e1, e2⟩ := tabsOf_mem h
      exact ⟨y, List.mem_cons_of_mem _ hy, c', e1, e2⟩
open PySem.W in
theorem mem_tabsOf {K : Frag} : ∀ {nm : List (Str × Str)} {x : Str × Str} {c P : Addr}, x ∈ nm → tabIn K x.1 = some (c, P) → (P, x.2) ∈ tabsOf K nm
  | [], x, c, P, h, _ => by simp at h
  | (y, q) :: r, x, c, P, h, e => by
    unfold tabsOf
    rcases List.mem_cons.mp h with z | z
    · subst z
      rw [e]
      exact List.mem_cons_self
    · have := mem_tabsOf (K := K) z e
      split
      · exact List.mem_cons_of_mem _ this
      · exact this
theorem cd_of {K : PySem.W.Frag} {h : Heap} {mg : Str → Option Value} {x n qual : Str} {c P fa : Addr} {oc : Value} {od an : Option Addr} {osl : Array (Option Value)} {ps : Arguments} {b : List Stmt} {sc : Scope} {dV kV doc pm cdv ct : Value} (X : K.In h) (G : h.Ns mainGlobals mg) (ht : PySem.W.tabIn K x = some (c, P))
    (a : PySem.W.nsIn K mainGlobals x = some (some (.ref fa))) (l : K.lookup fa = some ⟨oc, od, .func (PySem.W.fnOf n qual ps b sc dV kV doc pm an cdv ct), osl⟩) : cdv = .ref c :=
  PySem.W.law_code X G ht (PySem.W.mg_of X G a) (X _ _ l) rfl
open PySem.W in
theorem tu_of {K : Frag} {nm : List (Str × Str)} {P : Addr} {q : Str} (h : ∀ y ∈ nm, ∀ c, tabIn K y.1 = some (c, P) → y.2 = q) : ∀ p ∈ tabsOf K nm, p.1 = P → p.2 = q := fun p hp e => by
  obtain ⟨x, hx, c, e1, e2⟩ := tabsOf_mem hp
  rw [← e2]
  exact h x hx c (by rw [← e]; exact e1)
theorem tab_mk {K : PySem.W.Frag} {x n qual : Str} {c P fa : Addr} {oc tc : Value} {od an td : Option Addr} {osl ts : Array (Option Value)} {tv : Array Value} {ps : Arguments} {b : List Stmt} {sc : Scope} {dV kV doc pm ct : Value}
    (a : PySem.W.nsIn K mainGlobals x = some (some (.ref fa))) (l : K.lookup fa = some ⟨oc, od, .func (PySem.W.fnOf n qual ps b sc dV kV doc pm an (.ref c) ct), osl⟩) (lt : K.lookup c = some ⟨tc, td, .fields tv, ts⟩) (e : tv[11]? = some (.ref P)) : PySem.W.tabIn K x = some (c, P) := by
  unfold PySem.W.tabIn
  rw [a]
  simp only [l]
  show (match K.lookup c with
        | some ⟨_, _, .fields vs, _⟩ => (match (vs[11]? : Option Value) with
          | some (.ref P) => some (c, P)
          | _ => none)
        | _ => none) = _
  rw [lt]
  simp only []
  rw [e]
theorem walk_ofDT [NMs] {l : PySem.W.OpenLaw} {k : Nat} {q : Program} {loose : List Str} {XP : (Str → Option Value) → Heap → Prop} {YP : World → Heap → Prop} {d : DefRec} {K : Params → PySem.W.Frag} (nm : List (Str × Str))
    (hnd : ∀ K, NMs.T K = tabsOf K nm) (hn : l.most = some 63) (hdf : d.params.defaults = []) (hr : Room k callerA) (hrec : (nm.all fun p => (recsOf q).any fun e => e.name == p.1) = true)
    (hY : ∀ (w : World) (h : Heap), YP w h → (K w.params).In h)
    (F : ∀ (w : World) (mg : Str → Option Value) (fa : Addr) (h : Heap), (K w.params).In h → h.Ns mainGlobals mg → mg d.name = some (.ref fa) →
      (∀ p ∈ nm, ∀ c P, PySem.W.tabIn (K w.params) p.1 = some (c, P) → (K w.params).lookup P = none) ∧ ∃ fd : FuncData, (∀ (s : Shared) (u : Value), BindsTo s fd ⟨[u], []⟩ [("script", u)]) ∧
        ∀ base : Heap, (K w.params).In base → base.Ns mainGlobals mg → (∀ p ∈ nm, ∀ c P, PySem.W.tabIn (K w.params) p.1 = some (c, P) → TabB base mg c P) → FnOk l.prog w (K w.params) mg base (L2.CX l.prog w) k fa fd ["script"] (spLaw (K w.params))) :
    PySem.W.WalkO q loose XP YP l.row.toRowW d [] (fun f vs => PySem.call f vs) := by
  refine Att.attach_callB hn hdf fun w s₀ s₁ mg mb fa o pm cd doc a vs ns G Y ho hd hcd hmg hobj hints hlen hbits hg => ?_
  have KX := hY w _ Y
  obtain ⟨nT, fd, hb, hF⟩ := F w mg fa _ KX G.T.g hmg
  have tabs : ∀ p ∈ nm, ∀ c P, PySem.W.tabIn (K w.params) p.1 = some (c, P) → PySem.W.CodeHd s₁.heap c P ∧ s₁.heap.get? P = some (PySem.W.tabObj #[]) := fun p hp c P e => by
    have h1 := List.all_eq_true.mp hrec p hp
    cases e2 : (recsOf q).find? (fun e => e.name == p.1) with
    | none =>
      obtain ⟨r, hr1, hr2⟩ := List.any_eq_true.mp h1
      exact absurd hr2 (by simpa using List.find?_eq_none.mp e2 r hr1)
    | some dr => exact PySem.W.tab_of G.T KX e2 e
  obtain ⟨cs, ecs⟩ : ∃ cs : List (Addr × Addr), cs = nm.filterMap fun p => PySem.W.tabIn (K w.params) p.1 := ⟨_, rfl⟩
  have mem : ∀ p, p ∈ cs → ∃ x ∈ nm, PySem.W.tabIn (K w.params) x.1 = some p := fun p hp => by
    rw [ecs, List.mem_filterMap] at hp
    exact hp
  have mem2 : ∀ x ∈ nm, ∀ c P, PySem.W.tabIn (K w.params) x.1 = some (c, P) → (c, P) ∈ cs := fun x hx c P e => by
    rw [ecs, List.mem_filterMap]
    exact ⟨x, hx, e⟩
  refine law_callTs (cs := cs) KX G.T.g G.T.b G.T.builtins G.T.nolimit hg (fun p hp => ?_) (fun p hp => ?_) (fun p hp => ?_) G.T.bmain hobj hints (Nat.le_trans hlen (by decide)) hr (fun base kb nb tb => hF base kb nb fun x hx c P e => tb _ (mem2 x hx c P e)) hb (fun H hH hS => ?_) (fun H e s' => noExc)
  · obtain ⟨x, hx, e⟩ := mem p hp
    exact (tabs x hx p.1 p.2 e).2
  · obtain ⟨x, hx, e⟩ := mem p hp
    exact nT x hx p.1 p.2 e
  · obtain ⟨x, hx, e⟩ := mem p hp
    exact (tabs x hx p.1 p.2 e).1
  · refine ⟨a, ns, rfl, hS, hlen, ?_, fun _ => rfl⟩
    unfold Tb0
    rw [hnd]
    intro p hp
    obtain ⟨x, hx, c, e, eq⟩ := tabsOf_mem hp
    exact TabS.nil (hH _ (mem2 x hx c _ e))
end DD

/-! DD35: equations for lambdas; great numbers. -/
namespace DD
open PySem L2 PyProof.Rows
section
variable [NMs] {tab : Nat → LW → M} {i k kk n : Nat} {ds : DA} {env : Env} {st : Sto} {W lw : LW} {cs xs : List D} {m : M} {js : List Nat}
def lamGoR (tab : Nat → LW → M) (x : D) (xs : List D) (st1 : Sto) : Res D := match x with
  | .lam kk W cs => if noLams xs = true ∧ noLams cs = true ∧ st1.all noLamO = true ∧ cs.length = W.fr.length then (match tab kk W (xs ++ cs) st1 with
    | .ok y st2 => .ok y st2
    | _ => .bad) else .bad
  | _ => .bad
def goE (tab : Nat → LW → M) (o : Option (Option D)) (r : Res (List D)) : Res D := match o with
  | some (some (.lam kk W cs)) => r.bind fun xs st1 => lamGoR tab (.lam kk W cs) xs st1
  | _ => .bad
@[simp] theorem dLamGo_e : dLamGo tab i ds env st = goE tab env[i]? (ds env st) := by
  unfold dLamGo goE
  rcases env[i]? with _ | _ | d
  · rfl
  · rfl
  · cases d <;> rfl
@[simp] theorem goE_lam : goE tab (some (some (.lam kk W cs))) (.ok xs st) = lamGoR tab (.lam kk W cs) xs st := rfl
theorem lamGoR_ok {y : D} {st2 : Sto} (h : tab kk W (xs ++ cs) st = .ok y st2) (h1 : noLams xs = true) (h2 : noLams cs = true) (h3 : st.all noLamO = true) (h4 : cs.length = W.fr.length) : lamGoR tab (.lam kk W cs) xs st = .ok y st2 := by
  unfold lamGoR
  simp only [h1, h2, h3, h4, and_self, if_true, h]
def ownLamR (m : M) (n k : Nat) (lw : LW) (co : Option (List D)) (xs : List D) (st1 : Sto) : Res D := match co with
  | some cs => if xs.length + 1 = n then (match m (xs ++ [.lam k lw cs]) st1 with
    | .ok y st2 => if noLam y = true ∧ st2.all noLamO = true then .ok y st2 else .bad
    | _ => .bad) else .bad
  | none => .bad
@[simp] theorem dOwnLam_e : dOwnLam m n ds k lw js env st = (ds env st).bind fun xs st1 => ownLamR m n k lw (capsE env js) xs st1 := by
  unfold dOwnLam ownLamR
  rfl
theorem ownLamR_ok {y : D} {st2 : Sto} (hn : xs.length + 1 = n) (h : m (xs ++ [.lam k lw cs]) st = .ok y st2) (h1 : noLam y = true) (h2 : st2.all noLamO = true) : ownLamR m n k lw (some cs) xs st = .ok y st2 := by
  unfold ownLamR
  simp only [hn, if_true, h, h1, h2, and_self]
theorem noLams_map {α : Type} {f : α → D} (h : ∀ a, noLam (f a) = true) : ∀ l : List α, noLams (l.map f) = true
  | [] => rfl
  | a :: r => by rw [List.map_cons]; unfold noLams; rw [h a, noLams_map h r]; rfl
theorem noLams_all : ∀ l : List D, noLams l = l.all noLam
  | [] => rfl
  | a :: r => by unfold noLams; rw [noLams_all r]; rfl
/-- no lambda in the store -/
def NL (st : Sto) : Prop := st.all noLamO = true
theorem NL.app {o : O} (h : NL st) (ho : noLamO o = true) : NL (st ++ [o]) := by
  unfold NL at *
  rw [List.all_append, h]
  simp [ho]
theorem NL.set {o : O} {j : Nat} (h : NL st) (ho : noLamO o = true) : NL (st.set j o) := by
  unfold NL at *
  rw [List.all_eq_true] at *
  intro x hx
  rcases List.mem_or_eq_of_mem_set hx with z | z
  · exact h x z
  · rw [z]; exact ho
end
theorem cMulW_to2 [NMs] {i j : Int} (h1 : i.natAbs < 10 ^ 60) (h2 : j.natAbs < 10 ^ 60) : cMulW i j = true := by
  rw [cMulW, x_cMulW.choose_spec]
  have a : i.natAbs < 2 ^ 400 := Nat.lt_of_lt_of_le h1 (by decide)
  have b : j.natAbs < 2 ^ 400 := Nat.lt_of_lt_of_le h2 (by decide)
  simp [a, b]
/-! ### steps that are repeated -/
section
variable {α : Type} {f : α → Int × α} {a : α}
def itN (f : α → Int × α) : Nat → α → α
  | 0, a => a
  | n + 1, a => itN f n (f a).2
def smN (f : α → Int × α) : Nat → α → Int
  | 0, _ => 0
  | n + 1, a => (f a).1 + smN f n (f a).2
theorem itN_add : ∀ (m n : Nat) (a : α), itN f (m + n) a = itN f n (itN f m a)
  | 0, n, a => by rw [Nat.zero_add]; rfl
  | m + 1, n, a => by
    rw [show m + 1 + n = (m + n) + 1 by omega]
    exact itN_add m n _
theorem smN_add : ∀ (m n : Nat) (a : α), smN f (m + n) a = smN f m a + smN f n (itN f m a)
  | 0, n, a => by rw [Nat.zero_add]; simp [smN, itN]
  | m + 1, n, a => by
    rw [show m + 1 + n = (m + n) + 1 by omega]
    simp only [smN, itN, smN_add m n]
    omega
theorem itN_succ (n : Nat) (a : α) : itN f (n + 1) a = (f (itN f n a)).2 := by rw [itN_add]; rfl
theorem smN_succ (n : Nat) (a : α) : smN f (n + 1) a = smN f n a + (f (itN f n a)).1 := by rw [smN_add]; simp [smN]
theorem it_period {k p : Nat} (h : itN f (k + p) a = itN f k a) : ∀ c, itN f (k + c * p) a = itN f k a
  | 0 => by simp
  | c + 1 => by
    rw [show k + (c + 1) * p = (k + c * p) + p by rw [Nat.add_mul]; omega, itN_add, it_period h c, ← itN_add, h]
theorem sm_period {k p : Nat} (h : itN f (k + p) a = itN f k a) : ∀ c : Nat, smN f (k + c * p) a = smN f k a + c * (smN f (k + p) a - smN f k a)
  | 0 => by simp
  | c + 1 => by
    have e1 := smN_add (f := f) (k + c * p) p a
    rw [it_period h c] at e1
    have e2 := smN_add (f := f) k p a
    have e3 := sm_period h c
    rw [show k + (c + 1) * p = (k + c * p) + p by rw [Nat.add_mul]; omega, e1, e3]
    rw [show (((c + 1 : Nat) : Int)) = (c : Int) + 1 by omega, Int.add_mul]
    omega
theorem sm_bound {b : Nat} {P : α → Prop} (hP : ∀ a, P a → P (f a).2 ∧ (f a).1.natAbs ≤ b) : ∀ (n : Nat) (a : α), P a → P (itN f n a) ∧ (smN f n a).natAbs ≤ n * b
  | 0, a, h => ⟨h, by simp [smN]⟩
  | n + 1, a, h => by
    obtain ⟨h1, h2⟩ := hP a h
    obtain ⟨h3, h4⟩ := sm_bound hP n _ h1
    refine ⟨h3, ?_⟩
    simp only [smN]
    have := Int.natAbs_add_le (f a).1 (smN f n (f a).2)
    rw [Nat.add_mul]
    omega
end
end DD

/-! DD36: texts and tuples, so many times. -/
namespace L2
open PySem PySem.Spec PyProof.Rows
theorem tuple_mulS (l : Addr) (items : Array Value) (n : Nat) (dd : Option Addr) (sl : Array (Option Value)) (x : Int) (u : Tok) (c0 : (decide (x < -(2 ^ 63)) || decide (x ≥ 2 ^ 63)) = false) (c1 : (items.isEmpty || x == 1) = true) :
    Meets (Builtin.«tuple.__mul__» ⟨[.ref l, .int x u], []⟩) (fun _ R s => s.heap.get? l = some { cls := .type "tuple", dict := dd, data := .seq items n, slots := sl } ∧ R (.ok (.ret (Value.ref l))) s) :=
  .of_wp fun prog w A R s h => by
    obtain ⟨hp, g, d, tk, os⟩ := s
    obtain ⟨hl, h⟩ := h
    have f1 := AutoSeq1.idx_int
    wp_walk using wpAny_loadPart' hl
    repeat (first
      | (refine wpAny_ite_false (decide_eq_false (by rw [c0]; exact Bool.false_ne_true)) ?_; wp_walk using wpAny_loadPart' hl)
      | (refine wpAny_ite_true (decide_eq_true c1) ?_; wp_walk using wpAny_loadPart' hl))
    exact ⟨_, rfl, h⟩
theorem tuple_mulZ (l : Addr) (items : Array Value) (n : Nat) (dd : Option Addr) (sl : Array (Option Value)) (x : Int) (u : Tok) (c0 : (decide (x < -(2 ^ 63)) || decide (x ≥ 2 ^ 63)) = false) (c1 : (items.isEmpty || x == 1) = false) (c2 : (decide (x ≤ 0) || items.isEmpty) = true) :
    Meets (Builtin.«tuple.__mul__» ⟨[.ref l, .int x u], []⟩) (fun _ R s => s.heap.get? l = some { cls := .type "tuple", dict := dd, data := .seq items n, slots := sl } ∧
      R (.ok (.ret (Value.ref s.heap.objs.size))) { s with heap := s.heap.push { cls := Value.type "tuple", data := Data.seq #[] }, toks := s.toks }) :=
  .of_wp fun prog w A R s h => by
    obtain ⟨hp, g, d, tk, os⟩ := s
    obtain ⟨hl, h⟩ := h
    have f1 := AutoSeq1.idx_int
    wp_walk using wpAny_loadPart' hl
    repeat (first
      | (refine wpAny_ite_false (decide_eq_false (by rw [c0]; exact Bool.false_ne_true)) ?_; wp_walk using wpAny_loadPart' hl)
      | (refine wpAny_ite_false (decide_eq_false (by rw [c1]; exact Bool.false_ne_true)) ?_; wp_walk using wpAny_loadPart' hl)
      | (refine wpAny_ite_true (decide_eq_true c2) ?_; wp_walk using wpAny_loadPart' hl))
    exact ⟨_, rfl, h⟩
end L2
namespace L2
open PySem PySem.Spec PyProof.Rows
/-- a text, so many times -/
def repS (z : Str) (n : Nat) : Str := ⟨(List.replicate n z.cps).foldl (· ++ ·) #[]⟩
theorem foldl_reps (a : Array Nat) : ∀ (n : Nat) (b : Array Nat), ((List.replicate n a).foldl (· ++ ·) b).toList = b.toList ++ (List.replicate n a.toList).flatten
  | 0, b => by simp
  | n + 1, b => by
    rw [List.replicate_succ, List.foldl_cons, foldl_reps a n]
    simp [List.replicate_succ]
theorem repS_list (z : Str) (n : Nat) : (repS z n).cps.toList = (List.replicate n z.cps.toList).flatten := by
  unfold repS
  rw [foldl_reps]
  simp
def rRepA (K : PySem.W.Frag) : R2 := fun x y H Q => (∃ (z : Str) (k : Int), x = .str z ∧ y = .int k ∧ 0 ≤ k ∧ k ≤ 1000 ∧ z.length ≤ 1000 ∧ Q (.str (repS z k.toNat)) H) ∨
  (∃ l k xs, x = .ref l ∧ y = .int k ∧ SqT K H l xs ∧ 0 ≤ k ∧ k ≤ 1000 ∧ xs.length ≤ 1000 ∧ ((xs = [] ∨ k = 1) → Q (.ref l) H) ∧ ∀ p, H p = none → Q (.ref p) (upd H p (.tup (List.replicate k.toNat xs).flatten)))
section
variable {X : Cx}
theorem op_repA : OpR X (binaryOp .Mult) (rRepA X.K) := by
  intro pins s σ H x y v u Q I rx ry h
  rcases h with ⟨z, k, rfl, rfl, h0, h1, hz, q⟩ | ⟨l, k, xs, rfl, rfl, hT, h0, h1, hz, q1, q2⟩
  · obtain ⟨t, rfl⟩ := rx
    obtain ⟨t', rfl⟩ := ry
    have hm : z.length * k.toNat ≤ 1000 * 1000 := Nat.mul_le_mul hz (by omega)
    refine PySem.P.mul_str (by rw [decide_eq_false (by omega), decide_eq_false (by omega)]; rfl) (fun h2 _ => ?_) (fun _ _ => ?_) ?_
    · have hk : (1 : Int) ≤ k := by omega
      have : (1000 : Int) ≤ (2 ^ 63 - 1) / k := by
        rw [Int.le_ediv_iff_mul_le (by omega)]
        have : (1000 : Int) * k ≤ 1000 * 1000 := Int.mul_le_mul_of_nonneg_left h1 (by omega)
        omega
      omega
    · have : (1000 * 1000 : Nat) ≤ sizeLine := by rw [sizeLine_eq]; decide
      unfold PySem.Builtin.Str.tooLong
      simp
      omega
    · by_cases c1 : k < 1
      · rw [if_pos c1]
        have hk : k = 0 := by omega
        subst hk
        have e : repS z (0 : Int).toNat = Str.empty := rfl
        rw [e] at q
        exact ⟨by decide, .str Str.empty, H, I.tok _, ⟨_, rfl⟩, q⟩
      · rw [if_neg c1]
        by_cases c2 : (k == 1 || z.length == 0) = true
        · rw [if_pos c2]
          have e : repS z k.toNat = z := by
            have el : (repS z k.toNat).cps.toList = z.cps.toList := by
              rw [repS_list]
              rw [Bool.or_eq_true] at c2
              rcases c2 with c2 | c2
              · have : k = 1 := eq_of_beq c2
                subst this
                simp
              · have : z.cps.toList = [] := List.length_eq_zero_iff.mp (by have c3 : z.length = 0 := eq_of_beq c2
                                                                           rw [← c3]; simp [Str.length])
                rw [this]; simp
            cases z; cases hr : repS _ _
            rw [hr] at el
            congr 1
            exact Array.toList_inj.mp el
          rw [e] at q
          exact ⟨.str z, H, I, ⟨_, rfl⟩, q⟩
        · rw [if_neg c2]
          refine ⟨?_, .str (repS z k.toNat), H, I.tok _, ⟨_, rfl⟩, q⟩
          show (repS z k.toNat).cps.size ≤ sizeLine
          rw [← Array.length_toList, repS_list, PyProof.Rows.lm_len_rep_flat, sizeLine_eq]
          have : z.cps.toList.length = z.length := by simp [Str.length]
          rw [this]
          have hm2 : k.toNat * z.length ≤ 1000 * 1000 := by rw [Nat.mul_comm]; exact hm
          omega
  · cases rx
    obtain ⟨t, rfl⟩ := ry
    obtain ⟨its, r, ⟨⟨cls, dd, data, sl⟩, ho, hc, n, hd⟩, hs⟩ := I.tuple hT
    simp only at hc hd
    subst hc hd
    have hle : its.length = xs.length := r.length.symm
    have c0 : (decide (k < -(2 ^ 63)) || decide (k ≥ 2 ^ 63)) = false := by
      rw [decide_eq_false (by omega), decide_eq_false (by omega)] <;> rfl
    by_cases c1 : (its.toArray.isEmpty || k == 1) = true
    · refine wpAny_binaryOp_repeat_ref (T := "tuple") (U := "int") (by decide) ⟨_, ho, rfl⟩ (fun s' => typeIs_int s' k t) noFill_tuple_mul F.fills_int_mul F.slot_int_rmul repeat_tuple F.slot_int_index.lookup
        (call_meets F.slot_int_rmul (typeIs_int s k t) F.entry_int_rmul (F.args_int_rmul_2 _ _) (int_rmul_tuple k t l its.toArray n dd sl)
          ⟨ho, rfl, ⟨_, ho, rfl⟩, call_meets F.slot_tuple_mul ⟨_, ho, rfl⟩ F.entry_tuple_mul (F.args_tuple_mul_2 _ _) (tuple_mulS l its.toArray n dd sl k t c0 c1) ⟨ho, ?_⟩⟩)
      refine ⟨.ref l, H, I, rfl, q1 ?_⟩
      rw [Bool.or_eq_true] at c1
      rcases c1 with c1 | c1
      · left
        have : its = [] := by
          cases its with
          | nil => rfl
          | cons a b => cases c1
        rw [this] at hle
        exact List.length_eq_zero_iff.mp hle.symm
      · exact .inr (eq_of_beq c1)
    · have c1 : (its.toArray.isEmpty || k == 1) = false := by simpa using c1
      by_cases c2 : k ≤ 0
      · refine wpAny_binaryOp_repeat_ref (T := "tuple") (U := "int") (by decide) ⟨_, ho, rfl⟩ (fun s' => typeIs_int s' k t) noFill_tuple_mul F.fills_int_mul F.slot_int_rmul repeat_tuple F.slot_int_index.lookup
          (call_meets F.slot_int_rmul (typeIs_int s k t) F.entry_int_rmul (F.args_int_rmul_2 _ _) (int_rmul_tuple k t l its.toArray n dd sl)
            ⟨ho, rfl, ⟨_, ho, rfl⟩, call_meets F.slot_tuple_mul ⟨_, ho, rfl⟩ F.entry_tuple_mul (F.args_tuple_mul_2 _ _) (tuple_mulZ l its.toArray n dd sl k t c0 c1 (by rw [decide_eq_true c2]; rfl)) ⟨ho, ?_⟩⟩)
        have hk : k = 0 := by omega
        subst hk
        refine ⟨.ref s.heap.objs.size, _, I.laid (t' := s.toks) (o := .tup []) (fun b ob q => Heap.get?_push_of_some _ q) (Nat.le_refl _) ?_, rfl, q2 _ (I.hok.fresh (Nat.le_refl _))⟩
        exact ⟨Nat.zero_le _, _, .nil, IsTup.new _ _⟩
      · have hx := q2
        refine op_repT pins s σ H (.ref l) (.int k) (.ref l) (.int k t) Q I rfl ⟨t, rfl⟩ ⟨l, k, xs, rfl, rfl, hT, fun e => ?_, ?_, h1, hz, q2⟩
        · subst e
          have : its = [] := List.length_eq_zero_iff.mp hle
          subst this
          simp at c1
        · have : ¬ k = 1 := fun e => by subst e; simp at c1
          omega
end
end L2
namespace DD
open PySem L2 PyProof.Rows
variable [NMs]
def fRepA : F2 := fun x y st => match x, y with
  | .str z, .int k => if 0 ≤ k ∧ k ≤ 1000 ∧ z.length ≤ 1000 then .ok (.str (repS z k.toNat)) st else .bad
  | .tup ds, .int k => if 0 ≤ k ∧ k ≤ 1000 ∧ ds.length ≤ 1000 then .ok (.tup (List.replicate k.toNat ds).flatten) st else .bad
  | _, _ => .bad
theorem rd_repA {K : PySem.W.Frag} {mg : Str → Option Value} : RD K mg (rRepA K) fRepA := by
  intro ρ ι H st x y v u W σ Q S rx ry p
  unfold fRepA at p
  split at p
  · rename_i z k
    split at p
    · rename_i c
      cases rx; cases ry
      exact .inl ⟨z, k, rfl, rfl, c.1, c.2.1, c.2.2, p.ok S rfl⟩
    · exact p.elim
  · rename_i ds k
    split at p
    · rename_i c
      obtain ⟨a, xs, rfl, h1, r1⟩ := id rx
      cases ry
      have hl := r1.length
      refine .inr ⟨a, k, xs, rfl, rfl, h1.sq, c.1, c.2.1, by rw [← hl]; exact c.2.2, fun hh => ?_, fun q hq => ?_⟩
      · have e : (List.replicate k.toNat ds).flatten = ds := by
          rcases hh with z | z
          · subst z
            have : ds = [] := List.length_eq_zero_iff.mp hl
            rw [this]; simp
          · subst z; simp
        rw [e] at p
        exact p.ok S rx
      · exact new_tup S (r1.rep k.toNat) p q hq
    · exact p.elim
  · exact p.elim
theorem fRepA_str {z : Str} {k : Nat} {st : Sto} (hk : k ≤ 1000) (hz : z.length ≤ 1000) : fRepA (.str z) (.int (k : Int)) st = .ok (.str (repS z k)) st := by
  have h1 : (0 : Int) ≤ k ∧ (k : Int) ≤ 1000 ∧ z.length ≤ 1000 := ⟨by omega, by omega, hz⟩
  simp only [fRepA, h1, and_self, if_true, Int.toNat_natCast]
theorem fRepA_tup {ds : List D} {k : Nat} {st : Sto} (hk : k ≤ 1000) (hz : ds.length ≤ 1000) : fRepA (.tup ds) (.int (k : Int)) st = .ok (.tup (List.replicate k ds).flatten) st := by
  have h1 : (0 : Int) ≤ k ∧ (k : Int) ≤ 1000 ∧ ds.length ≤ 1000 := ⟨by omega, by omega, hz⟩
  simp only [fRepA, h1, and_self, if_true, Int.toNat_natCast]
end DD

/-! ### the text by places -/
namespace DD
open PySem L2 PyProof.Rows
def lamNms : List (Str × Str) := [("long_ticks", "long_ticks.<locals>.<lambda>"), ("long_price", "long_price.<locals>.<lambda>")]
instance nmsI : NMs := ⟨fun K => tabsOf K lamNms⟩
def topS (i : Nat) : Stmt := PySem.Challenge.pw_stretchprices_k15_whole_rests_and_long_r.main.body.getD i (.Pass ⟨0, 0, 0, 0⟩)
abbrev s_law_hand : Stmt := topS 54
abbrev N_law_hand : List Str := ["script", "cells", "cell"]
theorem sc_law_hand : FnScope N_law_hand ["script"] (defScope s_law_hand) := ⟨rfl, rfl, rfl, by decide +kernel, rfl, by decide +kernel, by decide +kernel⟩
abbrev s_law_draw : Stmt := topS 55
abbrev N_law_draw : List Str := ["hand", "many", "cell", "digit", "number"]
theorem sc_law_draw : FnScope N_law_draw ["hand", "many"] (defScope s_law_draw) := ⟨rfl, rfl, rfl, by decide +kernel, rfl, by decide +kernel, by decide +kernel⟩
abbrev s_law_rows : Stmt := topS 56
abbrev N_law_rows : List Str := ["hand", "kinds", "many", "found", "left", "turn", "at"]
theorem sc_law_rows : FnScope N_law_rows ["hand", "kinds"] (defScope s_law_rows) := ⟨rfl, rfl, rfl, by decide +kernel, rfl, by decide +kernel, by decide +kernel⟩
abbrev s_law_line : Stmt := topS 57
abbrev N_law_line : List Str := ["hand", "answers", "size", "top", "answer"]
theorem sc_law_line : FnScope N_law_line ["hand", "answers", "size", "top"] (defScope s_law_line) := ⟨rfl, rfl, rfl, by decide +kernel, rfl, by decide +kernel, by decide +kernel⟩
abbrev s_law_world : Stmt := topS 58
abbrev N_law_world : List Str := ["hand", "kinds", "size", "rows", "answers", "many", "top", "moves", "at", "row"]
theorem sc_law_world : FnScope N_law_world ["hand", "kinds", "size"] (defScope s_law_world) := ⟨rfl, rfl, rfl, by decide +kernel, rfl, by decide +kernel, by decide +kernel⟩
abbrev s_is_code : Stmt := topS 18
abbrev N_is_code : List Str := ["thing", "rows", "row"]
theorem sc_is_code : FnScope N_is_code ["thing", "rows"] (defScope s_is_code) := ⟨rfl, rfl, rfl, by decide +kernel, rfl, by decide +kernel, by decide +kernel⟩
abbrev s_is_letters : Stmt := topS 14
abbrev N_is_letters : List Str := ["thing", "letters", "at"]
theorem sc_is_letters : FnScope N_is_letters ["thing", "letters"] (defScope s_is_letters) := ⟨rfl, rfl, rfl, by decide +kernel, rfl, by decide +kernel, by decide +kernel⟩
abbrev s_is_rows : Stmt := topS 15
abbrev N_is_rows : List Str := ["thing"]
theorem sc_is_rows : FnScope N_is_rows ["thing"] (defScope s_is_rows) := ⟨rfl, rfl, rfl, by decide +kernel, rfl, by decide +kernel, by decide +kernel⟩
abbrev s_is_integer : Stmt := topS 11
abbrev N_is_integer : List Str := ["thing"]
theorem sc_is_integer : FnScope N_is_integer ["thing"] (defScope s_is_integer) := ⟨rfl, rfl, rfl, by decide +kernel, rfl, by decide +kernel, by decide +kernel⟩
abbrev s_is_between : Stmt := topS 12
abbrev N_is_between : List Str := ["thing", "least", "most"]
theorem sc_is_between : FnScope N_is_between ["thing", "least", "most"] (defScope s_is_between) := ⟨rfl, rfl, rfl, by decide +kernel, rfl, by decide +kernel, by decide +kernel⟩
abbrev s_is_answers : Stmt := topS 16
abbrev N_is_answers : List Str := ["thing"]
theorem sc_is_answers : FnScope N_is_answers ["thing"] (defScope s_is_answers) := ⟨rfl, rfl, rfl, by decide +kernel, rfl, by decide +kernel, by decide +kernel⟩
abbrev s_is_tuple : Stmt := topS 13
abbrev N_is_tuple : List Str := ["thing", "many"]
theorem sc_is_tuple : FnScope N_is_tuple ["thing", "many"] (defScope s_is_tuple) := ⟨rfl, rfl, rfl, by decide +kernel, rfl, by decide +kernel, by decide +kernel⟩
abbrev s_is_move : Stmt := topS 25
abbrev N_is_move : List Str := ["pair", "size"]
theorem sc_is_move : FnScope N_is_move ["pair", "size"] (defScope s_is_move) := ⟨rfl, rfl, rfl, by decide +kernel, rfl, by decide +kernel, by decide +kernel⟩
abbrev s_are_pairs : Stmt := topS 24
abbrev N_are_pairs : List Str := ["pairs", "answers", "size", "pair"]
theorem sc_are_pairs : FnScope N_are_pairs ["pairs", "answers", "size"] (defScope s_are_pairs) := ⟨rfl, rfl, rfl, by decide +kernel, rfl, by decide +kernel, by decide +kernel⟩
abbrev s_is_item : Stmt := topS 23
abbrev N_is_item : List Str := ["item", "rows", "answers", "size", "pairs"]
theorem sc_is_item : FnScope N_is_item ["item", "rows", "answers", "size"] (defScope s_is_item) := ⟨rfl, rfl, rfl, by decide +kernel, rfl, by decide +kernel, by decide +kernel⟩
abbrev s_are_moves : Stmt := topS 22
abbrev N_are_moves : List Str := ["moves", "rows", "answers", "item"]
theorem sc_are_moves : FnScope N_are_moves ["moves", "rows", "answers"] (defScope s_are_moves) := ⟨rfl, rfl, rfl, by decide +kernel, rfl, by decide +kernel, by decide +kernel⟩
abbrev s_Machine_init : Stmt := inClass (topS 21) 0
abbrev N_Machine_init : List Str := ["self", "rows", "answers", "moves"]
theorem sc_Machine_init : FnScope N_Machine_init ["self", "rows", "answers", "moves"] (defScope s_Machine_init) := ⟨rfl, rfl, rfl, by decide +kernel, rfl, by decide +kernel, by decide +kernel⟩
abbrev s_is_width : Stmt := topS 17
abbrev N_is_width : List Str := ["thing"]
theorem sc_is_width : FnScope N_is_width ["thing"] (defScope s_is_width) := ⟨rfl, rfl, rfl, by decide +kernel, rfl, by decide +kernel, by decide +kernel⟩
abbrev s_is_fraction : Stmt := topS 30
abbrev N_is_fraction : List Str := ["thing"]
theorem sc_is_fraction : FnScope N_is_fraction ["thing"] (defScope s_is_fraction) := ⟨rfl, rfl, rfl, by decide +kernel, rfl, by decide +kernel, by decide +kernel⟩
abbrev s_is_table : Stmt := topS 35
abbrev N_is_table : List Str := ["table", "names", "name"]
theorem sc_is_table : FnScope N_is_table ["table", "names"] (defScope s_is_table) := ⟨rfl, rfl, rfl, by decide +kernel, rfl, by decide +kernel, by decide +kernel⟩
abbrev s_stretches_over : Stmt := topS 36
abbrev N_stretches_over : List Str := ["rows", "width", "codes", "found", "_", "code", "row"]
theorem sc_stretches_over : FnScope N_stretches_over ["rows", "width"] (defScope s_stretches_over) := ⟨rfl, rfl, rfl, by decide +kernel, rfl, by decide +kernel, by decide +kernel⟩
abbrev s_Prices_init : Stmt := inClass (topS 34) 0
abbrev N_Prices_init : List Str := ["self", "rows", "width", "table"]
theorem sc_Prices_init : FnScope N_Prices_init ["self", "rows", "width", "table"] (defScope s_Prices_init) := ⟨rfl, rfl, rfl, by decide +kernel, rfl, by decide +kernel, by decide +kernel⟩
abbrev s_law_names : Stmt := topS 65
abbrev N_law_names : List Str := ["rows", "width", "found", "codes", "many", "longer", "code", "row"]
theorem sc_law_names : FnScope N_law_names ["rows", "width"] (defScope s_law_names) := ⟨rfl, rfl, rfl, by decide +kernel, rfl, by decide +kernel, by decide +kernel⟩
abbrev s_law_made : Stmt := topS 61
abbrev N_law_made : List Str := ["top", "bottom", "one", "other", "left"]
theorem sc_law_made : FnScope N_law_made ["top", "bottom"] (defScope s_law_made) := ⟨rfl, rfl, rfl, by decide +kernel, rfl, by decide +kernel, by decide +kernel⟩
abbrev s_law_fraction : Stmt := topS 64
abbrev N_law_fraction : List Str := ["hand", "bottom"]
theorem sc_law_fraction : FnScope N_law_fraction ["hand"] (defScope s_law_fraction) := ⟨rfl, rfl, rfl, by decide +kernel, rfl, by decide +kernel, by decide +kernel⟩
abbrev s_law_table : Stmt := topS 66
abbrev N_law_table : List Str := ["hand", "rows", "width", "table", "name"]
theorem sc_law_table : FnScope N_law_table ["hand", "rows", "width"] (defScope s_law_table) := ⟨rfl, rfl, rfl, by decide +kernel, rfl, by decide +kernel, by decide +kernel⟩
abbrev s_law_run : Stmt := topS 59
abbrev N_law_run : List Str := ["hand", "rows", "answers", "many", "code", "turn", "row"]
theorem sc_law_run : FnScope N_law_run ["hand", "rows", "answers", "many"] (defScope s_law_run) := ⟨rfl, rfl, rfl, by decide +kernel, rfl, by decide +kernel, by decide +kernel⟩
abbrev s_check_code : Stmt := topS 43
abbrev N_check_code : List Str := ["thing", "rows"]
theorem sc_check_code : FnScope N_check_code ["thing", "rows"] (defScope s_check_code) := ⟨rfl, rfl, rfl, by decide +kernel, rfl, by decide +kernel, by decide +kernel⟩
abbrev s_Prices_table : Stmt := inClass (topS 34) 1
abbrev N_Prices_table : List Str := ["self"]
theorem sc_Prices_table : FnScope N_Prices_table ["self"] (defScope s_Prices_table) := ⟨rfl, rfl, rfl, by decide +kernel, rfl, by decide +kernel, by decide +kernel⟩
abbrev s_shared_bottom : Stmt := topS 39
abbrev N_shared_bottom : List Str := ["prices", "table", "bottom", "stretch", "tops"]
theorem sc_shared_bottom : FnScope N_shared_bottom ["prices"] (defScope s_shared_bottom) := ⟨rfl, rfl, rfl, by decide +kernel, rfl, by decide +kernel, by decide +kernel⟩
abbrev s_tail_behind : Stmt := topS 42
abbrev N_tail_behind : List Str := ["stretch", "width"]
theorem sc_tail_behind : FnScope N_tail_behind ["stretch", "width"] (defScope s_tail_behind) := ⟨rfl, rfl, rfl, by decide +kernel, rfl, by decide +kernel, by decide +kernel⟩
abbrev s_charged : Stmt := topS 40
abbrev N_charged : List Str := ["tops", "width", "tail", "code", "total", "row"]
theorem sc_charged : FnScope N_charged ["tops", "width", "tail", "code"] (defScope s_charged) := ⟨rfl, rfl, rfl, by decide +kernel, rfl, by decide +kernel, by decide +kernel⟩
abbrev s_first_tail : Stmt := topS 41
abbrev N_first_tail : List Str := ["width"]
theorem sc_first_tail : FnScope N_first_tail ["width"] (defScope s_first_tail) := ⟨rfl, rfl, rfl, by decide +kernel, rfl, by decide +kernel, by decide +kernel⟩
abbrev s_lowest : Stmt := topS 31
abbrev N_lowest : List Str := ["top", "bottom", "common"]
theorem sc_lowest : FnScope N_lowest ["top", "bottom"] (defScope s_lowest) := ⟨rfl, rfl, rfl, by decide +kernel, rfl, by decide +kernel, by decide +kernel⟩
abbrev s_cost : Stmt := topS 38
abbrev N_cost : List Str := ["prices", "code", "tops", "bottom", "total", "_"]
theorem sc_cost : FnScope N_cost ["prices", "code"] (defScope s_cost) := ⟨rfl, rfl, rfl, by decide +kernel, rfl, by decide +kernel, by decide +kernel⟩
abbrev s_price : Stmt := topS 37
abbrev N_price : List Str := ["prices", "code"]
theorem sc_price : FnScope N_price ["prices", "code"] (defScope s_price) := ⟨rfl, rfl, rfl, by decide +kernel, rfl, by decide +kernel, by decide +kernel⟩
abbrev s_check_same_rows : Stmt := topS 46
abbrev N_check_same_rows : List Str := ["machine", "prices"]
theorem sc_check_same_rows : FnScope N_check_same_rows ["machine", "prices"] (defScope s_check_same_rows) := ⟨rfl, rfl, rfl, by decide +kernel, rfl, by decide +kernel, by decide +kernel⟩
abbrev s_is_run : Stmt := topS 19
abbrev N_is_run : List Str := ["thing", "rows", "answers", "code", "told", "answer"]
theorem sc_is_run : FnScope N_is_run ["thing", "rows", "answers"] (defScope s_is_run) := ⟨rfl, rfl, rfl, by decide +kernel, rfl, by decide +kernel, by decide +kernel⟩
abbrev s_check_run : Stmt := topS 27
abbrev N_check_run : List Str := ["machine", "run"]
theorem sc_check_run : FnScope N_check_run ["machine", "run"] (defScope s_check_run) := ⟨rfl, rfl, rfl, by decide +kernel, rfl, by decide +kernel, by decide +kernel⟩
abbrev s_minus : Stmt := topS 32
abbrev N_minus : List Str := ["one", "other"]
theorem sc_minus : FnScope N_minus ["one", "other"] (defScope s_minus) := ⟨rfl, rfl, rfl, by decide +kernel, rfl, by decide +kernel, by decide +kernel⟩
abbrev s_walked : Stmt := topS 26
abbrev N_walked : List Str := ["machine", "start", "run", "code", "told", "total", "here", "row", "answer", "spent"]
theorem sc_walked : FnScope N_walked ["machine", "start", "run"] (defScope s_walked) := ⟨rfl, rfl, rfl, by decide +kernel, rfl, by decide +kernel, by decide +kernel⟩
abbrev s_rest : Stmt := topS 45
abbrev N_rest : List Str := ["machine", "prices", "run"]
theorem sc_rest : FnScope N_rest ["machine", "prices", "run"] (defScope s_rest) := ⟨rfl, rfl, rfl, by decide +kernel, rfl, by decide +kernel, by decide +kernel⟩
abbrev s_law_common : Stmt := topS 63
abbrev N_law_common : List Str := ["one", "other", "left"]
theorem sc_law_common : FnScope N_law_common ["one", "other"] (defScope s_law_common) := ⟨rfl, rfl, rfl, by decide +kernel, rfl, by decide +kernel, by decide +kernel⟩
abbrev s_law_sum : Stmt := topS 62
abbrev N_law_sum : List Str := ["fractions", "bottom", "fraction"]
theorem sc_law_sum : FnScope N_law_sum ["fractions"] (defScope s_law_sum) := ⟨rfl, rfl, rfl, by decide +kernel, rfl, by decide +kernel, by decide +kernel⟩
abbrev s_ticks : Stmt := topS 28
abbrev N_ticks : List Str := ["machine", "run"]
theorem sc_ticks : FnScope N_ticks ["machine", "run"] (defScope s_ticks) := ⟨rfl, rfl, rfl, by decide +kernel, rfl, by decide +kernel, by decide +kernel⟩
abbrev s_law_written : Stmt := topS 67
abbrev N_law_written : List Str := ["long", "code", "told", "run", "times"]
theorem sc_law_written : FnScope N_law_written ["long"] (defScope s_law_written) := ⟨rfl, rfl, rfl, by decide +kernel, rfl, by decide +kernel, by decide +kernel⟩
abbrev s_is_turn : Stmt := topS 50
abbrev N_is_turn : List Str := ["thing", "rows", "answers"]
theorem sc_is_turn : FnScope N_is_turn ["thing", "rows", "answers"] (defScope s_is_turn) := ⟨rfl, rfl, rfl, by decide +kernel, rfl, by decide +kernel, by decide +kernel⟩
abbrev s_check_long : Stmt := topS 49
abbrev N_check_long : List Str := ["thing", "rows", "answers", "turn"]
theorem sc_check_long : FnScope N_check_long ["thing", "rows", "answers"] (defScope s_check_long) := ⟨rfl, rfl, rfl, by decide +kernel, rfl, by decide +kernel, by decide +kernel⟩
abbrev s_repeated : Stmt := topS 52
abbrev N_repeated : List Str := ["run", "times", "here", "once", "begun", "total", "done", "amount", "first", "ahead", "circles", "_"]
theorem sc_repeated : FnScope N_repeated ["run", "times", "here", "once"] (defScope s_repeated) := ⟨rfl, rfl, rfl, by decide +kernel, rfl, by decide +kernel, by decide +kernel⟩
abbrev s_summed : Stmt := topS 51
abbrev N_summed : List Str := ["long", "here", "once", "total", "run", "times", "amount"]
theorem sc_summed : FnScope N_summed ["long", "here", "once"] (defScope s_summed) := ⟨rfl, rfl, rfl, by decide +kernel, rfl, by decide +kernel, by decide +kernel⟩
abbrev s_long_ticks : Stmt := topS 47
abbrev N_long_ticks : List Str := ["machine", "long"]
theorem sc_long_ticks : FnScope N_long_ticks ["machine", "long"] (defScope s_long_ticks) := ⟨rfl, rfl, rfl, by decide +kernel, rfl, by decide +kernel, by decide +kernel⟩
abbrev s_long_price : Stmt := topS 48
abbrev N_long_price : List Str := ["prices", "long", "width", "tops", "bottom"]
theorem sc_long_price : FnScope N_long_price ["prices", "long"] (defScope s_long_price) := ⟨rfl, rfl, rfl, by decide +kernel, rfl, by decide +kernel, by decide +kernel⟩
abbrev s_law_led : Stmt := topS 60
abbrev N_law_led : List Str := ["world", "at", "run", "total", "row", "answer", "taken"]
theorem sc_law_led : FnScope N_law_led ["world", "at", "run"] (defScope s_law_led) := ⟨rfl, rfl, rfl, by decide +kernel, rfl, by decide +kernel, by decide +kernel⟩
abbrev s_law_map : Stmt := topS 68
abbrev N_law_map : List Str := ["world", "run", "at"]
theorem sc_law_map : FnScope N_law_map ["world", "run"] (defScope s_law_map) := ⟨rfl, rfl, rfl, by decide +kernel, rfl, by decide +kernel, by decide +kernel⟩
abbrev s_law_behind : Stmt := topS 69
abbrev N_law_behind : List Str := ["one", "other", "pair"]
theorem sc_law_behind : FnScope N_law_behind ["one", "other"] (defScope s_law_behind) := ⟨rfl, rfl, rfl, by decide +kernel, rfl, by decide +kernel, by decide +kernel⟩
abbrev s_law_many : Stmt := topS 70
abbrev N_law_many : List Str := ["world", "run", "times", "found", "part", "at"]
theorem sc_law_many : FnScope N_law_many ["world", "run", "times"] (defScope s_law_many) := ⟨rfl, rfl, rfl, by decide +kernel, rfl, by decide +kernel, by decide +kernel⟩
abbrev s_law_great_price : Stmt := topS 71
abbrev N_law_great_price : List Str := ["prices", "run", "times", "few", "grown", "many"]
theorem sc_law_great_price : FnScope N_law_great_price ["prices", "run", "times"] (defScope s_law_great_price) := ⟨rfl, rfl, rfl, by decide +kernel, rfl, by decide +kernel, by decide +kernel⟩
abbrev s_law_word : Stmt := topS 72
abbrev N_law_word : List Str := ["machine", "prices", "run", "word"]
theorem sc_law_word : FnScope N_law_word ["machine", "prices", "run"] (defScope s_law_word) := ⟨rfl, rfl, rfl, by decide +kernel, rfl, by decide +kernel, by decide +kernel⟩
abbrev s_law : Stmt := topS 73
abbrev N_law : List Str := ["script", "hand", "world", "rows", "answers", "moves", "machine", "width", "prices", "run", "cost_v", "long", "many", "part", "times", "whole", "piece", "behind", "far", "other", "bad", "letter"]
theorem sc_law : FnScope N_law ["script"] (defScope s_law) := ⟨rfl, rfl, rfl, by decide +kernel, rfl, by decide +kernel, by decide +kernel⟩
def lw_la_long_ticks_0 : LW := lamW "long_ticks.<locals>.<lambda>" ["machine"] s_long_ticks (callArg 2 (stE noE ((defBody s_long_ticks).getD 1 s_long_ticks)))
abbrev N_la_long_ticks_0 : List Str := ["here", "run", "machine"]
theorem sc_la_long_ticks_0 : NdefX.NScope N_la_long_ticks_0 ["here", "run"] lw_la_long_ticks_0.fr lw_la_long_ticks_0.scope := NdefX.nscope_by (by decide +kernel)
def lw_la_long_price_0 : LW := lamW "long_price.<locals>.<lambda>" ["tops", "width"] s_long_price (callArg 2 (callArg 0 (stE noE ((defBody s_long_price).getD 3 s_long_price))))
abbrev N_la_long_price_0 : List Str := ["tail", "run", "tops", "width"]
theorem sc_la_long_price_0 : NdefX.NScope N_la_long_price_0 ["tail", "run"] lw_la_long_price_0.fr lw_la_long_price_0.scope := NdefX.nscope_by (by decide +kernel)
abbrev s_BadMachine_init : Stmt := inClass (topS 3) 0
abbrev N_BadMachine_init : List Str := ["self", "part"]
theorem sc_BadMachine_init : FnScope N_BadMachine_init ["self", "part"] (defScope s_BadMachine_init) := ⟨rfl, rfl, rfl, by decide +kernel, rfl, by decide +kernel, by decide +kernel⟩
abbrev s_BadPrices_init : Stmt := inClass (topS 7) 0
abbrev N_BadPrices_init : List Str := ["self", "part"]
theorem sc_BadPrices_init : FnScope N_BadPrices_init ["self", "part"] (defScope s_BadPrices_init) := ⟨rfl, rfl, rfl, by decide +kernel, rfl, by decide +kernel, by decide +kernel⟩
def fldC__table : List Str := ["Prices"]
def fldC_answers : List Str := ["Machine"]
def fldC_moves : List Str := ["Machine"]
def fldC_rows : List Str := ["Machine", "Prices"]
def fldC_size : List Str := ["Machine"]
def fldC_width : List Str := ["Prices"]
def subL : List ((Str × Str) × Bool) := [(("BadMachine", "NoRun"), false), (("BadMachine", "OtherRows"), false), (("BadPrices", "NoRun"), false), (("BadPrices", "OtherRows"), false), (("NoCode", "NoRun"), false), (("NoCode", "OtherRows"), false), (("NoLong", "NoRun"), false), (("NoLong", "OtherRows"), false), (("NoRun", "NoRun"), true), (("NoRun", "OtherRows"), false), (("OtherRows", "NoRun"), false), (("OtherRows", "OtherRows"), true)]
def subT : Str → Str → Option Bool := fun x c => subL.lookup (x, c)
/-! ### what each def is -/
noncomputable def d_law_hand : DS := (dSeq (dSet 1 (dFz (dLc (dItems (dSl (dVar 0) dNoPart (dPart (dC (.int 63))))) (gdName 2) dYes (dCall fAbs (dCons (dCall fInt (dCons (dVar 2) dNil)) dNil)) [2])))
    (dRet (dNew (dLst (dCons (dVar 1) (dCons (dC (.int 0)) (dCons (dC (.int 0)) (dCons (dBin fAdd (dC (.int 1)) (dCall fLen (dCons (dVar 1) dNil))) (dCons (dC (.int 0)) dNil)))))))))
theorem x_law_hand : ∃ m : M, m = mOf d_law_hand 3 := ⟨_, rfl⟩
noncomputable def m_law_hand : M := x_law_hand.choose
theorem m_law_hand_e : m_law_hand = mOf d_law_hand 3 := x_law_hand.choose_spec
noncomputable def d_law_draw : DS := (dSeq (dIfS (dAnd (dTst (dBin (fEq false) (dBin fIx (dVar 0) (dC (.int 2))) (dC (.int 0)))) (dTst (dBin fLtS (dBin fIx (dVar 0) (dC (.int 1))) (dCall fLen (dCons (dBin fIx (dVar 0) (dC (.int 0))) dNil))))) (dSeq (dSet 2 (dBin fIx (dBin fIx (dVar 0) (dC (.int 0))) (dBin fIx (dVar 0) (dC (.int 1)))))
    (dSeq (dSetItem (dBin fAdd (dBin fIx (dVar 0) (dC (.int 1))) (dC (.int 1))) (dVar 0) (dC (.int 1)))
    (dSeq (dSetItem (dBin fMod (dCall fInt (dCons (dBin fAdd (dBin fAdd (dBin fMul (dBin fIx (dVar 0) (dC (.int 3))) (dC (.int 69621))) (dVar 2)) (dC (.int 11))) dNil)) (dC (.int 2147483629))) (dVar 0) (dC (.int 3)))
    (dIfS (dTst (dBin fGe (dVar 2) (dBin fPow (dC (.int 10)) (dC (.int 18))))) (dSetItem (dVar 2) (dVar 0) (dC (.int 2))) dNext)))) dNext)
    (dSeq (dIfS (dTst (dBin fGt (dBin fIx (dVar 0) (dC (.int 2))) (dC (.int 0)))) (dSeq (dSet 3 (dBin fMod (dCall fInt (dCons (dBin fIx (dVar 0) (dC (.int 2))) dNil)) (dVar 1)))
    (dSeq (dSetItem (dBin fDiv (dBin fIx (dVar 0) (dC (.int 2))) (dVar 1)) (dVar 0) (dC (.int 2)))
    (dRet (dVar 3)))) dNext)
    (dSeq (dSetItem (dBin fAdd (dBin fIx (dVar 0) (dC (.int 4))) (dC (.int 1))) (dVar 0) (dC (.int 4)))
    (dSeq (dSet 4 (dBin fMod (dCall fInt (dCons (dBin fMul (dCall fInt (dCons (dBin fAdd (dBin fIx (dVar 0) (dC (.int 3))) (dBin fMul (dC (.int 7919)) (dBin fIx (dVar 0) (dC (.int 4))))) dNil)) (dC (.int 48271))) dNil)) (dC (.int 2147483647))))
    (dSeq (dSet 4 (dBin fMod (dCall fInt (dCons (dBin fMul (dVar 4) (dBin fAdd (dBin fDiv (dVar 4) (dC (.int 1009))) (dC (.int 69621)))) dNil)) (dC (.int 2147483647))))
    (dSeq (dSet 4 (dBin fMod (dCall fInt (dCons (dBin fMul (dVar 4) (dBin fAdd (dBin fDiv (dVar 4) (dC (.int 2003))) (dC (.int 40692)))) dNil)) (dC (.int 2147483399))))
    (dRet (dBin fMod (dCall fInt (dCons (dBin fDiv (dVar 4) (dC (.int 16))) dNil)) (dVar 1)))))))))
theorem x_law_draw : ∃ m : M, m = mOf d_law_draw 5 := ⟨_, rfl⟩
noncomputable def m_law_draw : M := x_law_draw.choose
theorem m_law_draw_e : m_law_draw = mOf d_law_draw 5 := x_law_draw.choose_spec
noncomputable def d_law_rows : DS := (dSeq (dSet 2 (dBin fAdd (dC (.int 1)) (dOwn m_law_draw 2 (dCons (dVar 0) (dCons (dVar 1) dNil)))))
    (dSeq (dSet 3 (dC (.str "")))
    (dSeq (dSet 4 (dC (.str "abcdefghijklmnopqrstuvwxyz")))
    (dSeq (dFor (dRange1 (dCons (dVar 2) dNil)) (gdName 5) (dSeq (dSet 6 (dOwn m_law_draw 2 (dCons (dVar 0) (dCons (dBin fSub (dCall fLen (dCons (dVar 4) dNil)) (dBin fSub (dBin fSub (dVar 2) (dVar 5)) (dC (.int 1)))) dNil))))
    (dSeq (dSet 3 (dBin fAdd (dVar 3) (dBin fIx (dVar 4) (dVar 6))))
    (dSet 4 (dSl (dVar 4) (dPart (dBin fAdd (dVar 6) (dC (.int 1)))) dNoPart)))))
    (dRet (dVar 3))))))
theorem x_law_rows : ∃ m : M, m = mOf d_law_rows 7 := ⟨_, rfl⟩
noncomputable def m_law_rows : M := x_law_rows.choose
theorem m_law_rows_e : m_law_rows = mOf d_law_rows 7 := x_law_rows.choose_spec
noncomputable def d_law_line : DS := (dRet (dCall fTuple (dCons (dFz (dLc (dRange1 (dCons (dVar 1) dNil)) (gdName 4) dYes (dTup (dCons (dBin fAdd (dC (.int 1)) (dOwn m_law_draw 2 (dCons (dVar 0) (dCons (dVar 3) dNil)))) (dCons (dOwn m_law_draw 2 (dCons (dVar 0) (dCons (dVar 2) dNil))) dNil))) [4])) dNil)))
theorem x_law_line : ∃ m : M, m = mOf d_law_line 5 := ⟨_, rfl⟩
noncomputable def m_law_line : M := x_law_line.choose
theorem m_law_line_e : m_law_line = mOf d_law_line 5 := x_law_line.choose_spec
noncomputable def d_law_world : DS := (dSeq (dSet 3 (dOwn m_law_rows 2 (dCons (dVar 0) (dCons (dVar 1) dNil))))
    (dSeq (dSet 4 (dBin fIx (dFz (dLst (dCons (dC (.int 1)) (dCons (dC (.int 1)) (dCons (dC (.int 2)) (dCons (dC (.int 2)) (dCons (dC (.int 3)) dNil))))))) (dOwn m_law_draw 2 (dCons (dVar 0) (dCons (dC (.int 5)) dNil)))))
    (dSeq (dSet 5 (dBin fAdd (dC (.int 1)) (dOwn m_law_draw 2 (dCons (dVar 0) (dCons (dVar 2) dNil)))))
    (dSeq (dSet 6 (dBin fIx (dFz (dLst (dCons (dC (.int 1)) (dCons (dC (.int 2)) (dCons (dC (.int 3)) (dCons (dC (.int 9)) (dCons (dC (.int 99)) dNil))))))) (dOwn m_law_draw 2 (dCons (dVar 0) (dCons (dC (.int 5)) dNil)))))
    (dSeq (dSet 7 (dNew (dLst dNil)))
    (dSeq (dFor (dRange1 (dCons (dVar 5) dNil)) (gdName 8) (dExpr (dMeth isLst fAppend (dVar 7) (dCons (dCall fTuple (dCons (dFz (dLc (dSigns (dVar 3)) (gdName 9) dYes (dOwn m_law_line 4 (dCons (dVar 0) (dCons (dVar 4) (dCons (dVar 5) (dCons (dVar 6) dNil))))) [9])) dNil)) dNil))))
    (dRet (dTup (dCons (dVar 3) (dCons (dVar 4) (dCons (dCall fTuple (dCons (dVar 7) dNil)) dNil)))))))))))
theorem x_law_world : ∃ m : M, m = mOf d_law_world 10 := ⟨_, rfl⟩
noncomputable def m_law_world : M := x_law_world.choose
theorem m_law_world_e : m_law_world = mOf d_law_world 10 := x_law_world.choose_spec
noncomputable def d_is_code : DS := (dRet (dAndV (dCall fIsi (dCons (dVar 0) (dCons (dC (.ty "str")) dNil))) (dCall fAll (dCons (dFz (dLc (dSigns (dVar 0)) (gdName 2) dYes (dBin (fIn false) (dVar 2) (dVar 1)) [2])) dNil))))
theorem x_is_code : ∃ m : M, m = mOf d_is_code 3 := ⟨_, rfl⟩
noncomputable def m_is_code : M := x_is_code.choose
theorem m_is_code_e : m_is_code = mOf d_is_code 3 := x_is_code.choose_spec
noncomputable def d_is_letters : DS := (dSeq (dIfS (dOr (dNot (dTru (dOwn m_is_code 2 (dCons (dVar 0) (dCons (dVar 1) dNil))))) (dTst (dBin (fEq false) (dVar 0) (dC (.str ""))))) (dRet (dC (.bl false))) dNext)
    (dRet (dCall fAll (dCons (dFz (dLc (dRange1 (dCons (dBin fSub (dCall fLen (dCons (dVar 0) dNil)) (dC (.int 1))) dNil)) (gdName 2) dYes (dBin fLtS (dBin fIx (dVar 0) (dVar 2)) (dBin fIx (dVar 0) (dBin fAdd (dVar 2) (dC (.int 1))))) [2])) dNil))))
theorem x_is_letters : ∃ m : M, m = mOf d_is_letters 3 := ⟨_, rfl⟩
noncomputable def m_is_letters : M := x_is_letters.choose
theorem m_is_letters_e : m_is_letters = mOf d_is_letters 3 := x_is_letters.choose_spec
noncomputable def d_is_rows : DS := (dRet (dAndV (dOwn m_is_letters 2 (dCons (dVar 0) (dCons (dC (.str "abcdefghijklmnopqrstuvwxyz")) dNil))) (dBin fLe (dCall fLen (dCons (dVar 0) dNil)) (dC (.int 4)))))
theorem x_is_rows : ∃ m : M, m = mOf d_is_rows 1 := ⟨_, rfl⟩
noncomputable def m_is_rows : M := x_is_rows.choose
theorem m_is_rows_e : m_is_rows = mOf d_is_rows 1 := x_is_rows.choose_spec
noncomputable def d_is_integer : DS := (dRet (dAndV (dCall fIsi (dCons (dVar 0) (dCons (dC (.ty "int")) dNil))) (dNotV (dCall fIsi (dCons (dVar 0) (dCons (dC (.ty "bool")) dNil))))))
theorem x_is_integer : ∃ m : M, m = mOf d_is_integer 1 := ⟨_, rfl⟩
noncomputable def m_is_integer : M := x_is_integer.choose
theorem m_is_integer_e : m_is_integer = mOf d_is_integer 1 := x_is_integer.choose_spec
noncomputable def d_is_between : DS := (dRet (dAndV (dOwn m_is_integer 1 (dCons (dVar 0) dNil)) (dChain fLe fLe (dVar 1) (dVar 0) (dVar 2))))
theorem x_is_between : ∃ m : M, m = mOf d_is_between 3 := ⟨_, rfl⟩
noncomputable def m_is_between : M := x_is_between.choose
theorem m_is_between_e : m_is_between = mOf d_is_between 3 := x_is_between.choose_spec
noncomputable def d_is_answers : DS := (dRet (dOwn m_is_between 3 (dCons (dVar 0) (dCons (dC (.int 1)) (dCons (dC (.int 3)) dNil)))))
theorem x_is_answers : ∃ m : M, m = mOf d_is_answers 1 := ⟨_, rfl⟩
noncomputable def m_is_answers : M := x_is_answers.choose
theorem m_is_answers_e : m_is_answers = mOf d_is_answers 1 := x_is_answers.choose_spec
noncomputable def d_is_tuple : DS := (dRet (dAndV (dCall fIsi (dCons (dVar 0) (dCons (dC (.ty "tuple")) dNil))) (dBin (fEq false) (dCall fLen (dCons (dVar 0) dNil)) (dVar 1))))
theorem x_is_tuple : ∃ m : M, m = mOf d_is_tuple 2 := ⟨_, rfl⟩
noncomputable def m_is_tuple : M := x_is_tuple.choose
theorem m_is_tuple_e : m_is_tuple = mOf d_is_tuple 2 := x_is_tuple.choose_spec
noncomputable def d_is_move : DS := (dRet (dAndV (dOwn m_is_tuple 2 (dCons (dVar 0) (dCons (dC (.int 2)) dNil))) (dAndV (dOwn m_is_between 3 (dCons (dBin fIx (dVar 0) (dC (.int 0))) (dCons (dC (.int 1)) (dCons (dC (.int 99)) dNil)))) (dOwn m_is_between 3 (dCons (dBin fIx (dVar 0) (dC (.int 1))) (dCons (dC (.int 0)) (dCons (dBin fSub (dVar 1) (dC (.int 1))) dNil)))))))
theorem x_is_move : ∃ m : M, m = mOf d_is_move 2 := ⟨_, rfl⟩
noncomputable def m_is_move : M := x_is_move.choose
theorem m_is_move_e : m_is_move = mOf d_is_move 2 := x_is_move.choose_spec
noncomputable def d_are_pairs : DS := (dRet (dAndV (dOwn m_is_tuple 2 (dCons (dVar 0) (dCons (dVar 1) dNil))) (dCall fAll (dCons (dFz (dLc (dItemsT (dVar 0)) (gdName 3) dYes (dOwn m_is_move 2 (dCons (dVar 3) (dCons (dVar 2) dNil))) [3])) dNil))))
theorem x_are_pairs : ∃ m : M, m = mOf d_are_pairs 4 := ⟨_, rfl⟩
noncomputable def m_are_pairs : M := x_are_pairs.choose
theorem m_are_pairs_e : m_are_pairs = mOf d_are_pairs 4 := x_are_pairs.choose_spec
noncomputable def d_is_item : DS := (dRet (dAndV (dOwn m_is_tuple 2 (dCons (dVar 0) (dCons (dVar 1) dNil))) (dCall fAll (dCons (dFz (dLc (dItemsT (dVar 0)) (gdName 4) dYes (dOwn m_are_pairs 3 (dCons (dVar 4) (dCons (dVar 2) (dCons (dVar 3) dNil)))) [4])) dNil))))
theorem x_is_item : ∃ m : M, m = mOf d_is_item 5 := ⟨_, rfl⟩
noncomputable def m_is_item : M := x_is_item.choose
theorem m_is_item_e : m_is_item = mOf d_is_item 5 := x_is_item.choose_spec
noncomputable def d_are_moves : DS := (dSeq (dIfS (dOr (dNot (dTru (dCall fIsi (dCons (dVar 0) (dCons (dC (.ty "tuple")) dNil))))) (dNot (dTst (dChain fLe fLe (dC (.int 1)) (dCall fLen (dCons (dVar 0) dNil)) (dC (.int 12)))))) (dRet (dC (.bl false))) dNext)
    (dRet (dCall fAll (dCons (dFz (dLc (dItemsT (dVar 0)) (gdName 3) dYes (dOwn m_is_item 4 (dCons (dVar 3) (dCons (dCall fLen (dCons (dVar 1) dNil)) (dCons (dVar 2) (dCons (dCall fLen (dCons (dVar 0) dNil)) dNil))))) [3])) dNil))))
theorem x_are_moves : ∃ m : M, m = mOf d_are_moves 4 := ⟨_, rfl⟩
noncomputable def m_are_moves : M := x_are_moves.choose
theorem m_are_moves_e : m_are_moves = mOf d_are_moves 4 := x_are_moves.choose_spec
noncomputable def d_Machine_init : DS := (dSeq (dIfS (dNot (dTru (dOwn m_is_rows 1 (dCons (dVar 1) dNil)))) (dRaiseX "BadMachine" "part" (dC (.str "rows"))) dNext)
    (dSeq (dIfS (dNot (dTru (dOwn m_is_answers 1 (dCons (dVar 2) dNil)))) (dRaiseX "BadMachine" "part" (dC (.str "answers"))) dNext)
    (dSeq (dIfS (dNot (dTru (dOwn m_are_moves 3 (dCons (dVar 3) (dCons (dVar 1) (dCons (dVar 2) dNil)))))) (dRaiseX "BadMachine" "part" (dC (.str "moves"))) dNext)
    (dSeq (dSetFld fldC_rows "rows" (dVar 1) (dVar 0))
    (dSeq (dSetFld fldC_answers "answers" (dVar 2) (dVar 0))
    (dSeq (dSetFld fldC_moves "moves" (dVar 3) (dVar 0))
    (dSetFld fldC_size "size" (dCall fLen (dCons (dVar 3) dNil)) (dVar 0))))))))
theorem x_Machine_init : ∃ m : M, m = mOf d_Machine_init 4 := ⟨_, rfl⟩
noncomputable def m_Machine_init : M := x_Machine_init.choose
theorem m_Machine_init_e : m_Machine_init = mOf d_Machine_init 4 := x_Machine_init.choose_spec
noncomputable def d_is_width : DS := (dRet (dOwn m_is_between 3 (dCons (dVar 0) (dCons (dC (.int 1)) (dCons (dC (.int 3)) dNil)))))
theorem x_is_width : ∃ m : M, m = mOf d_is_width 1 := ⟨_, rfl⟩
noncomputable def m_is_width : M := x_is_width.choose
theorem m_is_width_e : m_is_width = mOf d_is_width 1 := x_is_width.choose_spec
noncomputable def d_is_fraction : DS := (dSeq (dIfS (dOr (dNot (dTru (dOwn m_is_tuple 2 (dCons (dVar 0) (dCons (dC (.int 2)) dNil))))) (dOr (dNot (dTru (dOwn m_is_integer 1 (dCons (dBin fIx (dVar 0) (dC (.int 0))) dNil)))) (dNot (dTru (dOwn m_is_integer 1 (dCons (dBin fIx (dVar 0) (dC (.int 1))) dNil)))))) (dRet (dC (.bl false))) dNext)
    (dRet (dAndV (dBin fGe (dBin fIx (dVar 0) (dC (.int 1))) (dC (.int 1))) (dBin (fEq false) (dCall fGcd (dCons (dBin fIx (dVar 0) (dC (.int 0))) (dCons (dBin fIx (dVar 0) (dC (.int 1))) dNil))) (dC (.int 1))))))
theorem x_is_fraction : ∃ m : M, m = mOf d_is_fraction 1 := ⟨_, rfl⟩
noncomputable def m_is_fraction : M := x_is_fraction.choose
theorem m_is_fraction_e : m_is_fraction = mOf d_is_fraction 1 := x_is_fraction.choose_spec
noncomputable def d_is_table : DS := (dSeq (dIfS (dOr (dNot (dTru (dCall fIsi (dCons (dVar 0) (dCons (dC (.ty "dict")) dNil))))) (dTst (dBin (fEq true) (dCall fLenD (dCons (dVar 0) dNil)) (dCall fLen (dCons (dVar 1) dNil))))) (dRet (dC (.bl false))) dNext)
    (dRet (dCall fAll (dCons (dFz (dLc (dItems (dVar 1)) (gdName 2) dYes (dAndV (dDHas false (dVar 2) (dVar 0)) (dOwn m_is_fraction 1 (dCons (dDGet (dVar 0) (dVar 2)) dNil))) [2])) dNil))))
theorem x_is_table : ∃ m : M, m = mOf d_is_table 3 := ⟨_, rfl⟩
noncomputable def m_is_table : M := x_is_table.choose
theorem m_is_table_e : m_is_table = mOf d_is_table 3 := x_is_table.choose_spec
noncomputable def d_stretches_over : DS := (dSeq (dSet 2 (dFz (dLst (dCons (dC (.str "")) dNil))))
    (dSeq (dSet 3 (dNew (dLst dNil)))
    (dSeq (dFor (dRange1 (dCons (dBin fSub (dVar 1) (dC (.int 1))) dNil)) (gdName 4) (dSeq (dSet 2 (dFz (dLc2 (dItems (dVar 2)) (gdName 5) dYes (dSigns (dVar 0)) (gdName 6) dYes (dBin fAdd (dVar 5) (dVar 6)) [5, 6] [6])))
    (dExpr (dMeth isLst fExtend (dVar 3) (dCons (dFz (dLc (dItems (dVar 2)) (gdName 5) dYes (dBin fAdd (dC (.str "^")) (dVar 5)) [5])) dNil)))))
    (dSeq (dExpr (dMeth isLst fExtend (dVar 3) (dCons (dFz (dLc2 (dItems (dVar 2)) (gdName 5) dYes (dSigns (dVar 0)) (gdName 6) dYes (dBin fAdd (dVar 5) (dVar 6)) [5, 6] [6])) dNil)))
    (dRet (dFz (dCallL fSorted (dCons (dVar 3) dNil))))))))
theorem x_stretches_over : ∃ m : M, m = mOf d_stretches_over 7 := ⟨_, rfl⟩
noncomputable def m_stretches_over : M := x_stretches_over.choose
theorem m_stretches_over_e : m_stretches_over = mOf d_stretches_over 7 := x_stretches_over.choose_spec
noncomputable def d_Prices_init : DS := (dSeq (dIfS (dNot (dTru (dOwn m_is_rows 1 (dCons (dVar 1) dNil)))) (dRaiseX "BadPrices" "part" (dC (.str "rows"))) dNext)
    (dSeq (dIfS (dNot (dTru (dOwn m_is_width 1 (dCons (dVar 2) dNil)))) (dRaiseX "BadPrices" "part" (dC (.str "width"))) dNext)
    (dSeq (dIfS (dNot (dTru (dOwn m_is_table 2 (dCons (dVar 3) (dCons (dOwn m_stretches_over 2 (dCons (dVar 1) (dCons (dVar 2) dNil))) dNil))))) (dRaiseX "BadPrices" "part" (dC (.str "table"))) dNext)
    (dSeq (dSetFld fldC_rows "rows" (dVar 1) (dVar 0))
    (dSeq (dSetFld fldC_width "width" (dVar 2) (dVar 0))
    (dSetFld fldC__table "_table" (dCall fDictD (dCons (dVar 3) dNil)) (dVar 0)))))))
theorem x_Prices_init : ∃ m : M, m = mOf d_Prices_init 4 := ⟨_, rfl⟩
noncomputable def m_Prices_init : M := x_Prices_init.choose
theorem m_Prices_init_e : m_Prices_init = mOf d_Prices_init 4 := x_Prices_init.choose_spec
noncomputable def d_law_names : DS := (dSeq (dSet 2 (dFz (dLst dNil)))
    (dSeq (dSet 3 (dFz (dLst (dCons (dC (.str "")) dNil))))
    (dSeq (dFor (dRange2 (dCons (dC (.int 1)) (dCons (dBin fAdd (dVar 1) (dC (.int 1))) dNil))) (gdName 4) (dSeq (dSet 5 (dFz (dLst dNil)))
    (dSeq (dFor (dItems (dVar 3)) (gdName 6) (dSet 5 (dBin fAdd (dVar 5) (dFz (dLc (dSigns (dVar 0)) (gdName 7) dYes (dBin fAdd (dVar 6) (dVar 7)) [7])))))
    (dSeq (dSet 3 (dVar 5))
    (dSet 2 (dBin fAdd (dVar 2) (dFz (dLc (dItems (dVar 3)) (gdName 6) dYes (dBin fAdd (dBin fIx (dFz (dLst (dCons (dC (.str "")) (dCons (dC (.str "^")) dNil)))) (dCall fInt (dCons (dBin fLtS (dVar 4) (dVar 1)) dNil))) (dVar 6)) [6]))))))))
    (dRet (dVar 2)))))
theorem x_law_names : ∃ m : M, m = mOf d_law_names 8 := ⟨_, rfl⟩
noncomputable def m_law_names : M := x_law_names.choose
theorem m_law_names_e : m_law_names = mOf d_law_names 8 := x_law_names.choose_spec
noncomputable def d_law_made : DS := (dSeq (dSet 2 (dCall fAbs (dCons (dVar 0) dNil)))
    (dSeq (dSet 3 (dVar 1))
    (dSeq (whileN (dTst (dBin (fEq true) (dVar 3) (dC (.int 0)))) (dSeq (dSet 4 (dBin fMod (dCall fInt (dCons (dVar 2) dNil)) (dVar 3)))
    (dSeq (dSet 2 (dVar 3))
    (dSet 3 (dVar 4)))) fuel)
    (dRet (dTup (dCons (dBin fDivW (dVar 0) (dVar 2)) (dCons (dBin fDivW (dVar 1) (dVar 2)) dNil)))))))
theorem x_law_made : ∃ m : M, m = mOf d_law_made 5 := ⟨_, rfl⟩
noncomputable def m_law_made : M := x_law_made.choose
theorem m_law_made_e : m_law_made = mOf d_law_made 5 := x_law_made.choose_spec
noncomputable def d_law_fraction : DS := (dSeq (dSet 1 (dBin fAdd (dC (.int 1)) (dOwn m_law_draw 2 (dCons (dVar 0) (dCons (dBin fIx (dFz (dLst (dCons (dC (.int 1)) (dCons (dC (.int 2)) (dCons (dC (.int 6)) (dCons (dC (.int 30)) dNil)))))) (dOwn m_law_draw 2 (dCons (dVar 0) (dCons (dC (.int 4)) dNil)))) dNil)))))
    (dRet (dOwn m_law_made 2 (dCons (dBin fSub (dOwn m_law_draw 2 (dCons (dVar 0) (dCons (dC (.int 60)) dNil))) (dOwn m_law_draw 2 (dCons (dVar 0) (dCons (dC (.int 30)) dNil)))) (dCons (dVar 1) dNil)))))
theorem x_law_fraction : ∃ m : M, m = mOf d_law_fraction 2 := ⟨_, rfl⟩
noncomputable def m_law_fraction : M := x_law_fraction.choose
theorem m_law_fraction_e : m_law_fraction = mOf d_law_fraction 2 := x_law_fraction.choose_spec
noncomputable def d_law_table : DS := (dSeq (dSet 3 dDictNew)
    (dSeq (dFor (dItems (dOwn m_law_names 2 (dCons (dVar 1) (dCons (dVar 2) dNil)))) (gdName 4) (dSetKey (dOwn m_law_fraction 1 (dCons (dVar 0) dNil)) (dVar 3) (dVar 4)))
    (dRet (dVar 3))))
theorem x_law_table : ∃ m : M, m = mOf d_law_table 5 := ⟨_, rfl⟩
noncomputable def m_law_table : M := x_law_table.choose
theorem m_law_table_e : m_law_table = mOf d_law_table 5 := x_law_table.choose_spec
noncomputable def d_law_run : DS := (dSeq (dSet 4 (dMeth isStr fJoin (dC (.str "")) (dCons (dFz (dLc (dRange1 (dCons (dVar 3) dNil)) (gdName 5) dYes (dBin fIx (dVar 1) (dOwn m_law_draw 2 (dCons (dVar 0) (dCons (dCall fLen (dCons (dVar 1) dNil)) dNil)))) [5])) dNil)))
    (dRet (dTup (dCons (dVar 4) (dCons (dCall fTuple (dCons (dFz (dLc (dSigns (dVar 4)) (gdName 6) dYes (dOwn m_law_draw 2 (dCons (dVar 0) (dCons (dVar 2) dNil))) [6])) dNil)) dNil)))))
theorem x_law_run : ∃ m : M, m = mOf d_law_run 7 := ⟨_, rfl⟩
noncomputable def m_law_run : M := x_law_run.choose
theorem m_law_run_e : m_law_run = mOf d_law_run 7 := x_law_run.choose_spec
noncomputable def d_check_code : DS := (dIfS (dNot (dTru (dOwn m_is_code 2 (dCons (dVar 0) (dCons (dVar 1) dNil))))) (dRaise0 "NoCode") dNext)
theorem x_check_code : ∃ m : M, m = mOf d_check_code 2 := ⟨_, rfl⟩
noncomputable def m_check_code : M := x_check_code.choose
theorem m_check_code_e : m_check_code = mOf d_check_code 2 := x_check_code.choose_spec
noncomputable def d_Prices_table : DS := (dRet (dCall fDictD (dCons (dUn (fFld fldC__table "_table") (dVar 0)) dNil)))
theorem x_Prices_table : ∃ m : M, m = mOf d_Prices_table 1 := ⟨_, rfl⟩
noncomputable def m_Prices_table : M := x_Prices_table.choose
theorem m_Prices_table_e : m_Prices_table = mOf d_Prices_table 1 := x_Prices_table.choose_spec
noncomputable def d_shared_bottom : DS := (dSeq (dSet 1 (dProp "Prices" m_Prices_table (dVar 0)))
    (dSeq (dSet 2 (dC (.int 1)))
    (dSeq (dFor (dKeysD (dVar 1)) (gdName 3) (dSet 2 (dCall fLcm (dCons (dVar 2) (dCons (dBin fIx (dDGet (dVar 1) (dVar 3)) (dC (.int 1))) dNil)))))
    (dSeq (dSet 4 (dDc (dKeysD (dVar 1)) (gdName 3) dYes (dVar 3) (dBin fMulW (dBin fIx (dDGet (dVar 1) (dVar 3)) (dC (.int 0))) (dBin fDivW (dVar 2) (dBin fIx (dDGet (dVar 1) (dVar 3)) (dC (.int 1))))) [3]))
    (dRet (dTup (dCons (dVar 4) (dCons (dVar 2) dNil))))))))
theorem x_shared_bottom : ∃ m : M, m = mOf d_shared_bottom 5 := ⟨_, rfl⟩
noncomputable def m_shared_bottom : M := x_shared_bottom.choose
theorem m_shared_bottom_e : m_shared_bottom = mOf d_shared_bottom 5 := x_shared_bottom.choose_spec
noncomputable def d_tail_behind : DS := (dRet (dIf (dTst (dBin fLtS (dCall fLen (dCons (dVar 0) dNil)) (dVar 1))) (dVar 0) (dSl (dVar 0) (dPart (dC (.int 1))) dNoPart)))
theorem x_tail_behind : ∃ m : M, m = mOf d_tail_behind 2 := ⟨_, rfl⟩
noncomputable def m_tail_behind : M := x_tail_behind.choose
theorem m_tail_behind_e : m_tail_behind = mOf d_tail_behind 2 := x_tail_behind.choose_spec
noncomputable def d_charged : DS := (dSeq (dSet 4 (dC (.int 0)))
    (dSeq (dFor (dSigns (dVar 3)) (gdName 5) (dSeq (dAug 4 (fun i j => i + j) (dDGet (dVar 0) (dBin fAdd (dVar 2) (dVar 5))))
    (dSet 2 (dOwn m_tail_behind 2 (dCons (dBin fAdd (dVar 2) (dVar 5)) (dCons (dVar 1) dNil))))))
    (dRet (dTup (dCons (dVar 4) (dCons (dVar 2) dNil))))))
theorem x_charged : ∃ m : M, m = mOf d_charged 6 := ⟨_, rfl⟩
noncomputable def m_charged : M := x_charged.choose
theorem m_charged_e : m_charged = mOf d_charged 6 := x_charged.choose_spec
noncomputable def d_first_tail : DS := (dRet (dIf (dTst (dBin (fEq false) (dVar 0) (dC (.int 1)))) (dC (.str "")) (dC (.str "^"))))
theorem x_first_tail : ∃ m : M, m = mOf d_first_tail 1 := ⟨_, rfl⟩
noncomputable def m_first_tail : M := x_first_tail.choose
theorem m_first_tail_e : m_first_tail = mOf d_first_tail 1 := x_first_tail.choose_spec
noncomputable def d_lowest : DS := (dSeq (dSet 2 (dCall fGcd (dCons (dVar 0) (dCons (dVar 1) dNil))))
    (dSeq (dIfS (dTst (dBin fLtS (dVar 1) (dC (.int 0)))) (dSet 2 (dUn fNeg (dVar 2))) dNext)
    (dRet (dTup (dCons (dBin fDivW (dVar 0) (dVar 2)) (dCons (dBin fDivW (dVar 1) (dVar 2)) dNil))))))
theorem x_lowest : ∃ m : M, m = mOf d_lowest 3 := ⟨_, rfl⟩
noncomputable def m_lowest : M := x_lowest.choose
theorem m_lowest_e : m_lowest = mOf d_lowest 3 := x_lowest.choose_spec
noncomputable def d_cost : DS := (dSeq (dAsg (dOwn m_shared_bottom 1 (dCons (dVar 0) dNil)) (gdTup 2 (gdCons (gdName 2) (gdCons (gdName 3) gdNil))))
    (dSeq (dAsg (dOwn m_charged 4 (dCons (dVar 2) (dCons (dUn (fFld fldC_width "width") (dVar 0)) (dCons (dOwn m_first_tail 1 (dCons (dUn (fFld fldC_width "width") (dVar 0)) dNil)) (dCons (dVar 1) dNil))))) (gdTup 2 (gdCons (gdName 4) (gdCons (gdName 5) gdNil))))
    (dRet (dOwn m_lowest 2 (dCons (dVar 4) (dCons (dVar 3) dNil))))))
theorem x_cost : ∃ m : M, m = mOf d_cost 6 := ⟨_, rfl⟩
noncomputable def m_cost : M := x_cost.choose
theorem m_cost_e : m_cost = mOf d_cost 6 := x_cost.choose_spec
noncomputable def d_price : DS := (dSeq (dExpr (dOwn m_check_code 2 (dCons (dVar 1) (dCons (dUn (fFld fldC_rows "rows") (dVar 0)) dNil))))
    (dRet (dOwn m_cost 2 (dCons (dVar 0) (dCons (dVar 1) dNil)))))
theorem x_price : ∃ m : M, m = mOf d_price 2 := ⟨_, rfl⟩
noncomputable def m_price : M := x_price.choose
theorem m_price_e : m_price = mOf d_price 2 := x_price.choose_spec
noncomputable def d_check_same_rows : DS := (dIfS (dTst (dBin (fEq true) (dUn (fFld fldC_rows "rows") (dVar 0)) (dUn (fFld fldC_rows "rows") (dVar 1)))) (dRaise0 "OtherRows") dNext)
theorem x_check_same_rows : ∃ m : M, m = mOf d_check_same_rows 2 := ⟨_, rfl⟩
noncomputable def m_check_same_rows : M := x_check_same_rows.choose
theorem m_check_same_rows_e : m_check_same_rows = mOf d_check_same_rows 2 := x_check_same_rows.choose_spec
noncomputable def d_is_run : DS := (dSeq (dIfS (dNot (dTru (dOwn m_is_tuple 2 (dCons (dVar 0) (dCons (dC (.int 2)) dNil))))) (dRet (dC (.bl false))) dNext)
    (dSeq (dAsg (dVar 0) (gdTup 2 (gdCons (gdName 3) (gdCons (gdName 4) gdNil))))
    (dSeq (dIfS (dOr (dNot (dTru (dOwn m_is_code 2 (dCons (dVar 3) (dCons (dVar 1) dNil))))) (dNot (dTru (dOwn m_is_tuple 2 (dCons (dVar 4) (dCons (dCall fLen (dCons (dVar 3) dNil)) dNil)))))) (dRet (dC (.bl false))) dNext)
    (dRet (dCall fAll (dCons (dFz (dLc (dItemsT (dVar 4)) (gdName 5) dYes (dOwn m_is_between 3 (dCons (dVar 5) (dCons (dC (.int 0)) (dCons (dBin fSub (dVar 2) (dC (.int 1))) dNil)))) [5])) dNil))))))
theorem x_is_run : ∃ m : M, m = mOf d_is_run 6 := ⟨_, rfl⟩
noncomputable def m_is_run : M := x_is_run.choose
theorem m_is_run_e : m_is_run = mOf d_is_run 6 := x_is_run.choose_spec
noncomputable def d_check_run : DS := (dIfS (dNot (dTru (dOwn m_is_run 3 (dCons (dVar 1) (dCons (dUn (fFld fldC_rows "rows") (dVar 0)) (dCons (dUn (fFld fldC_answers "answers") (dVar 0)) dNil)))))) (dRaise0 "NoRun") dNext)
theorem x_check_run : ∃ m : M, m = mOf d_check_run 2 := ⟨_, rfl⟩
noncomputable def m_check_run : M := x_check_run.choose
theorem m_check_run_e : m_check_run = mOf d_check_run 2 := x_check_run.choose_spec
noncomputable def d_minus : DS := (dRet (dOwn m_lowest 2 (dCons (dBin fSub (dBin fMulW (dBin fIx (dVar 0) (dC (.int 0))) (dBin fIx (dVar 1) (dC (.int 1)))) (dBin fMulW (dBin fIx (dVar 1) (dC (.int 0))) (dBin fIx (dVar 0) (dC (.int 1))))) (dCons (dBin fMulW (dBin fIx (dVar 0) (dC (.int 1))) (dBin fIx (dVar 1) (dC (.int 1)))) dNil))))
theorem x_minus : ∃ m : M, m = mOf d_minus 2 := ⟨_, rfl⟩
noncomputable def m_minus : M := x_minus.choose
theorem m_minus_e : m_minus = mOf d_minus 2 := x_minus.choose_spec
noncomputable def d_walked : DS := (dSeq (dAsg (dVar 2) (gdTup 2 (gdCons (gdName 3) (gdCons (gdName 4) gdNil))))
    (dSeq (dSet 5 (dC (.int 0)))
    (dSeq (dSet 6 (dVar 1))
    (dSeq (dFor (dZip (dCons (dVar 3) (dCons (dVar 4) dNil))) (gdTup 2 (gdCons (gdName 7) (gdCons (gdName 8) gdNil))) (dSeq (dAsg (dBin fIx (dBin fIx (dBin fIx (dUn (fFld fldC_moves "moves") (dVar 0)) (dVar 6)) (dMeth isStr fIndex (dUn (fFld fldC_rows "rows") (dVar 0)) (dCons (dVar 7) dNil))) (dVar 8)) (gdTup 2 (gdCons (gdName 9) (gdCons (gdName 6) gdNil))))
    (dAug 5 (fun i j => i + j) (dVar 9))))
    (dRet (dTup (dCons (dVar 5) (dCons (dVar 6) dNil))))))))
theorem x_walked : ∃ m : M, m = mOf d_walked 10 := ⟨_, rfl⟩
noncomputable def m_walked : M := x_walked.choose
theorem m_walked_e : m_walked = mOf d_walked 10 := x_walked.choose_spec
noncomputable def d_rest : DS := (dSeq (dExpr (dOwn m_check_same_rows 2 (dCons (dVar 0) (dCons (dVar 1) dNil))))
    (dSeq (dExpr (dOwn m_check_run 2 (dCons (dVar 0) (dCons (dVar 2) dNil))))
    (dRet (dOwn m_minus 2 (dCons (dTup (dCons (dBin fIx (dOwn m_walked 3 (dCons (dVar 0) (dCons (dC (.int 0)) (dCons (dVar 2) dNil)))) (dC (.int 0))) (dCons (dC (.int 1)) dNil))) (dCons (dOwn m_price 2 (dCons (dVar 1) (dCons (dBin fIx (dVar 2) (dC (.int 0))) dNil))) dNil))))))
theorem x_rest : ∃ m : M, m = mOf d_rest 3 := ⟨_, rfl⟩
noncomputable def m_rest : M := x_rest.choose
theorem m_rest_e : m_rest = mOf d_rest 3 := x_rest.choose_spec
noncomputable def d_law_common : DS := (dSeq (whileN (dTst (dBin (fEq true) (dVar 1) (dC (.int 0)))) (dSeq (dSet 2 (dBin fMod (dCall fInt (dCons (dVar 0) dNil)) (dVar 1)))
    (dSeq (dSet 0 (dVar 1))
    (dSet 1 (dVar 2)))) fuel)
    (dRet (dVar 0)))
theorem x_law_common : ∃ m : M, m = mOf d_law_common 3 := ⟨_, rfl⟩
noncomputable def m_law_common : M := x_law_common.choose
theorem m_law_common_e : m_law_common = mOf d_law_common 3 := x_law_common.choose_spec
noncomputable def d_law_sum : DS := (dSeq (dSet 1 (dC (.int 1)))
    (dSeq (dFor (dItems (dVar 0)) (gdName 2) (dSet 1 (dBin fDivW (dBin fMulW (dVar 1) (dBin fIx (dVar 2) (dC (.int 1)))) (dOwn m_law_common 2 (dCons (dVar 1) (dCons (dBin fIx (dVar 2) (dC (.int 1))) dNil))))))
    (dRet (dOwn m_law_made 2 (dCons (dCall fSumL (dCons (dFz (dLc (dItems (dVar 0)) (gdName 2) dYes (dBin fMulW (dBin fIx (dVar 2) (dC (.int 0))) (dBin fDivW (dVar 1) (dBin fIx (dVar 2) (dC (.int 1))))) [2])) dNil)) (dCons (dVar 1) dNil))))))
theorem x_law_sum : ∃ m : M, m = mOf d_law_sum 3 := ⟨_, rfl⟩
noncomputable def m_law_sum : M := x_law_sum.choose
theorem m_law_sum_e : m_law_sum = mOf d_law_sum 3 := x_law_sum.choose_spec
noncomputable def d_ticks : DS := (dSeq (dExpr (dOwn m_check_run 2 (dCons (dVar 0) (dCons (dVar 1) dNil))))
    (dRet (dBin fIx (dOwn m_walked 3 (dCons (dVar 0) (dCons (dC (.int 0)) (dCons (dVar 1) dNil)))) (dC (.int 0)))))
theorem x_ticks : ∃ m : M, m = mOf d_ticks 2 := ⟨_, rfl⟩
noncomputable def m_ticks : M := x_ticks.choose
theorem m_ticks_e : m_ticks = mOf d_ticks 2 := x_ticks.choose_spec
noncomputable def d_law_written : DS := (dSeq (dSet 1 (dC (.str "")))
    (dSeq (dSet 2 (dTup dNil))
    (dSeq (dFor (dItemsT (dVar 0)) (gdTup 2 (gdCons (gdName 3) (gdCons (gdName 4) gdNil))) (dSeq (dSet 1 (dBin fAdd (dVar 1) (dBin fRepA (dBin fIx (dVar 3) (dC (.int 0))) (dVar 4))))
    (dSet 2 (dBin fAdd (dVar 2) (dBin fRepA (dBin fIx (dVar 3) (dC (.int 1))) (dVar 4))))))
    (dRet (dTup (dCons (dVar 1) (dCons (dVar 2) dNil)))))))
theorem x_law_written : ∃ m : M, m = mOf d_law_written 5 := ⟨_, rfl⟩
noncomputable def m_law_written : M := x_law_written.choose
theorem m_law_written_e : m_law_written = mOf d_law_written 5 := x_law_written.choose_spec
noncomputable def d_is_turn : DS := (dRet (dAndV (dOwn m_is_tuple 2 (dCons (dVar 0) (dCons (dC (.int 2)) dNil))) (dAndV (dOwn m_is_run 3 (dCons (dBin fIx (dVar 0) (dC (.int 0))) (dCons (dVar 1) (dCons (dVar 2) dNil)))) (dAndV (dOwn m_is_integer 1 (dCons (dBin fIx (dVar 0) (dC (.int 1))) dNil)) (dBin fGe (dBin fIx (dVar 0) (dC (.int 1))) (dC (.int 0)))))))
theorem x_is_turn : ∃ m : M, m = mOf d_is_turn 3 := ⟨_, rfl⟩
noncomputable def m_is_turn : M := x_is_turn.choose
theorem m_is_turn_e : m_is_turn = mOf d_is_turn 3 := x_is_turn.choose_spec
noncomputable def d_check_long : DS := (dIfS (dOr (dNot (dTru (dCall fIsi (dCons (dVar 0) (dCons (dC (.ty "tuple")) dNil))))) (dNot (dTru (dCall fAll (dCons (dFz (dLc (dItemsT (dVar 0)) (gdName 3) dYes (dOwn m_is_turn 3 (dCons (dVar 3) (dCons (dVar 1) (dCons (dVar 2) dNil)))) [3])) dNil))))) (dRaise0 "NoLong") dNext)
theorem x_check_long : ∃ m : M, m = mOf d_check_long 4 := ⟨_, rfl⟩
noncomputable def m_check_long : M := x_check_long.choose
theorem m_check_long_e : m_check_long = mOf d_check_long 4 := x_check_long.choose_spec
noncomputable def dl_la_long_ticks_0 : DE := (dOwn m_walked 3 (dCons (dVar 2) (dCons (dVar 0) (dCons (dVar 1) dNil))))
theorem x_la_long_ticks_0 : ∃ m : M, m = mLam dl_la_long_ticks_0 N_la_long_ticks_0 2 1 := ⟨_, rfl⟩
noncomputable def m_la_long_ticks_0 : M := x_la_long_ticks_0.choose
theorem m_la_long_ticks_0_e : m_la_long_ticks_0 = mLam dl_la_long_ticks_0 N_la_long_ticks_0 2 1 := x_la_long_ticks_0.choose_spec
noncomputable def dl_la_long_price_0 : DE := (dOwn m_charged 4 (dCons (dVar 2) (dCons (dVar 3) (dCons (dVar 0) (dCons (dBin fIx (dVar 1) (dC (.int 0))) dNil)))))
theorem x_la_long_price_0 : ∃ m : M, m = mLam dl_la_long_price_0 N_la_long_price_0 2 2 := ⟨_, rfl⟩
noncomputable def m_la_long_price_0 : M := x_la_long_price_0.choose
theorem m_la_long_price_0_e : m_la_long_price_0 = mLam dl_la_long_price_0 N_la_long_price_0 2 2 := x_la_long_price_0.choose_spec
noncomputable def tab_repeated_once : Nat → LW → M := (tabCons 0 lw_la_long_ticks_0 m_la_long_ticks_0 (tabCons 1 lw_la_long_price_0 m_la_long_price_0 tabNil))
noncomputable def d_repeated : DS := (dSeq (dSet 4 dDictNew)
    (dSeq (dSet 5 (dC (.int 0)))
    (dSeq (dSet 6 (dC (.int 0)))
    (dSeq (whileN (dAnd (dTst (dBin fLtS (dVar 6) (dVar 1))) (dTst (dDHas true (dVar 2) (dVar 4)))) (dSeq (dSetKey (dTup (dCons (dVar 6) (dCons (dVar 5) dNil))) (dVar 4) (dVar 2))
    (dSeq (dAsg (dLamGo tab_repeated_once 3 (dCons (dVar 2) (dCons (dVar 0) dNil))) (gdTup 2 (gdCons (gdName 7) (gdCons (gdName 2) gdNil))))
    (dSeq (dAug 5 (fun i j => i + j) (dVar 7))
    (dAug 6 (fun i j => i + j) (dC (.int 1)))))) fuel)
    (dSeq (dIfS (dTst (dBin fLtS (dVar 6) (dVar 1))) (dSeq (dAsg (dDGet (dVar 4) (dVar 2)) (gdTup 2 (gdCons (gdName 8) (gdCons (gdName 9) gdNil))))
    (dSeq (dSet 10 (dBin fDivW (dBin fSub (dVar 1) (dVar 6)) (dBin fSub (dVar 6) (dVar 8))))
    (dSeq (dAug 5 (fun i j => i + j) (dBin fMulW (dVar 10) (dBin fSub (dVar 5) (dVar 9))))
    (dAug 6 (fun i j => i + j) (dBin fMulW (dVar 10) (dBin fSub (dVar 6) (dVar 8))))))) dNext)
    (dSeq (dFor (dRange1 (dCons (dBin fSub (dVar 1) (dVar 6)) dNil)) (gdName 11) (dSeq (dAsg (dLamGo tab_repeated_once 3 (dCons (dVar 2) (dCons (dVar 0) dNil))) (gdTup 2 (gdCons (gdName 7) (gdCons (gdName 2) gdNil))))
    (dAug 5 (fun i j => i + j) (dVar 7))))
    (dRet (dTup (dCons (dVar 5) (dCons (dVar 2) dNil))))))))))
theorem x_repeated : ∃ m : M, m = mOf d_repeated 12 := ⟨_, rfl⟩
noncomputable def m_repeated : M := x_repeated.choose
theorem m_repeated_e : m_repeated = mOf d_repeated 12 := x_repeated.choose_spec
noncomputable def d_summed : DS := (dSeq (dSet 3 (dC (.int 0)))
    (dSeq (dFor (dItemsT (dVar 0)) (gdTup 2 (gdCons (gdName 4) (gdCons (gdName 5) gdNil))) (dSeq (dAsg (dOwn m_repeated 4 (dCons (dVar 4) (dCons (dVar 5) (dCons (dVar 1) (dCons (dVar 2) dNil))))) (gdTup 2 (gdCons (gdName 6) (gdCons (gdName 1) gdNil))))
    (dAug 3 (fun i j => i + j) (dVar 6))))
    (dRet (dVar 3))))
theorem x_summed : ∃ m : M, m = mOf d_summed 7 := ⟨_, rfl⟩
noncomputable def m_summed : M := x_summed.choose
theorem m_summed_e : m_summed = mOf d_summed 7 := x_summed.choose_spec
noncomputable def d_long_ticks : DS := (dSeq (dExpr (dOwn m_check_long 3 (dCons (dVar 1) (dCons (dUn (fFld fldC_rows "rows") (dVar 0)) (dCons (dUn (fFld fldC_answers "answers") (dVar 0)) dNil)))))
    (dRet (dOwnLam m_summed 3 (dCons (dVar 1) (dCons (dC (.int 0)) dNil)) 0 lw_la_long_ticks_0 [0])))
theorem x_long_ticks : ∃ m : M, m = mOf d_long_ticks 2 := ⟨_, rfl⟩
noncomputable def m_long_ticks : M := x_long_ticks.choose
theorem m_long_ticks_e : m_long_ticks = mOf d_long_ticks 2 := x_long_ticks.choose_spec
noncomputable def d_long_price : DS := (dSeq (dExpr (dOwn m_check_long 3 (dCons (dVar 1) (dCons (dUn (fFld fldC_rows "rows") (dVar 0)) (dCons (dC (.int 3)) dNil)))))
    (dSeq (dSet 2 (dUn (fFld fldC_width "width") (dVar 0)))
    (dSeq (dAsg (dOwn m_shared_bottom 1 (dCons (dVar 0) dNil)) (gdTup 2 (gdCons (gdName 3) (gdCons (gdName 4) gdNil))))
    (dRet (dOwn m_lowest 2 (dCons (dOwnLam m_summed 3 (dCons (dVar 1) (dCons (dOwn m_first_tail 1 (dCons (dVar 2) dNil)) dNil)) 1 lw_la_long_price_0 [3, 2]) (dCons (dVar 4) dNil)))))))
theorem x_long_price : ∃ m : M, m = mOf d_long_price 5 := ⟨_, rfl⟩
noncomputable def m_long_price : M := x_long_price.choose
theorem m_long_price_e : m_long_price = mOf d_long_price 5 := x_long_price.choose_spec
noncomputable def d_law_led : DS := (dSeq (dSet 3 (dC (.int 0)))
    (dSeq (dFor (dZip (dCons (dBin fIx (dVar 2) (dC (.int 0))) (dCons (dBin fIx (dVar 2) (dC (.int 1))) dNil))) (gdTup 2 (gdCons (gdName 4) (gdCons (gdName 5) gdNil))) (dSeq (dAsg (dBin fIx (dBin fIx (dBin fIx (dBin fIx (dVar 0) (dC (.int 2))) (dVar 1)) (dMeth isStr fFind (dBin fIx (dVar 0) (dC (.int 0))) (dCons (dVar 4) dNil))) (dVar 5)) (gdTup 2 (gdCons (gdName 6) (gdCons (gdName 1) gdNil))))
    (dSet 3 (dBin fAdd (dVar 3) (dVar 6)))))
    (dRet (dTup (dCons (dVar 3) (dCons (dVar 1) dNil))))))
theorem x_law_led : ∃ m : M, m = mOf d_law_led 7 := ⟨_, rfl⟩
noncomputable def m_law_led : M := x_law_led.choose
theorem m_law_led_e : m_law_led = mOf d_law_led 7 := x_law_led.choose_spec
noncomputable def d_law_map : DS := (dRet (dFz (dLc (dRange1 (dCons (dCall fLen (dCons (dBin fIx (dVar 0) (dC (.int 2))) dNil)) dNil)) (gdName 2) dYes (dOwn m_law_led 3 (dCons (dVar 0) (dCons (dVar 2) (dCons (dVar 1) dNil)))) [2])))
theorem x_law_map : ∃ m : M, m = mOf d_law_map 3 := ⟨_, rfl⟩
noncomputable def m_law_map : M := x_law_map.choose
theorem m_law_map_e : m_law_map = mOf d_law_map 3 := x_law_map.choose_spec
noncomputable def d_law_behind : DS := (dRet (dFz (dLc (dItems (dVar 0)) (gdName 2) dYes (dTup (dCons (dBin fAdd (dBin fIx (dVar 2) (dC (.int 0))) (dBin fIx (dBin fIx (dVar 1) (dBin fIx (dVar 2) (dC (.int 1)))) (dC (.int 0)))) (dCons (dBin fIx (dBin fIx (dVar 1) (dBin fIx (dVar 2) (dC (.int 1)))) (dC (.int 1))) dNil))) [2])))
theorem x_law_behind : ∃ m : M, m = mOf d_law_behind 3 := ⟨_, rfl⟩
noncomputable def m_law_behind : M := x_law_behind.choose
theorem m_law_behind_e : m_law_behind = mOf d_law_behind 3 := x_law_behind.choose_spec
noncomputable def d_law_many : DS := (dSeq (dSet 3 (dFz (dLc (dRange1 (dCons (dCall fLen (dCons (dBin fIx (dVar 0) (dC (.int 2))) dNil)) dNil)) (gdName 5) dYes (dTup (dCons (dC (.int 0)) (dCons (dVar 5) dNil))) [5])))
    (dSeq (dSet 4 (dOwn m_law_map 2 (dCons (dVar 0) (dCons (dVar 1) dNil))))
    (dSeq (whileN (dTst (dBin fGt (dVar 2) (dC (.int 0)))) (dSeq (dIfS (dTst (dBin (fEq false) (dBin fMod (dCall fInt (dCons (dVar 2) dNil)) (dC (.int 2))) (dC (.int 1)))) (dSet 3 (dOwn m_law_behind 2 (dCons (dVar 3) (dCons (dVar 4) dNil)))) dNext)
    (dSeq (dSet 4 (dOwn m_law_behind 2 (dCons (dVar 4) (dCons (dVar 4) dNil))))
    (dSet 2 (dBin fDiv (dVar 2) (dC (.int 2)))))) fuel)
    (dRet (dVar 3)))))
theorem x_law_many : ∃ m : M, m = mOf d_law_many 6 := ⟨_, rfl⟩
noncomputable def m_law_many : M := x_law_many.choose
theorem m_law_many_e : m_law_many = mOf d_law_many 6 := x_law_many.choose_spec
noncomputable def d_law_great_price : DS := (dSeq (dSet 3 (dFz (dLc (dRange1 (dCons (dC (.int 7)) dNil)) (gdName 5) dYes (dOwn m_price 2 (dCons (dVar 0) (dCons (dBin fRepA (dBin fIx (dVar 1) (dC (.int 0))) (dVar 5)) dNil))) [5])))
    (dSeq (dIfS (dTst (dBin fLtS (dVar 2) (dC (.int 6)))) (dRet (dBin fIx (dVar 3) (dVar 2))) dNext)
    (dSeq (dSet 4 (dOwn m_law_sum 1 (dCons (dFz (dLst (dCons (dBin fIx (dVar 3) (dC (.int 6))) (dCons (dTup (dCons (dBin fSub (dC (.int 0)) (dBin fIx (dBin fIx (dVar 3) (dC (.int 5))) (dC (.int 0)))) (dCons (dBin fIx (dBin fIx (dVar 3) (dC (.int 5))) (dC (.int 1))) dNil))) dNil)))) dNil)))
    (dRet (dOwn m_law_sum 1 (dCons (dFz (dLst (dCons (dBin fIx (dVar 3) (dC (.int 6))) (dCons (dOwn m_law_made 2 (dCons (dBin fMulW (dBin fIx (dVar 4) (dC (.int 0))) (dBin fSub (dVar 2) (dC (.int 6)))) (dCons (dBin fIx (dVar 4) (dC (.int 1))) dNil))) dNil)))) dNil))))))
theorem x_law_great_price : ∃ m : M, m = mOf d_law_great_price 6 := ⟨_, rfl⟩
noncomputable def m_law_great_price : M := x_law_great_price.choose
theorem m_law_great_price_e : m_law_great_price = mOf d_law_great_price 6 := x_law_great_price.choose_spec
noncomputable def d_law_word : DS := (dSeq (dSet 3 (dC (.str "told")))
    (dSeq (dTry subT (dExpr (dOwn m_rest 3 (dCons (dVar 0) (dCons (dVar 1) (dCons (dVar 2) dNil))))) [("OtherRows", (dSet 3 (dC (.str "rows")))), ("NoRun", (dSet 3 (dC (.str "run"))))])
    (dRet (dVar 3))))
theorem x_law_word : ∃ m : M, m = mOf d_law_word 4 := ⟨_, rfl⟩
noncomputable def m_law_word : M := x_law_word.choose
theorem m_law_word_e : m_law_word = mOf d_law_word 4 := x_law_word.choose_spec
noncomputable def d_law_1 : DS := (dIfS (dTst (dBin (fEq true) (dOwn m_rest 3 (dCons (dVar 6) (dCons (dVar 8) (dCons (dVar 9) dNil)))) (dOwn m_law_sum 1 (dCons (dFz (dLst (dCons (dTup (dCons (dOwn m_ticks 2 (dCons (dVar 6) (dCons (dVar 9) dNil))) (dCons (dC (.int 1)) dNil))) (dCons (dTup (dCons (dBin fSub (dC (.int 0)) (dBin fIx (dVar 10) (dC (.int 0)))) (dCons (dBin fIx (dVar 10) (dC (.int 1))) dNil))) dNil)))) dNil)))) (dRet (dC (.bl false))) dNext)
noncomputable def d_law_2 : DS := (dFor (dRange1 (dCons (dVar 12) dNil)) (gdName 13) (dSeq (dSet 14 (dBin fIx (dFz (dLst (dCons (dC (.int 0)) (dCons (dC (.int 1)) (dCons (dC (.int 2)) (dCons (dC (.int 3)) (dCons (dC (.int 9)) (dCons (dBin fIx (dFz (dLst (dCons (dC (.int 16)) (dCons (dC (.int 9)) dNil)))) (dCall fInt (dCons (dBin fGt (dVar 12) (dC (.int 4))) dNil))) dNil)))))))) (dOwn m_law_draw 2 (dCons (dVar 1) (dCons (dC (.int 6)) dNil)))))
    (dSet 11 (dBin fAdd (dVar 11) (dTup (dCons (dTup (dCons (dOwn m_law_run 4 (dCons (dVar 1) (dCons (dVar 3) (dCons (dVar 4) (dCons (dOwn m_law_draw 2 (dCons (dVar 1) (dCons (dC (.int 4)) dNil))) dNil))))) (dCons (dVar 14) dNil))) dNil))))))
noncomputable def d_law_3 : DS := (dIfS (dOr (dTst (dBin (fEq true) (dOwn m_long_ticks 2 (dCons (dVar 6) (dCons (dVar 11) dNil))) (dOwn m_ticks 2 (dCons (dVar 6) (dCons (dVar 15) dNil))))) (dTst (dBin (fEq true) (dOwn m_long_price 2 (dCons (dVar 8) (dCons (dVar 11) dNil))) (dOwn m_price 2 (dCons (dVar 8) (dCons (dBin fIx (dVar 15) (dC (.int 0))) dNil)))))) (dRet (dC (.bl false))) dNext)
noncomputable def d_law_4 : DS := (dIfS (dOr (dTst (dBin (fEq true) (dOwn m_long_ticks 2 (dCons (dVar 6) (dCons (dBin fAdd (dVar 11) (dTup (dCons (dTup (dCons (dVar 9) (dCons (dC (.int 0)) dNil))) dNil))) dNil))) (dOwn m_ticks 2 (dCons (dVar 6) (dCons (dVar 15) dNil))))) (dTst (dBin (fEq true) (dOwn m_long_price 2 (dCons (dVar 8) (dCons (dTup dNil) dNil))) (dTup (dCons (dC (.int 0)) (dCons (dC (.int 1)) dNil)))))) (dRet (dC (.bl false))) dNext)
noncomputable def d_law_5 : DS := (dIfS (dTst (dBin (fEq true) (dOwn m_long_ticks 2 (dCons (dVar 6) (dCons (dTup (dCons (dTup (dCons (dVar 16) (dCons (dVar 14) dNil))) dNil)) dNil))) (dBin fIx (dBin fIx (dOwn m_law_many 3 (dCons (dVar 2) (dCons (dVar 16) (dCons (dVar 14) dNil)))) (dC (.int 0))) (dC (.int 0))))) (dRet (dC (.bl false))) dNext)
noncomputable def d_law_6 : DS := (dIfS (dTst (dBin (fEq true) (dOwn m_long_price 2 (dCons (dVar 8) (dCons (dTup (dCons (dTup (dCons (dVar 16) (dCons (dVar 14) dNil))) dNil)) dNil))) (dOwn m_law_great_price 3 (dCons (dVar 8) (dCons (dVar 16) (dCons (dVar 14) dNil)))))) (dRet (dC (.bl false))) dNext)
noncomputable def d_law_7 : DS := (dIfS (dTst (dBin (fEq true) (dOwn m_long_ticks 2 (dCons (dVar 6) (dCons (dTup (dCons (dTup (dCons (dVar 9) (dCons (dC (.int 1)) dNil))) (dCons (dTup (dCons (dVar 16) (dCons (dVar 14) dNil))) dNil))) dNil))) (dBin fIx (dBin fIx (dVar 17) (dC (.int 0))) (dC (.int 0))))) (dRet (dC (.bl false))) dNext)
noncomputable def d_law : DS := (dSeq (dSet 1 (dOwn m_law_hand 1 (dCons (dVar 0) dNil)))
    (dSeq (dSet 2 (dOwn m_law_world 3 (dCons (dVar 1) (dCons (dC (.int 3)) (dCons (dC (.int 4)) dNil)))))
    (dSeq (dAsg (dVar 2) (gdTup 3 (gdCons (gdName 3) (gdCons (gdName 4) (gdCons (gdName 5) gdNil)))))
    (dSeq (dSet 6 (dMake "Machine" m_Machine_init 4 (dCons (dVar 3) (dCons (dVar 4) (dCons (dVar 5) dNil)))))
    (dSeq (dSet 7 (dBin fAdd (dC (.int 1)) (dOwn m_law_draw 2 (dCons (dVar 1) (dCons (dC (.int 3)) dNil)))))
    (dSeq (dSet 8 (dMake "Prices" m_Prices_init 4 (dCons (dVar 3) (dCons (dVar 7) (dCons (dOwn m_law_table 3 (dCons (dVar 1) (dCons (dVar 3) (dCons (dVar 7) dNil)))) dNil)))))
    (dSeq (dSet 9 (dOwn m_law_run 4 (dCons (dVar 1) (dCons (dVar 3) (dCons (dVar 4) (dCons (dBin fIx (dFz (dLst (dCons (dC (.int 0)) (dCons (dC (.int 1)) (dCons (dC (.int 5)) (dCons (dC (.int 20)) (dCons (dC (.int 5)) (dCons (dC (.int 20)) (dCons (dC (.int 1)) (dCons (dC (.int 200)) dNil)))))))))) (dOwn m_law_draw 2 (dCons (dVar 1) (dCons (dC (.int 8)) dNil)))) dNil))))))
    (dSeq (dSet 10 (dOwn m_price 2 (dCons (dVar 8) (dCons (dBin fIx (dVar 9) (dC (.int 0))) dNil))))
    (dSeq d_law_1
    (dSeq (dSet 11 (dTup dNil))
    (dSeq (dSet 12 (dOwn m_law_draw 2 (dCons (dVar 1) (dCons (dC (.int 8)) dNil))))
    (dSeq d_law_2
    (dSeq (dSet 15 (dOwn m_law_written 1 (dCons (dVar 11) dNil)))
    (dSeq d_law_3
    (dSeq d_law_4
    (dSeq (dSet 14 (dBin fIx (dFz (dLst (dCons (dBin fPow (dC (.int 10)) (dC (.int 30))) (dCons (dBin fAdd (dC (.int 7)) (dOwn m_law_draw 2 (dCons (dVar 1) (dCons (dBin fPow (dC (.int 10)) (dC (.int 9))) dNil)))) (dCons (dOwn m_law_draw 2 (dCons (dVar 1) (dCons (dC (.int 9)) dNil))) dNil))))) (dOwn m_law_draw 2 (dCons (dVar 1) (dCons (dC (.int 3)) dNil)))))
    (dSeq (dSet 16 (dOwn m_law_run 4 (dCons (dVar 1) (dCons (dVar 3) (dCons (dVar 4) (dCons (dBin fAdd (dC (.int 1)) (dOwn m_law_draw 2 (dCons (dVar 1) (dCons (dC (.int 5)) dNil)))) dNil))))))
    (dSeq d_law_5
    (dSeq d_law_6
    (dSeq (dSet 17 (dOwn m_law_behind 2 (dCons (dOwn m_law_map 2 (dCons (dVar 2) (dCons (dVar 9) dNil))) (dCons (dOwn m_law_many 3 (dCons (dVar 2) (dCons (dVar 16) (dCons (dVar 14) dNil)))) dNil))))
    (dSeq d_law_7
    (dSeq (dSet 18 (dMeth isStr fJoin (dC (.str "")) (dCons (dSl (dFz (dLc (dSigns (dC (.str "abcdefgh"))) (gdName 21) (dTst (dBin (fIn true) (dVar 21) (dVar 3))) (dVar 21) [21])) dNoPart (dPart (dCall fLen (dCons (dVar 3) dNil)))) dNil)))
    (dSeq (dSet 19 (dMake "Prices" m_Prices_init 4 (dCons (dVar 18) (dCons (dC (.int 1)) (dCons (dOwn m_law_table 3 (dCons (dVar 1) (dCons (dVar 18) (dCons (dC (.int 1)) dNil)))) dNil)))))
    (dSeq (dSet 20 (dTup (dCons (dBin fAdd (dSl (dBin fIx (dVar 9) (dC (.int 0))) dNoPart (dPart (dC (.int 5)))) (dBin fIx (dVar 18) (dC (.int 0)))) (dCons (dBin fAdd (dSl (dBin fIx (dVar 9) (dC (.int 1))) dNoPart (dPart (dC (.int 5)))) (dTup (dCons (dC (.int 0)) dNil))) dNil))))
    (dRet (dBin (fEq false) (dFz (dLst (dCons (dOwn m_law_word 3 (dCons (dVar 6) (dCons (dVar 19) (dCons (dVar 9) dNil)))) (dCons (dOwn m_law_word 3 (dCons (dVar 6) (dCons (dVar 19) (dCons (dVar 20) dNil)))) (dCons (dOwn m_law_word 3 (dCons (dVar 6) (dCons (dVar 8) (dCons (dVar 20) dNil)))) dNil))))) (dFz (dLst (dCons (dC (.str "rows")) (dCons (dC (.str "rows")) (dCons (dC (.str "run")) dNil)))))))))))))))))))))))))))))))
theorem x_law : ∃ m : M, m = mOf d_law 22 := ⟨_, rfl⟩
noncomputable def m_law : M := x_law.choose
theorem m_law_e : m_law = mOf d_law 22 := x_law.choose_spec
/-! ### what the top has written -/
structure Txt (K : PySem.W.Frag) (mg : Str → Option Value) (base : Heap) where
  a_law_hand : Addr
  fd_law_hand : FuncData
  F_law_hand : Fun K "_law_hand" "_law_hand" s_law_hand a_law_hand fd_law_hand
  b_law_hand : Binds K fd_law_hand ["script"] []
  k_law_hand : PySem.W.keepIn K (.ref a_law_hand) = true
  g_law_hand : mg "_law_hand" = some (.ref a_law_hand)
  a_law_draw : Addr
  fd_law_draw : FuncData
  F_law_draw : Fun K "_law_draw" "_law_draw" s_law_draw a_law_draw fd_law_draw
  b_law_draw : Binds K fd_law_draw ["hand", "many"] []
  k_law_draw : PySem.W.keepIn K (.ref a_law_draw) = true
  g_law_draw : mg "_law_draw" = some (.ref a_law_draw)
  a_law_rows : Addr
  fd_law_rows : FuncData
  F_law_rows : Fun K "_law_rows" "_law_rows" s_law_rows a_law_rows fd_law_rows
  b_law_rows : Binds K fd_law_rows ["hand", "kinds"] []
  k_law_rows : PySem.W.keepIn K (.ref a_law_rows) = true
  g_law_rows : mg "_law_rows" = some (.ref a_law_rows)
  a_law_line : Addr
  fd_law_line : FuncData
  F_law_line : Fun K "_law_line" "_law_line" s_law_line a_law_line fd_law_line
  b_law_line : Binds K fd_law_line ["hand", "answers", "size", "top"] []
  k_law_line : PySem.W.keepIn K (.ref a_law_line) = true
  g_law_line : mg "_law_line" = some (.ref a_law_line)
  a_law_world : Addr
  fd_law_world : FuncData
  F_law_world : Fun K "_law_world" "_law_world" s_law_world a_law_world fd_law_world
  b_law_world : Binds K fd_law_world ["hand", "kinds", "size"] []
  k_law_world : PySem.W.keepIn K (.ref a_law_world) = true
  g_law_world : mg "_law_world" = some (.ref a_law_world)
  a_is_code : Addr
  fd_is_code : FuncData
  F_is_code : Fun K "is_code" "is_code" s_is_code a_is_code fd_is_code
  b_is_code : Binds K fd_is_code ["thing", "rows"] []
  k_is_code : PySem.W.keepIn K (.ref a_is_code) = true
  g_is_code : mg "is_code" = some (.ref a_is_code)
  a_is_letters : Addr
  fd_is_letters : FuncData
  F_is_letters : Fun K "is_letters" "is_letters" s_is_letters a_is_letters fd_is_letters
  b_is_letters : Binds K fd_is_letters ["thing", "letters"] []
  k_is_letters : PySem.W.keepIn K (.ref a_is_letters) = true
  g_is_letters : mg "is_letters" = some (.ref a_is_letters)
  a_is_rows : Addr
  fd_is_rows : FuncData
  F_is_rows : Fun K "is_rows" "is_rows" s_is_rows a_is_rows fd_is_rows
  b_is_rows : Binds K fd_is_rows ["thing"] []
  k_is_rows : PySem.W.keepIn K (.ref a_is_rows) = true
  g_is_rows : mg "is_rows" = some (.ref a_is_rows)
  a_is_integer : Addr
  fd_is_integer : FuncData
  F_is_integer : Fun K "is_integer" "is_integer" s_is_integer a_is_integer fd_is_integer
  b_is_integer : Binds K fd_is_integer ["thing"] []
  k_is_integer : PySem.W.keepIn K (.ref a_is_integer) = true
  g_is_integer : mg "is_integer" = some (.ref a_is_integer)
  a_is_between : Addr
  fd_is_between : FuncData
  F_is_between : Fun K "is_between" "is_between" s_is_between a_is_between fd_is_between
  b_is_between : Binds K fd_is_between ["thing", "least", "most"] []
  k_is_between : PySem.W.keepIn K (.ref a_is_between) = true
  g_is_between : mg "is_between" = some (.ref a_is_between)
  a_is_answers : Addr
  fd_is_answers : FuncData
  F_is_answers : Fun K "is_answers" "is_answers" s_is_answers a_is_answers fd_is_answers
  b_is_answers : Binds K fd_is_answers ["thing"] []
  k_is_answers : PySem.W.keepIn K (.ref a_is_answers) = true
  g_is_answers : mg "is_answers" = some (.ref a_is_answers)
  a_is_tuple : Addr
  fd_is_tuple : FuncData
  F_is_tuple : Fun K "is_tuple" "is_tuple" s_is_tuple a_is_tuple fd_is_tuple
  b_is_tuple : Binds K fd_is_tuple ["thing", "many"] []
  k_is_tuple : PySem.W.keepIn K (.ref a_is_tuple) = true
  g_is_tuple : mg "is_tuple" = some (.ref a_is_tuple)
  a_is_move : Addr
  fd_is_move : FuncData
  F_is_move : Fun K "_is_move" "_is_move" s_is_move a_is_move fd_is_move
  b_is_move : Binds K fd_is_move ["pair", "size"] []
  k_is_move : PySem.W.keepIn K (.ref a_is_move) = true
  g_is_move : mg "_is_move" = some (.ref a_is_move)
  a_are_pairs : Addr
  fd_are_pairs : FuncData
  F_are_pairs : Fun K "_are_pairs" "_are_pairs" s_are_pairs a_are_pairs fd_are_pairs
  b_are_pairs : Binds K fd_are_pairs ["pairs", "answers", "size"] []
  k_are_pairs : PySem.W.keepIn K (.ref a_are_pairs) = true
  g_are_pairs : mg "_are_pairs" = some (.ref a_are_pairs)
  a_is_item : Addr
  fd_is_item : FuncData
  F_is_item : Fun K "_is_item" "_is_item" s_is_item a_is_item fd_is_item
  b_is_item : Binds K fd_is_item ["item", "rows", "answers", "size"] []
  k_is_item : PySem.W.keepIn K (.ref a_is_item) = true
  g_is_item : mg "_is_item" = some (.ref a_is_item)
  a_are_moves : Addr
  fd_are_moves : FuncData
  F_are_moves : Fun K "_are_moves" "_are_moves" s_are_moves a_are_moves fd_are_moves
  b_are_moves : Binds K fd_are_moves ["moves", "rows", "answers"] []
  k_are_moves : PySem.W.keepIn K (.ref a_are_moves) = true
  g_are_moves : mg "_are_moves" = some (.ref a_are_moves)
  a_Machine_init : Addr
  fd_Machine_init : FuncData
  F_Machine_init : Fun K "__init__" "Machine.__init__" s_Machine_init a_Machine_init fd_Machine_init
  b_Machine_init : Binds K fd_Machine_init ["self", "rows", "answers", "moves"] []
  k_Machine_init : PySem.W.keepIn K (.ref a_Machine_init) = true
  a_is_width : Addr
  fd_is_width : FuncData
  F_is_width : Fun K "is_width" "is_width" s_is_width a_is_width fd_is_width
  b_is_width : Binds K fd_is_width ["thing"] []
  k_is_width : PySem.W.keepIn K (.ref a_is_width) = true
  g_is_width : mg "is_width" = some (.ref a_is_width)
  a_is_fraction : Addr
  fd_is_fraction : FuncData
  F_is_fraction : Fun K "is_fraction" "is_fraction" s_is_fraction a_is_fraction fd_is_fraction
  b_is_fraction : Binds K fd_is_fraction ["thing"] []
  k_is_fraction : PySem.W.keepIn K (.ref a_is_fraction) = true
  g_is_fraction : mg "is_fraction" = some (.ref a_is_fraction)
  a_is_table : Addr
  fd_is_table : FuncData
  F_is_table : Fun K "_is_table" "_is_table" s_is_table a_is_table fd_is_table
  b_is_table : Binds K fd_is_table ["table", "names"] []
  k_is_table : PySem.W.keepIn K (.ref a_is_table) = true
  g_is_table : mg "_is_table" = some (.ref a_is_table)
  a_stretches_over : Addr
  fd_stretches_over : FuncData
  F_stretches_over : Fun K "_stretches_over" "_stretches_over" s_stretches_over a_stretches_over fd_stretches_over
  b_stretches_over : Binds K fd_stretches_over ["rows", "width"] []
  k_stretches_over : PySem.W.keepIn K (.ref a_stretches_over) = true
  g_stretches_over : mg "_stretches_over" = some (.ref a_stretches_over)
  a_Prices_init : Addr
  fd_Prices_init : FuncData
  F_Prices_init : Fun K "__init__" "Prices.__init__" s_Prices_init a_Prices_init fd_Prices_init
  b_Prices_init : Binds K fd_Prices_init ["self", "rows", "width", "table"] []
  k_Prices_init : PySem.W.keepIn K (.ref a_Prices_init) = true
  a_law_names : Addr
  fd_law_names : FuncData
  F_law_names : Fun K "_law_names" "_law_names" s_law_names a_law_names fd_law_names
  b_law_names : Binds K fd_law_names ["rows", "width"] []
  k_law_names : PySem.W.keepIn K (.ref a_law_names) = true
  g_law_names : mg "_law_names" = some (.ref a_law_names)
  a_law_made : Addr
  fd_law_made : FuncData
  F_law_made : Fun K "_law_made" "_law_made" s_law_made a_law_made fd_law_made
  b_law_made : Binds K fd_law_made ["top", "bottom"] []
  k_law_made : PySem.W.keepIn K (.ref a_law_made) = true
  g_law_made : mg "_law_made" = some (.ref a_law_made)
  a_law_fraction : Addr
  fd_law_fraction : FuncData
  F_law_fraction : Fun K "_law_fraction" "_law_fraction" s_law_fraction a_law_fraction fd_law_fraction
  b_law_fraction : Binds K fd_law_fraction ["hand"] []
  k_law_fraction : PySem.W.keepIn K (.ref a_law_fraction) = true
  g_law_fraction : mg "_law_fraction" = some (.ref a_law_fraction)
  a_law_table : Addr
  fd_law_table : FuncData
  F_law_table : Fun K "_law_table" "_law_table" s_law_table a_law_table fd_law_table
  b_law_table : Binds K fd_law_table ["hand", "rows", "width"] []
  k_law_table : PySem.W.keepIn K (.ref a_law_table) = true
  g_law_table : mg "_law_table" = some (.ref a_law_table)
  a_law_run : Addr
  fd_law_run : FuncData
  F_law_run : Fun K "_law_run" "_law_run" s_law_run a_law_run fd_law_run
  b_law_run : Binds K fd_law_run ["hand", "rows", "answers", "many"] []
  k_law_run : PySem.W.keepIn K (.ref a_law_run) = true
  g_law_run : mg "_law_run" = some (.ref a_law_run)
  a_check_code : Addr
  fd_check_code : FuncData
  F_check_code : Fun K "check_code" "check_code" s_check_code a_check_code fd_check_code
  b_check_code : Binds K fd_check_code ["thing", "rows"] []
  k_check_code : PySem.W.keepIn K (.ref a_check_code) = true
  g_check_code : mg "check_code" = some (.ref a_check_code)
  a_Prices_table : Addr
  fd_Prices_table : FuncData
  F_Prices_table : Fun K "table" "Prices.table" s_Prices_table a_Prices_table fd_Prices_table
  b_Prices_table : Binds K fd_Prices_table ["self"] []
  k_Prices_table : PySem.W.keepIn K (.ref a_Prices_table) = true
  a_shared_bottom : Addr
  fd_shared_bottom : FuncData
  F_shared_bottom : Fun K "shared_bottom" "shared_bottom" s_shared_bottom a_shared_bottom fd_shared_bottom
  b_shared_bottom : Binds K fd_shared_bottom ["prices"] []
  k_shared_bottom : PySem.W.keepIn K (.ref a_shared_bottom) = true
  g_shared_bottom : mg "shared_bottom" = some (.ref a_shared_bottom)
  a_tail_behind : Addr
  fd_tail_behind : FuncData
  F_tail_behind : Fun K "tail_behind" "tail_behind" s_tail_behind a_tail_behind fd_tail_behind
  b_tail_behind : Binds K fd_tail_behind ["stretch", "width"] []
  k_tail_behind : PySem.W.keepIn K (.ref a_tail_behind) = true
  g_tail_behind : mg "tail_behind" = some (.ref a_tail_behind)
  a_charged : Addr
  fd_charged : FuncData
  F_charged : Fun K "charged" "charged" s_charged a_charged fd_charged
  b_charged : Binds K fd_charged ["tops", "width", "tail", "code"] []
  k_charged : PySem.W.keepIn K (.ref a_charged) = true
  g_charged : mg "charged" = some (.ref a_charged)
  a_first_tail : Addr
  fd_first_tail : FuncData
  F_first_tail : Fun K "first_tail" "first_tail" s_first_tail a_first_tail fd_first_tail
  b_first_tail : Binds K fd_first_tail ["width"] []
  k_first_tail : PySem.W.keepIn K (.ref a_first_tail) = true
  g_first_tail : mg "first_tail" = some (.ref a_first_tail)
  a_lowest : Addr
  fd_lowest : FuncData
  F_lowest : Fun K "lowest" "lowest" s_lowest a_lowest fd_lowest
  b_lowest : Binds K fd_lowest ["top", "bottom"] []
  k_lowest : PySem.W.keepIn K (.ref a_lowest) = true
  g_lowest : mg "lowest" = some (.ref a_lowest)
  a_cost : Addr
  fd_cost : FuncData
  F_cost : Fun K "cost" "cost" s_cost a_cost fd_cost
  b_cost : Binds K fd_cost ["prices", "code"] []
  k_cost : PySem.W.keepIn K (.ref a_cost) = true
  g_cost : mg "cost" = some (.ref a_cost)
  a_price : Addr
  fd_price : FuncData
  F_price : Fun K "price" "price" s_price a_price fd_price
  b_price : Binds K fd_price ["prices", "code"] []
  k_price : PySem.W.keepIn K (.ref a_price) = true
  g_price : mg "price" = some (.ref a_price)
  a_check_same_rows : Addr
  fd_check_same_rows : FuncData
  F_check_same_rows : Fun K "check_same_rows" "check_same_rows" s_check_same_rows a_check_same_rows fd_check_same_rows
  b_check_same_rows : Binds K fd_check_same_rows ["machine", "prices"] []
  k_check_same_rows : PySem.W.keepIn K (.ref a_check_same_rows) = true
  g_check_same_rows : mg "check_same_rows" = some (.ref a_check_same_rows)
  a_is_run : Addr
  fd_is_run : FuncData
  F_is_run : Fun K "is_run" "is_run" s_is_run a_is_run fd_is_run
  b_is_run : Binds K fd_is_run ["thing", "rows", "answers"] []
  k_is_run : PySem.W.keepIn K (.ref a_is_run) = true
  g_is_run : mg "is_run" = some (.ref a_is_run)
  a_check_run : Addr
  fd_check_run : FuncData
  F_check_run : Fun K "check_run" "check_run" s_check_run a_check_run fd_check_run
  b_check_run : Binds K fd_check_run ["machine", "run"] []
  k_check_run : PySem.W.keepIn K (.ref a_check_run) = true
  g_check_run : mg "check_run" = some (.ref a_check_run)
  a_minus : Addr
  fd_minus : FuncData
  F_minus : Fun K "minus" "minus" s_minus a_minus fd_minus
  b_minus : Binds K fd_minus ["one", "other"] []
  k_minus : PySem.W.keepIn K (.ref a_minus) = true
  g_minus : mg "minus" = some (.ref a_minus)
  a_walked : Addr
  fd_walked : FuncData
  F_walked : Fun K "walked" "walked" s_walked a_walked fd_walked
  b_walked : Binds K fd_walked ["machine", "start", "run"] []
  k_walked : PySem.W.keepIn K (.ref a_walked) = true
  g_walked : mg "walked" = some (.ref a_walked)
  a_rest : Addr
  fd_rest : FuncData
  F_rest : Fun K "rest" "rest" s_rest a_rest fd_rest
  b_rest : Binds K fd_rest ["machine", "prices", "run"] []
  k_rest : PySem.W.keepIn K (.ref a_rest) = true
  g_rest : mg "rest" = some (.ref a_rest)
  a_law_common : Addr
  fd_law_common : FuncData
  F_law_common : Fun K "_law_common" "_law_common" s_law_common a_law_common fd_law_common
  b_law_common : Binds K fd_law_common ["one", "other"] []
  k_law_common : PySem.W.keepIn K (.ref a_law_common) = true
  g_law_common : mg "_law_common" = some (.ref a_law_common)
  a_law_sum : Addr
  fd_law_sum : FuncData
  F_law_sum : Fun K "_law_sum" "_law_sum" s_law_sum a_law_sum fd_law_sum
  b_law_sum : Binds K fd_law_sum ["fractions"] []
  k_law_sum : PySem.W.keepIn K (.ref a_law_sum) = true
  g_law_sum : mg "_law_sum" = some (.ref a_law_sum)
  a_ticks : Addr
  fd_ticks : FuncData
  F_ticks : Fun K "ticks" "ticks" s_ticks a_ticks fd_ticks
  b_ticks : Binds K fd_ticks ["machine", "run"] []
  k_ticks : PySem.W.keepIn K (.ref a_ticks) = true
  g_ticks : mg "ticks" = some (.ref a_ticks)
  a_law_written : Addr
  fd_law_written : FuncData
  F_law_written : Fun K "_law_written" "_law_written" s_law_written a_law_written fd_law_written
  b_law_written : Binds K fd_law_written ["long"] []
  k_law_written : PySem.W.keepIn K (.ref a_law_written) = true
  g_law_written : mg "_law_written" = some (.ref a_law_written)
  a_is_turn : Addr
  fd_is_turn : FuncData
  F_is_turn : Fun K "_is_turn" "_is_turn" s_is_turn a_is_turn fd_is_turn
  b_is_turn : Binds K fd_is_turn ["thing", "rows", "answers"] []
  k_is_turn : PySem.W.keepIn K (.ref a_is_turn) = true
  g_is_turn : mg "_is_turn" = some (.ref a_is_turn)
  a_check_long : Addr
  fd_check_long : FuncData
  F_check_long : Fun K "check_long" "check_long" s_check_long a_check_long fd_check_long
  b_check_long : Binds K fd_check_long ["thing", "rows", "answers"] []
  k_check_long : PySem.W.keepIn K (.ref a_check_long) = true
  g_check_long : mg "check_long" = some (.ref a_check_long)
  a_repeated : Addr
  fd_repeated : FuncData
  F_repeated : Fun K "_repeated" "_repeated" s_repeated a_repeated fd_repeated
  b_repeated : Binds K fd_repeated ["run", "times", "here", "once"] []
  k_repeated : PySem.W.keepIn K (.ref a_repeated) = true
  g_repeated : mg "_repeated" = some (.ref a_repeated)
  a_summed : Addr
  fd_summed : FuncData
  F_summed : Fun K "_summed" "_summed" s_summed a_summed fd_summed
  b_summed : Binds K fd_summed ["long", "here", "once"] []
  k_summed : PySem.W.keepIn K (.ref a_summed) = true
  g_summed : mg "_summed" = some (.ref a_summed)
  a_long_ticks : Addr
  fd_long_ticks : FuncData
  ct_long_ticks : Addr
  Pt_long_ticks : Addr
  TB_long_ticks : LamX.TabB base mg ct_long_ticks Pt_long_ticks
  tm_long_ticks : (Pt_long_ticks, ("long_ticks.<locals>.<lambda>" : Str)) ∈ NMs.T K
  tu_long_ticks : ∀ p ∈ NMs.T K, p.1 = Pt_long_ticks → p.2 = "long_ticks.<locals>.<lambda>"
  F_long_ticks : FunL K "long_ticks" "long_ticks" s_long_ticks a_long_ticks fd_long_ticks ct_long_ticks
  b_long_ticks : Binds K fd_long_ticks ["machine", "long"] []
  k_long_ticks : PySem.W.keepIn K (.ref a_long_ticks) = true
  g_long_ticks : mg "long_ticks" = some (.ref a_long_ticks)
  a_long_price : Addr
  fd_long_price : FuncData
  ct_long_price : Addr
  Pt_long_price : Addr
  TB_long_price : LamX.TabB base mg ct_long_price Pt_long_price
  tm_long_price : (Pt_long_price, ("long_price.<locals>.<lambda>" : Str)) ∈ NMs.T K
  tu_long_price : ∀ p ∈ NMs.T K, p.1 = Pt_long_price → p.2 = "long_price.<locals>.<lambda>"
  F_long_price : FunL K "long_price" "long_price" s_long_price a_long_price fd_long_price ct_long_price
  b_long_price : Binds K fd_long_price ["prices", "long"] []
  k_long_price : PySem.W.keepIn K (.ref a_long_price) = true
  g_long_price : mg "long_price" = some (.ref a_long_price)
  a_law_led : Addr
  fd_law_led : FuncData
  F_law_led : Fun K "_law_led" "_law_led" s_law_led a_law_led fd_law_led
  b_law_led : Binds K fd_law_led ["world", "at", "run"] []
  k_law_led : PySem.W.keepIn K (.ref a_law_led) = true
  g_law_led : mg "_law_led" = some (.ref a_law_led)
  a_law_map : Addr
  fd_law_map : FuncData
  F_law_map : Fun K "_law_map" "_law_map" s_law_map a_law_map fd_law_map
  b_law_map : Binds K fd_law_map ["world", "run"] []
  k_law_map : PySem.W.keepIn K (.ref a_law_map) = true
  g_law_map : mg "_law_map" = some (.ref a_law_map)
  a_law_behind : Addr
  fd_law_behind : FuncData
  F_law_behind : Fun K "_law_behind" "_law_behind" s_law_behind a_law_behind fd_law_behind
  b_law_behind : Binds K fd_law_behind ["one", "other"] []
  k_law_behind : PySem.W.keepIn K (.ref a_law_behind) = true
  g_law_behind : mg "_law_behind" = some (.ref a_law_behind)
  a_law_many : Addr
  fd_law_many : FuncData
  F_law_many : Fun K "_law_many" "_law_many" s_law_many a_law_many fd_law_many
  b_law_many : Binds K fd_law_many ["world", "run", "times"] []
  k_law_many : PySem.W.keepIn K (.ref a_law_many) = true
  g_law_many : mg "_law_many" = some (.ref a_law_many)
  a_law_great_price : Addr
  fd_law_great_price : FuncData
  F_law_great_price : Fun K "_law_great_price" "_law_great_price" s_law_great_price a_law_great_price fd_law_great_price
  b_law_great_price : Binds K fd_law_great_price ["prices", "run", "times"] []
  k_law_great_price : PySem.W.keepIn K (.ref a_law_great_price) = true
  g_law_great_price : mg "_law_great_price" = some (.ref a_law_great_price)
  a_law_word : Addr
  fd_law_word : FuncData
  F_law_word : Fun K "_law_word" "_law_word" s_law_word a_law_word fd_law_word
  b_law_word : Binds K fd_law_word ["machine", "prices", "run"] []
  k_law_word : PySem.W.keepIn K (.ref a_law_word) = true
  g_law_word : mg "_law_word" = some (.ref a_law_word)
  a_law : Addr
  fd_law : FuncData
  F_law : Fun K "law" "law" s_law a_law fd_law
  b_law : Binds K fd_law ["script"] []
  k_law : PySem.W.keepIn K (.ref a_law) = true
  g_law : mg "law" = some (.ref a_law)
  i_gcd : mg "gcd" = some (.builtin "math.gcd")
  i_lcm : mg "lcm" = some (.builtin "math.lcm")
  c_Machine : Addr
  C_Machine : mg "Machine" = some (.ref c_Machine)
  mk_Machine : Mk K c_Machine a_Machine_init
  c_Prices : Addr
  C_Prices : mg "Prices" = some (.ref c_Prices)
  mk_Prices : Mk K c_Prices a_Prices_init
  K_Prices : Cls K c_Prices
  p_Prices_table : Addr
  P_Prices_table : PropOf K c_Prices "table" p_Prices_table a_Prices_table
  c_NoCode : Addr
  C_NoCode : mg "NoCode" = some (.ref c_NoCode)
  E_NoCode : ExcCls K c_NoCode
  c_NoLong : Addr
  C_NoLong : mg "NoLong" = some (.ref c_NoLong)
  E_NoLong : ExcCls K c_NoLong
  c_NoRun : Addr
  C_NoRun : mg "NoRun" = some (.ref c_NoRun)
  E_NoRun : ExcCls K c_NoRun
  c_OtherRows : Addr
  C_OtherRows : mg "OtherRows" = some (.ref c_OtherRows)
  E_OtherRows : ExcCls K c_OtherRows
  a_BadMachine_init : Addr
  fd_BadMachine_init : FuncData
  F_BadMachine_init : Fun K "__init__" "BadMachine.__init__" s_BadMachine_init a_BadMachine_init fd_BadMachine_init
  b_BadMachine_init : Binds K fd_BadMachine_init ["self", "part"] []
  c_BadMachine : Addr
  C_BadMachine : mg "BadMachine" = some (.ref c_BadMachine)
  X_BadMachine : ExcFld K c_BadMachine a_BadMachine_init "part"
  a_BadPrices_init : Addr
  fd_BadPrices_init : FuncData
  F_BadPrices_init : Fun K "__init__" "BadPrices.__init__" s_BadPrices_init a_BadPrices_init fd_BadPrices_init
  b_BadPrices_init : Binds K fd_BadPrices_init ["self", "part"] []
  c_BadPrices : Addr
  C_BadPrices : mg "BadPrices" = some (.ref c_BadPrices)
  X_BadPrices : ExcFld K c_BadPrices a_BadPrices_init "part"
  sub : SubOk K mg subT
  f__table : FldOk K mg fldC__table "_table"
  f_answers : FldOk K mg fldC_answers "answers"
  f_moves : FldOk K mg fldC_moves "moves"
  f_rows : FldOk K mg fldC_rows "rows"
  f_size : FldOk K mg fldC_size "size"
  f_width : FldOk K mg fldC_width "width"
  n_abs : mg "abs" = none
  n_all : mg "all" = none
  n_bool : mg "bool" = none
  n_dict : mg "dict" = none
  n_int : mg "int" = none
  n_isinstance : mg "isinstance" = none
  n_len : mg "len" = none
  n_range : mg "range" = none
  n_sorted : mg "sorted" = none
  n_str : mg "str" = none
  n_sum : mg "sum" = none
  n_tuple : mg "tuple" = none
  n_zip : mg "zip" = none
  c_LETTERS : ∃ t, mg "LETTERS" = some (.str "abcdefghijklmnopqrstuvwxyz" t)
section
variable {P : Program} {w : World} {K : PySem.W.Frag} {mg : Str → Option Value} {base : Heap}
theorem GX_BadMachine (T : Txt K mg base) : FnOk P w K mg base (L2.CX P w) 1 T.a_BadMachine_init T.fd_BadMachine_init ["self", "part"] (spX K "part") := by
  refine T.F_BadMachine_init.okX sc_BadMachine_init (fun vs H Q E h => by obtain ⟨a, C, v, rfl, _⟩ := h; rfl) (fun cdv A outer s H vs Q E hr h => ⟨_, pss_one (ps_ost (pv 0) (pv 1)), ?_⟩)
  obtain ⟨a, C, v, rfl, T1, n1, ea, q⟩ := h
  exact ⟨v, rfl, .ref a, rfl, a, C, rfl, T1, n1, .inl ⟨ea, fun dx n ne => q dx n ne⟩⟩
theorem GX_BadPrices (T : Txt K mg base) : FnOk P w K mg base (L2.CX P w) 1 T.a_BadPrices_init T.fd_BadPrices_init ["self", "part"] (spX K "part") := by
  refine T.F_BadPrices_init.okX sc_BadPrices_init (fun vs H Q E h => by obtain ⟨a, C, v, rfl, _⟩ := h; rfl) (fun cdv A outer s H vs Q E hr h => ⟨_, pss_one (ps_ost (pv 0) (pv 1)), ?_⟩)
  obtain ⟨a, C, v, rfl, T1, n1, ea, q⟩ := h
  exact ⟨v, rfl, .ref a, rfl, a, C, rfl, T1, n1, .inl ⟨ea, fun dx n ne => q dx n ne⟩⟩
theorem G_law_hand (T : Txt K mg base) : FnOk P w K mg base (L2.CX P w) 1 T.a_law_hand T.fd_law_hand ["script"] (spD K mg m_law_hand 1) := by
  rw [m_law_hand_e]
  refine fn_d T.F_law_hand sc_law_hand (fun cdv A outer s H E hr tk hx => ?_)
  show PSsd _ _ (defBody s_law_hand) d_law_hand
  unfold d_law_hand
  exact (by refine (pssd_cons ?_ (pssd_one ?_)); exact (psd_setLcFz (i := 1) rfl rfl (sw_true rfl rfl rfl (by decide +kernel)) rfl sc_law_hand.nd (pid_list (pd_slice (pd_var (pv 0)) pod_none (pod_some pd_int))) (blkOk_by (own := [("cell", 2)]) (N := N_law_hand) (show blkC N_law_hand (defScope s_law_hand) _ _ = true by decide +kernel)) (gs_name 2) (by decide) (fun _ _ _ _ _ => (pg_name (i := 2) sc_law_hand.nd rfl (.inl rfl))) (fun _ _ _ _ _ => ptsd_nil) (fun _ _ _ _ _ => (pd_callB call_abs rc_abs (by rfl) T.n_abs (by decide +kernel) (pad_cons (pd_callTy call_int1 rc_int (by rfl) T.n_int (by decide +kernel) (pad_cons (pd_var (pv 2)) pad_nil)) pad_nil)))); exact (psd_ret (pd_new (pld_lst (pad_cons (pd_var (pv 1)) (pad_cons pd_int (pad_cons pd_int (pad_cons (pd_op op_addAll rd_add pd_int (pd_callB call_len rc_len (by rfl) T.n_len (by decide +kernel) (pad_cons (pd_var (pv 1)) pad_nil))) (pad_cons pd_int pad_nil)))))))))
theorem G_law_draw (T : Txt K mg base) : FnOk P w K mg base (L2.CX P w) 1 T.a_law_draw T.fd_law_draw ["hand", "many"] (spD K mg m_law_draw 2) := by
  rw [m_law_draw_e]
  refine fn_d T.F_law_draw sc_law_draw (fun cdv A outer s H E hr tk hx => ?_)
  show PSsd _ _ (defBody s_law_draw) d_law_draw
  unfold d_law_draw
  exact (by refine (pssd_cons ?_ (pssd_cons ?_ (pssd_cons ?_ (pssd_cons ?_ (pssd_cons ?_ (pssd_cons ?_ (pssd_one ?_))))))); exact (psd_if (ptd_w (pwd_and (ptd_cmp (op_eqD hr.units) rd_eq (pd_ix ix_seq rd_ix (pd_var (pv 0)) pd_int) pd_int (nomark _)) (pwd_and1 (ptd_cmp op_ltS rd_ltS (pd_ix ix_seq rd_ix (pd_var (pv 0)) pd_int) (pd_callB call_len rc_len (by rfl) T.n_len (by decide +kernel) (pad_cons (pd_ix ix_seq rd_ix (pd_var (pv 0)) pd_int) pad_nil)) (nomark _))))) (by refine (pssd_cons ?_ (pssd_cons ?_ (pssd_cons ?_ (pssd_one ?_)))); exact (psd_set (i := 2) sc_law_draw.nd rfl (.inl rfl) (pd_ix ix_seq rd_ix (pd_ix ix_seq rd_ix (pd_var (pv 0)) pd_int) (pd_ix ix_seq rd_ix (pd_var (pv 0)) pd_int))); exact (psd_setItem (pd_op op_addAll rd_add (pd_ix ix_seq rd_ix (pd_var (pv 0)) pd_int) pd_int) (pd_var (pv 0)) pd_int); exact (psd_setItem (pd_op op_mod rd_mod (pd_callTy call_int1 rc_int (by rfl) T.n_int (by decide +kernel) (pad_cons (pd_op op_addAll rd_add (pd_op op_addAll rd_add (pd_op op_mul rd_mul (pd_ix ix_seq rd_ix (pd_var (pv 0)) pd_int) pd_int) (pd_var (pv 2))) pd_int) pad_nil)) pd_int) (pd_var (pv 0)) pd_int); exact (psd_if (ptd_cmp op_ge rd_ge (pd_var (pv 2)) (pd_op op_pow rd_pow pd_int pd_int) (nomark _)) (by refine (pssd_one ?_); exact (psd_setItem (pd_var (pv 2)) (pd_var (pv 0)) pd_int)) pssd_nil)) pssd_nil); exact (psd_if (ptd_cmp op_gt rd_gt (pd_ix ix_seq rd_ix (pd_var (pv 0)) pd_int) pd_int (nomark _)) (by refine (pssd_cons ?_ (pssd_cons ?_ (pssd_one ?_))); exact (psd_set (i := 3) sc_law_draw.nd rfl (.inl rfl) (pd_op op_mod rd_mod (pd_callTy call_int1 rc_int (by rfl) T.n_int (by decide +kernel) (pad_cons (pd_ix ix_seq rd_ix (pd_var (pv 0)) pd_int) pad_nil)) (pd_var (pv 1)))); exact (psd_setItem (pd_op op_fdiv rd_div (pd_ix ix_seq rd_ix (pd_var (pv 0)) pd_int) (pd_var (pv 1))) (pd_var (pv 0)) pd_int); exact (psd_ret (pd_var (pv 3)))) pssd_nil); exact (psd_setItem (pd_op op_addAll rd_add (pd_ix ix_seq rd_ix (pd_var (pv 0)) pd_int) pd_int) (pd_var (pv 0)) pd_int); exact (psd_set (i := 4) sc_law_draw.nd rfl (.inl rfl) (pd_op op_mod rd_mod (pd_callTy call_int1 rc_int (by rfl) T.n_int (by decide +kernel) (pad_cons (pd_op op_mul rd_mul (pd_callTy call_int1 rc_int (by rfl) T.n_int (by decide +kernel) (pad_cons (pd_op op_addAll rd_add (pd_ix ix_seq rd_ix (pd_var (pv 0)) pd_int) (pd_op op_mul rd_mul pd_int (pd_ix ix_seq rd_ix (pd_var (pv 0)) pd_int))) pad_nil)) pd_int) pad_nil)) pd_int)); exact (psd_set (i := 4) sc_law_draw.nd rfl (.inl rfl) (pd_op op_mod rd_mod (pd_callTy call_int1 rc_int (by rfl) T.n_int (by decide +kernel) (pad_cons (pd_op op_mul rd_mul (pd_var (pv 4)) (pd_op op_addAll rd_add (pd_op op_fdiv rd_div (pd_var (pv 4)) pd_int) pd_int)) pad_nil)) pd_int)); exact (psd_set (i := 4) sc_law_draw.nd rfl (.inl rfl) (pd_op op_mod rd_mod (pd_callTy call_int1 rc_int (by rfl) T.n_int (by decide +kernel) (pad_cons (pd_op op_mul rd_mul (pd_var (pv 4)) (pd_op op_addAll rd_add (pd_op op_fdiv rd_div (pd_var (pv 4)) pd_int) pd_int)) pad_nil)) pd_int)); exact (psd_ret (pd_op op_mod rd_mod (pd_callTy call_int1 rc_int (by rfl) T.n_int (by decide +kernel) (pad_cons (pd_op op_fdiv rd_div (pd_var (pv 4)) pd_int) pad_nil)) (pd_var (pv 1)))))
theorem G_law_rows (T : Txt K mg base) : FnOk P w K mg base (L2.CX P w) 2 T.a_law_rows T.fd_law_rows ["hand", "kinds"] (spD K mg m_law_rows 2) := by
  have G_law_draw := G_law_draw (P := P) (w := w) (base := base) T
  rw [m_law_rows_e]
  refine fn_d T.F_law_rows sc_law_rows (fun cdv A outer s H E hr tk hx => ?_)
  show PSsd _ _ (defBody s_law_rows) d_law_rows
  unfold d_law_rows
  exact (by refine (pssd_cons ?_ (pssd_cons ?_ (pssd_cons ?_ (pssd_cons ?_ (pssd_one ?_))))); exact (psd_set (i := 2) sc_law_rows.nd rfl (.inl rfl) (pd_op op_addAll rd_add pd_int (pd_own G_law_draw (hr.mono (by decide)) (by rfl) T.g_law_draw T.k_law_draw T.b_law_draw hx (pad_cons (pd_var (pv 0)) (pad_cons (pd_var (pv 1)) pad_nil))))); exact (psd_set (i := 3) sc_law_rows.nd rfl (.inl rfl) pd_str); exact (psd_set (i := 4) sc_law_rows.nd rfl (.inl rfl) pd_str); exact (psd_for (passes_of rfl) rfl (pid_range1 (by rfl) T.n_range (pad_cons (pd_var (pv 2)) pad_nil)) (pg_name (i := 5) sc_law_rows.nd rfl (.inl rfl)) (gs_name 5) (by refine (pssd_cons ?_ (pssd_cons ?_ (pssd_one ?_))); exact (psd_set (i := 6) sc_law_rows.nd rfl (.inl rfl) (pd_own G_law_draw (hr.mono (by decide)) (by rfl) T.g_law_draw T.k_law_draw T.b_law_draw hx (pad_cons (pd_var (pv 0)) (pad_cons (pd_op op_sub rd_sub (pd_callB call_len rc_len (by rfl) T.n_len (by decide +kernel) (pad_cons (pd_var (pv 4)) pad_nil)) (pd_op op_sub rd_sub (pd_op op_sub rd_sub (pd_var (pv 2)) (pd_var (pv 5))) pd_int)) pad_nil)))); exact (psd_set (i := 3) sc_law_rows.nd rfl (.inl rfl) (pd_op op_addAll rd_add (pd_var (pv 3)) (pd_ix ix_seq rd_ix (pd_var (pv 4)) (pd_var (pv 6))))); exact (psd_set (i := 4) sc_law_rows.nd rfl (.inl rfl) (pd_slice (pd_var (pv 4)) (pod_some (pd_op op_addAll rd_add (pd_var (pv 6)) pd_int)) pod_none)))); exact (psd_ret (pd_var (pv 3))))
theorem G_law_line (T : Txt K mg base) : FnOk P w K mg base (L2.CX P w) 2 T.a_law_line T.fd_law_line ["hand", "answers", "size", "top"] (spD K mg m_law_line 4) := by
  have G_law_draw := G_law_draw (P := P) (w := w) (base := base) T
  rw [m_law_line_e]
  refine fn_d T.F_law_line sc_law_line (fun cdv A outer s H E hr tk hx => ?_)
  show PSsd _ _ (defBody s_law_line) d_law_line
  unfold d_law_line
  exact (by refine (pssd_one ?_); exact (psd_ret (pd_callTy call_tuple_of rc_tuple (by rfl) T.n_tuple (by decide +kernel) (pad_cons (pd_fz (pld_lc rfl sc_law_line.nd (pid_range1 (by rfl) T.n_range (pad_cons (pd_var (pv 1)) pad_nil)) (blkOk_by (own := [("answer", 4)]) (N := N_law_line) (show blkC N_law_line (defScope s_law_line) _ _ = true by decide +kernel)) (gs_name 4) (by decide) (fun _ _ _ _ _ => (pg_name (i := 4) sc_law_line.nd rfl (.inl rfl))) (fun _ _ _ _ _ => ptsd_nil) (fun _ _ _ _ _ => (pd_tup (pad_cons (pd_op op_addAll rd_add pd_int (pd_own G_law_draw (hr.mono (by decide)) (by rfl) T.g_law_draw T.k_law_draw T.b_law_draw lets0 (pad_cons (pd_var (pv 0)) (pad_cons (pd_var (pv 3)) pad_nil)))) (pad_cons (pd_own G_law_draw (hr.mono (by decide)) (by rfl) T.g_law_draw T.k_law_draw T.b_law_draw lets0 (pad_cons (pd_var (pv 0)) (pad_cons (pd_var (pv 2)) pad_nil))) pad_nil)))))) pad_nil))))
theorem G_law_world (T : Txt K mg base) : FnOk P w K mg base (L2.CX P w) 3 T.a_law_world T.fd_law_world ["hand", "kinds", "size"] (spD K mg m_law_world 3) := by
  have G_law_draw := G_law_draw (P := P) (w := w) (base := base) T
  have G_law_rows := G_law_rows (P := P) (w := w) (base := base) T
  have G_law_line := G_law_line (P := P) (w := w) (base := base) T
  rw [m_law_world_e]
  refine fn_d T.F_law_world sc_law_world (fun cdv A outer s H E hr tk hx => ?_)
  show PSsd _ _ (defBody s_law_world) d_law_world
  unfold d_law_world
  exact (by refine (pssd_cons ?_ (pssd_cons ?_ (pssd_cons ?_ (pssd_cons ?_ (pssd_cons ?_ (pssd_cons ?_ (pssd_one ?_))))))); exact (psd_set (i := 3) sc_law_world.nd rfl (.inl rfl) (pd_own G_law_rows (hr.mono (by decide)) (by rfl) T.g_law_rows T.k_law_rows T.b_law_rows hx (pad_cons (pd_var (pv 0)) (pad_cons (pd_var (pv 1)) pad_nil)))); exact (psd_set (i := 4) sc_law_world.nd rfl (.inr rfl) (pd_ix ix_seq rd_ix (pd_fz (pld_lst (pad_cons pd_int (pad_cons pd_int (pad_cons pd_int (pad_cons pd_int (pad_cons pd_int pad_nil))))))) (pd_own G_law_draw (hr.mono (by decide)) (by rfl) T.g_law_draw T.k_law_draw T.b_law_draw hx (pad_cons (pd_var (pv 0)) (pad_cons pd_int pad_nil))))); exact (psd_set (i := 5) sc_law_world.nd rfl (.inr rfl) (pd_op op_addAll rd_add pd_int (pd_own G_law_draw (hr.mono (by decide)) (by rfl) T.g_law_draw T.k_law_draw T.b_law_draw hx (pad_cons (pd_var (pv 0)) (pad_cons (pd_var (pv 2)) pad_nil))))); exact (psd_set (i := 6) sc_law_world.nd rfl (.inr rfl) (pd_ix ix_seq rd_ix (pd_fz (pld_lst (pad_cons pd_int (pad_cons pd_int (pad_cons pd_int (pad_cons pd_int (pad_cons pd_int pad_nil))))))) (pd_own G_law_draw (hr.mono (by decide)) (by rfl) T.g_law_draw T.k_law_draw T.b_law_draw hx (pad_cons (pd_var (pv 0)) (pad_cons pd_int pad_nil))))); exact (psd_set (i := 7) sc_law_world.nd rfl (.inl rfl) (pd_new (pld_lst pad_nil))); exact (psd_for (passes_of rfl) rfl (pid_range1 (by rfl) T.n_range (pad_cons (pd_var (pv 5)) pad_nil)) (pg_name (i := 8) sc_law_world.nd rfl (.inl rfl)) (gs_name 8) (by refine (pssd_one ?_); exact (psd_expr (pd_bm PySem.F.plainAttrs_list PySem.F.slot_list_append PySem.F.type_list_append mt_append rm_append (pd_var (pv 7)) (pad_cons (pd_callTy call_tuple_of rc_tuple (by rfl) T.n_tuple (by decide +kernel) (pad_cons (pd_fz (pld_lc rfl sc_law_world.nd (pid_str (pd_var (pv 3))) (blkOk_by (own := [("row", 9)]) (N := N_law_world) (show blkC N_law_world (defScope s_law_world) _ _ = true by decide +kernel)) (gs_name 9) (by decide) (fun _ _ _ _ _ => (pg_name (i := 9) sc_law_world.nd rfl (.inl rfl))) (fun _ _ _ _ _ => ptsd_nil) (fun _ _ _ _ _ => (pd_own G_law_line (hr.mono (by decide)) (by rfl) T.g_law_line T.k_law_line T.b_law_line lets0 (pad_cons (pd_var (pv 0)) (pad_cons (pd_var (pv 4)) (pad_cons (pd_var (pv 5)) (pad_cons (pd_var (pv 6)) pad_nil)))))))) pad_nil)) pad_nil))))); exact (psd_ret (pd_tup (pad_cons (pd_var (pv 3)) (pad_cons (pd_var (pv 4)) (pad_cons (pd_callTy call_tuple_of rc_tuple (by rfl) T.n_tuple (by decide +kernel) (pad_cons (pd_var (pv 7)) pad_nil)) pad_nil))))))
theorem G_is_code (T : Txt K mg base) : FnOk P w K mg base (L2.CX P w) 1 T.a_is_code T.fd_is_code ["thing", "rows"] (spD K mg m_is_code 2) := by
  rw [m_is_code_e]
  refine fn_d T.F_is_code sc_is_code (fun cdv A outer s H E hr tk hx => ?_)
  show PSsd _ _ (defBody s_is_code) d_is_code
  unfold d_is_code
  exact (by refine (pssd_one ?_); exact (psd_ret (pd_and (pd_callB call_isi rc_isi (by rfl) T.n_isinstance (by decide +kernel) (pad_cons (pd_var (pv 0)) (pad_cons (pd_c (v := .ty "str") (pe_bltn (by rfl) T.n_str (by decide +kernel) rfl) rfl) pad_nil))) (pd_one (pd_callB (cr_all rfl) rc_all (by rfl) T.n_all (by decide +kernel) (pad_cons (pd_fz (pld_lc rfl sc_is_code.nd (pid_str (pd_var (pv 0))) (blkOk_by (own := [("row", 2)]) (N := N_is_code) (show blkC N_is_code (defScope s_is_code) _ _ = true by decide +kernel)) (gs_name 2) (by decide) (fun _ _ _ _ _ => (pg_name (i := 2) sc_is_code.nd rfl (.inl rfl))) (fun _ _ _ _ _ => ptsd_nil) (fun _ _ _ _ _ => (pd_cmp op_inAll rd_in (pd_var (pv 2)) (pd_var (pv 1)) (by rfl))))) pad_nil))))))
theorem G_is_letters (T : Txt K mg base) : FnOk P w K mg base (L2.CX P w) 2 T.a_is_letters T.fd_is_letters ["thing", "letters"] (spD K mg m_is_letters 2) := by
  have G_is_code := G_is_code (P := P) (w := w) (base := base) T
  rw [m_is_letters_e]
  refine fn_d T.F_is_letters sc_is_letters (fun cdv A outer s H E hr tk hx => ?_)
  show PSsd _ _ (defBody s_is_letters) d_is_letters
  unfold d_is_letters
  exact (by refine (pssd_cons ?_ (pssd_one ?_)); exact (psd_if (ptd_w (pwd_or (ptd_not (ptd_truth (pd_own G_is_code (hr.mono (by decide)) (by rfl) T.g_is_code T.k_is_code T.b_is_code hx (pad_cons (pd_var (pv 0)) (pad_cons (pd_var (pv 1)) pad_nil))))) (pwd_or1 (ptd_cmp (op_eqD hr.units) rd_eq (pd_var (pv 0)) pd_str (nomark _))))) (by refine (pssd_one ?_); exact (psd_ret pd_bl)) pssd_nil); exact (psd_ret (pd_callB (cr_all rfl) rc_all (by rfl) T.n_all (by decide +kernel) (pad_cons (pd_fz (pld_lc rfl sc_is_letters.nd (pid_range1 (by rfl) T.n_range (pad_cons (pd_op op_sub rd_sub (pd_callB call_len rc_len (by rfl) T.n_len (by decide +kernel) (pad_cons (pd_var (pv 0)) pad_nil)) pd_int) pad_nil)) (blkOk_by (own := [("at", 2)]) (N := N_is_letters) (show blkC N_is_letters (defScope s_is_letters) _ _ = true by decide +kernel)) (gs_name 2) (by decide) (fun _ _ _ _ _ => (pg_name (i := 2) sc_is_letters.nd rfl (.inl rfl))) (fun _ _ _ _ _ => ptsd_nil) (fun _ _ _ _ _ => (pd_cmp op_ltS rd_ltS (pd_ix ix_seq rd_ix (pd_var (pv 0)) (pd_var (pv 2))) (pd_ix ix_seq rd_ix (pd_var (pv 0)) (pd_op op_addAll rd_add (pd_var (pv 2)) pd_int)) (nomark _))))) pad_nil))))
theorem G_is_rows (T : Txt K mg base) : FnOk P w K mg base (L2.CX P w) 3 T.a_is_rows T.fd_is_rows ["thing"] (spD K mg m_is_rows 1) := by
  have G_is_letters := G_is_letters (P := P) (w := w) (base := base) T
  rw [m_is_rows_e]
  refine fn_d T.F_is_rows sc_is_rows (fun cdv A outer s H E hr tk hx => ?_)
  show PSsd _ _ (defBody s_is_rows) d_is_rows
  unfold d_is_rows
  exact (by refine (pssd_one ?_); exact (psd_ret (pd_and (pd_own G_is_letters (hr.mono (by decide)) (by rfl) T.g_is_letters T.k_is_letters T.b_is_letters hx (pad_cons (pd_var (pv 0)) (pad_cons (pd_c (pe_glob (v := .str "abcdefghijklmnopqrstuvwxyz") (by rfl) T.c_LETTERS.choose_spec ⟨_, rfl⟩) rfl) pad_nil))) (pd_one (pd_cmp op_le rd_le (pd_callB call_len rc_len (by rfl) T.n_len (by decide +kernel) (pad_cons (pd_var (pv 0)) pad_nil)) pd_int (nomark _))))))
theorem G_is_integer (T : Txt K mg base) : FnOk P w K mg base (L2.CX P w) 1 T.a_is_integer T.fd_is_integer ["thing"] (spD K mg m_is_integer 1) := by
  rw [m_is_integer_e]
  refine fn_d T.F_is_integer sc_is_integer (fun cdv A outer s H E hr tk hx => ?_)
  show PSsd _ _ (defBody s_is_integer) d_is_integer
  unfold d_is_integer
  exact (by refine (pssd_one ?_); exact (psd_ret (pd_and (pd_callB call_isi rc_isi (by rfl) T.n_isinstance (by decide +kernel) (pad_cons (pd_var (pv 0)) (pad_cons (pd_c (v := .ty "int") (pe_bltn (by rfl) T.n_int (by decide +kernel) rfl) rfl) pad_nil))) (pd_one (pd_not (pd_callB call_isi rc_isi (by rfl) T.n_isinstance (by decide +kernel) (pad_cons (pd_var (pv 0)) (pad_cons (pd_c (v := .ty "bool") (pe_bltn (by rfl) T.n_bool (by decide +kernel) rfl) rfl) pad_nil))))))))
theorem G_is_between (T : Txt K mg base) : FnOk P w K mg base (L2.CX P w) 2 T.a_is_between T.fd_is_between ["thing", "least", "most"] (spD K mg m_is_between 3) := by
  have G_is_integer := G_is_integer (P := P) (w := w) (base := base) T
  rw [m_is_between_e]
  refine fn_d T.F_is_between sc_is_between (fun cdv A outer s H E hr tk hx => ?_)
  show PSsd _ _ (defBody s_is_between) d_is_between
  unfold d_is_between
  exact (by refine (pssd_one ?_); exact (psd_ret (pd_and (pd_own G_is_integer (hr.mono (by decide)) (by rfl) T.g_is_integer T.k_is_integer T.b_is_integer hx (pad_cons (pd_var (pv 0)) pad_nil)) (pd_one (pd_chain op_le op_le rd_le rd_le (pd_var (pv 1)) (pd_var (pv 0)) (pd_var (pv 2)))))))
theorem G_is_answers (T : Txt K mg base) : FnOk P w K mg base (L2.CX P w) 3 T.a_is_answers T.fd_is_answers ["thing"] (spD K mg m_is_answers 1) := by
  have G_is_between := G_is_between (P := P) (w := w) (base := base) T
  rw [m_is_answers_e]
  refine fn_d T.F_is_answers sc_is_answers (fun cdv A outer s H E hr tk hx => ?_)
  show PSsd _ _ (defBody s_is_answers) d_is_answers
  unfold d_is_answers
  exact (by refine (pssd_one ?_); exact (psd_ret (pd_own G_is_between (hr.mono (by decide)) (by rfl) T.g_is_between T.k_is_between T.b_is_between hx (pad_cons (pd_var (pv 0)) (pad_cons pd_int (pad_cons pd_int pad_nil))))))
theorem G_is_tuple (T : Txt K mg base) : FnOk P w K mg base (L2.CX P w) 1 T.a_is_tuple T.fd_is_tuple ["thing", "many"] (spD K mg m_is_tuple 2) := by
  rw [m_is_tuple_e]
  refine fn_d T.F_is_tuple sc_is_tuple (fun cdv A outer s H E hr tk hx => ?_)
  show PSsd _ _ (defBody s_is_tuple) d_is_tuple
  unfold d_is_tuple
  exact (by refine (pssd_one ?_); exact (psd_ret (pd_and (pd_callB call_isi rc_isi (by rfl) T.n_isinstance (by decide +kernel) (pad_cons (pd_var (pv 0)) (pad_cons (pd_c (v := .ty "tuple") (pe_bltn (by rfl) T.n_tuple (by decide +kernel) rfl) rfl) pad_nil))) (pd_one (pd_cmp (op_eqD hr.units) rd_eq (pd_callB call_len rc_len (by rfl) T.n_len (by decide +kernel) (pad_cons (pd_var (pv 0)) pad_nil)) (pd_var (pv 1)) (nomark _))))))
theorem G_is_move (T : Txt K mg base) : FnOk P w K mg base (L2.CX P w) 3 T.a_is_move T.fd_is_move ["pair", "size"] (spD K mg m_is_move 2) := by
  have G_is_between := G_is_between (P := P) (w := w) (base := base) T
  have G_is_tuple := G_is_tuple (P := P) (w := w) (base := base) T
  rw [m_is_move_e]
  refine fn_d T.F_is_move sc_is_move (fun cdv A outer s H E hr tk hx => ?_)
  show PSsd _ _ (defBody s_is_move) d_is_move
  unfold d_is_move
  exact (by refine (pssd_one ?_); exact (psd_ret (pd_and (pd_own G_is_tuple (hr.mono (by decide)) (by rfl) T.g_is_tuple T.k_is_tuple T.b_is_tuple hx (pad_cons (pd_var (pv 0)) (pad_cons pd_int pad_nil))) (pd_and (pd_own G_is_between (hr.mono (by decide)) (by rfl) T.g_is_between T.k_is_between T.b_is_between hx (pad_cons (pd_ix ix_seq rd_ix (pd_var (pv 0)) pd_int) (pad_cons pd_int (pad_cons pd_int pad_nil)))) (pd_one (pd_own G_is_between (hr.mono (by decide)) (by rfl) T.g_is_between T.k_is_between T.b_is_between hx (pad_cons (pd_ix ix_seq rd_ix (pd_var (pv 0)) pd_int) (pad_cons pd_int (pad_cons (pd_op op_sub rd_sub (pd_var (pv 1)) pd_int) pad_nil)))))))))
theorem G_are_pairs (T : Txt K mg base) : FnOk P w K mg base (L2.CX P w) 4 T.a_are_pairs T.fd_are_pairs ["pairs", "answers", "size"] (spD K mg m_are_pairs 3) := by
  have G_is_tuple := G_is_tuple (P := P) (w := w) (base := base) T
  have G_is_move := G_is_move (P := P) (w := w) (base := base) T
  rw [m_are_pairs_e]
  refine fn_d T.F_are_pairs sc_are_pairs (fun cdv A outer s H E hr tk hx => ?_)
  show PSsd _ _ (defBody s_are_pairs) d_are_pairs
  unfold d_are_pairs
  exact (by refine (pssd_one ?_); exact (psd_ret (pd_and (pd_own G_is_tuple (hr.mono (by decide)) (by rfl) T.g_is_tuple T.k_is_tuple T.b_is_tuple hx (pad_cons (pd_var (pv 0)) (pad_cons (pd_var (pv 1)) pad_nil))) (pd_one (pd_callB (cr_all rfl) rc_all (by rfl) T.n_all (by decide +kernel) (pad_cons (pd_fz (pld_lc rfl sc_are_pairs.nd (pid_tup (pd_var (pv 0))) (blkOk_by (own := [("pair", 3)]) (N := N_are_pairs) (show blkC N_are_pairs (defScope s_are_pairs) _ _ = true by decide +kernel)) (gs_name 3) (by decide) (fun _ _ _ _ _ => (pg_name (i := 3) sc_are_pairs.nd rfl (.inl rfl))) (fun _ _ _ _ _ => ptsd_nil) (fun _ _ _ _ _ => (pd_own G_is_move (hr.mono (by decide)) (by rfl) T.g_is_move T.k_is_move T.b_is_move lets0 (pad_cons (pd_var (pv 3)) (pad_cons (pd_var (pv 2)) pad_nil)))))) pad_nil))))))
theorem G_is_item (T : Txt K mg base) : FnOk P w K mg base (L2.CX P w) 5 T.a_is_item T.fd_is_item ["item", "rows", "answers", "size"] (spD K mg m_is_item 4) := by
  have G_is_tuple := G_is_tuple (P := P) (w := w) (base := base) T
  have G_are_pairs := G_are_pairs (P := P) (w := w) (base := base) T
  rw [m_is_item_e]
  refine fn_d T.F_is_item sc_is_item (fun cdv A outer s H E hr tk hx => ?_)
  show PSsd _ _ (defBody s_is_item) d_is_item
  unfold d_is_item
  exact (by refine (pssd_one ?_); exact (psd_ret (pd_and (pd_own G_is_tuple (hr.mono (by decide)) (by rfl) T.g_is_tuple T.k_is_tuple T.b_is_tuple hx (pad_cons (pd_var (pv 0)) (pad_cons (pd_var (pv 1)) pad_nil))) (pd_one (pd_callB (cr_all rfl) rc_all (by rfl) T.n_all (by decide +kernel) (pad_cons (pd_fz (pld_lc rfl sc_is_item.nd (pid_tup (pd_var (pv 0))) (blkOk_by (own := [("pairs", 4)]) (N := N_is_item) (show blkC N_is_item (defScope s_is_item) _ _ = true by decide +kernel)) (gs_name 4) (by decide) (fun _ _ _ _ _ => (pg_name (i := 4) sc_is_item.nd rfl (.inl rfl))) (fun _ _ _ _ _ => ptsd_nil) (fun _ _ _ _ _ => (pd_own G_are_pairs (hr.mono (by decide)) (by rfl) T.g_are_pairs T.k_are_pairs T.b_are_pairs lets0 (pad_cons (pd_var (pv 4)) (pad_cons (pd_var (pv 2)) (pad_cons (pd_var (pv 3)) pad_nil))))))) pad_nil))))))
theorem G_are_moves (T : Txt K mg base) : FnOk P w K mg base (L2.CX P w) 6 T.a_are_moves T.fd_are_moves ["moves", "rows", "answers"] (spD K mg m_are_moves 3) := by
  have G_is_item := G_is_item (P := P) (w := w) (base := base) T
  rw [m_are_moves_e]
  refine fn_d T.F_are_moves sc_are_moves (fun cdv A outer s H E hr tk hx => ?_)
  show PSsd _ _ (defBody s_are_moves) d_are_moves
  unfold d_are_moves
  exact (by refine (pssd_cons ?_ (pssd_one ?_)); exact (psd_if (ptd_w (pwd_or (ptd_not (ptd_truth (pd_callB call_isi rc_isi (by rfl) T.n_isinstance (by decide +kernel) (pad_cons (pd_var (pv 0)) (pad_cons (pd_c (v := .ty "tuple") (pe_bltn (by rfl) T.n_tuple (by decide +kernel) rfl) rfl) pad_nil))))) (pwd_or1 (ptd_not (ptd_chain op_le op_le rd_le rd_le pd_int (pd_callB call_len rc_len (by rfl) T.n_len (by decide +kernel) (pad_cons (pd_var (pv 0)) pad_nil)) pd_int))))) (by refine (pssd_one ?_); exact (psd_ret pd_bl)) pssd_nil); exact (psd_ret (pd_callB (cr_all rfl) rc_all (by rfl) T.n_all (by decide +kernel) (pad_cons (pd_fz (pld_lc rfl sc_are_moves.nd (pid_tup (pd_var (pv 0))) (blkOk_by (own := [("item", 3)]) (N := N_are_moves) (show blkC N_are_moves (defScope s_are_moves) _ _ = true by decide +kernel)) (gs_name 3) (by decide) (fun _ _ _ _ _ => (pg_name (i := 3) sc_are_moves.nd rfl (.inl rfl))) (fun _ _ _ _ _ => ptsd_nil) (fun _ _ _ _ _ => (pd_own G_is_item (hr.mono (by decide)) (by rfl) T.g_is_item T.k_is_item T.b_is_item lets0 (pad_cons (pd_var (pv 3)) (pad_cons (pd_callB call_len rc_len (by rfl) T.n_len (by decide +kernel) (pad_cons (pd_var (pv 1)) pad_nil)) (pad_cons (pd_var (pv 2)) (pad_cons (pd_callB call_len rc_len (by rfl) T.n_len (by decide +kernel) (pad_cons (pd_var (pv 0)) pad_nil)) pad_nil)))))))) pad_nil))))
theorem G_Machine_init (T : Txt K mg base) : FnOk P w K mg base (L2.CX P w) 7 T.a_Machine_init T.fd_Machine_init ["self", "rows", "answers", "moves"] (spD K mg m_Machine_init 4) := by
  have G_is_rows := G_is_rows (P := P) (w := w) (base := base) T
  have G_is_answers := G_is_answers (P := P) (w := w) (base := base) T
  have G_are_moves := G_are_moves (P := P) (w := w) (base := base) T
  rw [m_Machine_init_e]
  refine fn_d T.F_Machine_init sc_Machine_init (fun cdv A outer s H E hr tk hx => ?_)
  show PSsd _ _ (defBody s_Machine_init) d_Machine_init
  unfold d_Machine_init
  exact (by refine (pssd_cons ?_ (pssd_cons ?_ (pssd_cons ?_ (pssd_cons ?_ (pssd_cons ?_ (pssd_cons ?_ (pssd_one ?_))))))); exact (psd_if (ptd_not (ptd_truth (pd_own G_is_rows (hr.mono (by decide)) (by rfl) T.g_is_rows T.k_is_rows T.b_is_rows hx (pad_cons (pd_var (pv 1)) pad_nil)))) (by refine (pssd_one ?_); exact (psd_raiseX rfl tk T.X_BadMachine (GX_BadMachine T) (hr.mono (by decide)) T.b_BadMachine_init T.C_BadMachine (by rfl) pd_str)) pssd_nil); exact (psd_if (ptd_not (ptd_truth (pd_own G_is_answers (hr.mono (by decide)) (by rfl) T.g_is_answers T.k_is_answers T.b_is_answers hx (pad_cons (pd_var (pv 2)) pad_nil)))) (by refine (pssd_one ?_); exact (psd_raiseX rfl tk T.X_BadMachine (GX_BadMachine T) (hr.mono (by decide)) T.b_BadMachine_init T.C_BadMachine (by rfl) pd_str)) pssd_nil); exact (psd_if (ptd_not (ptd_truth (pd_own G_are_moves (hr.mono (by decide)) (by rfl) T.g_are_moves T.k_are_moves T.b_are_moves hx (pad_cons (pd_var (pv 3)) (pad_cons (pd_var (pv 1)) (pad_cons (pd_var (pv 2)) pad_nil)))))) (by refine (pssd_one ?_); exact (psd_raiseX rfl tk T.X_BadMachine (GX_BadMachine T) (hr.mono (by decide)) T.b_BadMachine_init T.C_BadMachine (by rfl) pd_str)) pssd_nil); exact (psd_setFld T.f_rows (pd_var (pv 0)) (pd_var (pv 1))); exact (psd_setFld T.f_answers (pd_var (pv 0)) (pd_var (pv 2))); exact (psd_setFld T.f_moves (pd_var (pv 0)) (pd_var (pv 3))); exact (psd_setFld T.f_size (pd_var (pv 0)) (pd_callB call_len rc_len (by rfl) T.n_len (by decide +kernel) (pad_cons (pd_var (pv 3)) pad_nil))))
theorem G_is_width (T : Txt K mg base) : FnOk P w K mg base (L2.CX P w) 3 T.a_is_width T.fd_is_width ["thing"] (spD K mg m_is_width 1) := by
  have G_is_between := G_is_between (P := P) (w := w) (base := base) T
  rw [m_is_width_e]
  refine fn_d T.F_is_width sc_is_width (fun cdv A outer s H E hr tk hx => ?_)
  show PSsd _ _ (defBody s_is_width) d_is_width
  unfold d_is_width
  exact (by refine (pssd_one ?_); exact (psd_ret (pd_own G_is_between (hr.mono (by decide)) (by rfl) T.g_is_between T.k_is_between T.b_is_between hx (pad_cons (pd_var (pv 0)) (pad_cons pd_int (pad_cons pd_int pad_nil))))))
theorem G_is_fraction (T : Txt K mg base) : FnOk P w K mg base (L2.CX P w) 2 T.a_is_fraction T.fd_is_fraction ["thing"] (spD K mg m_is_fraction 1) := by
  have G_is_integer := G_is_integer (P := P) (w := w) (base := base) T
  have G_is_tuple := G_is_tuple (P := P) (w := w) (base := base) T
  rw [m_is_fraction_e]
  refine fn_d T.F_is_fraction sc_is_fraction (fun cdv A outer s H E hr tk hx => ?_)
  show PSsd _ _ (defBody s_is_fraction) d_is_fraction
  unfold d_is_fraction
  exact (by refine (pssd_cons ?_ (pssd_one ?_)); exact (psd_if (ptd_w (pwd_or (ptd_not (ptd_truth (pd_own G_is_tuple (hr.mono (by decide)) (by rfl) T.g_is_tuple T.k_is_tuple T.b_is_tuple hx (pad_cons (pd_var (pv 0)) (pad_cons pd_int pad_nil))))) (pwd_or (ptd_not (ptd_truth (pd_own G_is_integer (hr.mono (by decide)) (by rfl) T.g_is_integer T.k_is_integer T.b_is_integer hx (pad_cons (pd_ix ix_seq rd_ix (pd_var (pv 0)) pd_int) pad_nil)))) (pwd_or1 (ptd_not (ptd_truth (pd_own G_is_integer (hr.mono (by decide)) (by rfl) T.g_is_integer T.k_is_integer T.b_is_integer hx (pad_cons (pd_ix ix_seq rd_ix (pd_var (pv 0)) pd_int) pad_nil)))))))) (by refine (pssd_one ?_); exact (psd_ret pd_bl)) pssd_nil); exact (psd_ret (pd_and (pd_cmp op_ge rd_ge (pd_ix ix_seq rd_ix (pd_var (pv 0)) pd_int) pd_int (nomark _)) (pd_one (pd_cmp (op_eqD hr.units) rd_eq (pd_callF cr_gcd rc_gcd (by rfl) T.i_gcd (pad_cons (pd_ix ix_seq rd_ix (pd_var (pv 0)) pd_int) (pad_cons (pd_ix ix_seq rd_ix (pd_var (pv 0)) pd_int) pad_nil))) pd_int (nomark _))))))
theorem G_is_table (T : Txt K mg base) : FnOk P w K mg base (L2.CX P w) 3 T.a_is_table T.fd_is_table ["table", "names"] (spD K mg m_is_table 2) := by
  have G_is_fraction := G_is_fraction (P := P) (w := w) (base := base) T
  rw [m_is_table_e]
  refine fn_d T.F_is_table sc_is_table (fun cdv A outer s H E hr tk hx => ?_)
  show PSsd _ _ (defBody s_is_table) d_is_table
  unfold d_is_table
  exact (by refine (pssd_cons ?_ (pssd_one ?_)); exact (psd_if (ptd_w (pwd_or (ptd_not (ptd_truth (pd_callB call_isi rc_isi (by rfl) T.n_isinstance (by decide +kernel) (pad_cons (pd_var (pv 0)) (pad_cons (pd_c (v := .ty "dict") (pe_bltn (by rfl) T.n_dict (by decide +kernel) rfl) rfl) pad_nil))))) (pwd_or1 (ptd_cmp (op_neD hr.units) rd_ne (pd_callB cr_lenD rc_lenD (by rfl) T.n_len (by decide +kernel) (pad_cons (pd_var (pv 0)) pad_nil)) (pd_callB call_len rc_len (by rfl) T.n_len (by decide +kernel) (pad_cons (pd_var (pv 1)) pad_nil)) (nomark _))))) (by refine (pssd_one ?_); exact (psd_ret pd_bl)) pssd_nil); exact (psd_ret (pd_callB (cr_all rfl) rc_all (by rfl) T.n_all (by decide +kernel) (pad_cons (pd_fz (pld_lc rfl sc_is_table.nd (pid_list (pd_var (pv 1))) (blkOk_by (own := [("name", 2)]) (N := N_is_table) (show blkC N_is_table (defScope s_is_table) _ _ = true by decide +kernel)) (gs_name 2) (by decide) (fun _ _ _ _ _ => (pg_name (i := 2) sc_is_table.nd rfl (.inl rfl))) (fun _ _ _ _ _ => ptsd_nil) (fun _ _ _ _ _ => (pd_and (pd_din (Nat.lt_of_le_of_lt (Nat.add_le_add_left (by decide : 1 ≤ 64) _) hr.units) (pd_var (pv 2)) (pd_var (pv 0))) (pd_one (pd_own G_is_fraction (hr.mono (by decide)) (by rfl) T.g_is_fraction T.k_is_fraction T.b_is_fraction lets0 (pad_cons (pd_dget (Nat.lt_of_le_of_lt (Nat.add_le_add_left (by decide : 1 ≤ 64) _) hr.units) (pd_var (pv 0)) (pd_var (pv 2))) pad_nil))))))) pad_nil))))
theorem G_stretches_over (T : Txt K mg base) : FnOk P w K mg base (L2.CX P w) 1 T.a_stretches_over T.fd_stretches_over ["rows", "width"] (spD K mg m_stretches_over 2) := by
  rw [m_stretches_over_e]
  refine fn_d T.F_stretches_over sc_stretches_over (fun cdv A outer s H E hr tk hx => ?_)
  show PSsd _ _ (defBody s_stretches_over) d_stretches_over
  unfold d_stretches_over
  exact (by refine (pssd_cons ?_ (pssd_cons ?_ (pssd_cons ?_ (pssd_cons ?_ (pssd_one ?_))))); exact (psd_set (i := 2) sc_stretches_over.nd rfl (.inl rfl) (pd_fz (pld_lst (pad_cons pd_str pad_nil)))); exact (psd_set (i := 3) sc_stretches_over.nd rfl (.inl rfl) (pd_new (pld_lst pad_nil))); exact (psd_for (passes_of rfl) rfl (pid_range1 (by rfl) T.n_range (pad_cons (pd_op op_sub rd_sub (pd_var (pv 1)) pd_int) pad_nil)) (pg_name (i := 4) sc_stretches_over.nd rfl (.inl rfl)) (gs_name 4) (by refine (pssd_cons ?_ (pssd_one ?_)); exact (psd_setLc2Fz (i := 2) rfl rfl (sw_true rfl rfl rfl (by decide +kernel)) rfl sc_stretches_over.nd (pid_list (pd_var (pv 2))) (blkOk_by (own := [("code", 5), ("row", 6)]) (N := N_stretches_over) (show blkC N_stretches_over (defScope s_stretches_over) _ _ = true by decide +kernel)) (by decide) (gs_name 5) (by decide) (gs_name 6) (by decide) (fun _ _ _ _ _ => (pg_name (i := 5) sc_stretches_over.nd rfl (.inl rfl))) (fun _ _ _ _ _ => ptsd_nil) (fun _ _ _ _ _ => (pidw_str (pd_var (pv 0)))) (fun _ _ _ _ _ => (pg_name (i := 6) sc_stretches_over.nd rfl (.inl rfl))) (fun _ _ _ _ _ => ptsd_nil) (fun _ _ _ _ _ => (pd_op op_addAll rd_add (pd_var (pv 5)) (pd_var (pv 6))))); exact (psd_expr (pd_bm PySem.F.plainAttrs_list PySem.F.slot_list_extend PySem.F.type_list_extend mt_extend rm_extend (pd_var (pv 3)) (pad_cons (pd_fz (pld_lc rfl sc_stretches_over.nd (pid_list (pd_var (pv 2))) (blkOk_by (own := [("code", 5)]) (N := N_stretches_over) (show blkC N_stretches_over (defScope s_stretches_over) _ _ = true by decide +kernel)) (gs_name 5) (by decide) (fun _ _ _ _ _ => (pg_name (i := 5) sc_stretches_over.nd rfl (.inl rfl))) (fun _ _ _ _ _ => ptsd_nil) (fun _ _ _ _ _ => (pd_op op_addAll rd_add pd_str (pd_var (pv 5)))))) pad_nil))))); exact (psd_expr (pd_bm PySem.F.plainAttrs_list PySem.F.slot_list_extend PySem.F.type_list_extend mt_extend rm_extend (pd_var (pv 3)) (pad_cons (pd_fz (pld_lc2 rfl sc_stretches_over.nd (pid_list (pd_var (pv 2))) (blkOk_by (own := [("code", 5), ("row", 6)]) (N := N_stretches_over) (show blkC N_stretches_over (defScope s_stretches_over) _ _ = true by decide +kernel)) (by decide) (gs_name 5) (by decide) (gs_name 6) (by decide) (fun _ _ _ _ _ => (pg_name (i := 5) sc_stretches_over.nd rfl (.inl rfl))) (fun _ _ _ _ _ => ptsd_nil) (fun _ _ _ _ _ => (pidw_str (pd_var (pv 0)))) (fun _ _ _ _ _ => (pg_name (i := 6) sc_stretches_over.nd rfl (.inl rfl))) (fun _ _ _ _ _ => ptsd_nil) (fun _ _ _ _ _ => (pd_op op_addAll rd_add (pd_var (pv 5)) (pd_var (pv 6)))))) pad_nil))); exact (psd_ret (pd_fz (pld_callB cr_sortedAny rcl_sorted (by rfl) T.n_sorted (by decide +kernel) (pad_cons (pd_var (pv 3)) pad_nil)))))
theorem G_Prices_init (T : Txt K mg base) : FnOk P w K mg base (L2.CX P w) 4 T.a_Prices_init T.fd_Prices_init ["self", "rows", "width", "table"] (spD K mg m_Prices_init 4) := by
  have G_is_rows := G_is_rows (P := P) (w := w) (base := base) T
  have G_is_width := G_is_width (P := P) (w := w) (base := base) T
  have G_is_table := G_is_table (P := P) (w := w) (base := base) T
  have G_stretches_over := G_stretches_over (P := P) (w := w) (base := base) T
  rw [m_Prices_init_e]
  refine fn_d T.F_Prices_init sc_Prices_init (fun cdv A outer s H E hr tk hx => ?_)
  show PSsd _ _ (defBody s_Prices_init) d_Prices_init
  unfold d_Prices_init
  exact (by refine (pssd_cons ?_ (pssd_cons ?_ (pssd_cons ?_ (pssd_cons ?_ (pssd_cons ?_ (pssd_one ?_)))))); exact (psd_if (ptd_not (ptd_truth (pd_own G_is_rows (hr.mono (by decide)) (by rfl) T.g_is_rows T.k_is_rows T.b_is_rows hx (pad_cons (pd_var (pv 1)) pad_nil)))) (by refine (pssd_one ?_); exact (psd_raiseX rfl tk T.X_BadPrices (GX_BadPrices T) (hr.mono (by decide)) T.b_BadPrices_init T.C_BadPrices (by rfl) pd_str)) pssd_nil); exact (psd_if (ptd_not (ptd_truth (pd_own G_is_width (hr.mono (by decide)) (by rfl) T.g_is_width T.k_is_width T.b_is_width hx (pad_cons (pd_var (pv 2)) pad_nil)))) (by refine (pssd_one ?_); exact (psd_raiseX rfl tk T.X_BadPrices (GX_BadPrices T) (hr.mono (by decide)) T.b_BadPrices_init T.C_BadPrices (by rfl) pd_str)) pssd_nil); exact (psd_if (ptd_not (ptd_truth (pd_own G_is_table (hr.mono (by decide)) (by rfl) T.g_is_table T.k_is_table T.b_is_table hx (pad_cons (pd_var (pv 3)) (pad_cons (pd_own G_stretches_over (hr.mono (by decide)) (by rfl) T.g_stretches_over T.k_stretches_over T.b_stretches_over hx (pad_cons (pd_var (pv 1)) (pad_cons (pd_var (pv 2)) pad_nil))) pad_nil))))) (by refine (pssd_one ?_); exact (psd_raiseX rfl tk T.X_BadPrices (GX_BadPrices T) (hr.mono (by decide)) T.b_BadPrices_init T.C_BadPrices (by rfl) pd_str)) pssd_nil); exact (psd_setFld T.f_rows (pd_var (pv 0)) (pd_var (pv 1))); exact (psd_setFld T.f_width (pd_var (pv 0)) (pd_var (pv 2))); exact (psd_setFld T.f__table (pd_var (pv 0)) (pd_dict (by rfl) T.n_dict (by decide +kernel) (pad_cons (pd_var (pv 3)) pad_nil))))
theorem G_law_names (T : Txt K mg base) : FnOk P w K mg base (L2.CX P w) 1 T.a_law_names T.fd_law_names ["rows", "width"] (spD K mg m_law_names 2) := by
  rw [m_law_names_e]
  refine fn_d T.F_law_names sc_law_names (fun cdv A outer s H E hr tk hx => ?_)
  show PSsd _ _ (defBody s_law_names) d_law_names
  unfold d_law_names
  exact (by refine (pssd_cons ?_ (pssd_cons ?_ (pssd_cons ?_ (pssd_one ?_)))); exact (psd_set (i := 2) sc_law_names.nd rfl (.inl rfl) (pd_fz (pld_lst pad_nil))); exact (psd_set (i := 3) sc_law_names.nd rfl (.inl rfl) (pd_fz (pld_lst (pad_cons pd_str pad_nil)))); exact (psd_for (passes_of rfl) rfl (pid_range2 (by rfl) T.n_range (pad_cons pd_int (pad_cons (pd_op op_addAll rd_add (pd_var (pv 1)) pd_int) pad_nil))) (pg_name (i := 4) sc_law_names.nd rfl (.inr rfl)) (gs_name 4) (by refine (pssd_cons ?_ (pssd_cons ?_ (pssd_cons ?_ (pssd_one ?_)))); exact (psd_set (i := 5) sc_law_names.nd rfl (.inl rfl) (pd_fz (pld_lst pad_nil))); exact (psd_for (passes_of rfl) rfl (pid_list (pd_var (pv 3))) (pg_name (i := 6) sc_law_names.nd rfl (.inr rfl)) (gs_name 6) (by refine (pssd_one ?_); exact (psd_set (i := 5) sc_law_names.nd rfl (.inl rfl) (pd_op op_addAll rd_add (pd_var (pv 5)) (pd_fz (pld_lc rfl sc_law_names.nd (pid_str (pd_var (pv 0))) (blkOk_by (own := [("row", 7)]) (N := N_law_names) (show blkC N_law_names (defScope s_law_names) _ _ = true by decide +kernel)) (gs_name 7) (by decide) (fun _ _ _ _ _ => (pg_name (i := 7) sc_law_names.nd rfl (.inl rfl))) (fun _ _ _ _ _ => ptsd_nil) (fun _ _ _ _ _ => (pd_op op_addAll rd_add (pd_var (pv 6)) (pd_var (pv 7)))))))))); exact (psd_set (i := 3) sc_law_names.nd rfl (.inl rfl) (pd_var (pv 5))); exact (psd_set (i := 2) sc_law_names.nd rfl (.inl rfl) (pd_op op_addAll rd_add (pd_var (pv 2)) (pd_fz (pld_lc rfl sc_law_names.nd (pid_list (pd_var (pv 3))) (blkOk_by (own := [("code", 6)]) (N := N_law_names) (show blkC N_law_names (defScope s_law_names) _ _ = true by decide +kernel)) (gs_name 6) (by decide) (fun _ _ _ _ _ => (pg_name (i := 6) sc_law_names.nd rfl (.inl rfl))) (fun _ _ _ _ _ => ptsd_nil) (fun _ _ _ _ _ => (pd_op op_addAll rd_add (pd_ix ix_seq rd_ix (pd_fz (pld_lst (pad_cons pd_str (pad_cons pd_str pad_nil)))) (pd_callTy call_int1 rc_int (by rfl) T.n_int (by decide +kernel) (pad_cons (pd_cmp op_ltS rd_ltS (pd_var (pv 4)) (pd_var (pv 1)) (nomark _)) pad_nil))) (pd_var (pv 6)))))))))); exact (psd_ret (pd_var (pv 2))))
theorem G_law_made (T : Txt K mg base) : FnOk P w K mg base (L2.CX P w) 1 T.a_law_made T.fd_law_made ["top", "bottom"] (spD K mg m_law_made 2) := by
  rw [m_law_made_e]
  refine fn_d T.F_law_made sc_law_made (fun cdv A outer s H E hr tk hx => ?_)
  show PSsd _ _ (defBody s_law_made) d_law_made
  unfold d_law_made
  exact (by refine (pssd_cons ?_ (pssd_cons ?_ (pssd_cons ?_ (pssd_one ?_)))); exact (psd_set (i := 2) sc_law_made.nd rfl (.inl rfl) (pd_callB call_abs rc_abs (by rfl) T.n_abs (by decide +kernel) (pad_cons (pd_var (pv 0)) pad_nil))); exact (psd_set (i := 3) sc_law_made.nd rfl (.inl rfl) (pd_var (pv 1))); exact (psd_while fuel (passes_of rfl) (ptd_cmp (op_neD hr.units) rd_ne (pd_var (pv 3)) pd_int (nomark _)) (by refine (pssd_cons ?_ (pssd_cons ?_ (pssd_one ?_))); exact (psd_set (i := 4) sc_law_made.nd rfl (.inl rfl) (pd_op op_mod rd_mod (pd_callTy call_int1 rc_int (by rfl) T.n_int (by decide +kernel) (pad_cons (pd_var (pv 2)) pad_nil)) (pd_var (pv 3)))); exact (psd_set (i := 2) sc_law_made.nd rfl (.inl rfl) (pd_var (pv 3))); exact (psd_set (i := 3) sc_law_made.nd rfl (.inl rfl) (pd_var (pv 4))))); exact (psd_ret (pd_tup (pad_cons (pd_op op_fdivW rd_divW (pd_var (pv 0)) (pd_var (pv 2))) (pad_cons (pd_op op_fdivW rd_divW (pd_var (pv 1)) (pd_var (pv 2))) pad_nil)))))
theorem G_law_fraction (T : Txt K mg base) : FnOk P w K mg base (L2.CX P w) 2 T.a_law_fraction T.fd_law_fraction ["hand"] (spD K mg m_law_fraction 1) := by
  have G_law_draw := G_law_draw (P := P) (w := w) (base := base) T
  have G_law_made := G_law_made (P := P) (w := w) (base := base) T
  rw [m_law_fraction_e]
  refine fn_d T.F_law_fraction sc_law_fraction (fun cdv A outer s H E hr tk hx => ?_)
  show PSsd _ _ (defBody s_law_fraction) d_law_fraction
  unfold d_law_fraction
  exact (by refine (pssd_cons ?_ (pssd_one ?_)); exact (psd_set (i := 1) sc_law_fraction.nd rfl (.inl rfl) (pd_op op_addAll rd_add pd_int (pd_own G_law_draw (hr.mono (by decide)) (by rfl) T.g_law_draw T.k_law_draw T.b_law_draw hx (pad_cons (pd_var (pv 0)) (pad_cons (pd_ix ix_seq rd_ix (pd_fz (pld_lst (pad_cons pd_int (pad_cons pd_int (pad_cons pd_int (pad_cons pd_int pad_nil)))))) (pd_own G_law_draw (hr.mono (by decide)) (by rfl) T.g_law_draw T.k_law_draw T.b_law_draw hx (pad_cons (pd_var (pv 0)) (pad_cons pd_int pad_nil)))) pad_nil))))); exact (psd_ret (pd_own G_law_made (hr.mono (by decide)) (by rfl) T.g_law_made T.k_law_made T.b_law_made hx (pad_cons (pd_op op_sub rd_sub (pd_own G_law_draw (hr.mono (by decide)) (by rfl) T.g_law_draw T.k_law_draw T.b_law_draw hx (pad_cons (pd_var (pv 0)) (pad_cons pd_int pad_nil))) (pd_own G_law_draw (hr.mono (by decide)) (by rfl) T.g_law_draw T.k_law_draw T.b_law_draw hx (pad_cons (pd_var (pv 0)) (pad_cons pd_int pad_nil)))) (pad_cons (pd_var (pv 1)) pad_nil)))))
theorem G_law_table (T : Txt K mg base) : FnOk P w K mg base (L2.CX P w) 3 T.a_law_table T.fd_law_table ["hand", "rows", "width"] (spD K mg m_law_table 3) := by
  have G_law_names := G_law_names (P := P) (w := w) (base := base) T
  have G_law_fraction := G_law_fraction (P := P) (w := w) (base := base) T
  rw [m_law_table_e]
  refine fn_d T.F_law_table sc_law_table (fun cdv A outer s H E hr tk hx => ?_)
  show PSsd _ _ (defBody s_law_table) d_law_table
  unfold d_law_table
  exact (by refine (pssd_cons ?_ (pssd_cons ?_ (pssd_one ?_))); exact (psd_set (i := 3) sc_law_table.nd rfl (.inl rfl) pd_dictNew); exact (psd_for (passes_of rfl) rfl (pid_list (pd_own G_law_names (hr.mono (by decide)) (by rfl) T.g_law_names T.k_law_names T.b_law_names hx (pad_cons (pd_var (pv 1)) (pad_cons (pd_var (pv 2)) pad_nil)))) (pg_name (i := 4) sc_law_table.nd rfl (.inl rfl)) (gs_name 4) (by refine (pssd_one ?_); exact (psd_setKey (Nat.lt_of_le_of_lt (Nat.add_le_add_left (by decide : 1 ≤ 64) _) hr.units) (pd_own G_law_fraction (hr.mono (by decide)) (by rfl) T.g_law_fraction T.k_law_fraction T.b_law_fraction hx (pad_cons (pd_var (pv 0)) pad_nil)) (pd_var (pv 3)) (pd_var (pv 4))))); exact (psd_ret (pd_var (pv 3))))
theorem G_law_run (T : Txt K mg base) : FnOk P w K mg base (L2.CX P w) 2 T.a_law_run T.fd_law_run ["hand", "rows", "answers", "many"] (spD K mg m_law_run 4) := by
  have G_law_draw := G_law_draw (P := P) (w := w) (base := base) T
  rw [m_law_run_e]
  refine fn_d T.F_law_run sc_law_run (fun cdv A outer s H E hr tk hx => ?_)
  show PSsd _ _ (defBody s_law_run) d_law_run
  unfold d_law_run
  exact (by refine (pssd_cons ?_ (pssd_one ?_)); exact (psd_set (i := 4) sc_law_run.nd rfl (.inl rfl) (pd_bm PySem.F.plainAttrs_str PySem.F.slot_str_join PySem.F.type_str_join mt_join rm_join pd_str (pad_cons (pd_fz (pld_lc rfl sc_law_run.nd (pid_range1 (by rfl) T.n_range (pad_cons (pd_var (pv 3)) pad_nil)) (blkOk_by (own := [("turn", 5)]) (N := N_law_run) (show blkC N_law_run (defScope s_law_run) _ _ = true by decide +kernel)) (gs_name 5) (by decide) (fun _ _ _ _ _ => (pg_name (i := 5) sc_law_run.nd rfl (.inl rfl))) (fun _ _ _ _ _ => ptsd_nil) (fun _ _ _ _ _ => (pd_ix ix_seq rd_ix (pd_var (pv 1)) (pd_own G_law_draw (hr.mono (by decide)) (by rfl) T.g_law_draw T.k_law_draw T.b_law_draw lets0 (pad_cons (pd_var (pv 0)) (pad_cons (pd_callB call_len rc_len (by rfl) T.n_len (by decide +kernel) (pad_cons (pd_var (pv 1)) pad_nil)) pad_nil))))))) pad_nil))); exact (psd_ret (pd_tup (pad_cons (pd_var (pv 4)) (pad_cons (pd_callTy call_tuple_of rc_tuple (by rfl) T.n_tuple (by decide +kernel) (pad_cons (pd_fz (pld_lc rfl sc_law_run.nd (pid_str (pd_var (pv 4))) (blkOk_by (own := [("row", 6)]) (N := N_law_run) (show blkC N_law_run (defScope s_law_run) _ _ = true by decide +kernel)) (gs_name 6) (by decide) (fun _ _ _ _ _ => (pg_name (i := 6) sc_law_run.nd rfl (.inl rfl))) (fun _ _ _ _ _ => ptsd_nil) (fun _ _ _ _ _ => (pd_own G_law_draw (hr.mono (by decide)) (by rfl) T.g_law_draw T.k_law_draw T.b_law_draw lets0 (pad_cons (pd_var (pv 0)) (pad_cons (pd_var (pv 2)) pad_nil)))))) pad_nil)) pad_nil)))))
theorem G_check_code (T : Txt K mg base) : FnOk P w K mg base (L2.CX P w) 2 T.a_check_code T.fd_check_code ["thing", "rows"] (spD K mg m_check_code 2) := by
  have G_is_code := G_is_code (P := P) (w := w) (base := base) T
  rw [m_check_code_e]
  refine fn_d T.F_check_code sc_check_code (fun cdv A outer s H E hr tk hx => ?_)
  show PSsd _ _ (defBody s_check_code) d_check_code
  unfold d_check_code
  exact (by refine (pssd_one ?_); exact (psd_if (ptd_not (ptd_truth (pd_own G_is_code (hr.mono (by decide)) (by rfl) T.g_is_code T.k_is_code T.b_is_code hx (pad_cons (pd_var (pv 0)) (pad_cons (pd_var (pv 1)) pad_nil))))) (by refine (pssd_one ?_); exact (psd_raise0 rfl tk T.E_NoCode T.C_NoCode (by rfl))) pssd_nil))
theorem G_Prices_table (T : Txt K mg base) : FnOk P w K mg base (L2.CX P w) 1 T.a_Prices_table T.fd_Prices_table ["self"] (spD K mg m_Prices_table 1) := by
  rw [m_Prices_table_e]
  refine fn_d T.F_Prices_table sc_Prices_table (fun cdv A outer s H E hr tk hx => ?_)
  show PSsd _ _ (defBody s_Prices_table) d_Prices_table
  unfold d_Prices_table
  exact (by refine (pssd_one ?_); exact (psd_ret (pd_dict (by rfl) T.n_dict (by decide +kernel) (pad_cons (pd_fld T.f__table (pd_var (pv 0))) pad_nil))))
theorem G_shared_bottom (T : Txt K mg base) : FnOk P w K mg base (L2.CX P w) 3 T.a_shared_bottom T.fd_shared_bottom ["prices"] (spD K mg m_shared_bottom 1) := by
  have G_Prices_table := G_Prices_table (P := P) (w := w) (base := base) T
  rw [m_shared_bottom_e]
  refine fn_d T.F_shared_bottom sc_shared_bottom (fun cdv A outer s H E hr tk hx => ?_)
  show PSsd _ _ (defBody s_shared_bottom) d_shared_bottom
  unfold d_shared_bottom
  exact (by refine (pssd_cons ?_ (pssd_cons ?_ (pssd_cons ?_ (pssd_cons ?_ (pssd_one ?_))))); exact (psd_set (i := 1) sc_shared_bottom.nd rfl (.inr rfl) (pd_prop T.C_Prices T.K_Prices T.P_Prices_table G_Prices_table (hr.mono (by decide)) T.b_Prices_table (pd_var (pv 0)))); exact (psd_set (i := 2) sc_shared_bottom.nd rfl (.inr rfl) pd_int); exact (psd_for (passes_of rfl) rfl (pid_keys (pd_var (pv 1))) (pg_name (i := 3) sc_shared_bottom.nd rfl (.inl rfl)) (gs_name 3) (by refine (pssd_one ?_); exact (psd_set (i := 2) sc_shared_bottom.nd rfl (.inr rfl) (pd_callF cr_lcm rc_lcm (by rfl) T.i_lcm (pad_cons (pd_var (pv 2)) (pad_cons (pd_ix ix_seq rd_ix (pd_dget (Nat.lt_of_le_of_lt (Nat.add_le_add_left (by decide : 1 ≤ 64) _) hr.units) (pd_var (pv 1)) (pd_var (pv 3))) pd_int) pad_nil)))))); exact (psd_setDc (i := 4) rfl rfl (sw_dc rfl rfl rfl (by decide +kernel)) rfl sc_shared_bottom.nd (pid_keys (pd_var (pv 1))) (blkOk_by (own := [("stretch", 3)]) (N := N_shared_bottom) (show blkC N_shared_bottom (defScope s_shared_bottom) _ _ = true by decide +kernel)) (gs_name 3) (by decide) (fun _ _ _ _ _ => (pg_name (i := 3) sc_shared_bottom.nd rfl (.inl rfl))) (fun _ _ _ _ _ => ptsd_nil) (fun _ _ _ _ _ => (pd_var (pv 3))) (fun _ _ _ _ _ => (pd_op op_mulW rd_mulW (pd_ix ix_seq rd_ix (pd_dget (Nat.lt_of_le_of_lt (Nat.add_le_add_left (by decide : 1 ≤ 64) _) hr.units) (pd_var (pv 1)) (pd_var (pv 3))) pd_int) (pd_op op_fdivW rd_divW (pd_var (pv 2)) (pd_ix ix_seq rd_ix (pd_dget (Nat.lt_of_le_of_lt (Nat.add_le_add_left (by decide : 1 ≤ 64) _) hr.units) (pd_var (pv 1)) (pd_var (pv 3))) pd_int))))); exact (psd_ret (pd_tup (pad_cons (pd_var (pv 4)) (pad_cons (pd_var (pv 2)) pad_nil)))))
theorem G_tail_behind (T : Txt K mg base) : FnOk P w K mg base (L2.CX P w) 1 T.a_tail_behind T.fd_tail_behind ["stretch", "width"] (spD K mg m_tail_behind 2) := by
  rw [m_tail_behind_e]
  refine fn_d T.F_tail_behind sc_tail_behind (fun cdv A outer s H E hr tk hx => ?_)
  show PSsd _ _ (defBody s_tail_behind) d_tail_behind
  unfold d_tail_behind
  exact (by refine (pssd_one ?_); exact (psd_ret (pd_if (ptd_cmp op_ltS rd_ltS (pd_callB call_len rc_len (by rfl) T.n_len (by decide +kernel) (pad_cons (pd_var (pv 0)) pad_nil)) (pd_var (pv 1)) (nomark _)) (pd_var (pv 0)) (pd_slice (pd_var (pv 0)) (pod_some pd_int) pod_none))))
theorem G_charged (T : Txt K mg base) : FnOk P w K mg base (L2.CX P w) 2 T.a_charged T.fd_charged ["tops", "width", "tail", "code"] (spD K mg m_charged 4) := by
  have G_tail_behind := G_tail_behind (P := P) (w := w) (base := base) T
  rw [m_charged_e]
  refine fn_d T.F_charged sc_charged (fun cdv A outer s H E hr tk hx => ?_)
  show PSsd _ _ (defBody s_charged) d_charged
  unfold d_charged
  exact (by refine (pssd_cons ?_ (pssd_cons ?_ (pssd_one ?_))); exact (psd_set (i := 4) sc_charged.nd rfl (.inl rfl) pd_int); exact (psd_for (passes_of rfl) rfl (pid_str (pd_var (pv 3))) (pg_name (i := 5) sc_charged.nd rfl (.inl rfl)) (gs_name 5) (by refine (pssd_cons ?_ (pssd_one ?_)); exact (psd_aug (i := 4) sc_charged.nd rfl (.inl rfl) (pd_dget (Nat.lt_of_le_of_lt (Nat.add_le_add_left (by decide : 1 ≤ 64) _) hr.units) (pd_var (pv 0)) (pd_op op_addAll rd_add (pd_var (pv 2)) (pd_var (pv 5)))) ip_add); exact (psd_set (i := 2) sc_charged.nd rfl (.inl rfl) (pd_own G_tail_behind (hr.mono (by decide)) (by rfl) T.g_tail_behind T.k_tail_behind T.b_tail_behind hx (pad_cons (pd_op op_addAll rd_add (pd_var (pv 2)) (pd_var (pv 5))) (pad_cons (pd_var (pv 1)) pad_nil)))))); exact (psd_ret (pd_tup (pad_cons (pd_var (pv 4)) (pad_cons (pd_var (pv 2)) pad_nil)))))
theorem G_first_tail (T : Txt K mg base) : FnOk P w K mg base (L2.CX P w) 1 T.a_first_tail T.fd_first_tail ["width"] (spD K mg m_first_tail 1) := by
  rw [m_first_tail_e]
  refine fn_d T.F_first_tail sc_first_tail (fun cdv A outer s H E hr tk hx => ?_)
  show PSsd _ _ (defBody s_first_tail) d_first_tail
  unfold d_first_tail
  exact (by refine (pssd_one ?_); exact (psd_ret (pd_if (ptd_cmp (op_eqD hr.units) rd_eq (pd_var (pv 0)) pd_int (nomark _)) pd_str pd_str)))
theorem G_lowest (T : Txt K mg base) : FnOk P w K mg base (L2.CX P w) 1 T.a_lowest T.fd_lowest ["top", "bottom"] (spD K mg m_lowest 2) := by
  rw [m_lowest_e]
  refine fn_d T.F_lowest sc_lowest (fun cdv A outer s H E hr tk hx => ?_)
  show PSsd _ _ (defBody s_lowest) d_lowest
  unfold d_lowest
  exact (by refine (pssd_cons ?_ (pssd_cons ?_ (pssd_one ?_))); exact (psd_set (i := 2) sc_lowest.nd rfl (.inl rfl) (pd_callF cr_gcd rc_gcd (by rfl) T.i_gcd (pad_cons (pd_var (pv 0)) (pad_cons (pd_var (pv 1)) pad_nil)))); exact (psd_if (ptd_cmp op_ltS rd_ltS (pd_var (pv 1)) pd_int (nomark _)) (by refine (pssd_one ?_); exact (psd_set (i := 2) sc_lowest.nd rfl (.inl rfl) (pd_un un_neg rd_neg (pd_var (pv 2))))) pssd_nil); exact (psd_ret (pd_tup (pad_cons (pd_op op_fdivW rd_divW (pd_var (pv 0)) (pd_var (pv 2))) (pad_cons (pd_op op_fdivW rd_divW (pd_var (pv 1)) (pd_var (pv 2))) pad_nil)))))
theorem G_cost (T : Txt K mg base) : FnOk P w K mg base (L2.CX P w) 4 T.a_cost T.fd_cost ["prices", "code"] (spD K mg m_cost 2) := by
  have G_shared_bottom := G_shared_bottom (P := P) (w := w) (base := base) T
  have G_charged := G_charged (P := P) (w := w) (base := base) T
  have G_first_tail := G_first_tail (P := P) (w := w) (base := base) T
  have G_lowest := G_lowest (P := P) (w := w) (base := base) T
  rw [m_cost_e]
  refine fn_d T.F_cost sc_cost (fun cdv A outer s H E hr tk hx => ?_)
  show PSsd _ _ (defBody s_cost) d_cost
  unfold d_cost
  exact (by refine (pssd_cons ?_ (pssd_cons ?_ (pssd_one ?_))); exact (psd_asg (pd_own G_shared_bottom (hr.mono (by decide)) (by rfl) T.g_shared_bottom T.k_shared_bottom T.b_shared_bottom hx (pad_cons (pd_var (pv 0)) pad_nil)) (pg_tup rfl (pgs_cons (pg_name (i := 2) sc_cost.nd rfl (.inl rfl)) (pgs_cons (pg_name (i := 3) sc_cost.nd rfl (.inl rfl)) pgs_nil))) (gs_tup 2 (gss_cons (gs_name 2) (gss_cons (gs_name 3) gss_nil)))); exact (psd_asg (pd_own G_charged (hr.mono (by decide)) (by rfl) T.g_charged T.k_charged T.b_charged hx (pad_cons (pd_var (pv 2)) (pad_cons (pd_fld T.f_width (pd_var (pv 0))) (pad_cons (pd_own G_first_tail (hr.mono (by decide)) (by rfl) T.g_first_tail T.k_first_tail T.b_first_tail hx (pad_cons (pd_fld T.f_width (pd_var (pv 0))) pad_nil)) (pad_cons (pd_var (pv 1)) pad_nil))))) (pg_tup rfl (pgs_cons (pg_name (i := 4) sc_cost.nd rfl (.inl rfl)) (pgs_cons (pg_name (i := 5) sc_cost.nd rfl (.inl rfl)) pgs_nil))) (gs_tup 2 (gss_cons (gs_name 4) (gss_cons (gs_name 5) gss_nil)))); exact (psd_ret (pd_own G_lowest (hr.mono (by decide)) (by rfl) T.g_lowest T.k_lowest T.b_lowest hx (pad_cons (pd_var (pv 4)) (pad_cons (pd_var (pv 3)) pad_nil)))))
theorem G_price (T : Txt K mg base) : FnOk P w K mg base (L2.CX P w) 5 T.a_price T.fd_price ["prices", "code"] (spD K mg m_price 2) := by
  have G_check_code := G_check_code (P := P) (w := w) (base := base) T
  have G_cost := G_cost (P := P) (w := w) (base := base) T
  rw [m_price_e]
  refine fn_d T.F_price sc_price (fun cdv A outer s H E hr tk hx => ?_)
  show PSsd _ _ (defBody s_price) d_price
  unfold d_price
  exact (by refine (pssd_cons ?_ (pssd_one ?_)); exact (psd_expr (pd_own G_check_code (hr.mono (by decide)) (by rfl) T.g_check_code T.k_check_code T.b_check_code hx (pad_cons (pd_var (pv 1)) (pad_cons (pd_fld T.f_rows (pd_var (pv 0))) pad_nil)))); exact (psd_ret (pd_own G_cost (hr.mono (by decide)) (by rfl) T.g_cost T.k_cost T.b_cost hx (pad_cons (pd_var (pv 0)) (pad_cons (pd_var (pv 1)) pad_nil)))))
theorem G_check_same_rows (T : Txt K mg base) : FnOk P w K mg base (L2.CX P w) 1 T.a_check_same_rows T.fd_check_same_rows ["machine", "prices"] (spD K mg m_check_same_rows 2) := by
  rw [m_check_same_rows_e]
  refine fn_d T.F_check_same_rows sc_check_same_rows (fun cdv A outer s H E hr tk hx => ?_)
  show PSsd _ _ (defBody s_check_same_rows) d_check_same_rows
  unfold d_check_same_rows
  exact (by refine (pssd_one ?_); exact (psd_if (ptd_cmp (op_neD hr.units) rd_ne (pd_fld T.f_rows (pd_var (pv 0))) (pd_fld T.f_rows (pd_var (pv 1))) (nomark _)) (by refine (pssd_one ?_); exact (psd_raise0 rfl tk T.E_OtherRows T.C_OtherRows (by rfl))) pssd_nil))
theorem G_is_run (T : Txt K mg base) : FnOk P w K mg base (L2.CX P w) 3 T.a_is_run T.fd_is_run ["thing", "rows", "answers"] (spD K mg m_is_run 3) := by
  have G_is_code := G_is_code (P := P) (w := w) (base := base) T
  have G_is_between := G_is_between (P := P) (w := w) (base := base) T
  have G_is_tuple := G_is_tuple (P := P) (w := w) (base := base) T
  rw [m_is_run_e]
  refine fn_d T.F_is_run sc_is_run (fun cdv A outer s H E hr tk hx => ?_)
  show PSsd _ _ (defBody s_is_run) d_is_run
  unfold d_is_run
  exact (by refine (pssd_cons ?_ (pssd_cons ?_ (pssd_cons ?_ (pssd_one ?_)))); exact (psd_if (ptd_not (ptd_truth (pd_own G_is_tuple (hr.mono (by decide)) (by rfl) T.g_is_tuple T.k_is_tuple T.b_is_tuple hx (pad_cons (pd_var (pv 0)) (pad_cons pd_int pad_nil))))) (by refine (pssd_one ?_); exact (psd_ret pd_bl)) pssd_nil); exact (psd_asg (pd_var (pv 0)) (pg_tup rfl (pgs_cons (pg_name (i := 3) sc_is_run.nd rfl (.inl rfl)) (pgs_cons (pg_name (i := 4) sc_is_run.nd rfl (.inl rfl)) pgs_nil))) (gs_tup 2 (gss_cons (gs_name 3) (gss_cons (gs_name 4) gss_nil)))); exact (psd_if (ptd_w (pwd_or (ptd_not (ptd_truth (pd_own G_is_code (hr.mono (by decide)) (by rfl) T.g_is_code T.k_is_code T.b_is_code hx (pad_cons (pd_var (pv 3)) (pad_cons (pd_var (pv 1)) pad_nil))))) (pwd_or1 (ptd_not (ptd_truth (pd_own G_is_tuple (hr.mono (by decide)) (by rfl) T.g_is_tuple T.k_is_tuple T.b_is_tuple hx (pad_cons (pd_var (pv 4)) (pad_cons (pd_callB call_len rc_len (by rfl) T.n_len (by decide +kernel) (pad_cons (pd_var (pv 3)) pad_nil)) pad_nil)))))))) (by refine (pssd_one ?_); exact (psd_ret pd_bl)) pssd_nil); exact (psd_ret (pd_callB (cr_all rfl) rc_all (by rfl) T.n_all (by decide +kernel) (pad_cons (pd_fz (pld_lc rfl sc_is_run.nd (pid_tup (pd_var (pv 4))) (blkOk_by (own := [("answer", 5)]) (N := N_is_run) (show blkC N_is_run (defScope s_is_run) _ _ = true by decide +kernel)) (gs_name 5) (by decide) (fun _ _ _ _ _ => (pg_name (i := 5) sc_is_run.nd rfl (.inl rfl))) (fun _ _ _ _ _ => ptsd_nil) (fun _ _ _ _ _ => (pd_own G_is_between (hr.mono (by decide)) (by rfl) T.g_is_between T.k_is_between T.b_is_between lets0 (pad_cons (pd_var (pv 5)) (pad_cons pd_int (pad_cons (pd_op op_sub rd_sub (pd_var (pv 2)) pd_int) pad_nil))))))) pad_nil))))
theorem G_check_run (T : Txt K mg base) : FnOk P w K mg base (L2.CX P w) 4 T.a_check_run T.fd_check_run ["machine", "run"] (spD K mg m_check_run 2) := by
  have G_is_run := G_is_run (P := P) (w := w) (base := base) T
  rw [m_check_run_e]
  refine fn_d T.F_check_run sc_check_run (fun cdv A outer s H E hr tk hx => ?_)
  show PSsd _ _ (defBody s_check_run) d_check_run
  unfold d_check_run
  exact (by refine (pssd_one ?_); exact (psd_if (ptd_not (ptd_truth (pd_own G_is_run (hr.mono (by decide)) (by rfl) T.g_is_run T.k_is_run T.b_is_run hx (pad_cons (pd_var (pv 1)) (pad_cons (pd_fld T.f_rows (pd_var (pv 0))) (pad_cons (pd_fld T.f_answers (pd_var (pv 0))) pad_nil)))))) (by refine (pssd_one ?_); exact (psd_raise0 rfl tk T.E_NoRun T.C_NoRun (by rfl))) pssd_nil))
theorem G_minus (T : Txt K mg base) : FnOk P w K mg base (L2.CX P w) 2 T.a_minus T.fd_minus ["one", "other"] (spD K mg m_minus 2) := by
  have G_lowest := G_lowest (P := P) (w := w) (base := base) T
  rw [m_minus_e]
  refine fn_d T.F_minus sc_minus (fun cdv A outer s H E hr tk hx => ?_)
  show PSsd _ _ (defBody s_minus) d_minus
  unfold d_minus
  exact (by refine (pssd_one ?_); exact (psd_ret (pd_own G_lowest (hr.mono (by decide)) (by rfl) T.g_lowest T.k_lowest T.b_lowest hx (pad_cons (pd_op op_sub rd_sub (pd_op op_mulW rd_mulW (pd_ix ix_seq rd_ix (pd_var (pv 0)) pd_int) (pd_ix ix_seq rd_ix (pd_var (pv 1)) pd_int)) (pd_op op_mulW rd_mulW (pd_ix ix_seq rd_ix (pd_var (pv 1)) pd_int) (pd_ix ix_seq rd_ix (pd_var (pv 0)) pd_int))) (pad_cons (pd_op op_mulW rd_mulW (pd_ix ix_seq rd_ix (pd_var (pv 0)) pd_int) (pd_ix ix_seq rd_ix (pd_var (pv 1)) pd_int)) pad_nil)))))
theorem G_walked (T : Txt K mg base) : FnOk P w K mg base (L2.CX P w) 1 T.a_walked T.fd_walked ["machine", "start", "run"] (spD K mg m_walked 3) := by
  rw [m_walked_e]
  refine fn_d T.F_walked sc_walked (fun cdv A outer s H E hr tk hx => ?_)
  show PSsd _ _ (defBody s_walked) d_walked
  unfold d_walked
  exact (by refine (pssd_cons ?_ (pssd_cons ?_ (pssd_cons ?_ (pssd_cons ?_ (pssd_one ?_))))); exact (psd_asg (pd_var (pv 2)) (pg_tup rfl (pgs_cons (pg_name (i := 3) sc_walked.nd rfl (.inl rfl)) (pgs_cons (pg_name (i := 4) sc_walked.nd rfl (.inl rfl)) pgs_nil))) (gs_tup 2 (gss_cons (gs_name 3) (gss_cons (gs_name 4) gss_nil)))); exact (psd_set (i := 5) sc_walked.nd rfl (.inl rfl) pd_int); exact (psd_set (i := 6) sc_walked.nd rfl (.inl rfl) (pd_var (pv 1))); exact (psd_for (passes_of rfl) rfl (pid_zip (by rfl) T.n_zip (pad_cons (pd_var (pv 3)) (pad_cons (pd_var (pv 4)) pad_nil))) (pg_tup rfl (pgs_cons (pg_name (i := 7) sc_walked.nd rfl (.inl rfl)) (pgs_cons (pg_name (i := 8) sc_walked.nd rfl (.inl rfl)) pgs_nil))) (gs_tup 2 (gss_cons (gs_name 7) (gss_cons (gs_name 8) gss_nil))) (by refine (pssd_cons ?_ (pssd_one ?_)); exact (psd_asg (pd_ix ix_seq rd_ix (pd_ix ix_seq rd_ix (pd_ix ix_seq rd_ix (pd_fld T.f_moves (pd_var (pv 0))) (pd_var (pv 6))) (pd_index rfl tk (pd_fld T.f_rows (pd_var (pv 0))) (pad_cons (pd_var (pv 7)) pad_nil))) (pd_var (pv 8))) (pg_tup rfl (pgs_cons (pg_name (i := 9) sc_walked.nd rfl (.inl rfl)) (pgs_cons (pg_name (i := 6) sc_walked.nd rfl (.inl rfl)) pgs_nil))) (gs_tup 2 (gss_cons (gs_name 9) (gss_cons (gs_name 6) gss_nil)))); exact (psd_aug (i := 5) sc_walked.nd rfl (.inl rfl) (pd_var (pv 9)) ip_add))); exact (psd_ret (pd_tup (pad_cons (pd_var (pv 5)) (pad_cons (pd_var (pv 6)) pad_nil)))))
theorem G_rest (T : Txt K mg base) : FnOk P w K mg base (L2.CX P w) 6 T.a_rest T.fd_rest ["machine", "prices", "run"] (spD K mg m_rest 3) := by
  have G_price := G_price (P := P) (w := w) (base := base) T
  have G_check_same_rows := G_check_same_rows (P := P) (w := w) (base := base) T
  have G_check_run := G_check_run (P := P) (w := w) (base := base) T
  have G_minus := G_minus (P := P) (w := w) (base := base) T
  have G_walked := G_walked (P := P) (w := w) (base := base) T
  rw [m_rest_e]
  refine fn_d T.F_rest sc_rest (fun cdv A outer s H E hr tk hx => ?_)
  show PSsd _ _ (defBody s_rest) d_rest
  unfold d_rest
  exact (by refine (pssd_cons ?_ (pssd_cons ?_ (pssd_one ?_))); exact (psd_expr (pd_own G_check_same_rows (hr.mono (by decide)) (by rfl) T.g_check_same_rows T.k_check_same_rows T.b_check_same_rows hx (pad_cons (pd_var (pv 0)) (pad_cons (pd_var (pv 1)) pad_nil)))); exact (psd_expr (pd_own G_check_run (hr.mono (by decide)) (by rfl) T.g_check_run T.k_check_run T.b_check_run hx (pad_cons (pd_var (pv 0)) (pad_cons (pd_var (pv 2)) pad_nil)))); exact (psd_ret (pd_own G_minus (hr.mono (by decide)) (by rfl) T.g_minus T.k_minus T.b_minus hx (pad_cons (pd_tup (pad_cons (pd_ix ix_seq rd_ix (pd_own G_walked (hr.mono (by decide)) (by rfl) T.g_walked T.k_walked T.b_walked hx (pad_cons (pd_var (pv 0)) (pad_cons pd_int (pad_cons (pd_var (pv 2)) pad_nil)))) pd_int) (pad_cons pd_int pad_nil))) (pad_cons (pd_own G_price (hr.mono (by decide)) (by rfl) T.g_price T.k_price T.b_price hx (pad_cons (pd_var (pv 1)) (pad_cons (pd_ix ix_seq rd_ix (pd_var (pv 2)) pd_int) pad_nil))) pad_nil)))))
theorem G_law_common (T : Txt K mg base) : FnOk P w K mg base (L2.CX P w) 1 T.a_law_common T.fd_law_common ["one", "other"] (spD K mg m_law_common 2) := by
  rw [m_law_common_e]
  refine fn_d T.F_law_common sc_law_common (fun cdv A outer s H E hr tk hx => ?_)
  show PSsd _ _ (defBody s_law_common) d_law_common
  unfold d_law_common
  exact (by refine (pssd_cons ?_ (pssd_one ?_)); exact (psd_while fuel (passes_of rfl) (ptd_cmp (op_neD hr.units) rd_ne (pd_var (pv 1)) pd_int (nomark _)) (by refine (pssd_cons ?_ (pssd_cons ?_ (pssd_one ?_))); exact (psd_set (i := 2) sc_law_common.nd rfl (.inl rfl) (pd_op op_mod rd_mod (pd_callTy call_int1 rc_int (by rfl) T.n_int (by decide +kernel) (pad_cons (pd_var (pv 0)) pad_nil)) (pd_var (pv 1)))); exact (psd_set (i := 0) sc_law_common.nd rfl (.inl rfl) (pd_var (pv 1))); exact (psd_set (i := 1) sc_law_common.nd rfl (.inl rfl) (pd_var (pv 2))))); exact (psd_ret (pd_var (pv 0))))
theorem G_law_sum (T : Txt K mg base) : FnOk P w K mg base (L2.CX P w) 2 T.a_law_sum T.fd_law_sum ["fractions"] (spD K mg m_law_sum 1) := by
  have G_law_made := G_law_made (P := P) (w := w) (base := base) T
  have G_law_common := G_law_common (P := P) (w := w) (base := base) T
  rw [m_law_sum_e]
  refine fn_d T.F_law_sum sc_law_sum (fun cdv A outer s H E hr tk hx => ?_)
  show PSsd _ _ (defBody s_law_sum) d_law_sum
  unfold d_law_sum
  exact (by refine (pssd_cons ?_ (pssd_cons ?_ (pssd_one ?_))); exact (psd_set (i := 1) sc_law_sum.nd rfl (.inr rfl) pd_int); exact (psd_for (passes_of rfl) rfl (pid_list (pd_var (pv 0))) (pg_name (i := 2) sc_law_sum.nd rfl (.inl rfl)) (gs_name 2) (by refine (pssd_one ?_); exact (psd_set (i := 1) sc_law_sum.nd rfl (.inr rfl) (pd_op op_fdivW rd_divW (pd_op op_mulW rd_mulW (pd_var (pv 1)) (pd_ix ix_seq rd_ix (pd_var (pv 2)) pd_int)) (pd_own G_law_common (hr.mono (by decide)) (by rfl) T.g_law_common T.k_law_common T.b_law_common hx (pad_cons (pd_var (pv 1)) (pad_cons (pd_ix ix_seq rd_ix (pd_var (pv 2)) pd_int) pad_nil))))))); exact (psd_ret (pd_own G_law_made (hr.mono (by decide)) (by rfl) T.g_law_made T.k_law_made T.b_law_made hx (pad_cons (pd_callB (cr_sum rfl) rc_sum (by rfl) T.n_sum (by decide +kernel) (pad_cons (pd_fz (pld_lc rfl sc_law_sum.nd (pid_list (pd_var (pv 0))) (blkOk_by (own := [("fraction", 2)]) (N := N_law_sum) (show blkC N_law_sum (defScope s_law_sum) _ _ = true by decide +kernel)) (gs_name 2) (by decide) (fun _ _ _ _ _ => (pg_name (i := 2) sc_law_sum.nd rfl (.inl rfl))) (fun _ _ _ _ _ => ptsd_nil) (fun _ _ _ _ _ => (pd_op op_mulW rd_mulW (pd_ix ix_seq rd_ix (pd_var (pv 2)) pd_int) (pd_op op_fdivW rd_divW (pd_var (pv 1)) (pd_ix ix_seq rd_ix (pd_var (pv 2)) pd_int)))))) pad_nil)) (pad_cons (pd_var (pv 1)) pad_nil)))))
theorem G_ticks (T : Txt K mg base) : FnOk P w K mg base (L2.CX P w) 5 T.a_ticks T.fd_ticks ["machine", "run"] (spD K mg m_ticks 2) := by
  have G_check_run := G_check_run (P := P) (w := w) (base := base) T
  have G_walked := G_walked (P := P) (w := w) (base := base) T
  rw [m_ticks_e]
  refine fn_d T.F_ticks sc_ticks (fun cdv A outer s H E hr tk hx => ?_)
  show PSsd _ _ (defBody s_ticks) d_ticks
  unfold d_ticks
  exact (by refine (pssd_cons ?_ (pssd_one ?_)); exact (psd_expr (pd_own G_check_run (hr.mono (by decide)) (by rfl) T.g_check_run T.k_check_run T.b_check_run hx (pad_cons (pd_var (pv 0)) (pad_cons (pd_var (pv 1)) pad_nil)))); exact (psd_ret (pd_ix ix_seq rd_ix (pd_own G_walked (hr.mono (by decide)) (by rfl) T.g_walked T.k_walked T.b_walked hx (pad_cons (pd_var (pv 0)) (pad_cons pd_int (pad_cons (pd_var (pv 1)) pad_nil)))) pd_int)))
theorem G_law_written (T : Txt K mg base) : FnOk P w K mg base (L2.CX P w) 1 T.a_law_written T.fd_law_written ["long"] (spD K mg m_law_written 1) := by
  rw [m_law_written_e]
  refine fn_d T.F_law_written sc_law_written (fun cdv A outer s H E hr tk hx => ?_)
  show PSsd _ _ (defBody s_law_written) d_law_written
  unfold d_law_written
  exact (by refine (pssd_cons ?_ (pssd_cons ?_ (pssd_cons ?_ (pssd_one ?_)))); exact (psd_set (i := 1) sc_law_written.nd rfl (.inl rfl) pd_str); exact (psd_set (i := 2) sc_law_written.nd rfl (.inl rfl) (pd_tup pad_nil)); exact (psd_for (passes_of rfl) rfl (pid_tup (pd_var (pv 0))) (pg_tup rfl (pgs_cons (pg_name (i := 3) sc_law_written.nd rfl (.inl rfl)) (pgs_cons (pg_name (i := 4) sc_law_written.nd rfl (.inl rfl)) pgs_nil))) (gs_tup 2 (gss_cons (gs_name 3) (gss_cons (gs_name 4) gss_nil))) (by refine (pssd_cons ?_ (pssd_one ?_)); exact (psd_set (i := 1) sc_law_written.nd rfl (.inl rfl) (pd_op op_addAll rd_add (pd_var (pv 1)) (pd_op op_repA rd_repA (pd_ix ix_seq rd_ix (pd_var (pv 3)) pd_int) (pd_var (pv 4))))); exact (psd_set (i := 2) sc_law_written.nd rfl (.inl rfl) (pd_op op_addAll rd_add (pd_var (pv 2)) (pd_op op_repA rd_repA (pd_ix ix_seq rd_ix (pd_var (pv 3)) pd_int) (pd_var (pv 4))))))); exact (psd_ret (pd_tup (pad_cons (pd_var (pv 1)) (pad_cons (pd_var (pv 2)) pad_nil)))))
theorem G_is_turn (T : Txt K mg base) : FnOk P w K mg base (L2.CX P w) 4 T.a_is_turn T.fd_is_turn ["thing", "rows", "answers"] (spD K mg m_is_turn 3) := by
  have G_is_integer := G_is_integer (P := P) (w := w) (base := base) T
  have G_is_tuple := G_is_tuple (P := P) (w := w) (base := base) T
  have G_is_run := G_is_run (P := P) (w := w) (base := base) T
  rw [m_is_turn_e]
  refine fn_d T.F_is_turn sc_is_turn (fun cdv A outer s H E hr tk hx => ?_)
  show PSsd _ _ (defBody s_is_turn) d_is_turn
  unfold d_is_turn
  exact (by refine (pssd_one ?_); exact (psd_ret (pd_and (pd_own G_is_tuple (hr.mono (by decide)) (by rfl) T.g_is_tuple T.k_is_tuple T.b_is_tuple hx (pad_cons (pd_var (pv 0)) (pad_cons pd_int pad_nil))) (pd_and (pd_own G_is_run (hr.mono (by decide)) (by rfl) T.g_is_run T.k_is_run T.b_is_run hx (pad_cons (pd_ix ix_seq rd_ix (pd_var (pv 0)) pd_int) (pad_cons (pd_var (pv 1)) (pad_cons (pd_var (pv 2)) pad_nil)))) (pd_and (pd_own G_is_integer (hr.mono (by decide)) (by rfl) T.g_is_integer T.k_is_integer T.b_is_integer hx (pad_cons (pd_ix ix_seq rd_ix (pd_var (pv 0)) pd_int) pad_nil)) (pd_one (pd_cmp op_ge rd_ge (pd_ix ix_seq rd_ix (pd_var (pv 0)) pd_int) pd_int (nomark _))))))))
theorem G_check_long (T : Txt K mg base) : FnOk P w K mg base (L2.CX P w) 5 T.a_check_long T.fd_check_long ["thing", "rows", "answers"] (spD K mg m_check_long 3) := by
  have G_is_turn := G_is_turn (P := P) (w := w) (base := base) T
  rw [m_check_long_e]
  refine fn_d T.F_check_long sc_check_long (fun cdv A outer s H E hr tk hx => ?_)
  show PSsd _ _ (defBody s_check_long) d_check_long
  unfold d_check_long
  exact (by refine (pssd_one ?_); exact (psd_if (ptd_w (pwd_or (ptd_not (ptd_truth (pd_callB call_isi rc_isi (by rfl) T.n_isinstance (by decide +kernel) (pad_cons (pd_var (pv 0)) (pad_cons (pd_c (v := .ty "tuple") (pe_bltn (by rfl) T.n_tuple (by decide +kernel) rfl) rfl) pad_nil))))) (pwd_or1 (ptd_not (ptd_truth (pd_callB (cr_all rfl) rc_all (by rfl) T.n_all (by decide +kernel) (pad_cons (pd_fz (pld_lc rfl sc_check_long.nd (pid_tup (pd_var (pv 0))) (blkOk_by (own := [("turn", 3)]) (N := N_check_long) (show blkC N_check_long (defScope s_check_long) _ _ = true by decide +kernel)) (gs_name 3) (by decide) (fun _ _ _ _ _ => (pg_name (i := 3) sc_check_long.nd rfl (.inl rfl))) (fun _ _ _ _ _ => ptsd_nil) (fun _ _ _ _ _ => (pd_own G_is_turn (hr.mono (by decide)) (by rfl) T.g_is_turn T.k_is_turn T.b_is_turn lets0 (pad_cons (pd_var (pv 3)) (pad_cons (pd_var (pv 1)) (pad_cons (pd_var (pv 2)) pad_nil))))))) pad_nil))))))) (by refine (pssd_one ?_); exact (psd_raise0 rfl tk T.E_NoLong T.C_NoLong (by rfl))) pssd_nil))
theorem LK_la_long_ticks_0 (T : Txt K mg base) : LamOkP P w K mg base 1 lw_la_long_ticks_0 N_la_long_ticks_0 ["here", "run"] dl_la_long_ticks_0 := by
  have G_walked := G_walked (P := P) (w := w) (base := base) T
  refine lamOk_mk sc_la_long_ticks_0 (fun cl pm cv ctv us hl => match us, hl with | [_, _], _ => rfl) (fun f cl c' A outer s H hr => ?_)
  unfold dl_la_long_ticks_0
  exact (pd_own G_walked (hr.mono (by decide)) (by rfl) T.g_walked T.k_walked T.b_walked lets0 (pad_cons (pd_var (pv 2)) (pad_cons (pd_var (pv 0)) (pad_cons (pd_var (pv 1)) pad_nil))))
theorem LK_la_long_price_0 (T : Txt K mg base) : LamOkP P w K mg base 2 lw_la_long_price_0 N_la_long_price_0 ["tail", "run"] dl_la_long_price_0 := by
  have G_charged := G_charged (P := P) (w := w) (base := base) T
  refine lamOk_mk sc_la_long_price_0 (fun cl pm cv ctv us hl => match us, hl with | [_, _], _ => rfl) (fun f cl c' A outer s H hr => ?_)
  unfold dl_la_long_price_0
  exact (pd_own G_charged (hr.mono (by decide)) (by rfl) T.g_charged T.k_charged T.b_charged lets0 (pad_cons (pd_var (pv 2)) (pad_cons (pd_var (pv 3)) (pad_cons (pd_var (pv 0)) (pad_cons (pd_ix ix_seq rd_ix (pd_var (pv 1)) pd_int) pad_nil)))))
theorem TK_tab_repeated_once (T : Txt K mg base) : TabOkP P w K mg base 2 tab_repeated_once := by
  unfold tab_repeated_once
  rw [m_la_long_ticks_0_e]
  rw [m_la_long_price_0_e]
  exact (tabOk_cons (LK_la_long_ticks_0 T) (by decide) (tabOk_cons (LK_la_long_price_0 T) (by decide) tabOk_nil))
theorem G_repeated (T : Txt K mg base) : FnOk P w K mg base (L2.CX P w) 4 T.a_repeated T.fd_repeated ["run", "times", "here", "once"] (spD K mg m_repeated 4) := by
  rw [m_repeated_e]
  refine fn_d T.F_repeated sc_repeated (fun cdv A outer s H E hr tk hx => ?_)
  show PSsd _ _ (defBody s_repeated) d_repeated
  unfold d_repeated
  exact (by refine (pssd_cons ?_ (pssd_cons ?_ (pssd_cons ?_ (pssd_cons ?_ (pssd_cons ?_ (pssd_cons ?_ (pssd_one ?_))))))); exact (psd_set (i := 4) sc_repeated.nd rfl (.inl rfl) pd_dictNew); exact (psd_set (i := 5) sc_repeated.nd rfl (.inl rfl) pd_int); exact (psd_set (i := 6) sc_repeated.nd rfl (.inl rfl) pd_int); exact (psd_while fuel (passes_of rfl) (ptd_w (pwd_and (ptd_cmp op_ltS rd_ltS (pd_var (pv 6)) (pd_var (pv 1)) (nomark _)) (pwd_and1 (ptd_dnin (Nat.lt_of_le_of_lt (Nat.add_le_add_left (by decide : 1 ≤ 64) _) hr.units) (pd_var (pv 2)) (pd_var (pv 4)))))) (by refine (pssd_cons ?_ (pssd_cons ?_ (pssd_cons ?_ (pssd_one ?_)))); exact (psd_setKey (Nat.lt_of_le_of_lt (Nat.add_le_add_left (by decide : 1 ≤ 64) _) hr.units) (pd_tup (pad_cons (pd_var (pv 6)) (pad_cons (pd_var (pv 5)) pad_nil))) (pd_var (pv 4)) (pd_var (pv 2))); exact (psd_asg (pd_lamGo (i := 3) (tab := tab_repeated_once) (TK_tab_repeated_once T _ rfl rfl rfl rfl rfl) (hr.mono (by decide)) rfl (by first | exact .inl rfl | exact .inr (.inl rfl) | exact .inr (.inr rfl)) (pad_cons (pd_var (pv 2)) (pad_cons (pd_var (pv 0)) pad_nil))) (pg_tup rfl (pgs_cons (pg_name (i := 7) sc_repeated.nd rfl (.inl rfl)) (pgs_cons (pg_name (i := 2) sc_repeated.nd rfl (.inl rfl)) pgs_nil))) (gs_tup 2 (gss_cons (gs_name 7) (gss_cons (gs_name 2) gss_nil)))); exact (psd_aug (i := 5) sc_repeated.nd rfl (.inl rfl) (pd_var (pv 7)) ip_add); exact (psd_aug (i := 6) sc_repeated.nd rfl (.inl rfl) pd_int ip_add))); exact (psd_if (ptd_cmp op_ltS rd_ltS (pd_var (pv 6)) (pd_var (pv 1)) (nomark _)) (by refine (pssd_cons ?_ (pssd_cons ?_ (pssd_cons ?_ (pssd_one ?_)))); exact (psd_asg (pd_dget (Nat.lt_of_le_of_lt (Nat.add_le_add_left (by decide : 1 ≤ 64) _) hr.units) (pd_var (pv 4)) (pd_var (pv 2))) (pg_tup rfl (pgs_cons (pg_name (i := 8) sc_repeated.nd rfl (.inl rfl)) (pgs_cons (pg_name (i := 9) sc_repeated.nd rfl (.inl rfl)) pgs_nil))) (gs_tup 2 (gss_cons (gs_name 8) (gss_cons (gs_name 9) gss_nil)))); exact (psd_set (i := 10) sc_repeated.nd rfl (.inl rfl) (pd_op op_fdivW rd_divW (pd_op op_sub rd_sub (pd_var (pv 1)) (pd_var (pv 6))) (pd_op op_sub rd_sub (pd_var (pv 6)) (pd_var (pv 8))))); exact (psd_aug (i := 5) sc_repeated.nd rfl (.inl rfl) (pd_op op_mulW rd_mulW (pd_var (pv 10)) (pd_op op_sub rd_sub (pd_var (pv 5)) (pd_var (pv 9)))) ip_add); exact (psd_aug (i := 6) sc_repeated.nd rfl (.inl rfl) (pd_op op_mulW rd_mulW (pd_var (pv 10)) (pd_op op_sub rd_sub (pd_var (pv 6)) (pd_var (pv 8)))) ip_add)) pssd_nil); exact (psd_for (passes_of rfl) rfl (pid_range1 (by rfl) T.n_range (pad_cons (pd_op op_sub rd_sub (pd_var (pv 1)) (pd_var (pv 6))) pad_nil)) (pg_name (i := 11) sc_repeated.nd rfl (.inl rfl)) (gs_name 11) (by refine (pssd_cons ?_ (pssd_one ?_)); exact (psd_asg (pd_lamGo (i := 3) (tab := tab_repeated_once) (TK_tab_repeated_once T _ rfl rfl rfl rfl rfl) (hr.mono (by decide)) rfl (by first | exact .inl rfl | exact .inr (.inl rfl) | exact .inr (.inr rfl)) (pad_cons (pd_var (pv 2)) (pad_cons (pd_var (pv 0)) pad_nil))) (pg_tup rfl (pgs_cons (pg_name (i := 7) sc_repeated.nd rfl (.inl rfl)) (pgs_cons (pg_name (i := 2) sc_repeated.nd rfl (.inl rfl)) pgs_nil))) (gs_tup 2 (gss_cons (gs_name 7) (gss_cons (gs_name 2) gss_nil)))); exact (psd_aug (i := 5) sc_repeated.nd rfl (.inl rfl) (pd_var (pv 7)) ip_add))); exact (psd_ret (pd_tup (pad_cons (pd_var (pv 5)) (pad_cons (pd_var (pv 2)) pad_nil)))))
theorem G_summed (T : Txt K mg base) : FnOk P w K mg base (L2.CX P w) 5 T.a_summed T.fd_summed ["long", "here", "once"] (spD K mg m_summed 3) := by
  have G_repeated := G_repeated (P := P) (w := w) (base := base) T
  rw [m_summed_e]
  refine fn_d T.F_summed sc_summed (fun cdv A outer s H E hr tk hx => ?_)
  show PSsd _ _ (defBody s_summed) d_summed
  unfold d_summed
  exact (by refine (pssd_cons ?_ (pssd_cons ?_ (pssd_one ?_))); exact (psd_set (i := 3) sc_summed.nd rfl (.inl rfl) pd_int); exact (psd_for (passes_of rfl) rfl (pid_tup (pd_var (pv 0))) (pg_tup rfl (pgs_cons (pg_name (i := 4) sc_summed.nd rfl (.inl rfl)) (pgs_cons (pg_name (i := 5) sc_summed.nd rfl (.inl rfl)) pgs_nil))) (gs_tup 2 (gss_cons (gs_name 4) (gss_cons (gs_name 5) gss_nil))) (by refine (pssd_cons ?_ (pssd_one ?_)); exact (psd_asg (pd_own G_repeated (hr.mono (by decide)) (by rfl) T.g_repeated T.k_repeated T.b_repeated hx (pad_cons (pd_var (pv 4)) (pad_cons (pd_var (pv 5)) (pad_cons (pd_var (pv 1)) (pad_cons (pd_var (pv 2)) pad_nil))))) (pg_tup rfl (pgs_cons (pg_name (i := 6) sc_summed.nd rfl (.inl rfl)) (pgs_cons (pg_name (i := 1) sc_summed.nd rfl (.inl rfl)) pgs_nil))) (gs_tup 2 (gss_cons (gs_name 6) (gss_cons (gs_name 1) gss_nil)))); exact (psd_aug (i := 3) sc_summed.nd rfl (.inl rfl) (pd_var (pv 6)) ip_add))); exact (psd_ret (pd_var (pv 3))))
theorem G_long_ticks (T : Txt K mg base) : FnOk P w K mg base (L2.CX P w) 6 T.a_long_ticks T.fd_long_ticks ["machine", "long"] (spD K mg m_long_ticks 2) := by
  have G_check_long := G_check_long (P := P) (w := w) (base := base) T
  have G_summed := G_summed (P := P) (w := w) (base := base) T
  rw [m_long_ticks_e]
  refine fn_dL T.F_long_ticks sc_long_ticks (fun A outer s H E hr tk hx => ?_)
  show PSsd _ _ (defBody s_long_ticks) d_long_ticks
  unfold d_long_ticks
  exact (by refine (pssd_cons ?_ (pssd_one ?_)); exact (psd_expr (pd_own G_check_long (hr.mono (by decide)) (by rfl) T.g_check_long T.k_check_long T.b_check_long hx (pad_cons (pd_var (pv 1)) (pad_cons (pd_fld T.f_rows (pd_var (pv 0))) (pad_cons (pd_fld T.f_answers (pd_var (pv 0))) pad_nil))))); exact (psd_ret (pd_ownLam (lw := lw_la_long_ticks_0) (kk := 0) (js := [0]) G_summed (hr.mono (by decide)) (by rfl) T.g_summed T.k_summed T.b_summed (caps_by (sc := defScope s_long_ticks) rfl (by decide +kernel) rfl) (fun _ _ _ => rfl) (padl_cons (pd_var (pv 1)) (padl_cons pd_int (padl_nil (lam_by (sc := defScope s_long_ticks) T.TB_long_ticks rfl T.tm_long_ticks T.tu_long_ticks rfl rfl rfl (by rfl) rfl rfl (by decide +kernel))))))))
theorem G_long_price (T : Txt K mg base) : FnOk P w K mg base (L2.CX P w) 6 T.a_long_price T.fd_long_price ["prices", "long"] (spD K mg m_long_price 2) := by
  have G_shared_bottom := G_shared_bottom (P := P) (w := w) (base := base) T
  have G_first_tail := G_first_tail (P := P) (w := w) (base := base) T
  have G_lowest := G_lowest (P := P) (w := w) (base := base) T
  have G_check_long := G_check_long (P := P) (w := w) (base := base) T
  have G_summed := G_summed (P := P) (w := w) (base := base) T
  rw [m_long_price_e]
  refine fn_dL T.F_long_price sc_long_price (fun A outer s H E hr tk hx => ?_)
  show PSsd _ _ (defBody s_long_price) d_long_price
  unfold d_long_price
  exact (by refine (pssd_cons ?_ (pssd_cons ?_ (pssd_cons ?_ (pssd_one ?_)))); exact (psd_expr (pd_own G_check_long (hr.mono (by decide)) (by rfl) T.g_check_long T.k_check_long T.b_check_long hx (pad_cons (pd_var (pv 1)) (pad_cons (pd_fld T.f_rows (pd_var (pv 0))) (pad_cons pd_int pad_nil))))); exact (psd_set (i := 2) sc_long_price.nd rfl (.inr rfl) (pd_fld T.f_width (pd_var (pv 0)))); exact (psd_asg (pd_own G_shared_bottom (hr.mono (by decide)) (by rfl) T.g_shared_bottom T.k_shared_bottom T.b_shared_bottom hx (pad_cons (pd_var (pv 0)) pad_nil)) (pg_tup rfl (pgs_cons (pg_name (i := 3) sc_long_price.nd rfl (.inr rfl)) (pgs_cons (pg_name (i := 4) sc_long_price.nd rfl (.inl rfl)) pgs_nil))) (gs_tup 2 (gss_cons (gs_name 3) (gss_cons (gs_name 4) gss_nil)))); exact (psd_ret (pd_own G_lowest (hr.mono (by decide)) (by rfl) T.g_lowest T.k_lowest T.b_lowest hx (pad_cons (pd_ownLam (lw := lw_la_long_price_0) (kk := 1) (js := [3, 2]) G_summed (hr.mono (by decide)) (by rfl) T.g_summed T.k_summed T.b_summed (caps_by (sc := defScope s_long_price) rfl (by decide +kernel) rfl) (fun _ _ _ => rfl) (padl_cons (pd_var (pv 1)) (padl_cons (pd_own G_first_tail (hr.mono (by decide)) (by rfl) T.g_first_tail T.k_first_tail T.b_first_tail hx (pad_cons (pd_var (pv 2)) pad_nil)) (padl_nil (lam_by (sc := defScope s_long_price) T.TB_long_price rfl T.tm_long_price T.tu_long_price rfl rfl rfl (by rfl) rfl rfl (by decide +kernel)))))) (pad_cons (pd_var (pv 4)) pad_nil)))))
theorem G_law_led (T : Txt K mg base) : FnOk P w K mg base (L2.CX P w) 1 T.a_law_led T.fd_law_led ["world", "at", "run"] (spD K mg m_law_led 3) := by
  rw [m_law_led_e]
  refine fn_d T.F_law_led sc_law_led (fun cdv A outer s H E hr tk hx => ?_)
  show PSsd _ _ (defBody s_law_led) d_law_led
  unfold d_law_led
  exact (by refine (pssd_cons ?_ (pssd_cons ?_ (pssd_one ?_))); exact (psd_set (i := 3) sc_law_led.nd rfl (.inl rfl) pd_int); exact (psd_for (passes_of rfl) rfl (pid_zip (by rfl) T.n_zip (pad_cons (pd_ix ix_seq rd_ix (pd_var (pv 2)) pd_int) (pad_cons (pd_ix ix_seq rd_ix (pd_var (pv 2)) pd_int) pad_nil))) (pg_tup rfl (pgs_cons (pg_name (i := 4) sc_law_led.nd rfl (.inl rfl)) (pgs_cons (pg_name (i := 5) sc_law_led.nd rfl (.inl rfl)) pgs_nil))) (gs_tup 2 (gss_cons (gs_name 4) (gss_cons (gs_name 5) gss_nil))) (by refine (pssd_cons ?_ (pssd_one ?_)); exact (psd_asg (pd_ix ix_seq rd_ix (pd_ix ix_seq rd_ix (pd_ix ix_seq rd_ix (pd_ix ix_seq rd_ix (pd_var (pv 0)) pd_int) (pd_var (pv 1))) (pd_bm PySem.F.plainAttrs_str PySem.F.slot_str_find PySem.F.type_str_find mt_find rm_find (pd_ix ix_seq rd_ix (pd_var (pv 0)) pd_int) (pad_cons (pd_var (pv 4)) pad_nil))) (pd_var (pv 5))) (pg_tup rfl (pgs_cons (pg_name (i := 6) sc_law_led.nd rfl (.inl rfl)) (pgs_cons (pg_name (i := 1) sc_law_led.nd rfl (.inl rfl)) pgs_nil))) (gs_tup 2 (gss_cons (gs_name 6) (gss_cons (gs_name 1) gss_nil)))); exact (psd_set (i := 3) sc_law_led.nd rfl (.inl rfl) (pd_op op_addAll rd_add (pd_var (pv 3)) (pd_var (pv 6)))))); exact (psd_ret (pd_tup (pad_cons (pd_var (pv 3)) (pad_cons (pd_var (pv 1)) pad_nil)))))
theorem G_law_map (T : Txt K mg base) : FnOk P w K mg base (L2.CX P w) 2 T.a_law_map T.fd_law_map ["world", "run"] (spD K mg m_law_map 2) := by
  have G_law_led := G_law_led (P := P) (w := w) (base := base) T
  rw [m_law_map_e]
  refine fn_d T.F_law_map sc_law_map (fun cdv A outer s H E hr tk hx => ?_)
  show PSsd _ _ (defBody s_law_map) d_law_map
  unfold d_law_map
  exact (by refine (pssd_one ?_); exact (psd_ret (pd_fz (pld_lc rfl sc_law_map.nd (pid_range1 (by rfl) T.n_range (pad_cons (pd_callB call_len rc_len (by rfl) T.n_len (by decide +kernel) (pad_cons (pd_ix ix_seq rd_ix (pd_var (pv 0)) pd_int) pad_nil)) pad_nil)) (blkOk_by (own := [("at", 2)]) (N := N_law_map) (show blkC N_law_map (defScope s_law_map) _ _ = true by decide +kernel)) (gs_name 2) (by decide) (fun _ _ _ _ _ => (pg_name (i := 2) sc_law_map.nd rfl (.inl rfl))) (fun _ _ _ _ _ => ptsd_nil) (fun _ _ _ _ _ => (pd_own G_law_led (hr.mono (by decide)) (by rfl) T.g_law_led T.k_law_led T.b_law_led lets0 (pad_cons (pd_var (pv 0)) (pad_cons (pd_var (pv 2)) (pad_cons (pd_var (pv 1)) pad_nil)))))))))
theorem G_law_behind (T : Txt K mg base) : FnOk P w K mg base (L2.CX P w) 1 T.a_law_behind T.fd_law_behind ["one", "other"] (spD K mg m_law_behind 2) := by
  rw [m_law_behind_e]
  refine fn_d T.F_law_behind sc_law_behind (fun cdv A outer s H E hr tk hx => ?_)
  show PSsd _ _ (defBody s_law_behind) d_law_behind
  unfold d_law_behind
  exact (by refine (pssd_one ?_); exact (psd_ret (pd_fz (pld_lc rfl sc_law_behind.nd (pid_list (pd_var (pv 0))) (blkOk_by (own := [("pair", 2)]) (N := N_law_behind) (show blkC N_law_behind (defScope s_law_behind) _ _ = true by decide +kernel)) (gs_name 2) (by decide) (fun _ _ _ _ _ => (pg_name (i := 2) sc_law_behind.nd rfl (.inl rfl))) (fun _ _ _ _ _ => ptsd_nil) (fun _ _ _ _ _ => (pd_tup (pad_cons (pd_op op_addAll rd_add (pd_ix ix_seq rd_ix (pd_var (pv 2)) pd_int) (pd_ix ix_seq rd_ix (pd_ix ix_seq rd_ix (pd_var (pv 1)) (pd_ix ix_seq rd_ix (pd_var (pv 2)) pd_int)) pd_int)) (pad_cons (pd_ix ix_seq rd_ix (pd_ix ix_seq rd_ix (pd_var (pv 1)) (pd_ix ix_seq rd_ix (pd_var (pv 2)) pd_int)) pd_int) pad_nil))))))))
theorem G_law_many (T : Txt K mg base) : FnOk P w K mg base (L2.CX P w) 3 T.a_law_many T.fd_law_many ["world", "run", "times"] (spD K mg m_law_many 3) := by
  have G_law_map := G_law_map (P := P) (w := w) (base := base) T
  have G_law_behind := G_law_behind (P := P) (w := w) (base := base) T
  rw [m_law_many_e]
  refine fn_d T.F_law_many sc_law_many (fun cdv A outer s H E hr tk hx => ?_)
  show PSsd _ _ (defBody s_law_many) d_law_many
  unfold d_law_many
  exact (by refine (pssd_cons ?_ (pssd_cons ?_ (pssd_cons ?_ (pssd_one ?_)))); exact (psd_setLcFz (i := 3) rfl rfl (sw_true rfl rfl rfl (by decide +kernel)) rfl sc_law_many.nd (pid_range1 (by rfl) T.n_range (pad_cons (pd_callB call_len rc_len (by rfl) T.n_len (by decide +kernel) (pad_cons (pd_ix ix_seq rd_ix (pd_var (pv 0)) pd_int) pad_nil)) pad_nil)) (blkOk_by (own := [("at", 5)]) (N := N_law_many) (show blkC N_law_many (defScope s_law_many) _ _ = true by decide +kernel)) (gs_name 5) (by decide) (fun _ _ _ _ _ => (pg_name (i := 5) sc_law_many.nd rfl (.inl rfl))) (fun _ _ _ _ _ => ptsd_nil) (fun _ _ _ _ _ => (pd_tup (pad_cons pd_int (pad_cons (pd_var (pv 5)) pad_nil))))); exact (psd_set (i := 4) sc_law_many.nd rfl (.inl rfl) (pd_own G_law_map (hr.mono (by decide)) (by rfl) T.g_law_map T.k_law_map T.b_law_map hx (pad_cons (pd_var (pv 0)) (pad_cons (pd_var (pv 1)) pad_nil)))); exact (psd_while fuel (passes_of rfl) (ptd_cmp op_gt rd_gt (pd_var (pv 2)) pd_int (nomark _)) (by refine (pssd_cons ?_ (pssd_cons ?_ (pssd_one ?_))); exact (psd_if (ptd_cmp (op_eqD hr.units) rd_eq (pd_op op_mod rd_mod (pd_callTy call_int1 rc_int (by rfl) T.n_int (by decide +kernel) (pad_cons (pd_var (pv 2)) pad_nil)) pd_int) pd_int (nomark _)) (by refine (pssd_one ?_); exact (psd_set (i := 3) sc_law_many.nd rfl (.inl rfl) (pd_own G_law_behind (hr.mono (by decide)) (by rfl) T.g_law_behind T.k_law_behind T.b_law_behind hx (pad_cons (pd_var (pv 3)) (pad_cons (pd_var (pv 4)) pad_nil))))) pssd_nil); exact (psd_set (i := 4) sc_law_many.nd rfl (.inl rfl) (pd_own G_law_behind (hr.mono (by decide)) (by rfl) T.g_law_behind T.k_law_behind T.b_law_behind hx (pad_cons (pd_var (pv 4)) (pad_cons (pd_var (pv 4)) pad_nil)))); exact (psd_set (i := 2) sc_law_many.nd rfl (.inl rfl) (pd_op op_fdiv rd_div (pd_var (pv 2)) pd_int)))); exact (psd_ret (pd_var (pv 3))))
theorem G_law_great_price (T : Txt K mg base) : FnOk P w K mg base (L2.CX P w) 6 T.a_law_great_price T.fd_law_great_price ["prices", "run", "times"] (spD K mg m_law_great_price 3) := by
  have G_law_made := G_law_made (P := P) (w := w) (base := base) T
  have G_price := G_price (P := P) (w := w) (base := base) T
  have G_law_sum := G_law_sum (P := P) (w := w) (base := base) T
  rw [m_law_great_price_e]
  refine fn_d T.F_law_great_price sc_law_great_price (fun cdv A outer s H E hr tk hx => ?_)
  show PSsd _ _ (defBody s_law_great_price) d_law_great_price
  unfold d_law_great_price
  exact (by refine (pssd_cons ?_ (pssd_cons ?_ (pssd_cons ?_ (pssd_one ?_)))); exact (psd_setLcFz (i := 3) rfl rfl (sw_true rfl rfl rfl (by decide +kernel)) rfl sc_law_great_price.nd (pid_range1 (by rfl) T.n_range (pad_cons pd_int pad_nil)) (blkOk_by (own := [("many", 5)]) (N := N_law_great_price) (show blkC N_law_great_price (defScope s_law_great_price) _ _ = true by decide +kernel)) (gs_name 5) (by decide) (fun _ _ _ _ _ => (pg_name (i := 5) sc_law_great_price.nd rfl (.inl rfl))) (fun _ _ _ _ _ => ptsd_nil) (fun _ _ _ _ _ => (pd_own G_price (hr.mono (by decide)) (by rfl) T.g_price T.k_price T.b_price lets0 (pad_cons (pd_var (pv 0)) (pad_cons (pd_op op_repA rd_repA (pd_ix ix_seq rd_ix (pd_var (pv 1)) pd_int) (pd_var (pv 5))) pad_nil))))); exact (psd_if (ptd_cmp op_ltS rd_ltS (pd_var (pv 2)) pd_int (nomark _)) (by refine (pssd_one ?_); exact (psd_ret (pd_ix ix_seq rd_ix (pd_var (pv 3)) (pd_var (pv 2))))) pssd_nil); exact (psd_set (i := 4) sc_law_great_price.nd rfl (.inl rfl) (pd_own G_law_sum (hr.mono (by decide)) (by rfl) T.g_law_sum T.k_law_sum T.b_law_sum hx (pad_cons (pd_fz (pld_lst (pad_cons (pd_ix ix_seq rd_ix (pd_var (pv 3)) pd_int) (pad_cons (pd_tup (pad_cons (pd_op op_sub rd_sub pd_int (pd_ix ix_seq rd_ix (pd_ix ix_seq rd_ix (pd_var (pv 3)) pd_int) pd_int)) (pad_cons (pd_ix ix_seq rd_ix (pd_ix ix_seq rd_ix (pd_var (pv 3)) pd_int) pd_int) pad_nil))) pad_nil)))) pad_nil))); exact (psd_ret (pd_own G_law_sum (hr.mono (by decide)) (by rfl) T.g_law_sum T.k_law_sum T.b_law_sum hx (pad_cons (pd_fz (pld_lst (pad_cons (pd_ix ix_seq rd_ix (pd_var (pv 3)) pd_int) (pad_cons (pd_own G_law_made (hr.mono (by decide)) (by rfl) T.g_law_made T.k_law_made T.b_law_made hx (pad_cons (pd_op op_mulW rd_mulW (pd_ix ix_seq rd_ix (pd_var (pv 4)) pd_int) (pd_op op_sub rd_sub (pd_var (pv 2)) pd_int)) (pad_cons (pd_ix ix_seq rd_ix (pd_var (pv 4)) pd_int) pad_nil))) pad_nil)))) pad_nil))))
theorem G_law_word (T : Txt K mg base) : FnOk P w K mg base (L2.CX P w) 7 T.a_law_word T.fd_law_word ["machine", "prices", "run"] (spD K mg m_law_word 3) := by
  have G_rest := G_rest (P := P) (w := w) (base := base) T
  rw [m_law_word_e]
  refine fn_d T.F_law_word sc_law_word (fun cdv A outer s H E hr tk hx => ?_)
  show PSsd _ _ (defBody s_law_word) d_law_word
  unfold d_law_word
  exact (by refine (pssd_cons ?_ (pssd_cons ?_ (pssd_one ?_))); exact (psd_set (i := 3) sc_law_word.nd rfl (.inl rfl) pd_str); exact (psd_try rfl rfl tk T.sub (fun W' pn xe tk hp => have hx := lets_of tk; (by refine (pssd_one ?_); exact (psd_expr (pd_own G_rest (hr.mono (by decide)) (by rfl) T.g_rest T.k_rest T.b_rest hx (pad_cons (pd_var (pv 0)) (pad_cons (pd_var (pv 1)) (pad_cons (pd_var (pv 2)) pad_nil))))))) (HdD.cons T.C_OtherRows ⟨by rfl, by decide, .inl T.C_OtherRows⟩ (fun a oe cls d pn _ _ => (by refine (pssd_one ?_); exact (psd_set (i := 3) sc_law_word.nd rfl (.inl rfl) pd_str))) (HdD.cons T.C_NoRun ⟨by rfl, by decide, .inl T.C_NoRun⟩ (fun a oe cls d pn _ _ => (by refine (pssd_one ?_); exact (psd_set (i := 3) sc_law_word.nd rfl (.inl rfl) pd_str))) HdD.nil))); exact (psd_ret (pd_var (pv 3))))
theorem G_law (T : Txt K mg base) : FnOk P w K mg base (L2.CX P w) 9 T.a_law T.fd_law ["script"] (spD K mg m_law 1) := by
  have G_law_hand := G_law_hand (P := P) (w := w) (base := base) T
  have G_law_draw := G_law_draw (P := P) (w := w) (base := base) T
  have G_law_world := G_law_world (P := P) (w := w) (base := base) T
  have G_Machine_init := G_Machine_init (P := P) (w := w) (base := base) T
  have G_Prices_init := G_Prices_init (P := P) (w := w) (base := base) T
  have G_law_table := G_law_table (P := P) (w := w) (base := base) T
  have G_law_run := G_law_run (P := P) (w := w) (base := base) T
  have G_price := G_price (P := P) (w := w) (base := base) T
  have G_rest := G_rest (P := P) (w := w) (base := base) T
  have G_law_sum := G_law_sum (P := P) (w := w) (base := base) T
  have G_ticks := G_ticks (P := P) (w := w) (base := base) T
  have G_law_written := G_law_written (P := P) (w := w) (base := base) T
  have G_long_ticks := G_long_ticks (P := P) (w := w) (base := base) T
  have G_long_price := G_long_price (P := P) (w := w) (base := base) T
  have G_law_map := G_law_map (P := P) (w := w) (base := base) T
  have G_law_behind := G_law_behind (P := P) (w := w) (base := base) T
  have G_law_many := G_law_many (P := P) (w := w) (base := base) T
  have G_law_great_price := G_law_great_price (P := P) (w := w) (base := base) T
  have G_law_word := G_law_word (P := P) (w := w) (base := base) T
  rw [m_law_e]
  refine fn_d T.F_law sc_law (fun cdv A outer s H E hr tk hx => ?_)
  show PSsd _ _ (defBody s_law) d_law
  unfold d_law
  exact (by refine (pssd_cons ?_ (pssd_cons ?_ (pssd_cons ?_ (pssd_cons ?_ (pssd_cons ?_ (pssd_cons ?_ (pssd_cons ?_ (pssd_cons ?_ (pssd_cons ?_ (pssd_cons ?_ (pssd_cons ?_ (pssd_cons ?_ (pssd_cons ?_ (pssd_cons ?_ (pssd_cons ?_ (pssd_cons ?_ (pssd_cons ?_ (pssd_cons ?_ (pssd_cons ?_ (pssd_cons ?_ (pssd_cons ?_ (pssd_cons ?_ (pssd_cons ?_ (pssd_cons ?_ (pssd_one ?_))))))))))))))))))))))))); exact (psd_set (i := 1) sc_law.nd rfl (.inl rfl) (pd_own G_law_hand (hr.mono (by decide)) (by rfl) T.g_law_hand T.k_law_hand T.b_law_hand hx (pad_cons (pd_var (pv 0)) pad_nil))); exact (psd_set (i := 2) sc_law.nd rfl (.inl rfl) (pd_own G_law_world (hr.mono (by decide)) (by rfl) T.g_law_world T.k_law_world T.b_law_world hx (pad_cons (pd_var (pv 1)) (pad_cons pd_int (pad_cons pd_int pad_nil))))); exact (psd_asg (pd_var (pv 2)) (pg_tup rfl (pgs_cons (pg_name (i := 3) sc_law.nd rfl (.inr rfl)) (pgs_cons (pg_name (i := 4) sc_law.nd rfl (.inl rfl)) (pgs_cons (pg_name (i := 5) sc_law.nd rfl (.inl rfl)) pgs_nil)))) (gs_tup 3 (gss_cons (gs_name 3) (gss_cons (gs_name 4) (gss_cons (gs_name 5) gss_nil))))); exact (psd_set (i := 6) sc_law.nd rfl (.inl rfl) (pd_make T.mk_Machine G_Machine_init (hr.mono (by decide)) (by rfl) T.C_Machine T.b_Machine_init hx (pad_cons (pd_var (pv 3)) (pad_cons (pd_var (pv 4)) (pad_cons (pd_var (pv 5)) pad_nil))))); exact (psd_set (i := 7) sc_law.nd rfl (.inl rfl) (pd_op op_addAll rd_add pd_int (pd_own G_law_draw (hr.mono (by decide)) (by rfl) T.g_law_draw T.k_law_draw T.b_law_draw hx (pad_cons (pd_var (pv 1)) (pad_cons pd_int pad_nil))))); exact (psd_set (i := 8) sc_law.nd rfl (.inl rfl) (pd_make T.mk_Prices G_Prices_init (hr.mono (by decide)) (by rfl) T.C_Prices T.b_Prices_init hx (pad_cons (pd_var (pv 3)) (pad_cons (pd_var (pv 7)) (pad_cons (pd_own G_law_table (hr.mono (by decide)) (by rfl) T.g_law_table T.k_law_table T.b_law_table hx (pad_cons (pd_var (pv 1)) (pad_cons (pd_var (pv 3)) (pad_cons (pd_var (pv 7)) pad_nil)))) pad_nil))))); exact (psd_set (i := 9) sc_law.nd rfl (.inl rfl) (pd_own G_law_run (hr.mono (by decide)) (by rfl) T.g_law_run T.k_law_run T.b_law_run hx (pad_cons (pd_var (pv 1)) (pad_cons (pd_var (pv 3)) (pad_cons (pd_var (pv 4)) (pad_cons (pd_ix ix_seq rd_ix (pd_fz (pld_lst (pad_cons pd_int (pad_cons pd_int (pad_cons pd_int (pad_cons pd_int (pad_cons pd_int (pad_cons pd_int (pad_cons pd_int (pad_cons pd_int pad_nil)))))))))) (pd_own G_law_draw (hr.mono (by decide)) (by rfl) T.g_law_draw T.k_law_draw T.b_law_draw hx (pad_cons (pd_var (pv 1)) (pad_cons pd_int pad_nil)))) pad_nil)))))); exact (psd_set (i := 10) sc_law.nd rfl (.inl rfl) (pd_own G_price (hr.mono (by decide)) (by rfl) T.g_price T.k_price T.b_price hx (pad_cons (pd_var (pv 8)) (pad_cons (pd_ix ix_seq rd_ix (pd_var (pv 9)) pd_int) pad_nil)))); exact (psd_if (ptd_cmp (op_neD hr.units) rd_ne (pd_own G_rest (hr.mono (by decide)) (by rfl) T.g_rest T.k_rest T.b_rest hx (pad_cons (pd_var (pv 6)) (pad_cons (pd_var (pv 8)) (pad_cons (pd_var (pv 9)) pad_nil)))) (pd_own G_law_sum (hr.mono (by decide)) (by rfl) T.g_law_sum T.k_law_sum T.b_law_sum hx (pad_cons (pd_fz (pld_lst (pad_cons (pd_tup (pad_cons (pd_own G_ticks (hr.mono (by decide)) (by rfl) T.g_ticks T.k_ticks T.b_ticks hx (pad_cons (pd_var (pv 6)) (pad_cons (pd_var (pv 9)) pad_nil))) (pad_cons pd_int pad_nil))) (pad_cons (pd_tup (pad_cons (pd_op op_sub rd_sub pd_int (pd_ix ix_seq rd_ix (pd_var (pv 10)) pd_int)) (pad_cons (pd_ix ix_seq rd_ix (pd_var (pv 10)) pd_int) pad_nil))) pad_nil)))) pad_nil)) (nomark _)) (by refine (pssd_one ?_); exact (psd_ret pd_bl)) pssd_nil); exact (psd_set (i := 11) sc_law.nd rfl (.inl rfl) (pd_tup pad_nil)); exact (psd_set (i := 12) sc_law.nd rfl (.inl rfl) (pd_own G_law_draw (hr.mono (by decide)) (by rfl) T.g_law_draw T.k_law_draw T.b_law_draw hx (pad_cons (pd_var (pv 1)) (pad_cons pd_int pad_nil)))); exact (psd_for (passes_of rfl) rfl (pid_range1 (by rfl) T.n_range (pad_cons (pd_var (pv 12)) pad_nil)) (pg_name (i := 13) sc_law.nd rfl (.inl rfl)) (gs_name 13) (by refine (pssd_cons ?_ (pssd_one ?_)); exact (psd_set (i := 14) sc_law.nd rfl (.inl rfl) (pd_ix ix_seq rd_ix (pd_fz (pld_lst (pad_cons pd_int (pad_cons pd_int (pad_cons pd_int (pad_cons pd_int (pad_cons pd_int (pad_cons (pd_ix ix_seq rd_ix (pd_fz (pld_lst (pad_cons pd_int (pad_cons pd_int pad_nil)))) (pd_callTy call_int1 rc_int (by rfl) T.n_int (by decide +kernel) (pad_cons (pd_cmp op_gt rd_gt (pd_var (pv 12)) pd_int (nomark _)) pad_nil))) pad_nil)))))))) (pd_own G_law_draw (hr.mono (by decide)) (by rfl) T.g_law_draw T.k_law_draw T.b_law_draw hx (pad_cons (pd_var (pv 1)) (pad_cons pd_int pad_nil))))); exact (psd_set (i := 11) sc_law.nd rfl (.inl rfl) (pd_op op_addAll rd_add (pd_var (pv 11)) (pd_tup (pad_cons (pd_tup (pad_cons (pd_own G_law_run (hr.mono (by decide)) (by rfl) T.g_law_run T.k_law_run T.b_law_run hx (pad_cons (pd_var (pv 1)) (pad_cons (pd_var (pv 3)) (pad_cons (pd_var (pv 4)) (pad_cons (pd_own G_law_draw (hr.mono (by decide)) (by rfl) T.g_law_draw T.k_law_draw T.b_law_draw hx (pad_cons (pd_var (pv 1)) (pad_cons pd_int pad_nil))) pad_nil))))) (pad_cons (pd_var (pv 14)) pad_nil))) pad_nil)))))); exact (psd_set (i := 15) sc_law.nd rfl (.inl rfl) (pd_own G_law_written (hr.mono (by decide)) (by rfl) T.g_law_written T.k_law_written T.b_law_written hx (pad_cons (pd_var (pv 11)) pad_nil))); exact (psd_if (ptd_w (pwd_or (ptd_cmp (op_neD hr.units) rd_ne (pd_own G_long_ticks (hr.mono (by decide)) (by rfl) T.g_long_ticks T.k_long_ticks T.b_long_ticks hx (pad_cons (pd_var (pv 6)) (pad_cons (pd_var (pv 11)) pad_nil))) (pd_own G_ticks (hr.mono (by decide)) (by rfl) T.g_ticks T.k_ticks T.b_ticks hx (pad_cons (pd_var (pv 6)) (pad_cons (pd_var (pv 15)) pad_nil))) (nomark _)) (pwd_or1 (ptd_cmp (op_neD hr.units) rd_ne (pd_own G_long_price (hr.mono (by decide)) (by rfl) T.g_long_price T.k_long_price T.b_long_price hx (pad_cons (pd_var (pv 8)) (pad_cons (pd_var (pv 11)) pad_nil))) (pd_own G_price (hr.mono (by decide)) (by rfl) T.g_price T.k_price T.b_price hx (pad_cons (pd_var (pv 8)) (pad_cons (pd_ix ix_seq rd_ix (pd_var (pv 15)) pd_int) pad_nil))) (nomark _))))) (by refine (pssd_one ?_); exact (psd_ret pd_bl)) pssd_nil); exact (psd_if (ptd_w (pwd_or (ptd_cmp (op_neD hr.units) rd_ne (pd_own G_long_ticks (hr.mono (by decide)) (by rfl) T.g_long_ticks T.k_long_ticks T.b_long_ticks hx (pad_cons (pd_var (pv 6)) (pad_cons (pd_op op_addAll rd_add (pd_var (pv 11)) (pd_tup (pad_cons (pd_tup (pad_cons (pd_var (pv 9)) (pad_cons pd_int pad_nil))) pad_nil))) pad_nil))) (pd_own G_ticks (hr.mono (by decide)) (by rfl) T.g_ticks T.k_ticks T.b_ticks hx (pad_cons (pd_var (pv 6)) (pad_cons (pd_var (pv 15)) pad_nil))) (nomark _)) (pwd_or1 (ptd_cmp (op_neD hr.units) rd_ne (pd_own G_long_price (hr.mono (by decide)) (by rfl) T.g_long_price T.k_long_price T.b_long_price hx (pad_cons (pd_var (pv 8)) (pad_cons (pd_tup pad_nil) pad_nil))) (pd_tup (pad_cons pd_int (pad_cons pd_int pad_nil))) (nomark _))))) (by refine (pssd_one ?_); exact (psd_ret pd_bl)) pssd_nil); exact (psd_set (i := 14) sc_law.nd rfl (.inl rfl) (pd_ix ix_seq rd_ix (pd_fz (pld_lst (pad_cons (pd_op op_pow rd_pow pd_int pd_int) (pad_cons (pd_op op_addAll rd_add pd_int (pd_own G_law_draw (hr.mono (by decide)) (by rfl) T.g_law_draw T.k_law_draw T.b_law_draw hx (pad_cons (pd_var (pv 1)) (pad_cons (pd_op op_pow rd_pow pd_int pd_int) pad_nil)))) (pad_cons (pd_own G_law_draw (hr.mono (by decide)) (by rfl) T.g_law_draw T.k_law_draw T.b_law_draw hx (pad_cons (pd_var (pv 1)) (pad_cons pd_int pad_nil))) pad_nil))))) (pd_own G_law_draw (hr.mono (by decide)) (by rfl) T.g_law_draw T.k_law_draw T.b_law_draw hx (pad_cons (pd_var (pv 1)) (pad_cons pd_int pad_nil))))); exact (psd_set (i := 16) sc_law.nd rfl (.inl rfl) (pd_own G_law_run (hr.mono (by decide)) (by rfl) T.g_law_run T.k_law_run T.b_law_run hx (pad_cons (pd_var (pv 1)) (pad_cons (pd_var (pv 3)) (pad_cons (pd_var (pv 4)) (pad_cons (pd_op op_addAll rd_add pd_int (pd_own G_law_draw (hr.mono (by decide)) (by rfl) T.g_law_draw T.k_law_draw T.b_law_draw hx (pad_cons (pd_var (pv 1)) (pad_cons pd_int pad_nil)))) pad_nil)))))); exact (psd_if (ptd_cmp (op_neD hr.units) rd_ne (pd_own G_long_ticks (hr.mono (by decide)) (by rfl) T.g_long_ticks T.k_long_ticks T.b_long_ticks hx (pad_cons (pd_var (pv 6)) (pad_cons (pd_tup (pad_cons (pd_tup (pad_cons (pd_var (pv 16)) (pad_cons (pd_var (pv 14)) pad_nil))) pad_nil)) pad_nil))) (pd_ix ix_seq rd_ix (pd_ix ix_seq rd_ix (pd_own G_law_many (hr.mono (by decide)) (by rfl) T.g_law_many T.k_law_many T.b_law_many hx (pad_cons (pd_var (pv 2)) (pad_cons (pd_var (pv 16)) (pad_cons (pd_var (pv 14)) pad_nil)))) pd_int) pd_int) (nomark _)) (by refine (pssd_one ?_); exact (psd_ret pd_bl)) pssd_nil); exact (psd_if (ptd_cmp (op_neD hr.units) rd_ne (pd_own G_long_price (hr.mono (by decide)) (by rfl) T.g_long_price T.k_long_price T.b_long_price hx (pad_cons (pd_var (pv 8)) (pad_cons (pd_tup (pad_cons (pd_tup (pad_cons (pd_var (pv 16)) (pad_cons (pd_var (pv 14)) pad_nil))) pad_nil)) pad_nil))) (pd_own G_law_great_price (hr.mono (by decide)) (by rfl) T.g_law_great_price T.k_law_great_price T.b_law_great_price hx (pad_cons (pd_var (pv 8)) (pad_cons (pd_var (pv 16)) (pad_cons (pd_var (pv 14)) pad_nil)))) (nomark _)) (by refine (pssd_one ?_); exact (psd_ret pd_bl)) pssd_nil); exact (psd_set (i := 17) sc_law.nd rfl (.inl rfl) (pd_own G_law_behind (hr.mono (by decide)) (by rfl) T.g_law_behind T.k_law_behind T.b_law_behind hx (pad_cons (pd_own G_law_map (hr.mono (by decide)) (by rfl) T.g_law_map T.k_law_map T.b_law_map hx (pad_cons (pd_var (pv 2)) (pad_cons (pd_var (pv 9)) pad_nil))) (pad_cons (pd_own G_law_many (hr.mono (by decide)) (by rfl) T.g_law_many T.k_law_many T.b_law_many hx (pad_cons (pd_var (pv 2)) (pad_cons (pd_var (pv 16)) (pad_cons (pd_var (pv 14)) pad_nil)))) pad_nil)))); exact (psd_if (ptd_cmp (op_neD hr.units) rd_ne (pd_own G_long_ticks (hr.mono (by decide)) (by rfl) T.g_long_ticks T.k_long_ticks T.b_long_ticks hx (pad_cons (pd_var (pv 6)) (pad_cons (pd_tup (pad_cons (pd_tup (pad_cons (pd_var (pv 9)) (pad_cons pd_int pad_nil))) (pad_cons (pd_tup (pad_cons (pd_var (pv 16)) (pad_cons (pd_var (pv 14)) pad_nil))) pad_nil))) pad_nil))) (pd_ix ix_seq rd_ix (pd_ix ix_seq rd_ix (pd_var (pv 17)) pd_int) pd_int) (nomark _)) (by refine (pssd_one ?_); exact (psd_ret pd_bl)) pssd_nil); exact (psd_set (i := 18) sc_law.nd rfl (.inl rfl) (pd_bm PySem.F.plainAttrs_str PySem.F.slot_str_join PySem.F.type_str_join mt_join rm_join pd_str (pad_cons (pd_slice (pd_fz (pld_lc rfl sc_law.nd (pid_str pd_str) (blkOk_by (own := [("letter", 21)]) (N := N_law) (show blkC N_law (defScope s_law) _ _ = true by decide +kernel)) (gs_name 21) (by decide) (fun _ _ _ _ _ => (pg_name (i := 21) sc_law.nd rfl (.inl rfl))) (fun _ _ _ _ _ => (ptsd_one (ptd_cmp op_notInAll rd_in (pd_var (pv 21)) (pd_var (pv 3)) (by rfl)))) (fun _ _ _ _ _ => (pd_var (pv 21))))) pod_none (pod_some (pd_callB call_len rc_len (by rfl) T.n_len (by decide +kernel) (pad_cons (pd_var (pv 3)) pad_nil)))) pad_nil))); exact (psd_set (i := 19) sc_law.nd rfl (.inl rfl) (pd_make T.mk_Prices G_Prices_init (hr.mono (by decide)) (by rfl) T.C_Prices T.b_Prices_init hx (pad_cons (pd_var (pv 18)) (pad_cons pd_int (pad_cons (pd_own G_law_table (hr.mono (by decide)) (by rfl) T.g_law_table T.k_law_table T.b_law_table hx (pad_cons (pd_var (pv 1)) (pad_cons (pd_var (pv 18)) (pad_cons pd_int pad_nil)))) pad_nil))))); exact (psd_set (i := 20) sc_law.nd rfl (.inl rfl) (pd_tup (pad_cons (pd_op op_addAll rd_add (pd_slice (pd_ix ix_seq rd_ix (pd_var (pv 9)) pd_int) pod_none (pod_some pd_int)) (pd_ix ix_seq rd_ix (pd_var (pv 18)) pd_int)) (pad_cons (pd_op op_addAll rd_add (pd_slice (pd_ix ix_seq rd_ix (pd_var (pv 9)) pd_int) pod_none (pod_some pd_int)) (pd_tup (pad_cons pd_int pad_nil))) pad_nil)))); exact (psd_ret (pd_cmp (op_eqD hr.units) rd_eq (pd_fz (pld_lst (pad_cons (pd_own G_law_word (hr.mono (by decide)) (by rfl) T.g_law_word T.k_law_word T.b_law_word hx (pad_cons (pd_var (pv 6)) (pad_cons (pd_var (pv 19)) (pad_cons (pd_var (pv 9)) pad_nil)))) (pad_cons (pd_own G_law_word (hr.mono (by decide)) (by rfl) T.g_law_word T.k_law_word T.b_law_word hx (pad_cons (pd_var (pv 6)) (pad_cons (pd_var (pv 19)) (pad_cons (pd_var (pv 20)) pad_nil)))) (pad_cons (pd_own G_law_word (hr.mono (by decide)) (by rfl) T.g_law_word T.k_law_word T.b_law_word hx (pad_cons (pd_var (pv 6)) (pad_cons (pd_var (pv 8)) (pad_cons (pd_var (pv 20)) pad_nil)))) pad_nil))))) (pd_fz (pld_lst (pad_cons pd_str (pad_cons pd_str (pad_cons pd_str pad_nil))))) (nomark _))))
end
end DD
namespace DD
open PySem L2 PyProof.Rows
theorem wipe_set {env : Env} {i : Nat} : wipeE [i] env = env.set i none := rfl
theorem draw {n : Nat} {st : Sto} {many : Int} (hg : HG n st) (h1 : 0 < many) (h2 : many < 1073741824) : ∃ (d : Nat) (st' : Sto), (d : Int) < many ∧ (∀ x, x = many → m_law_draw [.ref n, .int x] st = .ok (.int (d : Int)) st') ∧ Dr n st st' := by
  obtain ⟨d, st', h, e, r⟩ := draw_ok hg h1 h2
  exact ⟨d, st', h, fun x hx => by rw [hx, m_law_draw_e]; exact e, r⟩
def absI (i : Int) : Int := if i < 0 then -i else i
def absD (d : D) : D := match d with
  | .int i => .int (absI i)
  | d => d
theorem absD_map (ns : List Int) : (ns.map D.int).map absD = (ns.map absI).map .int := by rw [List.map_map, List.map_map]; rfl
theorem hand_ok {ns : List Int} {st : Sto} (hl : ns.length ≤ 63) : ∃ h : Hand, m_law_hand [.sc (ns.map .int)] st = .ok (.ref st.length) (st ++ [.lst h.ds]) := by
  have hc : (cutL ns none (some 63)).length ≤ bigLine := Nat.le_trans (cut_len _ _ _) (Nat.le_trans hl (by decide))
  refine ⟨⟨(cutL ns none (some 63)).map absI, 0, 0, 1 + (cutL ns none (some 63)).length, 0⟩, ?_⟩
  simp [m_law_hand_e, mOf_e, d_law_hand, cut_map, hc]
  rw [lc_map (f := absD) _ (fun x hx => by
    obtain ⟨i, _, rfl⟩ := List.mem_map.mp hx
    exact ⟨_, rfl, by simp [wipeE, absD, absI]⟩), absD_map]
  simp [Hand.ds, bigLine]
noncomputable def dRows : DS := (dSeq (dSet 2 (dBin fAdd (dC (.int 1)) (dOwn m_law_draw 2 (dCons (dVar 0) (dCons (dVar 1) dNil)))))
    (dSeq (dSet 3 (dC (.str (tx []))))
    (dSeq (dSet 4 (dC (.str (tx (List.range' 97 26)))))
    (dSeq (dFor (dRange1 (dCons (dVar 2) dNil)) (gdName 5) (dSeq (dSet 6 (dOwn m_law_draw 2 (dCons (dVar 0) (dCons (dBin fSub (dCall fLen (dCons (dVar 4) dNil)) (dBin fSub (dBin fSub (dVar 2) (dVar 5)) (dC (.int 1)))) dNil))))
    (dSeq (dSet 3 (dBin fAdd (dVar 3) (dBin fIx (dVar 4) (dVar 6))))
    (dSet 4 (dSl (dVar 4) (dPart (dBin fAdd (dVar 6) (dC (.int 1)))) dNoPart)))))
    (dRet (dVar 3))))))
theorem d_rows_e : d_law_rows = dRows := by unfold d_law_rows dRows; rw [tx_nil, tx_letters]
theorem rows_ok {n most : Nat} {st : Sto} (hg : HG n st) (hm : 1 ≤ most) (hm4 : most ≤ 4) : ∃ (cs : List Nat) (st' : Sto), (∀ x, x = (most : Int) → m_law_rows [.ref n, .int x] st = .ok (.str (tx cs)) st') ∧ Dr n st st' ∧ RowsOk cs ∧ cs.length ≤ most := by
  obtain ⟨d, st1, hd, e, dr⟩ := draw (many := most) hg (by omega) (by omega)
  rw [m_law_rows_e, d_rows_e]
  suffices hs : ∃ (cs : List Nat) (st' : Sto), mOf dRows 7 [.ref n, .int (most : Int)] st = .ok (.str (tx cs)) st' ∧ Dr n st st' ∧ RowsOk cs ∧ cs.length ≤ most by
    obtain ⟨cs, st', h1, h2⟩ := hs
    exact ⟨cs, st', fun x hx => by rw [hx]; exact h1, h2⟩
  simp [mOf_e, dRows, e]
  rw [rgR_ok (n := 1 + d) (by omega) (by omega)]
  simp
  generalize hloop : loop _ _ _ _ _ _ = r
  obtain ⟨env', st', rfl, k, found, e5, e6, rfl, dr2, l, hk, pw, fb⟩ := for_use (fun i env st' => ∃ (k : Nat) (found : List Nat) (e5 e6 : Option D), env = [some (D.ref n), some (D.int (most : Int)), some (D.int (1 + ↑d)), some (.str (tx found)), some (.str (tx (List.range' (97 + k) (26 - k)))), e5, e6] ∧ Dr n st st' ∧ found.length = i ∧ k + (1 + d - i) ≤ 26 ∧ found.Pairwise (· < ·) ∧ ∀ c ∈ found, 97 ≤ c ∧ c < 97 + k)
    hloop ⟨0, [], none, none, rfl, dr, rfl, by omega, List.Pairwise.nil, fun _ h => by cases h⟩
    (fun i x env st2 hx hI => by
      obtain ⟨k, found, e5, e6, he, dr2, l, hk, pw, fb⟩ := hI
      obtain ⟨hi, rfl⟩ := ints_get hx
      subst he
      obtain ⟨a, st3, ha, e3, dr3⟩ := draw (n := n) (st := st2) (many := ((26 - k : Nat) : Int) - ((1 + (d : Int)) - (i : Int) - 1)) (dr2.hg hg) (by omega) (by omega)
      have hlen : (tx (List.range' (97 + k) (26 - k))).length ≤ bigLine := by show (List.range' (97 + k) (26 - k)).length ≤ 1000000; rw [List.length_range']; omega
      have hlen2 : (List.range' (97 + k) (26 - k)).length ≤ bigLine := hlen
      have hix : (tx (List.range' (97 + k) (26 - k))).cps.toList[a]? = some (97 + k + a) := by
        rw [tx_list, List.getElem?_range' (by omega), Nat.one_mul]
      have hsl := fSl_str_from (i := a + 1) (st := st3) hlen2
      have hbl : found.length + 1 ≤ bigLine := by show found.length + 1 ≤ 1000000; omega
      have hdr : (List.range' (97 + k) (26 - k)).drop (a + 1) = List.range' (97 + (k + a + 1)) (26 - (k + a + 1)) := by rw [List.drop_range']; congr 1 <;> omega
      refine ⟨_, _, st3, rfl, .inl ?_, ⟨k + a + 1, found ++ [97 + k + a], some (.int i), some (.int a), rfl, dr2.trans dr3, by simp [l], by omega, ?_, ?_⟩⟩
      · simp [fLen_str hlen, e3, fIx_str hlen hix, hbl]
        rw [show (a : Int) + 1 = ((a + 1 : Nat) : Int) by omega, hsl, hdr]
        simp
      · refine List.pairwise_append.mpr ⟨pw, List.pairwise_singleton _ _, fun x hx y hy => ?_⟩
        have := fb x hx
        simp at hy
        omega
      · intro c hc
        rcases List.mem_append.mp hc with z | z
        · have := fb c z; omega
        · simp at z; omega)
  simp
  rw [intsD_length] at l hk
  refine ⟨found, st', ⟨rfl, rfl⟩, dr2, ⟨pw, fun c hc => ?_, by omega, by omega⟩, by omega⟩
  have := fb c hc
  omega
/-! fractions -/
def gz (N D : Int) : Nat := Nat.gcd N.natAbs D.natAbs
def red (N D : Int) : Int × Int := (N / (gz N D : Int), D / (gz N D : Int))
def frV (f : Int × Int) : D := .tup [.int f.1, .int f.2]
theorem gz_pos {N D : Int} (h : 0 < D) : 0 < gz N D := Nat.gcd_pos_of_pos_right _ (by omega)
theorem gz_le {N D : Int} (h : 0 < D) : (gz N D : Int) ≤ D := by
  have := Nat.gcd_le_right N.natAbs (show 0 < D.natAbs by omega)
  unfold gz; omega
/-- the parts of a reduced fraction -/
theorem red_parts {N D : Int} (h : 0 < D) : N = (red N D).1 * gz N D ∧ D = (red N D).2 * gz N D ∧ 0 < (red N D).2 ∧ Nat.gcd (red N D).1.natAbs (red N D).2.natAbs = 1 := by
  have hg := gz_pos (N := N) h
  have h1 : (gz N D : Int) ∣ N := Int.ofNat_dvd_left.mpr (Nat.gcd_dvd_left _ _)
  have h2 : (gz N D : Int) ∣ D := Int.ofNat_dvd_left.mpr (Nat.gcd_dvd_right _ _)
  obtain ⟨n, en⟩ := h1
  obtain ⟨d, ed⟩ := h2
  have hg' : (gz N D : Int) ≠ 0 := by omega
  have e1 : (red N D).1 = n := Int.ediv_eq_of_eq_mul_right hg' en
  have e2 : (red N D).2 = d := Int.ediv_eq_of_eq_mul_right hg' ed
  have q1 : N.natAbs = gz N D * n.natAbs := by have := congrArg Int.natAbs en; rwa [Int.natAbs_mul, Int.natAbs_natCast] at this
  have q2 : D.natAbs = gz N D * d.natAbs := by have := congrArg Int.natAbs ed; rwa [Int.natAbs_mul, Int.natAbs_natCast] at this
  have q3 : Nat.gcd N.natAbs D.natAbs = gz N D * Nat.gcd n.natAbs d.natAbs := by rw [q1, q2, Nat.gcd_mul_left]
  rw [e1, e2]
  refine ⟨by rw [Int.mul_comm]; exact en, by rw [Int.mul_comm]; exact ed, ?_, ?_⟩
  · by_cases hd : 0 < d
    · exact hd
    · have : (gz N D : Int) * d ≤ 0 := Int.mul_nonpos_of_nonneg_of_nonpos (by omega) (by omega)
      omega
  · exact Nat.eq_of_mul_eq_mul_left hg (by rw [Nat.mul_one]; exact q3.symm)
theorem low_eq {n d n' d' : Int} (h : n * d' = n' * d) (hd : 0 < d) (hd' : 0 < d') (c : Nat.gcd n.natAbs d.natAbs = 1) (c' : Nat.gcd n'.natAbs d'.natAbs = 1) : n = n' ∧ d = d' := by
  have e : n.natAbs * d'.natAbs = n'.natAbs * d.natAbs := by rw [← Int.natAbs_mul, h, Int.natAbs_mul]
  have a1 : d.natAbs ∣ d'.natAbs := Nat.Coprime.dvd_of_dvd_mul_left (Nat.Coprime.symm c) ⟨n'.natAbs, by rw [e, Nat.mul_comm]⟩
  have a2 : d'.natAbs ∣ d.natAbs := Nat.Coprime.dvd_of_dvd_mul_left (Nat.Coprime.symm c') ⟨n.natAbs, by rw [← e, Nat.mul_comm]⟩
  have a3 := Nat.dvd_antisymm a1 a2
  have ed : d = d' := by omega
  subst ed
  exact ⟨Int.eq_of_mul_eq_mul_right (by omega) h, rfl⟩
theorem red_eq {N D N' D' : Int} (hD : 0 < D) (hD' : 0 < D') (h : N * D' = N' * D) : red N D = red N' D' := by
  obtain ⟨a1, a2, a3, a4⟩ := red_parts (N := N) hD
  obtain ⟨b1, b2, b3, b4⟩ := red_parts (N := N') hD'
  have hg := gz_pos (N := N) hD
  have hg' := gz_pos (N := N') hD'
  have h' : (red N D).1 * (gz N D : Int) * ((red N' D').2 * (gz N' D' : Int)) = (red N' D').1 * (gz N' D' : Int) * ((red N D).2 * (gz N D : Int)) := by rw [← a1, ← b2, ← b1, ← a2]; exact h
  have e1 : ∀ x g y g' : Int, x * g * (y * g') = (x * y) * (g * g') := fun x g y g' => by rw [Int.mul_assoc, Int.mul_assoc, Int.mul_left_comm g]
  rw [e1 (red N D).1 (gz N D) (red N' D').2 (gz N' D'), e1 (red N' D').1 (gz N' D') (red N D).2 (gz N D), Int.mul_comm (gz N' D' : Int)] at h'
  have gg : (0 : Int) < (gz N D : Int) * (gz N' D' : Int) := Int.mul_pos (by omega) (by omega)
  have key := Int.eq_of_mul_eq_mul_right (by omega) h'
  obtain ⟨e1, e2⟩ := low_eq key a3 b3 a4 b4
  exact Prod.ext e1 e2
theorem red_id {n d : Int} (hd : 0 < d) (c : Nat.gcd n.natAbs d.natAbs = 1) : red n d = (n, d) := by
  have : gz n d = 1 := c
  unfold red; rw [this]; simp
/-! ### the law's common divisors -/
section
variable {st : Sto}
theorem euclid {a b : Nat} (hb : 0 < b) : Nat.gcd b (a % b) = Nat.gcd a b := by
  rw [Nat.gcd_comm b, ← Nat.gcd_rec, Nat.gcd_comm]
theorem law_made_ok {tp bt : Int} (hD : 0 < bt) (bD : bt < 1000000000000000000000000000000) : m_law_made [.int tp, .int bt] st = .ok (frV (red tp bt)) st := by
  rw [m_law_made_e]
  simp [mOf_e, d_law_made]
  generalize hw : whileN _ _ _ _ _ = r
  obtain ⟨env', st', m', e, ⟨a, b, e4, rfl, g, _, rfl⟩, ht⟩ := while_inv (I := fun m env s => ∃ (a b : Nat) (e4 : Option D), env = [some (.int tp), some (.int bt), some (.int (a : Int)), some (.int (b : Int)), e4] ∧ Nat.gcd a b = gz tp bt ∧ m = b ∧ s = st)
    (t := dTst (dBin (fEq true) (dVar 3) (dC (.int 0)))) (d := dSeq (dSet 4 (dBin fMod (dCall fInt (dCons (dVar 2) dNil)) (dVar 3))) (dSeq (dSet 2 (dVar 3)) (dSet 3 (dVar 4)))) fuel bt.natAbs [some (.int tp), some (.int bt), some (.int (tp.natAbs : Nat)), some (.int (bt.natAbs : Nat)), none] st
    (fuel_gt (Nat.le_trans (show bt.natAbs ≤ 1000000000000000000000000000000 by omega) (by decide))) ⟨tp.natAbs, bt.natAbs, none, rfl, rfl, rfl, rfl⟩ (fun m env s hI => by
      obtain ⟨a, b, e4, rfl, g, hm, rfl⟩ := hI
      by_cases hb : b = 0
      · left; simp [hb]
      · right
        have h0 : 0 < b := by omega
        have h0' : (0 : Int) < (b : Int) := by omega
        refine ⟨by simp [hb], _, _, a % b, ?_, by rw [hm]; exact Nat.mod_lt _ h0, b, a % b, some (.int ((a % b : Nat) : Int)), rfl, by rw [euclid h0, g], rfl, rfl⟩
        simp [h0', h0])
  have hb : b = 0 := by
    by_cases hb : b = 0
    · exact hb
    · simp [hb] at ht
  subst hb
  rw [Nat.gcd_zero_right] at g
  subst g
  have hN : (if tp < 0 then -tp else tp) = (tp.natAbs : Int) := by split <;> omega
  have hDn : (bt.natAbs : Int) = bt := by omega
  rw [hDn] at e
  rw [hN] at hw
  rw [e] at hw
  subst hw
  have hg := gz_pos (N := tp) hD
  have hgl := gz_le (N := tp) hD
  have cd := cDivW_to (j := (gz tp bt : Int)) (by omega) (by omega)
  have b2 : 2 ≤ bigLine := by decide
  simp [cd, b2, frV, red]
theorem lowest_ok {tp bt : Int} (hD : 0 < bt) (bD : bt < 1000000000000000000000000000000) : m_lowest [.int tp, .int bt] st = .ok (frV (red tp bt)) st := by
  have hg := gz_pos (N := tp) hD
  have hgl := gz_le (N := tp) hD
  have hn : ¬ bt < 0 := by omega
  have cd := cDivW_to (j := (gz tp bt : Int)) (by omega) (by omega)
  have b2 : 2 ≤ bigLine := by decide
  have eg : Nat.gcd tp.natAbs bt.natAbs = gz tp bt := rfl
  rw [m_lowest_e]
  simp [mOf_e, d_lowest, hn, eg, cd, b2, frV, red]
end
section
variable {st : Sto}
theorem law_common_ok {a b : Nat} (hb : b < 1000000000000000000000000000000) : m_law_common [.int (a : Int), .int (b : Int)] st = .ok (.int ((Nat.gcd a b : Nat) : Int)) st := by
  rw [m_law_common_e]
  simp [mOf_e, d_law_common]
  generalize hw : whileN _ _ _ _ _ = r
  obtain ⟨env', st', m', e, ⟨a', b', e4, rfl, g, _, rfl⟩, ht⟩ := while_inv (I := fun m env s => ∃ (a' b' : Nat) (e4 : Option D), env = [some (.int (a' : Int)), some (.int (b' : Int)), e4] ∧ Nat.gcd a' b' = Nat.gcd a b ∧ m = b' ∧ s = st)
    (t := dTst (dBin (fEq true) (dVar 1) (dC (.int 0)))) (d := dSeq (dSet 2 (dBin fMod (dCall fInt (dCons (dVar 0) dNil)) (dVar 1))) (dSeq (dSet 0 (dVar 1)) (dSet 1 (dVar 2)))) fuel b [some (.int (a : Int)), some (.int (b : Int)), none] st
    (fuel_gt (Nat.le_trans (show b ≤ 1000000000000000000000000000000 by omega) (by decide))) ⟨a, b, none, rfl, rfl, rfl, rfl⟩ (fun m env s hI => by
      obtain ⟨a', b', e4, rfl, g, hm, rfl⟩ := hI
      by_cases hb : b' = 0
      · left; simp [hb]
      · right
        have h0 : 0 < b' := by omega
        have h0' : (0 : Int) < (b' : Int) := by omega
        refine ⟨by simp [hb], _, _, a' % b', ?_, by rw [hm]; exact Nat.mod_lt _ h0, b', a' % b', some (.int ((a' % b' : Nat) : Int)), rfl, by rw [euclid h0, g], rfl, rfl⟩
        simp [h0', h0])
  have hb : b' = 0 := by
    by_cases hb : b' = 0
    · exact hb
    · simp [hb] at ht
  subst hb
  rw [Nat.gcd_zero_right] at g
  subst g
  rw [e] at hw
  subst hw
  simp
end
end DD

namespace DD
open PySem L2 PyProof.Rows
/-! ### sums of fractions over one bottom -/
def MM : Int := 2329089562800
theorem MM_pos : (0 : Int) < MM := by decide
theorem MM_lt : MM < 1000000000000000000000000000000 := by decide
theorem mm_small {b : Int} (h0 : 0 < b) (h1 : b ≤ 30) : b ∣ MM := by
  have : ∀ n < 31, n ≠ 0 → 2329089562800 % n = 0 := by decide +kernel
  have := this b.toNat (by omega) (by omega)
  have e : b = (b.toNat : Int) := by omega
  rw [e, show MM = ((2329089562800 : Nat) : Int) from rfl]
  exact Int.natCast_dvd_natCast.mpr (Nat.dvd_of_mod_eq_zero this)
def SS (L : Int) (fs : List (Int × Int)) : Int := (fs.map fun f => f.1 * (L / f.2)).sum
@[simp] theorem SS_nil {L : Int} : SS L [] = 0 := rfl
@[simp] theorem SS_cons {L : Int} {f} {fs} : SS L (f :: fs) = f.1 * (L / f.2) + SS L fs := by simp [SS]
theorem SS_app {L : Int} {fs gs} : SS L (fs ++ gs) = SS L fs + SS L gs := by simp [SS]
theorem SS_cross {L L' : Int} : ∀ fs : List (Int × Int), (∀ f ∈ fs, 0 < f.2 ∧ f.2 ∣ L ∧ f.2 ∣ L') → SS L fs * L' = SS L' fs * L
  | [], _ => by simp
  | f :: fs, h => by
    obtain ⟨h0, ⟨q, e⟩, ⟨q', e'⟩⟩ := h f List.mem_cons_self
    have ih := SS_cross fs fun g hg => h g (List.mem_cons_of_mem _ hg)
    have n0 : f.2 ≠ 0 := by omega
    have d1 : L / f.2 = q := Int.ediv_eq_of_eq_mul_right n0 e
    have d2 : L' / f.2 = q' := Int.ediv_eq_of_eq_mul_right n0 e'
    simp only [SS_cons, Int.add_mul, ih, d1, d2]
    congr 1
    rw [e, e']
    simp only [Int.mul_assoc, Int.mul_left_comm, Int.mul_comm]
theorem SS_red {L : Int} {fs} (hL : 0 < L) (hd : L ∣ MM) (h : ∀ f ∈ fs, 0 < f.2 ∧ f.2 ∣ L) : red (SS L fs) L = red (SS MM fs) MM :=
  red_eq hL MM_pos (SS_cross fs fun f hf => ⟨(h f hf).1, (h f hf).2, Int.dvd_trans (h f hf).2 hd⟩)
theorem red_SS {N : Int} : 0 < (red N MM).2 ∧ (red N MM).2 ∣ MM ∧ (red N MM).1 * (MM / (red N MM).2) = N ∧ (red N MM).1.natAbs ≤ N.natAbs := by
  obtain ⟨a1, a2, a3, a4⟩ := red_parts (N := N) MM_pos
  have hg := gz_pos (N := N) MM_pos
  refine ⟨a3, ⟨_, a2⟩, ?_, ?_⟩
  · have : MM / (red N MM).2 = gz N MM := Int.ediv_eq_of_eq_mul_right (by omega) a2
    rw [this]; exact a1.symm
  · have := congrArg Int.natAbs a1
    rw [Int.natAbs_mul, Int.natAbs_natCast] at this
    rw [this]
    exact Nat.le_mul_of_pos_right _ hg
/-- a fraction of the law's -/
def FrOk (f : Int × Int) : Prop := 0 < f.2 ∧ f.2 ∣ MM ∧ f.1.natAbs < 100000000000000000
theorem dvd_le {a b : Int} (h : a ∣ b) (hb : 0 < b) : a ≤ b := Int.le_of_dvd hb h
theorem div_le' {L b : Int} (hL : 0 ≤ L) (hb : 0 < b) : L / b ≤ L := Int.ediv_le_self _ hL
theorem div_nn {L b : Int} (hL : 0 ≤ L) (hb : 0 < b) : 0 ≤ L / b := Int.ediv_nonneg hL (by omega)
theorem intsS_map : ∀ ns : List Int, intsS (ns.map .int) = some ns
  | [] => rfl
  | n :: ns => by simp [intsS, intsS_map ns]
theorem fSumL_fz {st : Sto} {ns : List Int} : fSumL [.fz (ns.map .int)] st = .ok (.int ns.sum) st := by
  simp [fSumL, listD, intsS_map]
theorem lcm_dvd_MM {a b : Int} (ha : 0 < a) (hb : 0 < b) (h1 : a ∣ MM) (h2 : b ∣ MM) : ((Nat.lcm a.natAbs b.natAbs : Nat) : Int) ∣ MM := by
  have e : MM = ((2329089562800 : Nat) : Int) := rfl
  rw [e] at *
  rw [Int.natCast_dvd_natCast]
  exact Nat.lcm_dvd (Int.natAbs_dvd_natAbs.mpr h1) (Int.natAbs_dvd_natAbs.mpr h2)
theorem lcm_facts {a b : Int} (ha : 0 < a) (hb : 0 < b) (h1 : a ∣ MM) (h2 : b ∣ MM) : (0 : Int) < (Nat.lcm a.natAbs b.natAbs : Nat) ∧ ((Nat.lcm a.natAbs b.natAbs : Nat) : Int) ∣ MM ∧ a ∣ ((Nat.lcm a.natAbs b.natAbs : Nat) : Int) ∧ b ∣ ((Nat.lcm a.natAbs b.natAbs : Nat) : Int) := by
  have := Nat.lcm_pos (show 0 < a.natAbs by omega) (show 0 < b.natAbs by omega)
  refine ⟨by omega, lcm_dvd_MM ha hb h1 h2, ?_, ?_⟩
  · have e : a = ((a.natAbs : Nat) : Int) := by omega
    conv => lhs; rw [e]
    exact Int.natCast_dvd_natCast.mpr (Nat.dvd_lcm_left _ _)
  · have e : b = ((b.natAbs : Nat) : Int) := by omega
    conv => lhs; rw [e]
    exact Int.natCast_dvd_natCast.mpr (Nat.dvd_lcm_right _ _)
theorem mul_div_gcd {a b : Int} (ha : 0 < a) (hb : 0 < b) : a * b / ((Nat.gcd a.natAbs b.natAbs : Nat) : Int) = ((Nat.lcm a.natAbs b.natAbs : Nat) : Int) := by
  unfold Nat.lcm
  have e : a * b = ((a.natAbs * b.natAbs : Nat) : Int) := by
    rw [Int.natCast_mul]; congr 1 <;> omega
  rw [e, ← Int.natCast_ediv]
/-- the law's own sum -/
theorem law_sum_ok {st : Sto} {fs : List (Int × Int)} (h : ∀ f ∈ fs, FrOk f) (hl : fs.length ≤ 1000) : m_law_sum [.fz (fs.map frV)] st = .ok (frV (red (SS MM fs) MM)) st := by
  rw [m_law_sum_e]
  have b1 : fs.length ≤ midLine := Nat.le_trans hl (by decide)
  simp [mOf_e, d_law_sum]
  generalize hw : loop _ _ _ _ _ _ = r
  obtain ⟨env', st', rfl, L, e2, rfl, rfl, hL, hd, hdv⟩ := for_use (I := fun k env s => ∃ (L : Int) (e2 : Option D), env = [some (.fz (fs.map frV)), some (.int L), e2] ∧ s = st ∧ 0 < L ∧ L ∣ MM ∧ ∀ j f, j < k → fs[j]? = some f → f.2 ∣ L) hw
    ⟨1, none, rfl, rfl, by omega, ⟨MM, by simp⟩, fun j f h => by omega⟩ (fun k x env s hx hI => by
      obtain ⟨L, e2, rfl, rfl, hL, hd, hdv⟩ := hI
      rw [List.getElem?_map] at hx
      obtain ⟨f, hf, rfl⟩ := Option.map_eq_some_iff.mp hx
      obtain ⟨f0, f1, f2⟩ := h f (List.mem_of_getElem? hf)
      obtain ⟨l0, l1, l2, l3⟩ := lcm_facts hL f0 hd f1
      have lM := MM_lt
      have le1 := dvd_le hd MM_pos
      have le2 := dvd_le f1 MM_pos
      have hM : MM = 2329089562800 := rfl
      have c1 := cMulW_to (i := L) (j := f.2) (by omega) (by omega)
      have eL : L = ((L.natAbs : Nat) : Int) := by omega
      have ef : f.2 = ((f.2.natAbs : Nat) : Int) := by omega
      have g0 : 0 < Nat.gcd L.natAbs f.2.natAbs := Nat.gcd_pos_of_pos_left _ (by omega)
      have g1 : Nat.gcd L.natAbs f.2.natAbs ≤ L.natAbs := Nat.gcd_le_left _ (by omega)
      have cm := law_common_ok (st := s) (a := L.natAbs) (b := f.2.natAbs) (by omega)
      rw [← eL, ← ef] at cm
      have c2 := cDivW_to (j := ((Nat.gcd L.natAbs f.2.natAbs : Nat) : Int)) (by omega) (by omega)
      refine ⟨_, _, _, rfl, Or.inl ?_, _, some (frV f), rfl, rfl, l0, l1, fun j g hj hg => ?_⟩
      · simp [frV, c1, cm, c2, mul_div_gcd hL f0]
      · by_cases hjk : j = k
        · subst hjk; rw [hf] at hg; cases hg; exact l3
        · exact Int.dvd_trans (hdv j g (by omega) hg) l2)
  have hall : ∀ f ∈ fs, 0 < f.2 ∧ f.2 ∣ L := fun f hf => ⟨(h f hf).1, by
    obtain ⟨j, hj, e⟩ := List.mem_iff_getElem.mp hf
    exact hdv j f (by simpa using hj) (by rw [List.getElem?_eq_getElem hj, e])⟩
  have le1 := dvd_le hd MM_pos
  have hM : MM = 2329089562800 := rfl
  simp
  generalize hm : lcLoop _ _ _ _ _ _ _ = r
  have hr := lcm_use (fun x => match x with | .tup [.int a, .int b] => .int (a * (L / b)) | _ => .non) hm (fun x hx => by
    obtain ⟨f, hf, rfl⟩ := List.mem_map.mp hx
    obtain ⟨f0, f1, f2⟩ := h f hf
    have d1 := div_le' (b := f.2) (by omega : 0 ≤ L) f0
    have d2 := div_nn (b := f.2) (by omega : 0 ≤ L) f0
    have le2 := dvd_le f1 MM_pos
    have c1 := cDivW_to (j := f.2) f0 (by omega)
    have c2 := cMulW_to (i := f.1) (j := L / f.2) (by omega) (by omega)
    refine ⟨_, rfl, ?_⟩
    simp [frV, c1, c2, wipeE])
  have em : ((fs.map frV).map fun x => match x with | .tup [.int a, .int b] => D.int (a * (L / b)) | _ => .non) = (fs.map fun f => f.1 * (L / f.2)).map .int := by
    rw [List.map_map, List.map_map]; rfl
  obtain ⟨ns, hns⟩ : ∃ ns, ns = fs.map fun f => f.1 * (L / f.2) := ⟨_, rfl⟩
  rw [em, ← hns] at hr
  subst hr
  have b2 : fs.length ≤ bigLine := Nat.le_trans hl (by decide)
  have q := law_made_ok (st := st') (tp := ns.sum) (bt := L) hL (by omega)
  simp [b2, fSumL_fz, q]
  rw [hns, show (fs.map fun f => f.1 * (L / f.2)).sum = SS L fs from rfl, SS_red hL hd hall]
/-- a fraction of any size -/
def FrBig (f : Int × Int) : Prop := 0 < f.2 ∧ f.2 ∣ MM ∧ f.1.natAbs < 10 ^ 59
theorem FrOk.big {f : Int × Int} (h : FrOk f) : FrBig f := ⟨h.1, h.2.1, by have := h.2.2; omega⟩
theorem law_sum_big {st : Sto} {fs : List (Int × Int)} (h : ∀ f ∈ fs, FrBig f) (hl : fs.length ≤ 1000) : m_law_sum [.fz (fs.map frV)] st = .ok (frV (red (SS MM fs) MM)) st := by
  rw [m_law_sum_e]
  have b1 : fs.length ≤ midLine := Nat.le_trans hl (by decide)
  simp [mOf_e, d_law_sum]
  generalize hw : loop _ _ _ _ _ _ = r
  obtain ⟨env', st', rfl, L, e2, rfl, rfl, hL, hd, hdv⟩ := for_use (I := fun k env s => ∃ (L : Int) (e2 : Option D), env = [some (.fz (fs.map frV)), some (.int L), e2] ∧ s = st ∧ 0 < L ∧ L ∣ MM ∧ ∀ j f, j < k → fs[j]? = some f → f.2 ∣ L) hw
    ⟨1, none, rfl, rfl, by omega, ⟨MM, by simp⟩, fun j f h => by omega⟩ (fun k x env s hx hI => by
      obtain ⟨L, e2, rfl, rfl, hL, hd, hdv⟩ := hI
      rw [List.getElem?_map] at hx
      obtain ⟨f, hf, rfl⟩ := Option.map_eq_some_iff.mp hx
      obtain ⟨f0, f1, f2⟩ := h f (List.mem_of_getElem? hf)
      obtain ⟨l0, l1, l2, l3⟩ := lcm_facts hL f0 hd f1
      have lM := MM_lt
      have le1 := dvd_le hd MM_pos
      have le2 := dvd_le f1 MM_pos
      have hM : MM = 2329089562800 := rfl
      have c1 := cMulW_to (i := L) (j := f.2) (by omega) (by omega)
      have eL : L = ((L.natAbs : Nat) : Int) := by omega
      have ef : f.2 = ((f.2.natAbs : Nat) : Int) := by omega
      have g0 : 0 < Nat.gcd L.natAbs f.2.natAbs := Nat.gcd_pos_of_pos_left _ (by omega)
      have g1 : Nat.gcd L.natAbs f.2.natAbs ≤ L.natAbs := Nat.gcd_le_left _ (by omega)
      have cm := law_common_ok (st := s) (a := L.natAbs) (b := f.2.natAbs) (by omega)
      rw [← eL, ← ef] at cm
      have c2 := cDivW_to (j := ((Nat.gcd L.natAbs f.2.natAbs : Nat) : Int)) (by omega) (by omega)
      refine ⟨_, _, _, rfl, Or.inl ?_, _, some (frV f), rfl, rfl, l0, l1, fun j g hj hg => ?_⟩
      · simp [frV, c1, cm, c2, mul_div_gcd hL f0]
      · by_cases hjk : j = k
        · subst hjk; rw [hf] at hg; cases hg; exact l3
        · exact Int.dvd_trans (hdv j g (by omega) hg) l2)
  have hall : ∀ f ∈ fs, 0 < f.2 ∧ f.2 ∣ L := fun f hf => ⟨(h f hf).1, by
    obtain ⟨j, hj, e⟩ := List.mem_iff_getElem.mp hf
    exact hdv j f (by simpa using hj) (by rw [List.getElem?_eq_getElem hj, e])⟩
  have le1 := dvd_le hd MM_pos
  have hM : MM = 2329089562800 := rfl
  simp
  generalize hm : lcLoop _ _ _ _ _ _ _ = r
  have hr := lcm_use (fun x => match x with | .tup [.int a, .int b] => .int (a * (L / b)) | _ => .non) hm (fun x hx => by
    obtain ⟨f, hf, rfl⟩ := List.mem_map.mp hx
    obtain ⟨f0, f1, f2⟩ := h f hf
    have d1 := div_le' (b := f.2) (by omega : 0 ≤ L) f0
    have d2 := div_nn (b := f.2) (by omega : 0 ≤ L) f0
    have le2 := dvd_le f1 MM_pos
    have c1 := cDivW_to (j := f.2) f0 (by omega)
    have c2 := cMulW_to2 (i := f.1) (j := L / f.2) (by omega) (by omega)
    refine ⟨_, rfl, ?_⟩
    simp [frV, c1, c2, wipeE])
  have em : ((fs.map frV).map fun x => match x with | .tup [.int a, .int b] => D.int (a * (L / b)) | _ => .non) = (fs.map fun f => f.1 * (L / f.2)).map .int := by
    rw [List.map_map, List.map_map]; rfl
  obtain ⟨ns, hns⟩ : ∃ ns, ns = fs.map fun f => f.1 * (L / f.2) := ⟨_, rfl⟩
  rw [em, ← hns] at hr
  subst hr
  have b2 : fs.length ≤ bigLine := Nat.le_trans hl (by decide)
  have q := law_made_ok (st := st') (tp := ns.sum) (bt := L) hL (by omega)
  simp [b2, fSumL_fz, q]
  rw [hns, show (fs.map fun f => f.1 * (L / f.2)).sum = SS L fs from rfl, SS_red hL hd hall]
end DD

namespace DD
open PySem L2 PyProof.Rows
/-! the program's judges of values -/
section
variable {st : Sto}
theorem big_of {α : Type} {l : List α} {k : Nat} (h : l.length ≤ k) (hk : k ≤ 1000 := by decide) : l.length ≤ bigLine := Nat.le_trans h (Nat.le_trans hk (by decide))
theorem tx_inj {a b : List Nat} : tx a = tx b ↔ a = b := by simp [tx]
theorem is_integer_gen {d : D} (h : Val d = true) : m_is_integer [d] st = .ok (.bl (isIntD d)) st := by
  rw [m_is_integer_e]
  simp [mOf_e, d_is_integer, fIsi_int h, fIsi_bool h]
  cases d <;> first | (cases h; done) | rfl
theorem is_between_gen {d : D} {lo hi : Int} (h : Val d = true) : m_is_between [d, .int lo, .int hi] st = .ok (.bl (numD lo hi d)) st := by
  rw [m_is_between_e]
  simp [mOf_e, d_is_between, is_integer_gen h]
  cases d <;> first | (cases h; done) | simp [isIntD, numD]
  rename_i i
  by_cases h1 : lo ≤ i <;> simp [h1]
theorem is_integer_ok {a : Int} : m_is_integer [.int a] st = .ok (.bl true) st := is_integer_gen rfl
theorem is_between_ok {a lo hi : Int} (h1 : lo ≤ a) (h2 : a ≤ hi) : m_is_between [.int a, .int lo, .int hi] st = .ok (.bl true) st := by
  rw [is_between_gen rfl]; simp [numD, h1, h2]
theorem is_tuple_gen {d : D} {k : Int} (h : Val d = true) : m_is_tuple [d, .int k] st = .ok (.bl (tupJ k (fun _ => true) d)) st := by
  rw [m_is_tuple_e]
  simp [mOf_e, d_is_tuple, fIsi_tuple h]
  cases d <;> first | (cases h; done) | simp [isTupD, tupJ]
theorem is_tuple_ok {ds : List D} {k : Int} (h : (ds.length : Int) = k) : m_is_tuple [.tup ds, .int k] st = .ok (.bl true) st := by
  rw [is_tuple_gen rfl]; simp [tupJ, h]
def inL (T : List Nat) (x : D) : Bool := match x with
  | .str z => decide (∀ c ∈ z.cps.toList, c ∈ T)
  | _ => false
theorem is_code_gen {ch T : List Nat} (hl : ch.length ≤ bigLine) : m_is_code [.str (tx ch), .str (tx T)] st = .ok (.bl (ch.all fun c => decide (c ∈ T))) st := by
  rw [m_is_code_e]; simp [mOf_e, d_is_code, hl]
  generalize hloop : lcLoop _ _ _ _ _ _ _ = r
  have := lcm_use (fun x => .bl (inL T x)) hloop (fun x hx => by
    obtain ⟨c, hc, rfl⟩ := List.mem_map.mp hx
    exact ⟨_, rfl, by simp [wipe_set, inL]; exact decide_eq_decide.mpr Iff.rfl⟩)
  subst this
  have e : (inL T ∘ fun c => D.str (tx [c])) = fun c => decide (c ∈ T) := by funext c; simp [inL]
  simp only [Res.bind_ok, fAll_map, List.all_map, e]
  rfl
theorem is_code_ok {ch cs : List Nat} (h : ∀ c ∈ ch, c ∈ cs) (hl : ch.length ≤ bigLine) : m_is_code [.str (tx ch), .str (tx cs)] st = .ok (.bl true) st := by
  rw [is_code_gen hl]
  congr 2
  rw [List.all_eq_true]
  exact fun c hc => decide_eq_true (h c hc)
theorem is_code_no {d : D} {z : Str} (h : Val d = true) (k : isStrD d = false) : m_is_code [d, .str z] st = .ok (.bl false) st := by
  rw [m_is_code_e]; simp [mOf_e, d_is_code, fIsi_str h, k]
end
/-! rows: the program's judge -/
instance decRows (cs : List Nat) : Decidable (RowsOk cs) := by unfold RowsOk; infer_instance
noncomputable def dLetters : DS := (dSeq (dIfS (dOr (dNot (dTru (dOwn m_is_code 2 (dCons (dVar 0) (dCons (dVar 1) dNil))))) (dTst (dBin (fEq false) (dVar 0) (dC (.str (tx [])))))) (dRet (dC (.bl false))) dNext)
    (dRet (dCall fAll (dCons (dFz (dLc (dRange1 (dCons (dBin fSub (dCall fLen (dCons (dVar 0) dNil)) (dC (.int 1))) dNil)) (gdName 2) dYes (dBin fLtS (dBin fIx (dVar 0) (dVar 2)) (dBin fIx (dVar 0) (dBin fAdd (dVar 2) (dC (.int 1))))) [2])) dNil))))
theorem d_is_letters_e : d_is_letters = dLetters := by unfold d_is_letters dLetters; rw [tx_nil]
noncomputable def dIsRows : DS := (dRet (dAndV (dOwn m_is_letters 2 (dCons (dVar 0) (dCons (dC (.str (tx (List.range' 97 26)))) dNil))) (dBin fLe (dCall fLen (dCons (dVar 0) dNil)) (dC (.int 4)))))
theorem d_is_rows_e : d_is_rows = dIsRows := by unfold d_is_rows dIsRows; rw [tx_letters]
def ascL (ch : List Nat) : Bool := (List.range (ch.length - 1)).all fun i => decide (ch.getD i 0 < ch.getD (i + 1) 0)
theorem ascL_iff (ch : List Nat) : ascL ch = true ↔ ch.Pairwise (· < ·) := by
  unfold ascL
  rw [List.all_eq_true]
  constructor
  · intro h
    have step : ∀ i, (hi : i + 1 < ch.length) → ch[i] < ch[i + 1] := fun i hi => by
      have := of_decide_eq_true (h i (List.mem_range.mpr (by omega)))
      rwa [List.getD_eq_getElem?_getD, List.getD_eq_getElem?_getD, List.getElem?_eq_getElem hi, List.getElem?_eq_getElem (by omega)] at this
    have far : ∀ k i, (hi : i + 1 + k < ch.length) → ch[i] < ch[i + 1 + k] := fun k => by
      induction k with
      | zero => exact fun i hi => step i hi
      | succ k ih => exact fun i hi => Nat.lt_trans (ih i (by omega)) (step (i + 1 + k) hi)
    refine List.pairwise_iff_getElem.mpr fun i j hi hj hij => ?_
    have := far (j - i - 1) i (by omega)
    have e : i + 1 + (j - i - 1) = j := by omega
    simpa only [e] using this
  · intro h i hi
    have hi := List.mem_range.mp hi
    refine decide_eq_true ?_
    rw [List.getD_eq_getElem?_getD, List.getD_eq_getElem?_getD, List.getElem?_eq_getElem (show i + 1 < ch.length by omega), List.getElem?_eq_getElem (show i < ch.length by omega)]
    exact List.pairwise_iff_getElem.mp h i (i + 1) (by omega) (by omega) (by omega)
section
variable {st : Sto}
theorem is_letters_gen {ch : List Nat} (hl : ch.length ≤ 1000) (ho : ∀ c ∈ ch, c < 0x110000) : m_is_letters [.str (tx ch), .str (tx (List.range' 97 26))] st = .ok (.bl ((ch.all fun c => decide (c ∈ List.range' 97 26)) && (!decide (ch = []) && ascL ch))) st := by
  have hb : (tx ch).length ≤ bigLine := big_of hl
  have e1 := is_code_gen (st := st) (ch := ch) (T := List.range' 97 26) hb
  have e2 : fEq false (.str (tx ch)) (.str (tx [])) st = .ok (.bl (decide (ch = []))) st := by
    rw [fEq_str (strOk_tx ho) (strOk_tx fun _ h => by cases h)]
    simp [tx_inj]
  rw [m_is_letters_e, d_is_letters_e]
  cases hA : (ch.all fun c => decide (c ∈ List.range' 97 26)) with
  | false => rw [hA] at e1; simp [mOf_e, dLetters, e1]
  | true =>
  rw [hA] at e1
  by_cases h0 : ch = []
  · subst h0
    simp [mOf_e, dLetters, e1, e2]
  have h0' : 0 < ch.length := List.length_pos_iff.mpr h0
  simp [mOf_e, dLetters, e1, e2, fLen_str hb, h0]
  rw [rgR_ok (n := ch.length - 1) (by omega) (by omega)]
  have hb2 : ch.length - 1 ≤ bigLine := Nat.le_trans (Nat.sub_le _ _) hb
  simp [intsD_length, hb2]
  generalize hloop : lcLoop _ _ _ _ _ _ _ = r
  have := lcm_use (fun x => .bl (match x with | .int i => decide (ch.getD i.toNat 0 < ch.getD (i.toNat + 1) 0) | _ => false)) hloop (fun x hx => by
    obtain ⟨i, hi, rfl⟩ := intsD_mem hx
    have i1 : i < ch.length := by omega
    have i2 : i + 1 < ch.length := by omega
    have f1 : fIx (.str (tx ch)) (.int (i : Int)) st = .ok (.str (tx [ch[i]])) st := fIx_str hb (by rw [tx_list]; exact List.getElem?_eq_getElem i1)
    have f2 : fIx (.str (tx ch)) (.int ((i : Int) + 1)) st = .ok (.str (tx [ch[i + 1]])) st := by
      rw [show (i : Int) + 1 = ((i + 1 : Nat) : Int) by omega]
      exact fIx_str hb (by rw [tx_list]; exact List.getElem?_eq_getElem i2)
    have g1 : ch.getD i 0 = ch[i] := by rw [List.getD_eq_getElem?_getD, List.getElem?_eq_getElem i1]; rfl
    have g2 : ch.getD (i + 1) 0 = ch[i + 1] := by rw [List.getD_eq_getElem?_getD, List.getElem?_eq_getElem i2]; rfl
    refine ⟨_, rfl, ?_⟩
    simp only [Int.toNat_natCast, g1, g2]
    simp [wipe_set, f1, f2]
    refine decide_eq_decide.mpr ?_
    rw [List.cons_lt_cons_iff]
    simp)
  subst this
  simp only [Res.bind_ok, fAll_map, Res.bindS_ok, fin_rt, ascL, intsD, List.all_map]
  congr 4
  funext i
  simp
theorem rows_iff {ch : List Nat} : ((((ch.all fun c => decide (c ∈ List.range' 97 26)) && (!decide (ch = []) && ascL ch))) && decide (ch.length ≤ 4)) = decide (RowsOk ch) := by
  rw [Bool.eq_iff_iff]
  constructor
  · intro h
    refine decide_eq_true ?_
    simp only [Bool.and_eq_true, decide_eq_true_eq, List.all_eq_true, Bool.not_eq_true', decide_eq_false_iff_not, ascL_iff] at h
    obtain ⟨⟨h1, h2, h3⟩, h4⟩ := h
    refine ⟨h3, fun c hc => ?_, List.length_pos_iff.mpr h2, h4⟩
    have := List.mem_range'_1.mp (h1 c hc)
    omega
  · intro h
    obtain ⟨h1, h2, h3, h4⟩ := of_decide_eq_true h
    simp only [Bool.and_eq_true, decide_eq_true_eq, List.all_eq_true, Bool.not_eq_true', decide_eq_false_iff_not, ascL_iff]
    refine ⟨⟨fun c hc => List.mem_range'_1.mpr ?_, List.length_pos_iff.mp h3, h1⟩, h4⟩
    have := h2 c hc
    omega
def rowsD : D → Bool
  | .str z => decide (RowsOk z.cps.toList)
  | _ => false
theorem is_rows_gen {d : D} (h : Val d = true) (ht : ∀ z, d = .str z → TxOk z) : m_is_rows [d] st = .ok (.bl (rowsD d)) st := by
  rw [m_is_rows_e, d_is_rows_e]
  by_cases hs : isStrD d = true
  · cases d <;> first | (cases hs; done) | skip
    rename_i z
    obtain ⟨h1, h2⟩ := ht z rfl
    rw [tx_eta z]
    rw [tx_eta z] at h1
    generalize z.cps.toList = ch at h1 h2
    have h1 : ch.length ≤ 1000 := h1
    have hb : (tx ch).length ≤ bigLine := big_of h1
    have e := is_letters_gen (st := st) h1 h2
    obtain ⟨b, hb'⟩ : ∃ b, b = ((ch.all fun c => decide (c ∈ List.range' 97 26)) && (!decide (ch = []) && ascL ch)) := ⟨_, rfl⟩
    have key : rowsD (.str (tx ch)) = (b && decide (ch.length ≤ 4)) := by rw [hb']; exact rows_iff.symm
    rw [← hb'] at e
    rw [key]
    clear key hb'
    cases b with
    | false => simp [mOf_e, dIsRows, e]
    | true =>
      have h4 : decide ((ch.length : Int) ≤ 4) = decide (ch.length ≤ 4) := decide_eq_decide.mpr (by omega)
      simp [mOf_e, dIsRows, e, fLen_str hb, h4]
  · have hs : isStrD d = false := by simpa using hs
    have e := is_code_no (st := st) (z := tx (List.range' 97 26)) h hs
    have e2 : m_is_letters [d, .str (tx (List.range' 97 26))] st = .ok (.bl false) st := by
      rw [m_is_letters_e, d_is_letters_e]; simp [mOf_e, dLetters, e]
    have : rowsD d = false := by cases d <;> first | rfl | (cases hs; done)
    rw [this]
    simp [mOf_e, dIsRows, e2]
end
/-! ### words -/
def words (cs : List Nat) : Nat → List (List Nat)
  | 0 => [[]]
  | k + 1 => (words cs k).flatMap fun u => cs.map fun c => u ++ [c]
theorem words_len {cs : List Nat} : ∀ {k : Nat}, (words cs k).length = cs.length ^ k
  | 0 => rfl
  | k + 1 => by
    simp only [words, List.length_flatMap, List.length_map]
    have := words_len (cs := cs) (k := k)
    rw [List.map_const']
    simp [List.sum_replicate_nat, this, Nat.pow_succ]
theorem words_mem {cs : List Nat} : ∀ {k : Nat} {u : List Nat}, u ∈ words cs k ↔ u.length = k ∧ ∀ c ∈ u, c ∈ cs
  | 0, u => by
    simp only [words, List.mem_singleton]
    constructor
    · rintro rfl; exact ⟨rfl, fun _ h => by cases h⟩
    · rintro ⟨h, _⟩; exact List.length_eq_zero_iff.mp h
  | k + 1, u => by
    simp only [words, List.mem_flatMap, List.mem_map]
    constructor
    · rintro ⟨v, hv, c, hc, rfl⟩
      obtain ⟨h1, h2⟩ := words_mem.mp hv
      refine ⟨by simp [h1], fun x hx => ?_⟩
      rcases List.mem_append.mp hx with z | z
      · exact h2 x z
      · rw [List.mem_singleton.mp z]; exact hc
    · rintro ⟨h1, h2⟩
      have hne : u ≠ [] := fun z => by rw [z] at h1; simp at h1
      refine ⟨u.dropLast, words_mem.mpr ⟨by simp [h1], fun c hc => h2 c ((List.dropLast_sublist _).subset hc)⟩, u.getLast hne, h2 _ (List.getLast_mem hne), List.dropLast_concat_getLast hne⟩
theorem words_nodup {cs : List Nat} (h : cs.Nodup) : ∀ {k : Nat}, (words cs k).Nodup
  | 0 => by simp [words]
  | k + 1 => by
    have ih := words_nodup h (k := k)
    rw [words, List.nodup_iff_pairwise_ne, List.pairwise_flatMap]
    refine ⟨fun u _ => ?_, ih.imp fun {u v} hne => ?_⟩
    · rw [List.pairwise_map]
      exact h.imp fun hne e => hne (by simpa using e)
    · intro x hx y hy e
      obtain ⟨c, _, rfl⟩ := List.mem_map.mp hx
      obtain ⟨d, _, rfl⟩ := List.mem_map.mp hy
      exact hne (List.append_inj_left' e rfl)
/-! ### loops with two fors, by value -/
theorem lc2_pure {g g1 : DG} {di1 : DI} {de : DE} {vs1 : List Nat} {env : Env} {st : Sto} {ys : D → List D} {f : D → D → D} : ∀ xs : List D,
    (∀ x ∈ xs, ∃ env1, g x env = some env1 ∧ di1 env1 st = .ok (ys x, yes) st ∧ (ys x).length ≤ midLine ∧ ∀ y ∈ ys x, ∃ env2, g1 y (wipeE vs1 env1) = some env2 ∧ de env2 st = .ok (f x y) st) →
    lcLoop2 g dYes di1 g1 dYes de vs1 yes env xs st = .ok (xs.flatMap fun x => (ys x).map (f x)) st
  | [], _ => rfl
  | x :: r, h => by
    obtain ⟨env1, h1, h2, h3, h4⟩ := h x List.mem_cons_self
    have ih := lc2_pure r fun y hy => h y (List.mem_cons_of_mem _ hy)
    unfold lcLoop2
    simp only [yes, if_true, h1, dYes]
    simp only [h2, h3, if_true]
    have e := lc_map (g := g1) (de := de) (env := wipeE vs1 env1) (st := st) (f := f x) (ys x) h4
    have e : lcLoop g1 dYes de yes (wipeE vs1 env1) (ys x) st = .ok ((ys x).map (f x)) st := e
    show (lcLoop g1 dYes de yes (wipeE vs1 env1) (ys x) st).bind _ = _
    rw [e, Res.bind_ok]
    show (lcLoop2 g dYes di1 g1 dYes de vs1 yes env r st).bind _ = _
    rw [ih, Res.bind_ok, List.flatMap_cons]
theorem lc2_use {g g1 : DG} {di1 : DI} {de : DE} {vs1 : List Nat} {env : Env} {st : Sto} {xs : List D} {r : Res (List D)} (ys : D → List D) (f : D → D → D) (h : lcLoop2 g dYes di1 g1 dYes de vs1 yes env xs st = r)
    (hs : ∀ x ∈ xs, ∃ env1, g x env = some env1 ∧ di1 env1 st = .ok (ys x, yes) st ∧ (ys x).length ≤ midLine ∧ ∀ y ∈ ys x, ∃ env2, g1 y (wipeE vs1 env1) = some env2 ∧ de env2 st = .ok (f x y) st) : r = .ok (xs.flatMap fun x => (ys x).map (f x)) st := by
  rw [← h]; exact lc2_pure xs hs
def catD (x y : D) : D := match x, y with
  | .str a, .str b => .str (a ++ b)
  | x, _ => x
theorem words_step {cs : List Nat} {k : Nat} : (((words cs k).map strD).flatMap fun x => (cs.map fun c => D.str (tx [c])).map (catD x)) = (words cs (k + 1)).map strD := by
  simp only [words, List.flatMap_map, List.map_flatMap, List.map_map]
  congr 1
  funext a
  congr 1
  funext c
  simp [catD, strD]
def hatD (x : D) : D := match x with
  | .str a => .str (tx [94] ++ a)
  | x => x
theorem hat_map {l : List (List Nat)} : (l.map strD).map hatD = (l.map (94 :: ·)).map strD := by
  simp only [List.map_map]
  congr 1
  funext u
  simp [hatD, strD]
noncomputable def dOver : DS := (dSeq (dSet 2 (dFz (dLst (dCons (dC (.str (tx []))) dNil))))
    (dSeq (dSet 3 (dNew (dLst dNil)))
    (dSeq (dFor (dRange1 (dCons (dBin fSub (dVar 1) (dC (.int 1))) dNil)) (gdName 4) (dSeq (dSet 2 (dFz (dLc2 (dItems (dVar 2)) (gdName 5) dYes (dSigns (dVar 0)) (gdName 6) dYes (dBin fAdd (dVar 5) (dVar 6)) [5, 6] [6])))
    (dExpr (dMeth isLst fExtend (dVar 3) (dCons (dFz (dLc (dItems (dVar 2)) (gdName 5) dYes (dBin fAdd (dC (.str (tx [94]))) (dVar 5)) [5])) dNil)))))
    (dSeq (dExpr (dMeth isLst fExtend (dVar 3) (dCons (dFz (dLc2 (dItems (dVar 2)) (gdName 5) dYes (dSigns (dVar 0)) (gdName 6) dYes (dBin fAdd (dVar 5) (dVar 6)) [5, 6] [6])) dNil)))
    (dRet (dFz (dCallL fSorted (dCons (dVar 3) dNil))))))))
theorem d_over_e : d_stretches_over = dOver := by unfold d_stretches_over dOver; rw [tx_hat, tx_nil]
/-- what is found: the beginnings, then the whole ones -/
def headsN (cs : List Nat) (n : Nat) : List (List Nat) := (List.range n).flatMap fun k => (words cs (k + 1)).map (94 :: ·)
theorem heads_succ {cs : List Nat} {n : Nat} : headsN cs (n + 1) = headsN cs n ++ (words cs (n + 1)).map (94 :: ·) := by
  simp [headsN, List.range_succ, List.flatMap_append]
theorem pow_le {n k : Nat} (h : n ≤ 4) (hk : k ≤ 3) : n ^ k ≤ 64 := by
  match k, hk with
  | 0, _ => simp
  | 1, _ => simp; omega
  | 2, _ => calc n ^ 2 ≤ 4 ^ 2 := Nat.pow_le_pow_left h 2
      _ ≤ 64 := by decide
  | 3, _ => calc n ^ 3 ≤ 4 ^ 3 := Nat.pow_le_pow_left h 3
      _ ≤ 64 := by decide
theorem heads_len {cs : List Nat} (h : cs.length ≤ 4) : ∀ {n : Nat}, n ≤ 3 → (headsN cs n).length ≤ 64 * n
  | 0, _ => by simp [headsN]
  | n + 1, hn => by
    rw [heads_succ, List.length_append, List.length_map, words_len]
    have := heads_len h (n := n) (by omega)
    have := pow_le (n := cs.length) (k := n + 1) h hn
    omega
section
variable {st : Sto}
theorem over_lc2 {cs : List Nat} {k : Nat} {env : Env} (h4 : cs.length ≤ 4) (hk : k ≤ 2) (h0 : env[0]? = some (some (.str (tx cs)))) (hlen : env.length = 7) :
    lcLoop2 (gdName 5) dYes (dSigns (dVar 0)) (gdName 6) dYes (dBin fAdd (dVar 5) (dVar 6)) [6] yes env ((words cs k).map strD) st = .ok ((words cs (k + 1)).map strD) st := by
  rw [← words_step]
  refine lc2_pure (ys := fun _ => cs.map fun c => D.str (tx [c])) (f := catD) _ fun x hx => ?_
  obtain ⟨u, hu, rfl⟩ := List.mem_map.mp hx
  refine ⟨_, rfl, ?_, ?_, fun y hy => ?_⟩
  · have : (env.set 5 (some (strD u)))[0]? = some (some (.str (tx cs))) := by rw [List.getElem?_set_ne (by decide)]; exact h0
    simp [this]
  · rw [List.length_map]; exact Nat.le_trans h4 (by decide)
  · obtain ⟨c, _, rfl⟩ := List.mem_map.mp hy
    have ul : u.length = k := (words_mem.mp hu).1
    have hb : u.length + 1 ≤ bigLine := by rw [ul]; exact Nat.le_trans (show k + 1 ≤ 3 by omega) (by decide)
    refine ⟨_, rfl, ?_⟩
    have e5 : ((wipeE [6] (env.set 5 (some (strD u)))).set 6 (some (D.str (tx [c]))))[5]? = some (some (strD u)) := by
      rw [List.getElem?_set_ne (by decide), wipe_set, List.getElem?_set_ne (by decide), List.getElem?_set_self (by omega)]
    have e6 : ((wipeE [6] (env.set 5 (some (strD u)))).set 6 (some (D.str (tx [c]))))[6]? = some (some (D.str (tx [c]))) := by
      rw [List.getElem?_set_self (by simp [wipe_set]; omega)]
    simp only [dBin_e, dVar_e]
    rw [e5, e6]
    simp [strD, hb, catD]
theorem fExtend_app {s : Sto} {ds es : List D} (h : ds.length + es.length ≤ bigLine) : fExtend (.ref s.length) [.fz es] (s ++ [.lst ds]) = .ok .non (s ++ [.lst (ds ++ es)]) := by
  simp only [fExtend, app_get, h, if_true, app_set]
theorem isLst_app {s : Sto} {ds : List D} : isLst (.ref s.length) (s ++ [.lst ds]) = true := isLst_at app_get
theorem strs_map : ∀ l : List (List Nat), strsOf (l.map strD) = some (l.map tx)
  | [] => rfl
  | u :: r => by
    show (strsOf (r.map strD)).map (tx u :: ·) = _
    rw [strs_map r]; rfl
theorem over_ok {cs : List Nat} {w : Nat} (h4 : cs.length ≤ 4) (h1 : 1 ≤ w) (h3 : w ≤ 3) : m_stretches_over [.str (tx cs), .int (w : Int)] st =
    .ok (.fz ((sortS ((headsN cs (w - 1) ++ words cs w).map tx)).map .str)) (st ++ [.lst ((headsN cs (w - 1) ++ words cs w).map strD)]) := by
  have b1 : 1 ≤ bigLine := by decide
  rw [m_stretches_over_e, d_over_e]
  simp [mOf_e, dOver, b1]
  rw [rgR_ok (n := w - 1) (by omega) (by omega)]
  simp
  generalize hloop : loop _ _ _ _ _ _ = r
  obtain ⟨env', st', rfl, e4, rfl, rfl⟩ := for_use (fun i env st' => ∃ e4 : Option D, env = [some (.str (tx cs)), some (.int (w : Int)), some (.fz ((words cs i).map strD)), some (.ref st.length), e4, none, none] ∧ st' = st ++ [.lst ((headsN cs i).map strD)])
    hloop ⟨none, rfl, rfl⟩ (fun i x env st2 hx hI => by
      obtain ⟨e4, rfl, rfl⟩ := hI
      obtain ⟨hi, rfl⟩ := ints_get hx
      have hwl := words_len (cs := cs) (k := i)
      have hp := pow_le (n := cs.length) (k := i) h4 (by omega)
      have hwl2 := words_len (cs := cs) (k := i + 1)
      have hp2 := pow_le (n := cs.length) (k := i + 1) h4 (by omega)
      have hm : (words cs i).length ≤ midLine := by rw [hwl]; exact Nat.le_trans hp (by decide)
      have hm2 : (words cs (i + 1)).length ≤ bigLine := by rw [hwl2]; exact Nat.le_trans hp2 (by decide)
      have hhl := heads_len h4 (n := i) (by omega)
      have hex : ((headsN cs i).map strD).length + (((words cs (i + 1)).map (94 :: ·)).map strD).length ≤ bigLine := by
        simp only [List.length_map]
        rw [hwl2]
        exact Nat.le_trans (show (headsN cs i).length + cs.length ^ (i + 1) ≤ 1000 by omega) (by decide)
      have e1 := fun env => over_lc2 (st := st ++ [.lst ((headsN cs i).map strD)]) (env := env) (k := i) h4 (by omega)
      have e2 : ∀ env st, env.length = 7 → lcLoop (gdName 5) dYes (dBin fAdd (dC (.str (tx [94]))) (dVar 5)) yes env ((words cs (i + 1)).map strD) st = .ok (((words cs (i + 1)).map (94 :: ·)).map strD) st := fun env st hl => by
        rw [← hat_map]
        refine lc_map (f := hatD) _ fun x hx => ?_
        obtain ⟨u, hu, rfl⟩ := List.mem_map.mp hx
        have ul : u.length = i + 1 := (words_mem.mp hu).1
        have hb : 1 + u.length ≤ bigLine := by rw [ul]; exact Nat.le_trans (show 1 + (i + 1) ≤ 4 by omega) (by decide)
        refine ⟨_, rfl, ?_⟩
        have e5 : (env.set 5 (some (strD u)))[5]? = some (some (strD u)) := List.getElem?_set_self (by omega)
        simp only [dBin_e, dVar_e, dC_e, Res.bind_ok]
        rw [e5]
        simp [strD, hb, hatD]
      refine ⟨_, [some (.str (tx cs)), some (.int (w : Int)), some (.fz ((words cs (i + 1)).map strD)), some (.ref st.length), some (.int (i : Int)), none, none], st ++ [.lst ((headsN cs (i + 1)).map strD)], rfl, .inl ?_, some (.int (i : Int)), rfl, rfl⟩
      rw [heads_succ, List.map_append]
      simp only [dSeq_e, dSet_e, dFz_e, dLc2_e, dItems_e, dVar_e]
      simp [hm, wipeE, e1, isLst_app, hm2, e2]
      rw [List.map_map] at hex
      rw [fExtend_app hex]
      simp)
  rw [intsD_length]
  have hp := pow_le (n := cs.length) (k := w - 1) h4 (by omega)
  have hp2 := pow_le (n := cs.length) (k := w) h4 h3
  have hm : (words cs (w - 1)).length ≤ midLine := by rw [words_len]; exact Nat.le_trans hp (by decide)
  have hw : w - 1 + 1 = w := by omega
  have hhl := heads_len h4 (n := w - 1) (by omega)
  have hex : ((headsN cs (w - 1)).map strD).length + ((words cs w).map strD).length ≤ bigLine := by
    simp only [List.length_map]
    rw [words_len]
    exact Nat.le_trans (show (headsN cs (w - 1)).length + cs.length ^ w ≤ 1000 by omega) (by decide)
  have e1 := fun env => over_lc2 (st := st ++ [.lst ((headsN cs (w - 1)).map strD)]) (env := env) (k := w - 1) h4 (by omega)
  rw [hw] at e1
  simp [hm, wipeE, e1, isLst_app]
  rw [fExtend_app hex]
  have hs : fSorted [.ref st.length] (st ++ [.lst ((headsN cs (w - 1)).map strD ++ (words cs w).map strD)]) = .ok ((sortS ((headsN cs (w - 1) ++ words cs w).map tx)).map .str) (st ++ [.lst ((headsN cs (w - 1)).map strD ++ (words cs w).map strD)]) := by
    rw [← List.map_append]
    simp only [fSorted, lstD, app_get, strs_map]
  simp [hs]
end
theorem nodup_le {α : Type} [DecidableEq α] : ∀ {l T : List α}, l.Nodup → (∀ x ∈ l, x ∈ T) → l.length ≤ T.length
  | [], T, _, _ => Nat.zero_le _
  | a :: r, T, h, hs => by
    have ha := hs a List.mem_cons_self
    have h' := List.nodup_cons.mp h
    have := nodup_le (l := r) (T := T.erase a) h'.2 fun x hx => (List.mem_erase_of_ne (fun z : x = a => h'.1 (by rw [← z]; exact hx))).mpr (hs x (List.mem_cons_of_mem _ hx))
    rw [List.length_erase_of_mem ha] at this
    have : 0 < T.length := List.length_pos_of_mem ha
    simp only [List.length_cons]
    omega
theorem perm_of_mem {α : Type} [DecidableEq α] {l T : List α} (h1 : l.Nodup) (h2 : T.Nodup) (h : ∀ x, x ∈ l ↔ x ∈ T) : l.Perm T := by
  rw [List.perm_iff_count]
  intro a
  by_cases ha : a ∈ l
  · rw [List.Nodup.count h1, List.Nodup.count h2, if_pos ha, if_pos ((h a).mp ha)]
  · rw [List.count_eq_zero_of_not_mem ha, List.count_eq_zero_of_not_mem fun z => ha ((h a).mpr z)]
def keyN (u : List Nat) : Key := .inr (tx u)
theorem keyN_inj {u v : List Nat} : keyN u = keyN v ↔ u = v := by
  constructor
  · intro h; exact tx_inj.mp (Sum.inr.inj h)
  · rintro rfl; rfl
theorem any_key {ks : List (List Nat)} {u : List Nat} : ((ks.map keyN).any fun k' => decide (k' = keyN u)) = decide (u ∈ ks) := by
  rw [List.any_map]
  by_cases h : u ∈ ks
  · simp only [h, decide_true, List.any_eq_true]
    exact ⟨u, h, by simp⟩
  · simp only [h, decide_false]
    rw [List.any_eq_false]
    intro x hx
    simp only [Function.comp, decide_eq_true_eq, keyN_inj]
    rintro rfl
    exact h hx
/-! ### all that codes have -/
section
variable {cs : List Nat} {w : Nat}
def allN (cs : List Nat) (w : Nat) : List (List Nat) := headsN cs (w - 1) ++ words cs w
theorem heads_mem {n : Nat} {v : List Nat} : v ∈ headsN cs n ↔ ∃ k u, k < n ∧ u ∈ words cs (k + 1) ∧ v = 94 :: u := by
  simp only [headsN, List.mem_flatMap, List.mem_range, List.mem_map]
  constructor
  · rintro ⟨k, hk, u, hu, rfl⟩; exact ⟨k, u, hk, hu, rfl⟩
  · rintro ⟨k, u, hk, hu, rfl⟩; exact ⟨k, hk, u, hu, rfl⟩
theorem due_in {u : List Nat} (hw : 1 ≤ w) (hu : ∀ c ∈ u, c ∈ cs) {x : List Nat} (hx : x ∈ dueN u w) : x ∈ allN cs w := by
  simp only [dueN, List.mem_map, List.mem_range] at hx
  obtain ⟨k, hk, rfl⟩ := hx
  unfold cutN
  by_cases h : k + 1 < w
  · rw [if_pos h]
    refine List.mem_append_left _ (heads_mem.mpr ⟨k, _, by omega, words_mem.mpr ⟨by simp; omega, fun c hc => hu c (List.mem_of_mem_take hc)⟩, rfl⟩)
  · rw [if_neg h]
    refine List.mem_append_right _ (words_mem.mpr ⟨by simp; omega, fun c hc => hu c (List.mem_of_mem_drop (List.mem_of_mem_take hc))⟩)
theorem all_due (hw : 1 ≤ w) {x : List Nat} (hx : x ∈ allN cs w) : ∃ k u, k < w ∧ u ∈ words cs (k + 1) ∧ x ∈ dueN u w := by
  rcases List.mem_append.mp hx with z | z
  · obtain ⟨k, u, hk, hu, rfl⟩ := heads_mem.mp z
    have ul := (words_mem.mp hu).1
    refine ⟨k, u, by omega, hu, List.mem_map.mpr ⟨k, List.mem_range.mpr (by omega), ?_⟩⟩
    unfold cutN
    rw [if_pos (by omega), List.take_of_length_le (by omega)]
  · have ul := (words_mem.mp z).1
    refine ⟨w - 1, x, by omega, by rw [show w - 1 + 1 = w by omega]; exact z, List.mem_map.mpr ⟨w - 1, List.mem_range.mpr (by omega), ?_⟩⟩
    unfold cutN
    rw [if_neg (by omega), show w - 1 + 1 - w = 0 by omega, List.drop_zero, List.take_of_length_le (by omega)]
theorem heads_nodup (h : cs.Nodup) {n : Nat} : (headsN cs n).Nodup := by
  rw [headsN, List.nodup_iff_pairwise_ne, List.pairwise_flatMap]
  refine ⟨fun k _ => ?_, ?_⟩
  · rw [List.pairwise_map]
    exact (words_nodup h).imp fun hne e => hne (by simpa using e)
  · refine List.nodup_range.imp fun {a b} hne => ?_
    intro x hx y hy e
    obtain ⟨u, hu, rfl⟩ := List.mem_map.mp hx
    obtain ⟨v, hv, rfl⟩ := List.mem_map.mp hy
    have e' : u = v := by simpa using e
    have h1 := (words_mem.mp hu).1
    have h2 := (words_mem.mp hv).1
    rw [e'] at h1
    omega
theorem all_nodup (h : cs.Nodup) (hc : 94 ∉ cs) : (allN cs w).Nodup := by
  rw [allN, List.nodup_append]
  refine ⟨heads_nodup h, words_nodup h, fun a ha b hb e => ?_⟩
  obtain ⟨k, u, _, _, rfl⟩ := heads_mem.mp ha
  have := (words_mem.mp hb).2 94 (by rw [← e]; exact List.mem_cons_self)
  exact hc this
theorem all_len (h4 : cs.length ≤ 4) (h1 : 1 ≤ w) (h3 : w ≤ 3) : (allN cs w).length ≤ 1000 := by
  rw [allN, List.length_append, words_len]
  have := heads_len h4 (n := w - 1) (by omega)
  have := pow_le (n := cs.length) (k := w) h4 h3
  omega
end
end DD

namespace DD
open PySem L2 PyProof.Rows
/-! ### the law's names -/
section
variable {st : Sto} {cs : List Nat} {w : Nat}
@[simp] theorem fAdd_fz {a b : List D} : fAdd (.fz a) (.fz b) st = if a.length + b.length ≤ bigLine then .ok (.fz (a ++ b)) st else .bad := rfl
@[simp] theorem fInt_bl {b : Bool} : fInt [.bl b] st = .ok (.int (if b then 1 else 0)) st := rfl
noncomputable def dNmIn : DS := (dSet 5 (dBin fAdd (dVar 5) (dFz (dLc (dSigns (dVar 0)) (gdName 7) dYes (dBin fAdd (dVar 6) (dVar 7)) [7]))))
noncomputable def dNames : DS := (dSeq (dSet 2 (dFz (dLst dNil)))
    (dSeq (dSet 3 (dFz (dLst (dCons (dC (.str (tx []))) dNil))))
    (dSeq (dFor (dRange2 (dCons (dC (.int 1)) (dCons (dBin fAdd (dVar 1) (dC (.int 1))) dNil))) (gdName 4) (dSeq (dSet 5 (dFz (dLst dNil)))
    (dSeq (dFor (dItems (dVar 3)) (gdName 6) dNmIn)
    (dSeq (dSet 3 (dVar 5))
    (dSet 2 (dBin fAdd (dVar 2) (dFz (dLc (dItems (dVar 3)) (gdName 6) dYes (dBin fAdd (dBin fIx (dFz (dLst (dCons (dC (.str (tx []))) (dCons (dC (.str (tx [94]))) dNil)))) (dCall fInt (dCons (dBin fLtS (dVar 4) (dVar 1)) dNil))) (dVar 6)) [6]))))))))
    (dRet (dVar 2)))))
theorem d_names_e : d_law_names = dNames := by unfold d_law_names dNames dNmIn; rw [tx_hat, tx_nil]
theorem le_big {n : Nat} (h : n ≤ 1000) : n ≤ bigLine := Nat.le_trans h (by decide)
/-- the names up to a length -/
def namesN (cs : List Nat) (w k : Nat) : List (List Nat) := (List.range k).flatMap fun j => (words cs (j + 1)).map fun u => if j + 1 < w then 94 :: u else u
theorem names_succ {k : Nat} : namesN cs w (k + 1) = namesN cs w k ++ (words cs (k + 1)).map fun u => if k + 1 < w then 94 :: u else u := by
  simp [namesN, List.range_succ, List.flatMap_append]
theorem names_all (h : 1 ≤ w) : namesN cs w w = allN cs w := by
  obtain ⟨v, rfl⟩ : ∃ v, w = v + 1 := ⟨w - 1, by omega⟩
  rw [names_succ, allN, show v + 1 - 1 = v by omega]
  congr 1
  · unfold namesN headsN
    rw [List.flatMap, List.flatMap]
    congr 1
    apply List.map_congr_left
    intro j hj
    have := List.mem_range.mp hj
    apply List.map_congr_left
    intro u _
    rw [if_pos (by omega)]
  · conv => rhs; rw [← List.map_id (words cs (v + 1))]
    apply List.map_congr_left
    intro u _
    rw [if_neg (by omega)]; rfl
theorem names_len (h : cs.length ≤ 4) : ∀ {k : Nat}, k ≤ 3 → (namesN cs w k).length ≤ 64 * k
  | 0, _ => by simp [namesN]
  | n + 1, hn => by
    rw [names_succ, List.length_append, List.length_map, words_len]
    have := names_len h (k := n) (by omega)
    have := pow_le (n := cs.length) (k := n + 1) h hn
    omega
theorem take_flat {α β : Type} {f : α → List β} {l : List α} {i : Nat} {x : α} (h : l[i]? = some x) : (l.take (i + 1)).flatMap f = (l.take i).flatMap f ++ f x := by
  rw [List.take_add_one, h, List.flatMap_append]; simp
theorem flat_len {α β : Type} {f : α → List β} {n : Nat} : ∀ l : List α, (∀ x ∈ l, (f x).length ≤ n) → (l.flatMap f).length ≤ l.length * n
  | [], _ => by simp
  | x :: r, h => by
    have := flat_len r fun y hy => h y (List.mem_cons_of_mem _ hy)
    have := h x List.mem_cons_self
    rw [List.flatMap_cons, List.length_append, List.length_cons, Nat.succ_mul]
    omega
theorem names_in {k : Nat} {e2 e4 e6 e7 : Option D} (h4 : cs.length ≤ 4) (hk : k ≤ 2) :
    ∃ e6' e7', loop (gdName 6) dNmIn yes ((words cs k).map strD) [some (.str (tx cs)), some (.int (w : Int)), e2, some (.fz ((words cs k).map strD)), e4, some (.fz []), e6, e7] st = .nx [some (.str (tx cs)), some (.int (w : Int)), e2, some (.fz ((words cs k).map strD)), e4, some (.fz ((words cs (k + 1)).map strD)), e6', e7'] st := by
  have wl := words_len (cs := cs) (k := k)
  have wp := pow_le (n := cs.length) (k := k) h4 (by omega)
  generalize hw : loop _ _ _ _ _ _ = r
  obtain ⟨env', st', rfl, e6', e7', rfl, rfl⟩ := for_use (I := fun i env s => ∃ e6 e7 : Option D, env = [some (.str (tx cs)), some (.int (w : Int)), e2, some (.fz ((words cs k).map strD)), e4, some (.fz ((((words cs k).take i).flatMap fun u => cs.map fun c => u ++ [c]).map strD)), e6, e7] ∧ s = st) hw
    ⟨e6, e7, by simp, rfl⟩ (fun i x env s hx hI => by
      obtain ⟨e6, e7, rfl, rfl⟩ := hI
      rw [List.getElem?_map] at hx
      obtain ⟨u, hu, rfl⟩ := Option.map_eq_some_iff.mp hx
      have hi : i < (words cs k).length := (List.getElem?_eq_some_iff.mp hu).1
      have ul := (words_mem.mp (List.mem_of_getElem? hu)).1
      have fl := flat_len (f := fun u : List Nat => cs.map fun c => u ++ [c]) (n := 4) ((words cs k).take i) (fun x _ => by simpa using h4)
      have tl : ((words cs k).take i).length ≤ 64 := by rw [List.length_take]; omega
      rw [take_flat hu, List.map_append]
      have bl : (((words cs k).take i).flatMap fun u => cs.map fun c => u ++ [c]).length + cs.length ≤ bigLine := le_big (by omega)
      generalize (((words cs k).take i).flatMap fun u => cs.map fun c => u ++ [c]) = P at bl
      have b1 : u.length + 1 ≤ bigLine := le_big (by omega)
      have b2 : cs.length ≤ midLine := Nat.le_trans h4 (by decide)
      have b3 : cs.length ≤ bigLine := le_big (by omega)
      refine ⟨_, _, _, rfl, .inl ?_, some (strD u), e7, rfl, rfl⟩
      unfold dNmIn
      simp [b2, wipeE]
      generalize hm : lcLoop _ _ _ _ _ _ _ = r
      have hr := lcm_use (catD (strD u)) hm (fun x hx => by
        obtain ⟨c, _, rfl⟩ := List.mem_map.mp hx
        refine ⟨_, rfl, ?_⟩
        simp [strD, catD, b1])
      subst hr
      simp [b3, bl]
      intro a ha
      simp [catD, strD])
  refine ⟨e6', e7', ?_⟩
  have : ((words cs k).take ((words cs k).map strD).length).flatMap (fun u => cs.map fun c => u ++ [c]) = words cs (k + 1) := by
    rw [List.length_map, List.take_length]; rfl
  rw [this]
theorem at2_1 {a b : D} : L2.atI [a, b] 1 = some b := rfl
theorem at2_0 {a b : D} : L2.atI [a, b] 0 = some a := rfl
def headF (j w : Nat) (x : D) : D := match x with
  | .str a => if j < w then .str (tx [94] ++ a) else .str (tx [] ++ a)
  | x => x
theorem law_names_ok (h4 : cs.length ≤ 4) (h1 : 1 ≤ w) (h3 : w ≤ 3) : m_law_names [.str (tx cs), .int (w : Int)] st = .ok (.fz ((allN cs w).map strD)) st := by
  rw [m_law_names_e, d_names_e]
  have b1 : 1 ≤ bigLine := by decide
  have b2 : 2 ≤ bigLine := by decide
  simp [mOf_e, dNames, b1, b2]
  rw [rg2R_ok (i := 1) (j := (w : Int) + 1) (a := 1) (b := w + 1) rfl (by omega) (by omega) (by omega)]
  simp
  generalize hw : loop _ _ _ _ _ _ = r
  obtain ⟨env', st', rfl, e4, e5, e6, e7, rfl, rfl⟩ := for_use (I := fun k env s => ∃ e4 e5 e6 e7 : Option D, env = [some (.str (tx cs)), some (.int (w : Int)), some (.fz ((namesN cs w k).map strD)), some (.fz ((words cs k).map strD)), e4, e5, e6, e7] ∧ s = st) hw
    ⟨none, none, none, none, rfl, rfl⟩ (fun k x env s hx hI => by
      obtain ⟨e4, e5, e6, e7, rfl, rfl⟩ := hI
      obtain ⟨hk, rfl⟩ : k < w ∧ x = .int ((k + 1 : Nat) : Int) := by
        simp only [intsD] at hx
        rw [List.getElem?_map] at hx
        obtain ⟨j, hj, rfl⟩ := Option.map_eq_some_iff.mp hx
        have := List.getElem?_eq_some_iff.mp hj
        obtain ⟨h5, h6⟩ := this
        simp at h5 h6
        subst h6
        exact ⟨h5, by rw [show ((1 : Int) + (k : Int)) = ((k + 1 : Nat) : Int) by omega]⟩
      have wl := words_len (cs := cs) (k := k)
      have wp := pow_le (n := cs.length) (k := k) h4 (by omega)
      have wl2 := words_len (cs := cs) (k := k + 1)
      have wp2 := pow_le (n := cs.length) (k := k + 1) h4 (by omega)
      have nl := names_len (w := w) h4 (k := k) (by omega)
      obtain ⟨e6', e7', el⟩ := names_in (st := s) (w := w) (k := k) (e2 := some (.fz ((namesN cs w k).map strD))) (e4 := some (.int ((k + 1 : Nat) : Int))) (e6 := e6) (e7 := e7) h4 (by omega)
      have bb : (words cs (k + 1)).length ≤ midLine := by rw [wl2]; exact Nat.le_trans wp2 (by decide)
      have bb2 : (words cs (k + 1)).length ≤ bigLine := big_of (by omega)
      have bb3 : (namesN cs w k).length + (words cs (k + 1)).length ≤ bigLine := le_big (by omega)
      refine ⟨[some (.str (tx cs)), some (.int (w : Int)), some (.fz ((namesN cs w k).map strD)), some (.fz ((words cs k).map strD)), some (.int ((k + 1 : Nat) : Int)), e5, e6, e7], _, _, by rfl, .inl ?_, some (.int ((k + 1 : Nat) : Int)), some (.fz ((words cs (k + 1)).map strD)), e6', e7', rfl, rfl⟩
      have b0 : 0 ≤ bigLine := by decide
      simp only [dSeq_e, dSet_e, dFz_e, dLst_e, dNil_e, dFor_e, dItems_e, dVar_e]
      have el' := el
      simp [b0] at el' ⊢
      rw [el']
      simp [bb, wipeE]
      generalize hm : lcLoop _ _ _ _ _ _ _ = r
      have hr := lcm_use (headF (k + 1) w) hm (fun x hx => by
        obtain ⟨u, hu, rfl⟩ := List.mem_map.mp hx
        have ul := (words_mem.mp hu).1
        have b5 : 1 + u.length ≤ bigLine := le_big (by omega)
        have b6 : u.length ≤ bigLine := le_big (by omega)
        refine ⟨_, rfl, ?_⟩
        by_cases hkw : k + 1 < w
        · have hkw' : (k : Int) + 1 < (w : Int) := by omega
          simp [b2, hkw, hkw', headF, strD, b5, at2_1, ofO]
        · have hkw' : ¬ (k : Int) + 1 < (w : Int) := by omega
          simp [b2, hkw, hkw', headF, strD, b6, at2_0, ofO])
      subst hr
      simp [bb2, bb3, names_succ]
      intro u hu
      by_cases hkw : k + 1 < w <;> simp [headF, strD, hkw])
  simp
  rw [show (intsD 1 w).length = w from by simp [intsD], names_all h1]
end
end DD

namespace DD
open PySem L2 PyProof.Rows
/-! the hand before other things -/
theorem HG.app {n : Nat} {s : Sto} {o : O} (h : HG n s) : HG n (s ++ [o]) := by
  have := h.lt
  obtain ⟨h, e⟩ := h
  exact ⟨h, by rw [List.getElem?_append_left this]; exact e⟩
theorem Dr.ofApp {n : Nat} {s s' : Sto} {o : O} (hl : n < s.length) (d : Dr n (s ++ [o]) s') : ∃ s2, Dr n s s2 ∧ s' = s2 ++ [o] := by
  obtain ⟨h, rfl⟩ := d
  exact ⟨s.set n (.lst h.ds), ⟨h, rfl⟩, by rw [List.set_append_left n _ hl]⟩
/-! objects -/
def setFR (cs : List Str) (f : Str) (x y : D) (env : Env) (st : Sto) : ResS := match x with
  | .ref n => match st[n]? with
    | some (.ins c ns ds) => if c ∈ cs ∧ ns.length ≤ 900 then .nx env (st.set n (.ins c (putD f y ns ds).1 (putD f y ns ds).2)) else .bad
    | _ => .bad
  | _ => .bad
theorem dSetFld_e {cs : List Str} {f : Str} {dv da : DE} {env : Env} {st : Sto} : dSetFld cs f dv da env st = (dv env st).bindS env fun y st1 => (da env st1).bindS env fun x st2 => setFR cs f x y env st2 := rfl
theorem setFR_app {cs : List Str} {f c : Str} {y : D} {env : Env} {s : Sto} {ns : List Str} {ds : List D} (hc : c ∈ cs) (hl : ns.length ≤ 900) :
    setFR cs f (.ref s.length) y env (s ++ [.ins c ns ds]) = .nx env (s ++ [.ins c (putD f y ns ds).1 (putD f y ns ds).2]) := by
  simp only [setFR, app_get, hc, hl, and_self, if_true, app_set]
def mkR (c : Str) (m : M) (n : Nat) (xs : List D) (st1 : Sto) : Res D := dMake c m n (fun _ st => .ok xs st) [] st1
theorem dMake_e {c : Str} {m : M} {n : Nat} {ds : DA} {env : Env} {st : Sto} : dMake c m n ds env st = (ds env st).bind fun xs st1 => mkR c m n xs st1 := by
  unfold mkR dMake; cases ds env st <;> rfl
theorem mkR_okM {c : Str} {m : M} {n : Nat} {xs : List D} {st more : Sto} {ns : List Str} {ds : List D} (h : m (.ref st.length :: xs) (st ++ [.ins c [] []]) = .ok .non (st ++ .ins c ns ds :: more)) (hn : xs.length + 1 = n) (hb : belows st.length ds = true) (hr : NoRef st) :
    mkR c m n xs st = .ok (.obj c ns ds) st := by
  have ha : st.all (belowO st.length) = true := List.all_eq_true.mpr fun o ho => hr o ho _
  have ht : (st ++ O.ins c ns ds :: more).take st.length = st := by simp
  have hg : (st ++ O.ins c ns ds :: more)[st.length]? = some (O.ins c ns ds) := by simp
  unfold mkR dMake
  simp only [Res.bind_ok, hn, if_true, h, hg, ht, hb, ha, and_self]
theorem mkR_ok {c : Str} {m : M} {n : Nat} {xs : List D} {st : Sto} {ns : List Str} {ds : List D} (h : m (.ref st.length :: xs) (st ++ [.ins c [] []]) = .ok .non (st ++ [.ins c ns ds])) (hn : xs.length + 1 = n) (hb : belows st.length ds = true) (hr : NoRef st) :
    mkR c m n xs st = .ok (.obj c ns ds) st := mkR_okM (more := []) h hn hb hr
theorem mkR_excM {c k f : Str} {v : D} {m : M} {n : Nat} {xs : List D} {st more : Sto} {o : O} (h : m (.ref st.length :: xs) (st ++ [.ins c [] []]) = .exc (k, some (f, v)) (st ++ o :: more)) (hn : xs.length + 1 = n) (hb : below st.length v = true) (hr : NoRef st) :
    mkR c m n xs st = .exc (k, some (f, v)) st := by
  have ha : st.all (belowO st.length) = true := List.all_eq_true.mpr fun o ho => hr o ho _
  have ht : (st ++ o :: more).take st.length = st := by simp
  have hg : (st ++ o :: more)[st.length]? = some o := by simp
  unfold mkR dMake
  simp only [Res.bind_ok, hn, if_true, h, hg, ht, hb, ha, and_self]
theorem mkR_exc {c k f : Str} {v : D} {m : M} {n : Nat} {xs : List D} {st : Sto} {o : O} (h : m (.ref st.length :: xs) (st ++ [.ins c [] []]) = .exc (k, some (f, v)) (st ++ [o])) (hn : xs.length + 1 = n) (hb : below st.length v = true) (hr : NoRef st) :
    mkR c m n xs st = .exc (k, some (f, v)) st := mkR_excM (more := []) h hn hb hr
/-! ### tables of fractions -/
/-- a fraction that the law draws -/
def Fr30 (f : Int × Int) : Prop := 0 < f.2 ∧ f.2 ≤ 30 ∧ f.1.natAbs ≤ 60 ∧ Nat.gcd f.1.natAbs f.2.natAbs = 1
theorem Fr30.ok {f : Int × Int} (h : Fr30 f) : FrOk f := ⟨h.1, mm_small h.1 h.2.1, by have := h.2.2.1; omega⟩
section
variable {st : Sto} {cs : List Nat} {w n : Nat}
theorem at4_of {a b c d : D} {i : Nat} (h : (i : Int) < 4) : L2.atI [a, b, c, d] (i : Int) = some ([a, b, c, d].getD i .non) := by
  match i, h with
  | 0, _ => rfl
  | 1, _ => rfl
  | 2, _ => rfl
  | 3, _ => rfl
theorem law_fraction_ok (hg : HG n st) : ∃ (f : Int × Int) (st' : Sto), m_law_fraction [.ref n] st = .ok (frV f) st' ∧ Fr30 f ∧ Dr n st st' := by
  have b4 : 4 ≤ bigLine := by decide
  obtain ⟨d, st1, hd, e1, dr1⟩ := draw (many := 4) hg (by omega) (by omega)
  have hg1 := dr1.hg hg
  obtain ⟨top, ht, h1, h30⟩ : ∃ top : Int, [D.int 1, .int 2, .int 6, .int 30].getD d .non = .int top ∧ 1 ≤ top ∧ top ≤ 30 := by
    match d, hd with
    | 0, _ => exact ⟨1, rfl, by omega, by omega⟩
    | 1, _ => exact ⟨2, rfl, by omega, by omega⟩
    | 2, _ => exact ⟨6, rfl, by omega, by omega⟩
    | 3, _ => exact ⟨30, rfl, by omega, by omega⟩
  obtain ⟨b, st2, hb, e2, dr2⟩ := draw (many := top) hg1 (by omega) (by omega)
  have hg2 := dr2.hg hg1
  obtain ⟨x, st3, hx, e3, dr3⟩ := draw (many := 60) hg2 (by omega) (by omega)
  have hg3 := dr3.hg hg2
  obtain ⟨y, st4, hy, e4, dr4⟩ := draw (many := 30) hg3 (by omega) (by omega)
  have em := law_made_ok (st := st4) (tp := (x : Int) - (y : Int)) (bt := 1 + (b : Int)) (by omega) (by omega)
  refine ⟨red ((x : Int) - y) (1 + b), st4, ?_, ?_, ((dr1.trans dr2).trans dr3).trans dr4⟩
  · rw [m_law_fraction_e]
    have ha : L2.atI [D.int 1, .int 2, .int 6, .int 30] (d : Int) = some (.int top) := by rw [at4_of hd, ht]
    simp [mOf_e, d_law_fraction, b4, e1, ha, ofO, e2, e3, e4, em]
  · obtain ⟨a1, a2, a3, a4⟩ := red_parts (N := (x : Int) - y) (D := 1 + (b : Int)) (by omega)
    have hgp := gz_pos (N := (x : Int) - y) (D := 1 + (b : Int)) (by omega)
    have q1 := congrArg Int.natAbs a1
    have q2 := congrArg Int.natAbs a2
    rw [Int.natAbs_mul, Int.natAbs_natCast] at q1 q2
    have l1 := Nat.le_mul_of_pos_right (red ((x : Int) - y) (1 + b)).1.natAbs hgp
    have l2 := Nat.le_mul_of_pos_right (red ((x : Int) - y) (1 + b)).2.natAbs hgp
    exact ⟨a3, by omega, by omega, a4⟩
/-! ### dicts of texts -/
theorem look_map {F : List Nat → D} : ∀ {ks : List (List Nat)} {u : List Nat}, u ∈ ks → lookD (keyN u) (ks.map keyN) (ks.map F) = some (F u)
  | k :: r, u, h => by
    simp only [List.map_cons, lookD, keyN_inj]
    by_cases hk : k = u
    · rw [if_pos hk, hk]
    · rw [if_neg hk]
      exact look_map ((List.mem_cons.mp h).resolve_left fun e => hk e.symm)
theorem repl_map {F : List Nat → D} {d : D} {u : List Nat} : ∀ ks : List (List Nat), repl (keyN u) d (ks.map keyN) (ks.map F) = ks.map fun v => if v = u then d else F v
  | [] => rfl
  | k :: r => by
    simp only [List.map_cons, repl, keyN_inj, repl_map r]
theorem keyD_str {u : List Nat} : keyD (strD u) = some (keyN u) := rfl
/-- the table -/
def tabO (ks : List (List Nat)) (F : List Nat → Int × Int) : O := .dct (ks.map keyN) (ks.map fun u => frV (F u))
theorem noRef_frs : ∀ (ks : List (List Nat)) (F : List Nat → Int × Int) (n : Nat), belows n (ks.map fun u => frV (F u)) = true
  | [], _, _ => rfl
  | k :: r, F, n => by
    simp only [List.map_cons, belows, noRef_frs r F n, Bool.and_true]
    rfl
theorem noRef_tab {ks : List (List Nat)} {F : List Nat → Int × Int} : NoRefO (tabO ks F) := fun n => noRef_frs ks F n
theorem noRef_strs : ∀ (ks : List (List Nat)) (n : Nat), belows n (ks.map strD) = true
  | [], _ => rfl
  | k :: r, n => by
    simp only [List.map_cons, belows, noRef_strs r n, Bool.and_true]
    rfl
theorem law_table_ok (hg : HG n st) (hc : RowsOk cs) (h94 : 94 ∉ cs) (h1 : 1 ≤ w) (h3 : w ≤ 3) :
    ∃ (F : List Nat → Int × Int) (st2 : Sto), m_law_table [.ref n, .str (tx cs), .int (w : Int)] st = .ok (.ref st.length) (st2 ++ [tabO (allN cs w) F]) ∧ Dr n st st2 ∧ ∀ u ∈ allN cs w, Fr30 (F u) := by
  have h4 := hc.2.2.2
  have nd := all_nodup (w := w) (hc.1.imp fun h => Nat.ne_of_lt h) h94
  have al := all_len (cs := cs) h4 h1 h3
  have nlt := hg.lt
  rw [m_law_table_e]
  simp [mOf_e, d_law_table, law_names_ok h4 h1 h3]
  generalize hw : loop _ _ _ _ _ _ = r
  obtain ⟨env', st', rfl, F, s2, e4, rfl, rfl, dr, hF⟩ := for_use (I := fun k env s => ∃ (F : List Nat → Int × Int) (s2 : Sto) (e4 : Option D), env = [some (.ref n), some (.str (tx cs)), some (.int (w : Int)), some (.ref st.length), e4] ∧ s = s2 ++ [tabO ((allN cs w).take k) F] ∧ Dr n st s2 ∧ ∀ u ∈ (allN cs w).take k, Fr30 (F u)) hw
    ⟨fun _ => (0, 0), st, none, rfl, rfl, Dr.refl hg, fun u hu => by simp at hu⟩ (fun k x env s hx hI => by
      obtain ⟨F, s2, e4, rfl, rfl, dr, hF⟩ := hI
      rw [List.getElem?_map] at hx
      obtain ⟨u, hu, rfl⟩ := Option.map_eq_some_iff.mp hx
      have hk : k < (allN cs w).length := (List.getElem?_eq_some_iff.mp hu).1
      obtain ⟨f, s3, ef, hf, dr3⟩ := law_fraction_ok (n := n) (st := s2 ++ [tabO ((allN cs w).take k) F]) (HG.app (dr.hg hg))
      obtain ⟨s4, dr4, rfl⟩ := dr3.ofApp (by rw [dr.len]; exact nlt)
      have sl : s4.length = st.length := by rw [dr4.len, dr.len]
      have hni : u ∉ (allN cs w).take k := fun hm => by
        have e : (allN cs w).take (k + 1) = (allN cs w).take k ++ [u] := by rw [List.take_add_one, hu]; rfl
        have nd2 : ((allN cs w).take (k + 1)).Nodup := nd.sublist (List.take_sublist _ _)
        rw [e, List.nodup_append] at nd2
        exact nd2.2.2 u hm u (by simp) rfl
      have eF : ∀ v ∈ (allN cs w).take k, (if v = u then f else F v) = F v := fun v hv => by
        rw [if_neg]; rintro rfl; exact hni hv
      refine ⟨_, _, s4 ++ [tabO ((allN cs w).take (k + 1)) fun v => if v = u then f else F v], rfl, .inl ?_, fun v => if v = u then f else F v, s4, some (strD u), rfl, rfl, dr.trans dr4, fun v hv => ?_⟩
      · simp [ef]
        have hb : (((allN cs w).take k).map keyN).length ≤ bigLine := by rw [List.length_map, List.length_take]; exact le_big (by omega)
        have gt : (s4 ++ [tabO ((allN cs w).take k) F])[st.length]? = some (tabO ((allN cs w).take k) F) := by rw [← sl]; exact app_get
        have any : (((allN cs w).take k).map keyN).any (fun k' => decide (k' = keyN u)) = false := by rw [any_key]; simpa using hni
        have et : tabO ((allN cs w).take (k + 1)) (fun v => if v = u then f else F v) = .dct (((allN cs w).take k).map keyN ++ [keyN u]) ((((allN cs w).take k).map fun v => frV (F v)) ++ [frV f]) := by
          unfold tabO
          rw [List.take_add_one, hu]
          simp only [Option.toList, List.map_append, List.map_cons, List.map_nil, if_true]
          congr 2
          exact List.map_congr_left fun v hv => by rw [eF v hv]
        unfold setKeyR
        rw [keyD_str]
        simp only []
        rw [gt]
        simp only [tabO, hb, if_true, pkD]
        rw [any]
        simp only [Bool.false_eq_true, if_false]
        rw [← sl, app_set, ← et]
        simp [tabO]
      · rw [List.take_add_one, hu] at hv
        rcases List.mem_append.mp hv with z | z
        · show Fr30 (if v = u then f else F v); rw [eF v z]; exact hF v z
        · have : v = u := by simpa using z
          subst this
          simpa using hf)
  rw [List.length_map, List.take_length] at *
  exact ⟨F, s2, by simp, dr, hF⟩
end
end DD

namespace DD
open PySem L2 PyProof.Rows
/-! ### prices made -/
section
variable {st : Sto} {cs : List Nat} {w n L : Nat} {F : List Nat → Int × Int}
/-- a fraction as the document has it -/
def FrW (f : Int × Int) : Prop := 0 < f.2 ∧ Nat.gcd f.1.natAbs f.2.natAbs = 1
theorem fr30w {f : Int × Int} (h : Fr30 f) : FrW f := ⟨h.1, h.2.2.2⟩
theorem is_fraction_ok {f : Int × Int} (h : FrW f) : m_is_fraction [frV f] st = .ok (.bl true) st := by
  have h1 : (1 : Int) ≤ f.2 := by have := h.1; omega
  have e := is_tuple_ok (st := st) (ds := [.int f.1, .int f.2]) (k := 2) rfl
  rw [m_is_fraction_e]
  simp [mOf_e, d_is_fraction, frV, e, is_integer_ok, h1, h.2]
theorem sort_mem {ks : List (List Nat)} {d : D} (h : d ∈ (sortS (ks.map tx)).map D.str) : ∃ u ∈ ks, d = strD u := by
  obtain ⟨z, hz, rfl⟩ := List.mem_map.mp h
  obtain ⟨u, hu, rfl⟩ := List.mem_map.mp ((sortS_perm _).mem_iff.mp hz)
  exact ⟨u, hu, rfl⟩
theorem is_table_ok {ks : List (List Nat)} (h : st[L]? = some (tabO ks F)) (hF : ∀ u ∈ ks, FrW (F u)) (hl : ks.length ≤ 1000) : m_is_table [.ref L, .fz ((sortS (ks.map tx)).map .str)] st = .ok (.bl true) st := by
  have dc : dctOf (.ref L) st = some (ks.map keyN, ks.map fun u => frV (F u)) := dctOf_ref h
  have e1 := fLenD_of dc
  rw [List.length_map] at e1
  have ei : fIsi [.ref L, .ty "dict"] st = .ok (.bl true) st := by simp only [fIsi, tyName, h, tabO]; rfl
  have sl : ((sortS (ks.map tx)).map D.str).length = ks.length := by rw [List.length_map, (sortS_perm _).length_eq, List.length_map]
  have b1 : ((sortS (ks.map tx)).map D.str).length ≤ bigLine := by rw [sl]; exact le_big hl
  have b2 : ((sortS (ks.map tx)).map D.str).length ≤ midLine := by rw [sl]; exact Nat.le_trans hl (by decide)
  have hmem : ∀ d ∈ (sortS (ks.map tx)).map D.str, ∃ u ∈ ks, d = strD u := fun d hd => sort_mem hd
  generalize (sortS (ks.map tx)).map D.str = ds at sl b1 b2 hmem
  rw [m_is_table_e]
  simp [mOf_e, d_is_table, ei, e1, b1, b2, sl, wipeE]
  generalize hm : lcLoop _ _ _ _ _ _ _ = r
  have hr := lcm_use (fun _ => .bl true) hm (fun x hx => by
    obtain ⟨u, hu, rfl⟩ := hmem x hx
    have e2 := hasR_of (neg := false) dc keyD_str (look_map (F := fun u => frV (F u)) hu)
    have e3 := getR_of dc keyD_str (look_map (F := fun u => frV (F u)) hu)
    refine ⟨_, rfl, ?_⟩
    simp [e2, e3, is_fraction_ok (hF u hu)])
  subst hr
  have b3 : ks.length ≤ bigLine := le_big hl
  have ea := fAll_map (f := fun _ : D => true) (l := ds) (st := st)
  simp [b3, ea]
theorem is_width_ok (h1 : 1 ≤ w) (h3 : w ≤ 3) : m_is_width [.int (w : Int)] st = .ok (.bl true) st := by
  rw [m_is_width_e]; simp [mOf_e, d_is_width, is_between_ok (lo := 1) (hi := 3) (a := (w : Int)) (st := st) (by omega) (by omega)]
theorem is_rows_ok (hc : RowsOk cs) : m_is_rows [.str (tx cs)] st = .ok (.bl true) st := by
  have hl := hc.2.2.2
  rw [is_rows_gen rfl (fun z e => by cases e; exact ⟨show cs.length ≤ 1000 by omega, fun c hc' => by have := hc.2.1 c hc'; omega⟩)]
  have : rowsD (.str (tx cs)) = true := decide_eq_true (show RowsOk cs from hc)
  rw [this]
theorem setFR_mid {cs : List Str} {f c : Str} {y : D} {env : Env} {s more : Sto} {ns : List Str} {ds : List D} (hc : c ∈ cs) (hl : ns.length ≤ 900) :
    setFR cs f (.ref s.length) y env (s ++ .ins c ns ds :: more) = .nx env (s ++ .ins c (putD f y ns ds).1 (putD f y ns ds).2 :: more) := by
  have hg : (s ++ O.ins c ns ds :: more)[s.length]? = some (O.ins c ns ds) := by simp
  simp only [setFR, hg, hc, hl, and_self, if_true, List.set_append_right _ _ (Nat.le_refl _), Nat.sub_self, List.set_cons_zero]
/-- the dict by value -/
def tabD (ks : List (List Nat)) (F : List Nat → Int × Int) : D := .fd (ks.map keyN) (ks.map fun u => frV (F u))
def priD (cs : List Nat) (w : Nat) (F : List Nat → Int × Int) : D := .obj "Prices" ["rows", "width", "_table"] [.str (tx cs), .int (w : Int), tabD (allN cs w) F]
theorem p_ne : (Str.ofString "rows" : Str) ≠ Str.ofString "width" ∧ (Str.ofString "rows" : Str) ≠ Str.ofString "_table" ∧ (Str.ofString "width" : Str) ≠ Str.ofString "_table" := by decide +kernel
theorem prices_ok (hc : RowsOk cs) (h1 : 1 ≤ w) (h3 : w ≤ 3) (hr : NoRef st) (h : st[L]? = some (tabO (allN cs w) F)) (hF : ∀ u ∈ allN cs w, FrW (F u)) :
    mkR "Prices" m_Prices_init 4 [.str (tx cs), .int (w : Int), .ref L] st = .ok (priD cs w F) st := by
  have h4 := hc.2.2.2
  have al := all_len (cs := cs) h4 h1 h3
  have lt : L < st.length := (List.getElem?_eq_some_iff.mp h).1
  obtain ⟨n1, n2, n3⟩ := p_ne
  refine mkR_okM (more := [.lst ((headsN cs (w - 1) ++ words cs w).map strD)]) ?_ rfl ?_ hr
  · have e1 := is_rows_ok (st := st ++ [O.ins "Prices" [] []]) hc
    have e2 := is_width_ok (st := st ++ [O.ins "Prices" [] []]) h1 h3
    have e3 := over_ok (st := st ++ [O.ins "Prices" [] []]) h4 h1 h3
    have g : ∀ x y, (st ++ O.ins "Prices" x y :: [O.lst ((headsN cs (w - 1) ++ words cs w).map strD)])[L]? = some (tabO (allN cs w) F) := fun x y => by rw [List.getElem?_append_left lt]; exact h
    have ea : st ++ [O.ins "Prices" [] []] ++ [O.lst ((headsN cs (w - 1) ++ words cs w).map strD)] = st ++ O.ins "Prices" [] [] :: [O.lst ((headsN cs (w - 1) ++ words cs w).map strD)] := by simp
    rw [ea] at e3
    have e4 := is_table_ok (ks := allN cs w) (g [] []) hF al
    have e5 : ∀ x y, fDictD [.ref L] (st ++ O.ins "Prices" x y :: [O.lst ((headsN cs (w - 1) ++ words cs w).map strD)]) = .ok (tabD (allN cs w) F) _ := fun x y => fDictD_of (dctOf_ref (g x y))
    have c1 : (Str.ofString "Prices" : Str) ∈ fldC_rows := by simp [fldC_rows]
    have c2 : (Str.ofString "Prices" : Str) ∈ fldC_width := by simp [fldC_width]
    have c3 : (Str.ofString "Prices" : Str) ∈ fldC__table := by simp [fldC__table]
    generalize O.lst ((headsN cs (w - 1) ++ words cs w).map strD) = oo at *
    rw [m_Prices_init_e]
    have e3' : m_stretches_over [.str (tx cs), .int (w : Int)] (st ++ [O.ins "Prices" [] []]) = .ok (.fz ((sortS ((allN cs w).map tx)).map .str)) (st ++ O.ins "Prices" [] [] :: [oo]) := e3
    simp [mOf_e, d_Prices_init, e1, e2, e3', e4, e5, dSetFld_e, setFR_mid c1, setFR_mid c2, setFR_mid c3, putD, n1, n2, n3]
  · simp [belows, below, tabD, noRef_frs]
end
end DD

namespace DD
open PySem L2 PyProof.Rows
section
variable {st : Sto} {cs ch : List Nat} {w n L : Nat} {F : List Nat → Int × Int}
/-! ### prices over one bottom -/
theorem dc_pure {g : DG} {dk dv : DE} {env : Env} {G : List Nat → D} : ∀ (xs pre : List (List Nat)), (pre ++ xs).Nodup → (∀ u ∈ xs, ∃ env1, g (strD u) env = some env1 ∧ dk env1 st = .ok (strD u) st ∧ dv env1 st = .ok (G u) st) →
    dcLoop g dYes dk dv yes env (xs.map strD) (pre.map keyN) (pre.map G) st = .ok ((pre ++ xs).map keyN, (pre ++ xs).map G) st
  | [], pre, _, _ => by simp [dcLoop, yes]
  | u :: r, pre, nd, h => by
    obtain ⟨env1, h1, h2, h3⟩ := h u List.mem_cons_self
    have e : pre ++ u :: r = (pre ++ [u]) ++ r := by simp
    have ih := dc_pure r (pre ++ [u]) (by rw [← e]; exact nd) fun v hv => h v (List.mem_cons_of_mem _ hv)
    have hni : u ∉ pre := fun hm => (List.nodup_append.mp nd).2.2 u hm u List.mem_cons_self rfl
    have any : (pre.map keyN).any (fun k' => decide (k' = keyN u)) = false := by rw [any_key]; simpa using hni
    rw [e, ← ih]
    simp only [List.map_cons, dcLoop, yes, if_true, h1, dYes, h2, h3, keyD_str, pkD, any, Bool.false_eq_true, if_false]
    simp
/-- what a row costs, by the one bottom -/
def topF (L : Int) (F : List Nat → Int × Int) (u : List Nat) : Int := (F u).1 * (L / (F u).2)
theorem topF_sum {L : Int} {us : List (List Nat)} : (us.map (topF L F)).sum = SS L (us.map F) := by
  unfold SS topF; rw [List.map_map]; rfl
def topD (ks : List (List Nat)) (L : Int) (F : List Nat → Int × Int) : D := .fd (ks.map keyN) (ks.map fun u => .int (topF L F u))
theorem prop_ok : m_Prices_table [priD cs w F] st = .ok (tabD (allN cs w) F) st := by
  obtain ⟨n1, n2, n3⟩ := p_ne
  have e : fDictD [tabD (allN cs w) F] st = .ok (tabD (allN cs w) F) st := fDictD_of (x := tabD (allN cs w) F) (st := st) dctOf_fd
  have e1 : fFld fldC__table "_table" (priD cs w F) st = .ok (tabD (allN cs w) F) st := by
    simp [fFld, priD, fldC__table, List.lookup, beq_false_of_ne n2.symm, beq_false_of_ne n3.symm]
  rw [m_Prices_table_e]
  simp [mOf_e, d_Prices_table, e1, e]
theorem keys_str {ks : List (List Nat)} : (ks.map keyN).map dK' = ks.map strD := by rw [List.map_map]; rfl
theorem shared_ok (hF : ∀ u ∈ allN cs w, FrOk (F u)) (nd : (allN cs w).Nodup) (al : (allN cs w).length ≤ 1000) :
    ∃ L : Int, m_shared_bottom [priD cs w F] st = .ok (.tup [topD (allN cs w) L F, .int L]) st ∧ 0 < L ∧ L ∣ MM ∧ ∀ u ∈ allN cs w, (F u).2 ∣ L := by
  have ep : propR "Prices" m_Prices_table (priD cs w F) st = .ok (tabD (allN cs w) F) st := propR_ok prop_ok
  have dc : dctOf (tabD (allN cs w) F) st = some ((allN cs w).map keyN, (allN cs w).map fun u => frV (F u)) := dctOf_fd
  have bl : (allN cs w).length ≤ bigLine := le_big al
  have ek : keysR (tabD (allN cs w) F) st = .ok ((allN cs w).map strD, yes) st := by unfold tabD; rw [keysR_fd, keys_str]
  have hM : MM = 2329089562800 := rfl
  rw [m_shared_bottom_e]
  simp [mOf_e, d_shared_bottom, ep, ek]
  generalize hw : loop _ _ _ _ _ _ = r
  obtain ⟨env', st', rfl, L, e3, rfl, rfl, hL, hd, hdv⟩ := for_use (I := fun k env s => ∃ (L : Int) (e3 : Option D), env = [some (priD cs w F), some (tabD (allN cs w) F), some (.int L), e3, none] ∧ s = st ∧ 0 < L ∧ L ∣ MM ∧ ∀ j u, j < k → (allN cs w)[j]? = some u → (F u).2 ∣ L) hw
    ⟨1, none, rfl, rfl, by omega, ⟨MM, by simp⟩, fun j u h => by omega⟩ (fun k x env s hx hI => by
      obtain ⟨L, e3, rfl, rfl, hL, hd, hdv⟩ := hI
      rw [List.getElem?_map] at hx
      obtain ⟨u, hu, rfl⟩ := Option.map_eq_some_iff.mp hx
      have hm := List.mem_of_getElem? hu
      obtain ⟨f0, f1, f2⟩ := hF u hm
      obtain ⟨l0, l1, l2, l3⟩ := lcm_facts hL f0 hd f1
      have le1 := dvd_le hd MM_pos
      have le2 := dvd_le f1 MM_pos
      have e3 := getR_of (st := s) dc keyD_str (look_map (F := fun u => frV (F u)) hm)
      have el := fLcm_int (st := s) (a := L) (b := (F u).2) (by omega) (by omega)
      refine ⟨_, _, _, rfl, Or.inl ?_, _, some (strD u), rfl, rfl, l0, l1, fun j v hj hv => ?_⟩
      · simp [e3, frV, el]
      · by_cases hjk : j = k
        · subst hjk; rw [hu] at hv; cases hv; exact l3
        · exact Int.dvd_trans (hdv j v (by omega) hv) l2)
  have hall : ∀ u ∈ allN cs w, (F u).2 ∣ L := fun u hu => by
    obtain ⟨j, hj, e⟩ := List.mem_iff_getElem.mp hu
    exact hdv j u (by simpa using hj) (by rw [List.getElem?_eq_getElem hj, e])
  have le1 := dvd_le hd MM_pos
  simp [bl, ek, wipeE]
  have hdc := dc_pure (st := st') (g := gdName 3) (dk := dVar 3) (dv := dBin fMulW (dBin fIx (dDGet (dVar 1) (dVar 3)) (dC (.int 0))) (dBin fDivW (dVar 2) (dBin fIx (dDGet (dVar 1) (dVar 3)) (dC (.int 1))))) (env := [some (priD cs w F), some (tabD (allN cs w) F), some (.int L), none, none]) (G := fun u => .int (topF L F u)) (allN cs w) [] (by simpa using nd) (fun u hm => by
    obtain ⟨f0, f1, f2⟩ := hF u hm
    have le2 := dvd_le f1 MM_pos
    have d1 := div_le' (b := (F u).2) (by omega : 0 ≤ L) f0
    have d2 := div_nn (b := (F u).2) (by omega : 0 ≤ L) f0
    have c1 := cDivW_to (j := (F u).2) f0 (by omega)
    have c2 := cMulW_to (i := (F u).1) (j := L / (F u).2) (by omega) (by omega)
    have e3 := getR_of (st := st') dc keyD_str (look_map (F := fun u => frV (F u)) hm)
    refine ⟨_, rfl, rfl, ?_⟩
    simp [e3, frV, c1, c2, topF])
  simp only [List.map_nil, List.nil_append] at hdc
  rw [hdc]
  have b2 : 2 ≤ bigLine := by decide
  exact ⟨L, by simp [topD, b2], hL, hd, hall⟩
/-! ### the price of a code -/
/-- what a code of k rows leaves for the next stretch -/
def tailN (ch : List Nat) (w k : Nat) : List Nat := if k + 1 < w then 94 :: ch.take k else (ch.drop (k + 1 - w)).take (w - 1)
theorem tail_cut {k c : Nat} (h1 : 1 ≤ w) (h : ch[k]? = some c) : tailN ch w k ++ [c] = cutN ch w (k + 1) := by
  have hk := (List.getElem?_eq_some_iff.mp h).1
  unfold tailN cutN
  by_cases hw : k + 1 < w
  · rw [if_pos hw, if_pos hw, List.take_add_one, h]; simp
  · rw [if_neg hw, if_neg hw]
    obtain ⟨v, rfl⟩ : ∃ v, w = v + 1 := ⟨w - 1, by omega⟩
    rw [show v + 1 - 1 = v by omega, List.take_add_one, List.getElem?_drop, show k + 1 - (v + 1) + v = k by omega, h]
    simp
theorem tail_next {k : Nat} (h1 : 1 ≤ w) (h : k < ch.length) : tailN ch w (k + 1) = if (cutN ch w (k + 1)).length < w then cutN ch w (k + 1) else (cutN ch w (k + 1)).drop 1 := by
  unfold tailN cutN
  by_cases hw : k + 1 < w
  · rw [if_pos hw]
    have l : (94 :: ch.take (k + 1)).length = k + 2 := by simp; omega
    by_cases hw2 : k + 1 + 1 < w
    · rw [if_pos hw2, if_pos (by rw [l]; omega)]
    · rw [if_neg hw2, if_neg (by rw [l]; omega), show k + 1 + 1 - w = 0 by omega, show w - 1 = k + 1 by omega]
      simp
  · rw [if_neg hw, if_neg (by omega), if_neg (by simp; omega), List.drop_take, List.drop_drop]
    congr 2; omega
theorem cutN_len {k : Nat} (h : k + 1 ≤ ch.length) (h3 : w ≤ 3) : (cutN ch w (k + 1)).length ≤ 3 := by
  unfold cutN
  by_cases hw : k + 1 < w
  · rw [if_pos hw]; simp; omega
  · rw [if_neg hw]; simp; omega
theorem tail_len {k : Nat} (h : k ≤ ch.length) (h3 : w ≤ 3) : (tailN ch w k).length ≤ 3 := by
  unfold tailN
  by_cases hw : k + 1 < w
  · rw [if_pos hw]; simp; omega
  · rw [if_neg hw]; simp; omega
theorem tail_behind_ok {u : List Nat} (hl : u.length ≤ 3) : m_tail_behind [.str (tx u), .int (w : Int)] st = .ok (.str (tx (if u.length < w then u else u.drop 1))) st := by
  have hb : u.length ≤ bigLine := le_big (by omega)
  have hb' : (tx u).length ≤ bigLine := hb
  have hs := fSl_str_from (st := st) (i := 1) hb
  rw [show ((1 : Nat) : Int) = 1 from rfl] at hs
  rw [m_tail_behind_e]
  by_cases h : u.length < w
  · have h' : ((tx u).length : Int) < (w : Int) := by show (u.length : Int) < (w : Int); omega
    simp [mOf_e, d_tail_behind, fLen_str hb', h', h]
  · have h' : ¬ ((tx u).length : Int) < (w : Int) := by show ¬ (u.length : Int) < (w : Int); omega
    simp [mOf_e, d_tail_behind, fLen_str hb', h', h, hs]
theorem first_tail_ok (h1 : 1 ≤ w) : m_first_tail [.int (w : Int)] st = .ok (.str (tx (tailN ch w 0))) st := by
  rw [m_first_tail_e]
  by_cases h : w = 1
  · subst h
    have : tailN ch 1 0 = [] := by simp [tailN]
    simp [mOf_e, d_first_tail, this, tx_nil]
  · have : tailN ch w 0 = [94] := by unfold tailN; rw [if_pos (by omega)]; simp
    have h' : ¬ (w : Int) = 1 := by omega
    simp [mOf_e, d_first_tail, this, tx_hat, h', h]
theorem charged_ok {L : Int} (hl : ch.length ≤ 1000) (h1 : 1 ≤ w) (h3 : w ≤ 3) (hc : ∀ c ∈ ch, c ∈ cs) : ∃ t, m_charged [topD (allN cs w) L F, .int (w : Int), .str (tx (tailN ch w 0)), .str (tx ch)] st = .ok (.tup [.int ((dueN ch w).map (topF L F)).sum, t]) st := by
  have dc : dctOf (topD (allN cs w) L F) st = some ((allN cs w).map keyN, (allN cs w).map fun u => .int (topF L F u)) := dctOf_fd
  have hb : ch.length ≤ bigLine := le_big hl
  have b2 : 2 ≤ bigLine := by decide
  rw [m_charged_e]
  simp [mOf_e, d_charged, hb]
  generalize hw : loop _ _ _ _ _ _ = r
  obtain ⟨env', st', rfl, e5, rfl, rfl⟩ := for_use (I := fun k env s => ∃ e5 : Option D, env = [some (topD (allN cs w) L F), some (.int (w : Int)), some (.str (tx (tailN ch w k))), some (.str (tx ch)), some (.int (((dueN ch w).take k).map (topF L F)).sum), e5] ∧ s = st) hw
    ⟨none, by simp, rfl⟩ (fun k x env s hx hI => by
      obtain ⟨e5, rfl, rfl⟩ := hI
      rw [List.getElem?_map] at hx
      obtain ⟨c, hcc, rfl⟩ := Option.map_eq_some_iff.mp hx
      have hk := (List.getElem?_eq_some_iff.mp hcc).1
      have tl := tail_len (ch := ch) (w := w) (k := k) (by omega) h3
      have b1 : (tailN ch w k).length + 1 ≤ bigLine := le_big (by omega)
      have hd : (dueN ch w)[k]? = some (cutN ch w (k + 1)) := by simp [dueN, hk]
      have hin : cutN ch w (k + 1) ∈ allN cs w := due_in h1 hc (List.mem_of_getElem? hd)
      have tc := tail_cut (w := w) h1 hcc
      have tn := tail_next (w := w) h1 hk
      have e3 := getR_of (st := s) dc keyD_str (look_map (F := fun u => D.int (topF L F u)) hin)
      have e4 := tail_behind_ok (st := s) (w := w) (u := cutN ch w (k + 1)) (cutN_len (by omega) h3)
      rw [← tn] at e4
      have es : (((dueN ch w).take (k + 1)).map (topF L F)).sum = (((dueN ch w).take k).map (topF L F)).sum + topF L F (cutN ch w (k + 1)) := by
        rw [List.take_add_one, hd]; simp
      rw [es]
      generalize (((dueN ch w).take k).map (topF L F)).sum = S
      refine ⟨_, _, _, rfl, Or.inl ?_, some (.str (tx [c])), rfl, rfl⟩
      have ecat' : tx (tailN ch w k ++ [c]) = tx (cutN ch w (k + 1)) := by rw [tc]
      have e3' : getR (topD (allN cs w) L F) (.str (tx (cutN ch w (k + 1)))) s = .ok (.int (topF L F (cutN ch w (k + 1)))) s := e3
      have e4' : m_tail_behind [.str (tx (cutN ch w (k + 1))), .int (w : Int)] s = .ok (.str (tx (tailN ch w (k + 1)))) s := e4
      simp [dAug, b1, ecat', e3', e4'])
  refine ⟨.str (tx (tailN ch w ch.length)), ?_⟩
  have : (dueN ch w).take ch.length = dueN ch w := List.take_of_length_le (by simp [dueN])
  simp [b2, this]
/-- the price of a code, by the document -/
def priceV (F : List Nat → Int × Int) (w : Nat) (ch : List Nat) : Int × Int := red (SS MM ((dueN ch w).map F)) MM
theorem fld_rowsP : fFld fldC_rows "rows" (priD cs w F) st = .ok (.str (tx cs)) st := by simp [fFld, priD, fldC_rows, List.lookup]
theorem fld_widthP : fFld fldC_width "width" (priD cs w F) st = .ok (.int (w : Int)) st := by
  obtain ⟨n1, n2, n3⟩ := p_ne
  simp [fFld, priD, fldC_width, List.lookup, beq_false_of_ne n1.symm]
end
/-! ### price -/
section
variable {st : Sto} {cs ch : List Nat} {w n L : Nat} {F : List Nat → Int × Int}
theorem price_ok (hF : ∀ u ∈ allN cs w, FrOk (F u)) (nd : (allN cs w).Nodup) (al : (allN cs w).length ≤ 1000) (hl : ch.length ≤ 1000) (h1 : 1 ≤ w) (h3 : w ≤ 3) (hc : ∀ c ∈ ch, c ∈ cs) :
    m_price [priD cs w F, .str (tx ch)] st = .ok (frV (priceV F w ch)) st := by
  have hb : ch.length ≤ bigLine := le_big hl
  obtain ⟨L, e1, hL, hd, hdv⟩ := shared_ok (st := st) hF nd al
  obtain ⟨t, e2⟩ := charged_ok (st := st) (F := F) (L := L) hl h1 h3 hc
  have e3 := first_tail_ok (st := st) (ch := ch) h1
  have le1 := dvd_le hd MM_pos
  have e4 := lowest_ok (st := st) (tp := ((dueN ch w).map (topF L F)).sum) (bt := L) hL (by have := MM_lt; omega)
  have e5 : m_check_code [.str (tx ch), .str (tx cs)] st = .ok .non st := by
    rw [m_check_code_e]; simp [mOf_e, d_check_code, is_code_ok hc hb]
  rw [topF_sum, SS_red hL hd fun f hf => by
    obtain ⟨u, hu, rfl⟩ := List.mem_map.mp hf
    have hin := due_in h1 hc hu
    exact ⟨(hF u hin).1, hdv u hin⟩] at e4
  rw [topF_sum] at e2
  have e6 : m_cost [priD cs w F, .str (tx ch)] st = .ok (frV (priceV F w ch)) st := by
    rw [m_cost_e]
    simp [mOf_e, d_cost, fld_widthP, e1, e2, e3, e4, priceV]
  rw [m_price_e]
  simp [mOf_e, d_price, fld_rowsP, e5, e6]
end
end DD

namespace DD
open PySem L2 PyProof.Rows
/-! ### judges of anything: runs, turns, long runs -/
/-- values down to a depth, texts and tuples of some length -/
def QQ : Nat → D → Prop
  | 0, d => Val d = true ∧ ∀ z, d = .str z → z.length ≤ 1000
  | n + 1, d => (Val d = true ∧ ∀ z, d = .str z → z.length ≤ 1000) ∧ ∀ l, d = .tup l → l.length ≤ 1000 ∧ ∀ x ∈ l, QQ n x
theorem QQ.val : ∀ {n : Nat} {d : D}, QQ n d → Val d = true
  | 0, _, h => h.1
  | _ + 1, _, h => h.1.1
theorem QQ.str : ∀ {n : Nat} {z : Str}, QQ n (.str z) → z.length ≤ 1000
  | 0, _, h => h.2 _ rfl
  | _ + 1, _, h => h.1.2 _ rfl
/-- whatever the depth -/
def GD (d : D) : Prop := ∀ n, QQ n d
theorem GD.val {d : D} (h : GD d) : Val d = true := (h 0).val
theorem GD.str {z : Str} (h : GD (.str z)) : z.length ≤ 1000 := (h 0).str
theorem GD.len {l : List D} (h : GD (.tup l)) : l.length ≤ 1000 := ((h 1).2 l rfl).1
theorem GD.mem {l : List D} (h : GD (.tup l)) : ∀ x ∈ l, GD x := fun x hx n => ((h (n + 1)).2 l rfl).2 x hx
theorem gd_other {d : D} (h : Val d = true) (k : isTupD d = false) (s : isStrD d = false) : GD d := fun n => by
  have a : Val d = true ∧ ∀ z, d = .str z → z.length ≤ 1000 := ⟨h, fun z e => by subst e; cases s⟩
  cases n with
  | zero => exact a
  | succ n => exact ⟨a, fun l e => by subst e; cases k⟩
theorem gd_str {z : Str} (h : z.length ≤ 1000) : GD (.str z) := fun n => by
  have a : Val (.str z) = true ∧ ∀ z', D.str z = .str z' → z'.length ≤ 1000 := ⟨rfl, fun z' e => by cases e; exact h⟩
  cases n with
  | zero => exact a
  | succ n => exact ⟨a, fun l e => by cases e⟩
theorem gd_tup {l : List D} (h : l.length ≤ 1000) (k : ∀ x ∈ l, GD x) : GD (.tup l) := fun n => by
  have a : Val (.tup l) = true ∧ ∀ z', D.tup l = .str z' → z'.length ≤ 1000 := ⟨rfl, fun z' e => by cases e⟩
  cases n with
  | zero => exact a
  | succ n => exact ⟨a, fun l' e => by cases e; exact ⟨h, fun x hx => k x hx n⟩⟩
def codeJ (cs : List Nat) : D → Bool
  | .str z => z.cps.toList.all fun c => decide (c ∈ cs)
  | _ => false
def lenS : D → Int
  | .str z => z.length
  | _ => 0
def runJ (cs : List Nat) (ans : Int) : D → Bool
  | .tup [c, t] => codeJ cs c && tupJ (lenS c) (numD 0 (ans - 1)) t
  | _ => false
def natJ : D → Bool
  | .int i => decide (0 ≤ i)
  | _ => false
def turnJ (cs : List Nat) (ans : Int) : D → Bool
  | .tup [r, t] => runJ cs ans r && natJ t
  | _ => false
def longJ (cs : List Nat) (ans : Int) : D → Bool
  | .tup l => l.all (turnJ cs ans)
  | _ => false
section
variable {st : Sto} {cs : List Nat} {ans : Int} {d : D}
theorem code_gen (h : GD d) : m_is_code [d, .str (tx cs)] st = .ok (.bl (codeJ cs d)) st := by
  by_cases hs : isStrD d = true
  · cases d <;> first | (cases hs; done) | skip
    rename_i z
    have hl := h.str
    have e := is_code_gen (st := st) (ch := z.cps.toList) (T := cs) (big_of hl)
    rw [← tx_eta z] at e
    exact e
  · have hs : isStrD d = false := by simpa using hs
    rw [is_code_no h.val hs]
    cases d <;> first | (cases hs; done) | rfl
theorem is_run_gen (h : GD d) : m_is_run [d, .str (tx cs), .int ans] st = .ok (.bl (runJ cs ans d)) st := by
  have e := is_tuple_gen (st := st) (k := 2) h.val
  rw [m_is_run_e]
  cases hs : tupJ 2 (fun _ => true) d with
  | true =>
    cases d <;> first | (cases hs; done) | skip
    rename_i l
    match l, h, hs with
    | [c, t], h, hs2 =>
      have e0 : m_is_tuple [.tup [c, t], .int 2] st = .ok (.bl true) st := is_tuple_ok rfl
      clear e
      have hc := h.mem c (by simp)
      have ht := h.mem t (by simp)
      have e1 := code_gen (st := st) (cs := cs) hc
      have b2 : 2 ≤ bigLine := by decide
      cases hj : codeJ cs c with
      | false =>
        rw [hj] at e1
        have hr : runJ cs ans (.tup [c, t]) = false := by show (codeJ cs c && _) = false; rw [hj]; rfl
        simp [mOf_e, d_is_run, e0, e1, hr]
      | true =>
        rw [hj] at e1
        cases c <;> first | (cases hj; done) | skip
        rename_i z
        have hl := hc.str
        have hb : z.length ≤ bigLine := big_of hl
        have e2 := is_tuple_gen (st := st) (k := (z.length : Int)) ht.val
        cases ht2 : tupJ (z.length : Int) (fun _ => true) t with
        | false =>
          rw [ht2] at e2
          have : tupJ (lenS (.str z)) (numD 0 (ans - 1)) t = false := by
            cases t <;> first | rfl | skip
            simp only [tupJ, List.all_eq_true, Bool.and_eq_false_iff, lenS] at ht2 ⊢
            rcases ht2 with z1 | z1
            · exact .inl z1
            · simp at z1
          have hr : runJ cs ans (.tup [.str z, t]) = false := by show (codeJ cs (.str z) && _) = false; rw [hj, this]; rfl
          simp [mOf_e, d_is_run, e0, e1, hr, fLen_str hb, e2]
        | true =>
          rw [ht2] at e2
          cases t <;> first | (cases ht2; done) | skip
          rename_i as
          have hal := ht.len
          have ham := ht.mem
          have ha2 : (as.length : Int) = z.length := by simpa [tupJ] using ht2
          have hb2 : as.length ≤ bigLine := big_of hal
          have hr : runJ cs ans (.tup [.str z, .tup as]) = as.all (numD 0 (ans - 1)) := by
            show (codeJ cs (.str z) && (decide ((as.length : Int) = (z.length : Int)) && as.all (numD 0 (ans - 1)))) = _
            rw [hj, ha2]; simp
          simp [mOf_e, d_is_run, e0, e1, hr, fLen_str hb, e2, hb2]
          generalize hloop : lcLoop _ _ _ _ _ _ _ = r
          have := lcm_use (fun x => .bl (numD 0 (ans - 1) x)) hloop (fun x hm => ⟨_, rfl, by simp [wipe_set, is_between_gen (ham x hm).val]⟩)
          subst this
          simp [fAll_map]
    | [], h, hs => simp [tupJ] at hs
    | [_], h, hs => simp [tupJ] at hs
    | _ :: _ :: _ :: r, h, hs => simp [tupJ] at hs; omega
  | false =>
    rw [hs] at e
    have : runJ cs ans d = false := by
      cases d <;> first | rfl | skip
      rename_i l
      match l, hs with
      | [], _ => rfl
      | [_], _ => rfl
      | [_, _], hs => simp [tupJ] at hs
      | _ :: _ :: _ :: _, _ => rfl
    simp [mOf_e, d_is_run, e, this]
theorem is_turn_gen (h : GD d) : m_is_turn [d, .str (tx cs), .int ans] st = .ok (.bl (turnJ cs ans d)) st := by
  have e := is_tuple_gen (st := st) (k := 2) h.val
  rw [m_is_turn_e]
  cases hs : tupJ 2 (fun _ => true) d with
  | true =>
    cases d <;> first | (cases hs; done) | skip
    rename_i l
    match l, h, hs with
    | [c, t], h, hs2 =>
      have e0 : m_is_tuple [.tup [c, t], .int 2] st = .ok (.bl true) st := is_tuple_ok rfl
      clear e
      have e1 := is_run_gen (st := st) (cs := cs) (ans := ans) (h.mem c (by simp))
      have e2 := is_integer_gen (st := st) (h.mem t (by simp)).val
      cases hj : runJ cs ans c with
      | false => rw [hj] at e1; simp [mOf_e, d_is_turn, e0, e1, turnJ, hj]
      | true =>
        rw [hj] at e1
        cases hi : isIntD t with
        | false =>
          rw [hi] at e2
          have : natJ t = false := by cases t <;> first | rfl | cases hi
          simp [mOf_e, d_is_turn, e0, e1, e2, turnJ, hj, this]
        | true =>
          rw [hi] at e2
          cases t <;> first | (cases hi; done) | skip
          simp [mOf_e, d_is_turn, e0, e1, e2, turnJ, hj, natJ]
    | [], h, hs => simp [tupJ] at hs
    | [_], h, hs => simp [tupJ] at hs
    | _ :: _ :: _ :: r, h, hs => simp [tupJ] at hs; omega
  | false =>
    rw [hs] at e
    have : turnJ cs ans d = false := by
      cases d <;> first | rfl | skip
      rename_i l
      match l, hs with
      | [], _ => rfl
      | [_], _ => rfl
      | [_, _], hs => simp [tupJ] at hs
      | _ :: _ :: _ :: _, _ => rfl
    simp [mOf_e, d_is_turn, e, this]
theorem check_long_gen (h : GD d) : m_check_long [d, .str (tx cs), .int ans] st = if longJ cs ans d = true then .ok .non st else .exc ("NoLong", none) st := by
  have e := fIsi_tuple (st := st) h.val
  rw [m_check_long_e]
  cases hs : isTupD d with
  | true =>
    cases d <;> first | (cases hs; done) | skip
    rename_i l
    have hb : l.length ≤ bigLine := big_of h.len
    simp [mOf_e, d_check_long, e, isTupD, hb]
    generalize hloop : lcLoop _ _ _ _ _ _ _ = r
    have := lcm_use (fun x => .bl (turnJ cs ans x)) hloop (fun x hm => ⟨_, rfl, by simp [wipe_set, is_turn_gen (h.mem x hm)]⟩)
    subst this
    have hl : longJ cs ans (.tup l) = l.all (turnJ cs ans) := rfl
    rw [hl]
    have ea := fAll_map (f := turnJ cs ans) (l := l) (st := st)
    cases hj : l.all (turnJ cs ans) <;> simp [ea, hj]
  | false =>
    have : longJ cs ans d = false := by cases d <;> first | rfl | (cases hs; done)
    simp [mOf_e, d_check_long, e, hs, this]
end
end DD

namespace DD
open PySem L2 PyProof.Rows
/-! capital letters; loops told turn by turn -/
theorem up_letters : ∀ c ∈ List.range' 97 26, PySem.Unicode.upperOf c = [c - 32] := by decide +kernel
theorem flat_up : ∀ (cs : List Nat) (k : Nat), (∀ c ∈ cs, c ∈ List.range' 97 26) → (((cs.mapIdx fun _ c => (PySem.Unicode.upperOf c).toArray).map Array.toList).flatten) = cs.map (· - 32)
  | [], _, _ => rfl
  | c :: r, k, h => by
    have e := up_letters c (h c List.mem_cons_self)
    have ih := flat_up r k fun x hx => h x (List.mem_cons_of_mem _ hx)
    simp only [List.mapIdx_cons, List.map_cons, List.flatten_cons, e, ih]
    rfl
theorem upper_tx {cs : List Nat} (h : ∀ c ∈ cs, c ∈ List.range' 97 26) : Txt.upper (tx cs) = tx (cs.map (· - 32)) := by
  have := flat_up cs 0 h
  show Str.mk _ = Str.mk _
  congr 1
  apply Array.toList_inj.mp
  rw [← this]
  show ((cs.toArray.mapIdx fun i c => (PySem.Unicode.upperOf c).toArray).flatten).toList = _
  rw [Array.toList_flatten]
  simp
theorem let_rows {cs : List Nat} (h : RowsOk cs) : ∀ c ∈ cs, c ∈ List.range' 97 26 := fun c hc => by have := h.2.1 c hc; exact List.mem_range'_1.mpr ⟨by omega, by omega⟩
theorem for_use1 {g : DG} {d : DS} {xs : List D} {env : Env} {st : Sto} {r : ResS} (I : Nat → Env → Sto → Prop) (h : loop g d yes xs env st = r) (h0 : I 0 env st)
    (hs : ∀ i x env st, xs[i]? = some x → I i env st → ∃ env1, g x env = some env1 ∧ ∃ env2 st2, d env1 st = .nx env2 st2 ∧ I (i + 1) env2 st2) :
    ∃ env' st', r = .nx env' st' ∧ I xs.length env' st' :=
  for_use I h h0 fun i x env st hx hi => by
    obtain ⟨env1, e1, env2, st2, e2, i2⟩ := hs i x env st hx hi
    exact ⟨env1, env2, st2, e1, .inl e2, i2⟩
theorem fUpper_rows {cs : List Nat} {st : Sto} (h : RowsOk cs) : fUpper (.str (tx cs)) [] st = .ok (.str (tx (cs.map (· - 32)))) st := by
  have : (tx cs).length ≤ bigLine := Nat.le_trans (show cs.length ≤ 4 from h.2.2.2) (by decide)
  simp only [fUpper, this, if_true, upper_tx (let_rows h)]
theorem txOk {cs : List Nat} (h : cs.length ≤ 1000) (k : ∀ c ∈ cs, c < 0x110000) : TxOk (tx cs) := ⟨h, k⟩
theorem line_ok {n : Nat} {st : Sto} {ans size top : Nat} (hg : HG n st) (ha : ans ≤ 3) (h1 : 1 ≤ size) (h2 : size ≤ 12) (h3 : 1 ≤ top) (h4 : top ≤ 99) :
    ∃ (ps : List (Nat × Nat)) (st' : Sto), m_law_line [.ref n, .int (ans : Int), .int (size : Int), .int (top : Int)] st = .ok (psD ps) st' ∧ Dr n st st' ∧ ps.length = ans ∧ ∀ p ∈ ps, 1 ≤ p.1 ∧ p.1 ≤ top ∧ p.2 < size := by
  rw [m_law_line_e]
  simp [mOf_e, d_law_line]
  rw [rgR_ok (n := ans) rfl (by omega)]
  have hb : ans ≤ bigLine := Nat.le_trans ha (by decide)
  simp [intsD_length, hb]
  generalize hloop : lcLoop _ _ _ _ _ _ _ = r
  obtain ⟨ys, st', rfl, dr, l, hy⟩ := lc_use (fun st' => Dr n st st') (fun y => ∃ p : Nat × Nat, y = pD p ∧ (1 ≤ p.1 ∧ p.1 ≤ top ∧ p.2 < size)) hloop (Dr.refl hg) (fun x hx st2 dr2 => by
    obtain ⟨a, st3, ha, e3, dr3⟩ := draw (many := top) (dr2.hg hg) (by omega) (by omega)
    obtain ⟨b, st4, hb, e4, dr4⟩ := draw (many := size) (dr3.hg (dr2.hg hg)) (by omega) (by omega)
    exact ⟨_, pD (1 + a, b), st4, rfl, by simp [wipe_set, e3, e4, bigLine, pD], (dr2.trans dr3).trans dr4, (1 + a, b), rfl, by simp, by simp; omega, by simp; omega⟩)
  obtain ⟨ps, rfl, hp⟩ := list_of ys hy
  refine ⟨ps, st', by simp [psD], dr, ?_, fun a b h => hp (a, b) h⟩
  rw [List.length_map, intsD_length] at l
  exact l
theorem belows_map {α : Type} {f : α → D} {n : Nat} (h : ∀ a, below n (f a) = true) : ∀ l : List α, belows n (l.map f) = true
  | [] => rfl
  | a :: r => by rw [List.map_cons]; unfold belows; rw [h a, belows_map h r]; rfl
theorem noRef_its (its : List (List (List (Nat × Nat)))) : NoRefO (.lst (its.map itD)) := fun n => by
  show belows n (its.map itD) = true
  refine belows_map (fun it => ?_) its
  show belows n (it.map psD) = true
  refine belows_map (fun ps => ?_) it
  show belows n (ps.map pD) = true
  refine belows_map (fun p => ?_) ps
  rfl
theorem world_ok2 {n most : Nat} {st : Sto} {size : Nat} (hg : HG n st) (hr : NoRef st) (hm : 1 ≤ most) (hm4 : most ≤ 4) (h1 : 1 ≤ size) (h2 : size ≤ 12) :
    ∃ (w : Mach) (st' : Sto), (∀ x y, x = (most : Int) → y = (size : Int) → m_law_world [.ref n, .int x, .int y] st = .ok w.wD st') ∧ HG n st' ∧ NoRef st' ∧ MachOk w ∧ w.rows.length ≤ most ∧ w.mv.length ≤ size ∧ ∃ (its : List (List (List (Nat × Nat)))) (st5 : Sto), Dr n st st5 ∧ st' = st5 ++ [.lst (its.map itD)] := by
  rw [m_law_world_e]
  suffices hs : ∃ (w : Mach) (st' : Sto), mOf d_law_world 10 [.ref n, .int (most : Int), .int (size : Int)] st = .ok w.wD st' ∧ HG n st' ∧ NoRef st' ∧ MachOk w ∧ w.rows.length ≤ most ∧ w.mv.length ≤ size ∧ ∃ (its : List (List (List (Nat × Nat)))) (st5 : Sto), Dr n st st5 ∧ st' = st5 ++ [.lst (its.map itD)] by
    obtain ⟨w, st', h1, h2⟩ := hs
    exact ⟨w, st', fun x y hx hy => by rw [hx, hy]; exact h1, h2⟩
  obtain ⟨cs, st1, e1, dr1, rok, lrows⟩ := rows_ok hg hm hm4
  have e1 := e1 _ rfl
  obtain ⟨a, st2, ha, e2, dr2⟩ := draw (many := 5) (dr1.hg hg) (by omega) (by omega)
  have dr2 := dr1.trans dr2
  obtain ⟨m, st3, hm, e3, dr3⟩ := draw (many := size) (dr2.hg hg) (by omega) (by omega)
  have dr3 := dr2.trans dr3
  obtain ⟨t, st4, ht, e4, dr4⟩ := draw (many := 5) (dr3.hg hg) (by omega) (by omega)
  have dr4 := dr3.trans dr4
  have hb : 5 ≤ bigLine := by decide
  obtain ⟨ans, ea, ha1, ha3⟩ : ∃ ans : Nat, ([D.int 1, D.int 1, D.int 2, D.int 2, D.int 3] : List D)[a]? = some (.int (ans : Int)) ∧ 1 ≤ ans ∧ ans ≤ 3 := by
    have : a < 5 := by omega
    match a, this with
    | 0, _ => exact ⟨1, rfl, by omega, by omega⟩
    | 1, _ => exact ⟨1, rfl, by omega, by omega⟩
    | 2, _ => exact ⟨2, rfl, by omega, by omega⟩
    | 3, _ => exact ⟨2, rfl, by omega, by omega⟩
    | 4, _ => exact ⟨3, rfl, by omega, by omega⟩
  obtain ⟨top, et, ht1, ht3⟩ : ∃ top : Nat, ([D.int 1, D.int 2, D.int 3, D.int 9, D.int 99] : List D)[t]? = some (.int (top : Int)) ∧ 1 ≤ top ∧ top ≤ 99 := by
    have : t < 5 := by omega
    match t, this with
    | 0, _ => exact ⟨1, rfl, by omega, by omega⟩
    | 1, _ => exact ⟨2, rfl, by omega, by omega⟩
    | 2, _ => exact ⟨3, rfl, by omega, by omega⟩
    | 3, _ => exact ⟨9, rfl, by omega, by omega⟩
    | 4, _ => exact ⟨99, rfl, by omega, by omega⟩
  simp only [mOf_e, d_law_world, dSeq_e, dSet_e]
  simp [e1, e2, e3, e4, hb, ea, et]
  rw [rgR_ok (n := 1 + m) (by omega) (by omega)]
  simp
  generalize hloop : loop _ _ _ _ _ _ = r
  obtain ⟨env', st', rfl, its, e8, e9, rfl, li, hit, st5, dr5, rfl⟩ := for_use (fun i env st' => ∃ (its : List (List (List (Nat × Nat)))) (e8 e9 : Option D), env = [some (D.ref n), some (D.int ↑most), some (D.int ↑size), some (D.str (tx cs)), some (D.int ↑ans), some (D.int (1 + ↑m)), some (D.int ↑top), some (D.ref (List.length st4)), e8, e9] ∧ its.length = i ∧
      (∀ it ∈ its, it.length = cs.length ∧ ∀ ps ∈ it, ps.length = ans ∧ ∀ p ∈ ps, 1 ≤ p.1 ∧ p.1 ≤ top ∧ p.2 < 1 + m) ∧ ∃ st5, Dr n st st5 ∧ st' = st5 ++ [.lst (its.map itD)])
    hloop ⟨[], none, none, rfl, rfl, (fun _ h => by cases h), st4, dr4, rfl⟩ (fun i x env stc hx hI => by
      obtain ⟨its, e8, e9, rfl, li, hit, st5, dr5, rfl⟩ := hI
      obtain ⟨hi, rfl⟩ := ints_get hx
      have hg5 := dr5.hg hg
      have l5 : st4.length = st5.length := by rw [dr4.len, dr5.len]
      have hcl : cs.length ≤ bigLine := Nat.le_trans rok.2.2.2 (by decide)
      obtain ⟨ys, st6, elc, dr6, ly, hy⟩ := lc_use (fun st' => Dr n (st5 ++ [.lst (its.map itD)]) st') (fun y => ∃ ps : List (Nat × Nat), y = psD ps ∧ (ps.length = ans ∧ ∀ p ∈ ps, 1 ≤ p.1 ∧ p.1 ≤ top ∧ p.2 < 1 + m))
        (g := gdName 9) (de := dOwn m_law_line 4 (dCons (dVar 0) (dCons (dVar 4) (dCons (dVar 5) (dCons (dVar 6) dNil))))) (env := [some (D.ref n), some (D.int ↑most), some (D.int ↑size), some (D.str (tx cs)), some (D.int ↑ans), some (D.int (1 + ↑m)), some (D.int ↑top), some (D.ref (List.length st4)), some (.int i), none]) (xs := cs.map fun c => .str (tx [c])) rfl (Dr.refl hg5.app) (fun x hx s2 d2 => by
          obtain ⟨ps, s3, e3, d3, lp, hp⟩ := line_ok (ans := ans) (size := 1 + m) (top := top) (d2.hg hg5.app) ha3 (by omega) (by omega) ht1 ht3
          exact ⟨_, psD ps, s3, rfl, by simpa using e3, d2.trans d3, ps, rfl, lp, hp⟩)
      obtain ⟨it, rfl, hps⟩ := list_of ys hy
      obtain ⟨s7, dr7, rfl⟩ := dr6.ofApp hg5.lt
      have l7 : s7.length = st4.length := by rw [dr7.len, l5]
      rw [List.length_map, List.length_map] at ly
      have hget : (s7 ++ [O.lst (its.map itD)])[st4.length]? = some (.lst (its.map itD)) := by rw [← l7]; exact app_get
      have hget5 : (st5 ++ [O.lst (its.map itD)])[st4.length]? = some (.lst (its.map itD)) := by rw [l5]; exact app_get
      have hbl : (its.map itD).length ≤ bigLine := by rw [List.length_map, li]; exact Nat.le_trans (show i ≤ 12 by omega) (by decide)
      refine ⟨_, _, s7 ++ [.lst ((its ++ [it]).map itD)], rfl, .inl ?_, its ++ [it], some (.int i), e9, rfl, by simp [li], ?_, s7, dr5.trans dr7, rfl⟩
      · simp [isLst_at hget5, hcl, wipe_set, elc, fAppend_at hget hbl]
        rw [← l7, app_set]; rfl
      · intro z hz
        rcases List.mem_append.mp hz with q | q
        · exact hit z q
        · rw [List.mem_singleton.mp q]; exact ⟨ly, hps⟩)
  have l5 : st4.length = st5.length := by rw [dr4.len, dr5.len]
  have hget5 : (st5 ++ [O.lst (its.map itD)])[st4.length]? = some (.lst (its.map itD)) := by rw [l5]; exact app_get
  rw [intsD_length] at li
  refine ⟨⟨cs, ans, its⟩, st5 ++ [.lst (its.map itD)], ?_, (dr5.hg hg).app, (hr.dr dr5).app ?_, ⟨rok, ha1, ha3, by simp; omega, by simp; omega, fun it h => ?_⟩, lrows, by simp; omega, its, st5, dr5, rfl⟩
  · have hb3 : 3 ≤ bigLine := by decide
    simp [fTuple_ref hget5, hb3, Mach.wD, mvD]
  · exact noRef_its its
  · obtain ⟨q1, q2⟩ := hit it h
    exact ⟨q1, fun ps hps => ⟨(q2 ps hps).1, fun p hp => by
      have := (q2 ps hps).2 p hp
      simp only at *
      omega⟩⟩
theorem world_ok {n most : Nat} {st : Sto} {size : Nat} (hg : HG n st) (hr : NoRef st) (hm : 1 ≤ most) (hm4 : most ≤ 4) (h1 : 1 ≤ size) (h2 : size ≤ 12) :
    ∃ (w : Mach) (st' : Sto), (∀ x y, x = (most : Int) → y = (size : Int) → m_law_world [.ref n, .int x, .int y] st = .ok w.wD st') ∧ HG n st' ∧ NoRef st' ∧ MachOk w ∧ w.rows.length ≤ most ∧ w.mv.length ≤ size := by
  obtain ⟨w, st', a, b, c, d, e, f, _⟩ := world_ok2 (n := n) (most := most) (st := st) (size := size) hg hr hm hm4 h1 h2
  exact ⟨w, st', a, b, c, d, e, f⟩
/-! moves: the program's judge -/
def mvJ (size : Int) : D → Bool
  | .tup [a, b] => numD 1 99 a && numD 0 (size - 1) b
  | _ => false
def mvsJ (rows ans : Int) : D → Bool
  | .tup l => (decide (1 ≤ (l.length : Int)) && decide ((l.length : Int) ≤ 12)) && l.all (tupJ rows (tupJ ans (mvJ l.length)))
  | _ => false
section
variable {st : Sto}
theorem is_answers_gen {d : D} (h : Val d = true) : m_is_answers [d] st = .ok (.bl (numD 1 3 d)) st := by
  rw [m_is_answers_e]; simp [mOf_e, d_is_answers, is_between_gen h]
theorem is_move_gen {d : D} {size : Int} (h : TT 1 d) : m_is_move [d, .int size] st = .ok (.bl (mvJ size d)) st := by
  have e := is_tuple_gen (st := st) (k := 2) h.val
  rw [m_is_move_e]
  by_cases hs : isTupD d = true
  · cases d <;> first | (cases hs; done) | skip
    rename_i l
    match l, h with
    | [], h => simp [mOf_e, d_is_move, e, tupJ, mvJ]
    | [a], h => simp [mOf_e, d_is_move, e, tupJ, mvJ]
    | [a, b], h =>
      have ha := (h.tup).2 a (by simp)
      have hb := (h.tup).2 b (by simp)
      have e1 := is_between_gen (st := st) (lo := 1) (hi := 99) (d := a) ha
      have e2 := is_between_gen (st := st) (lo := 0) (hi := size - 1) (d := b) hb
      simp [mOf_e, d_is_move, e, tupJ, mvJ, e1, e2]
      cases numD 1 99 a <;> simp
    | a :: b :: c :: r, h =>
      have : ¬ ((r.length : Int) + 1 + 1 + 1 = 2) := by omega
      simp [mOf_e, d_is_move, e, tupJ, mvJ, this]
  · have : tupJ 2 (fun _ => true) d = false := by cases d <;> first | rfl | (exact absurd rfl hs)
    have h2 : mvJ size d = false := by cases d <;> first | rfl | (exact absurd rfl hs)
    rw [this] at e
    simp [mOf_e, d_is_move, e, h2]
theorem are_pairs_gen {d : D} {ans size : Int} (h : TT 2 d) : m_are_pairs [d, .int ans, .int size] st = .ok (.bl (tupJ ans (mvJ size) d)) st := by
  have e := is_tuple_gen (st := st) (k := ans) h.val
  rw [m_are_pairs_e]
  by_cases hs : isTupD d = true
  · cases d <;> first | (cases hs; done) | skip
    rename_i l
    obtain ⟨hl, hx⟩ := h.tup
    by_cases hn : (l.length : Int) = ans
    · have hb : l.length ≤ bigLine := big_of hl
      simp [mOf_e, d_are_pairs, e, tupJ, hn, hb]
      generalize hloop : lcLoop _ _ _ _ _ _ _ = r
      have := lcm_use (fun x => .bl (mvJ size x)) hloop (fun x hm => ⟨_, rfl, by simp [wipe_set, is_move_gen (hx x hm)]⟩)
      subst this
      simp [fAll_map]
    · simp [mOf_e, d_are_pairs, e, tupJ, hn]
  · have : ∀ J, tupJ ans J d = false := fun J => by cases d <;> first | rfl | (exact absurd rfl hs)
    rw [this] at e
    simp [mOf_e, d_are_pairs, e, this]
theorem is_item_gen {d : D} {rows ans size : Int} (h : TT 3 d) : m_is_item [d, .int rows, .int ans, .int size] st = .ok (.bl (tupJ rows (tupJ ans (mvJ size)) d)) st := by
  have e := is_tuple_gen (st := st) (k := rows) h.val
  rw [m_is_item_e]
  by_cases hs : isTupD d = true
  · cases d <;> first | (cases hs; done) | skip
    rename_i l
    obtain ⟨hl, hx⟩ := h.tup
    by_cases hn : (l.length : Int) = rows
    · have hb : l.length ≤ bigLine := big_of hl
      simp [mOf_e, d_is_item, e, tupJ, hn, hb]
      generalize hloop : lcLoop _ _ _ _ _ _ _ = r
      have := lcm_use (fun x => .bl (tupJ ans (mvJ size) x)) hloop (fun x hm => ⟨_, rfl, by simp [wipe_set, are_pairs_gen (hx x hm)]⟩)
      subst this
      simp [fAll_map]
    · simp [mOf_e, d_is_item, e, tupJ, hn]
  · have : ∀ J, tupJ rows J d = false := fun J => by cases d <;> first | rfl | (exact absurd rfl hs)
    rw [this] at e
    simp [mOf_e, d_is_item, e, this]
theorem are_moves_gen {d : D} {cs : List Nat} {ans : Int} (h : TT 4 d) (hc : cs.length ≤ 1000) : m_are_moves [d, .str (tx cs), .int ans] st = .ok (.bl (mvsJ cs.length ans d)) st := by
  have hb1 : (tx cs).length ≤ bigLine := big_of hc
  rw [m_are_moves_e]
  by_cases hs : isTupD d = true
  · cases d <;> first | (cases hs; done) | skip
    rename_i l
    obtain ⟨hl, hx⟩ := h.tup
    have hb : l.length ≤ bigLine := big_of hl
    by_cases hn : (1 ≤ (l.length : Int)) ∧ (l.length : Int) ≤ 12
    · have f2 : decide (1 ≤ l.length) = true := decide_eq_true (by omega)
      have f3 : decide (l.length ≤ 12) = true := decide_eq_true (by omega)
      simp [mOf_e, d_are_moves, mvsJ, hn.1, hn.2, hb, fLen_str hb1]
      generalize hloop : lcLoop _ _ _ _ _ _ _ = r
      have := lcm_use (fun x => .bl (tupJ cs.length (tupJ ans (mvJ l.length)) x)) hloop (fun x hm => ⟨_, rfl, by simp [wipe_set, fLen_str hb1, is_item_gen (hx x hm)]⟩)
      subst this
      simp [fAll_map]
    · by_cases h1 : 1 ≤ (l.length : Int)
      · have h2 : ¬ (l.length : Int) ≤ 12 := fun z => hn ⟨h1, z⟩
        simp [mOf_e, d_are_moves, mvsJ, h1, h2]
      · simp [mOf_e, d_are_moves, mvsJ, h1]
  · have : mvsJ cs.length ans d = false := by cases d <;> first | rfl | (exact absurd rfl hs)
    rw [this]
    have hs : isTupD d = false := by simpa using hs
    simp [mOf_e, d_are_moves, fIsi_tuple h.val, hs]
end
/-! machines as objects -/
theorem s_ne : (Str.ofString "rows" : Str) ≠ Str.ofString "answers" ∧ (Str.ofString "rows" : Str) ≠ Str.ofString "moves" ∧ (Str.ofString "rows" : Str) ≠ Str.ofString "size" ∧ (Str.ofString "answers" : Str) ≠ Str.ofString "moves" ∧ (Str.ofString "answers" : Str) ≠ Str.ofString "size" ∧ (Str.ofString "moves" : Str) ≠ Str.ofString "size" := by decide +kernel
def machG (r a m : D) (l : List D) : D := .obj "Machine" ["rows", "answers", "moves", "size"] [r, a, m, .int (l.length : Int)]
section
variable {st : Sto} {r a m : D} {l : List D}
theorem fld_rowsG : fFld fldC_rows "rows" (machG r a m l) st = .ok r st := by
  simp [fFld, machG, fldC_rows, List.lookup]
theorem fld_answersG : fFld fldC_answers "answers" (machG r a m l) st = .ok a st := by
  obtain ⟨n1, n2, n3, n4, n5, n6⟩ := s_ne
  simp [fFld, machG, fldC_answers, List.lookup, beq_false_of_ne n1.symm]
theorem fld_movesG : fFld fldC_moves "moves" (machG r a m l) st = .ok m st := by
  obtain ⟨n1, n2, n3, n4, n5, n6⟩ := s_ne
  simp [fFld, machG, fldC_moves, List.lookup, beq_false_of_ne n2.symm, beq_false_of_ne n4.symm]
theorem fld_sizeG : fFld fldC_size "size" (machG r a m l) st = .ok (.int (l.length : Int)) st := by
  obtain ⟨n1, n2, n3, n4, n5, n6⟩ := s_ne
  simp [fFld, machG, fldC_size, List.lookup, beq_false_of_ne n3.symm, beq_false_of_ne n5.symm, beq_false_of_ne n6.symm]
end
/-! ### machines as objects, by their parts -/
def machO (w : Mach) : D := .obj "Machine" ["rows", "answers", "moves", "size"] [.str (tx w.rows), .int (w.ans : Int), mvD w.mv, .int (w.mv.length : Int)]
section
variable {st : Sto} {w : Mach}
theorem belows_mach {n : Nat} : belows n [.str (tx w.rows), .int (w.ans : Int), mvD w.mv, .int (w.mv.length : Int)] = true := by
  have := noRef_its w.mv n
  have : below n (mvD w.mv) = true := this
  simp [belows, below, this]
theorem fld_rows : fFld fldC_rows "rows" (machO w) st = .ok (.str (tx w.rows)) st := by
  simp [fFld, machO, fldC_rows, List.lookup]
theorem fld_answers : fFld fldC_answers "answers" (machO w) st = .ok (.int (w.ans : Int)) st := by
  obtain ⟨n1, n2, n3, n4, n5, n6⟩ := s_ne
  simp [fFld, machO, fldC_answers, List.lookup, beq_false_of_ne n1.symm]
theorem fld_moves : fFld fldC_moves "moves" (machO w) st = .ok (mvD w.mv) st := by
  obtain ⟨n1, n2, n3, n4, n5, n6⟩ := s_ne
  simp [fFld, machO, fldC_moves, List.lookup, beq_false_of_ne n2.symm, beq_false_of_ne n4.symm]
theorem fld_size : fFld fldC_size "size" (machO w) st = .ok (.int (w.mv.length : Int)) st := by
  obtain ⟨n1, n2, n3, n4, n5, n6⟩ := s_ne
  simp [fFld, machO, fldC_size, List.lookup, beq_false_of_ne n3.symm, beq_false_of_ne n5.symm, beq_false_of_ne n6.symm]
end
/-! ### right machines are made -/
section
variable {st : Sto} {w : Mach}
theorem tt_pd (p : Nat × Nat) : TT 1 (pD p) := TT.mk (by show 2 ≤ 1000; omega) fun x hx => by
  simp only [List.mem_cons, List.not_mem_nil, or_false] at hx
  rcases hx with rfl | rfl <;> rfl
theorem tt_mv (h : MachOk w) : TT 4 (mvD w.mv) := by
  refine TT.mk (by rw [List.length_map]; have := h.mv12; omega) fun x hx => ?_
  obtain ⟨it, hi, rfl⟩ := List.mem_map.mp hx
  obtain ⟨q1, q2⟩ := h.it it hi
  refine TT.mk (by rw [List.length_map, q1]; have := h.rows.2.2.2; omega) fun x hx => ?_
  obtain ⟨ps, hp, rfl⟩ := List.mem_map.mp hx
  refine TT.mk (by rw [List.length_map, (q2 ps hp).1]; have := h.ans3; omega) fun x hx => ?_
  obtain ⟨p, _, rfl⟩ := List.mem_map.mp hx
  exact tt_pd p
theorem mvs_ok (h : MachOk w) : mvsJ (w.rows.length : Int) (w.ans : Int) (mvD w.mv) = true := by
  have h1 := h.mv1
  have h2 := h.mv12
  show ((decide (1 ≤ ((w.mv.map itD).length : Int)) && decide (((w.mv.map itD).length : Int) ≤ 12)) && (w.mv.map itD).all _) = true
  rw [List.length_map, Bool.and_eq_true, Bool.and_eq_true, List.all_eq_true]
  refine ⟨⟨decide_eq_true (by omega), decide_eq_true (by omega)⟩, fun x hx => ?_⟩
  obtain ⟨it, hi, rfl⟩ := List.mem_map.mp hx
  obtain ⟨q1, q2⟩ := h.it it hi
  show (decide (((it.map psD).length : Int) = _) && (it.map psD).all _) = true
  rw [List.length_map, Bool.and_eq_true, List.all_eq_true]
  refine ⟨decide_eq_true (by rw [q1]), fun x hx => ?_⟩
  obtain ⟨ps, hp, rfl⟩ := List.mem_map.mp hx
  obtain ⟨q3, q4⟩ := q2 ps hp
  show (decide (((ps.map pD).length : Int) = _) && (ps.map pD).all _) = true
  rw [List.length_map, Bool.and_eq_true, List.all_eq_true]
  refine ⟨decide_eq_true (by rw [q3]), fun x hx => ?_⟩
  obtain ⟨p, hp, rfl⟩ := List.mem_map.mp hx
  have := q4 p hp
  show (numD 1 99 (.int (p.1 : Int)) && numD 0 ((w.mv.length : Int) - 1) (.int (p.2 : Int))) = true
  simp only [numD, Bool.and_eq_true, decide_eq_true_eq]
  omega
theorem make_ok (h : MachOk w) (hr : NoRef st) : mkR "Machine" m_Machine_init 4 [.str (tx w.rows), .int (w.ans : Int), mvD w.mv] st = .ok (machO w) st := by
  refine mkR_ok ?_ rfl belows_mach hr
  obtain ⟨n1, n2, n3, n4, n5, n6⟩ := s_ne
  have e0 : ∀ st, fLen [mvD w.mv] st = .ok (.int (w.mv.length : Int)) st := fun st => by simp [mvD]
  have c1 : (Str.ofString "Machine" : Str) ∈ fldC_rows := List.mem_cons_self
  have c2 : (Str.ofString "Machine" : Str) ∈ fldC_answers := List.mem_cons_self
  have c3 : (Str.ofString "Machine" : Str) ∈ fldC_moves := List.mem_cons_self
  have c4 : (Str.ofString "Machine" : Str) ∈ fldC_size := List.mem_cons_self
  have a1 : 1 ≤ w.ans := h.ans1
  have a3 : w.ans ≤ 3 := h.ans3
  have e1 : ∀ s, m_is_rows [.str (tx w.rows)] s = .ok (.bl true) s := fun s => is_rows_ok h.rows
  have e2 : ∀ s, m_is_answers [.int (w.ans : Int)] s = .ok (.bl true) s := fun s => by
    rw [is_answers_gen rfl]
    have : numD 1 3 (.int (w.ans : Int)) = true := by simp only [numD, Bool.and_eq_true, decide_eq_true_eq]; omega
    rw [this]
  have e3 : ∀ s, m_are_moves [mvD w.mv, .str (tx w.rows), .int (w.ans : Int)] s = .ok (.bl true) s := fun s => by
    rw [are_moves_gen (tt_mv h) (by have := h.rows.2.2.2; omega), mvs_ok h]
  rw [m_Machine_init_e]
  simp [mOf_e, d_Machine_init, e1, e2, e3, dSetFld_e, setFR_app c1, setFR_app c2, setFR_app c3, setFR_app c4, putD, n1, n2, n3, n4, n5, n6, e0]
end
/-! ### runs -/
section
variable {st : Sto} {w : Mach}
structure RunOk (w : Mach) (ch as : List Nat) : Prop where
  len : ch.length = as.length
  big : ch.length ≤ 1000
  rows : ∀ c ∈ ch, c ∈ w.rows
  ans : ∀ a ∈ as, a < w.ans
/-! ### ways -/
noncomputable def mvAt (w : Mach) (at' c a : Nat) : Nat × Nat := (((w.mv[at']?).bind fun it => it[(Txt.index0 (tx w.rows) ⟨#[c]⟩).getD 0]?).bind fun ps => ps[a]?).getD (0, 0)
noncomputable def walk (w : Mach) : List Nat → List Nat → Nat → Nat × Nat
  | c :: cs, a :: as, at' => ((mvAt w at' c a).1 + (walk w cs as (mvAt w at' c a).2).1, (walk w cs as (mvAt w at' c a).2).2)
  | _, _, at' => (0, at')
theorem step_ok (h : MachOk w) {at' c a : Nat} (h1 : at' < w.mv.length) (h2 : c ∈ w.rows) (h3 : a < w.ans) :
    ∃ (it : List (List (Nat × Nat))) (ps : List (Nat × Nat)) (t g i : Nat), Txt.index0 (tx w.rows) ⟨#[c]⟩ = some i ∧ Txt.find (tx w.rows) ⟨#[c]⟩ = (i : Int) ∧ w.mv[at']? = some it ∧ it[i]? = some ps ∧ ps[a]? = some (t, g) ∧ mvAt w at' c a = (t, g) ∧ g < w.mv.length := by
  obtain ⟨i, hi, e1, e2⟩ := ix_of (x := tx w.rows) (c := c) h2
  have hi : i < w.rows.length := hi
  have q1 := h.it _ (List.getElem_mem h1)
  have hi2 : i < w.mv[at'].length := by rw [q1.1]; exact hi
  have q2 := q1.2 _ (List.getElem_mem hi2)
  have ha : a < (w.mv[at'][i]).length := by rw [q2.1]; exact h3
  have q3 := q2.2 _ (List.getElem_mem ha)
  refine ⟨w.mv[at'], w.mv[at'][i], (w.mv[at'][i][a]).1, (w.mv[at'][i][a]).2, i, e1, e2, List.getElem?_eq_getElem h1, List.getElem?_eq_getElem hi2, List.getElem?_eq_getElem ha, ?_, q3.2.2⟩
  simp [mvAt, e1, List.getElem?_eq_getElem h1, List.getElem?_eq_getElem hi2, List.getElem?_eq_getElem ha]
theorem walk_lt (h : MachOk w) : ∀ {ch as : List Nat} {at' : Nat}, at' < w.mv.length → (∀ c ∈ ch, c ∈ w.rows) → (∀ a ∈ as, a < w.ans) → (walk w ch as at').2 < w.mv.length
  | [], _, _, h1, _, _ => by simpa [walk] using h1
  | _ :: _, [], _, h1, _, _ => by simpa [walk] using h1
  | c :: ch, a :: as, at', h1, h2, h3 => by
    obtain ⟨it, ps, t, g, i, _, _, _, _, _, e, hg⟩ := step_ok h h1 (h2 c List.mem_cons_self) (h3 a List.mem_cons_self)
    simp only [walk, e]
    exact walk_lt h hg (fun c hc => h2 c (List.mem_cons_of_mem _ hc)) (fun a ha => h3 a (List.mem_cons_of_mem _ ha))
theorem walk_app : ∀ {c1 a1 c2 a2 : List Nat} {at' : Nat}, c1.length = a1.length → walk w (c1 ++ c2) (a1 ++ a2) at' = ((walk w c1 a1 at').1 + (walk w c2 a2 (walk w c1 a1 at').2).1, (walk w c2 a2 (walk w c1 a1 at').2).2)
  | [], [], _, _, _, _ => by simp [walk]
  | [], _ :: _, _, _, _, h => by simp at h
  | _ :: _, [], _, _, _, h => by simp at h
  | c :: c1, a :: a1, c2, a2, at', h => by
    have ih := walk_app (c1 := c1) (a1 := a1) (c2 := c2) (a2 := a2) (at' := (mvAt w at' c a).2) (by simpa using h)
    simp only [List.cons_append, walk, ih, Nat.add_assoc]
theorem loop_step {g : DG} {d : DS} {x : D} {r : List D} {env env1 env2 : Env} {st2 : Sto} (h1 : g x env = some env1) (h2 : d env1 st = .nx env2 st2) : loop g d yes (x :: r) env st = loop g d yes r env2 st2 := by
  conv => lhs; unfold loop
  simp only [yes, if_true, h1, h2]
theorem walked_ok (h : MachOk w) {ch as : List Nat} {at' : Nat} (h1 : at' < w.mv.length) (hr : RunOk w ch as) : m_walked [machO w, .int (at' : Int), runD ch as] st = .ok (.tup [.int ((walk w ch as at').1 : Int), .int ((walk w ch as at').2 : Int)]) st := by
  rw [m_walked_e]
  simp [mOf_e, d_walked, runD]
  generalize hB : dSeq (dAsg _ _) _ = B
  have key : ∀ (cs bs : List Nat) (here : Nat) (tot : Int) (e7 e8 e9 : Option D), (∀ c ∈ cs, c ∈ w.rows) → (∀ a ∈ bs, a < w.ans) → here < w.mv.length → ∃ e7' e8' e9' : Option D,
      loop (gdTup 2 (gdCons (gdName 7) (gdCons (gdName 8) gdNil))) B yes (pairsD (cs.map fun c => .str (tx [c])) (bs.map aD)) [some (machO w), some (.int (at' : Int)), some (.tup [.str (tx ch), .tup (as.map aD)]), some (.str (tx ch)), some (.tup (as.map aD)), some (.int tot), some (.int (here : Int)), e7, e8, e9] st =
        .nx [some (machO w), some (.int (at' : Int)), some (.tup [.str (tx ch), .tup (as.map aD)]), some (.str (tx ch)), some (.tup (as.map aD)), some (.int (tot + (walk w cs bs here).1)), some (.int ((walk w cs bs here).2 : Int)), e7', e8', e9'] st := by
    intro cs
    induction cs with
    | nil => intro bs here tot e7 e8 e9 _ _ _; exact ⟨e7, e8, e9, by simp [pairsD, loop, walk, yes]⟩
    | cons c cs ih =>
      intro bs here tot e7 e8 e9 q1 q2 q3
      cases bs with
      | nil => exact ⟨e7, e8, e9, by simp [pairsD, loop, walk, yes]⟩
      | cons a bs =>
        obtain ⟨it, ps, t, g, i, x1, x2, x3, x4, x5, x6, x7⟩ := step_ok h q3 (q1 c List.mem_cons_self) (q2 a List.mem_cons_self)
        obtain ⟨e7', e8', e9', e⟩ := ih bs g (tot + t) (some (.str (tx [c]))) (some (.int (a : Int))) (some (.int (t : Int))) (fun c hc => q1 c (List.mem_cons_of_mem _ hc)) (fun a ha => q2 a (List.mem_cons_of_mem _ ha)) x7
        refine ⟨e7', e8', e9', ?_⟩
        rw [List.map_cons, List.map_cons, pairsD, loop_step (env1 := [some (machO w), some (.int (at' : Int)), some (.tup [.str (tx ch), .tup (as.map aD)]), some (.str (tx ch)), some (.tup (as.map aD)), some (.int tot), some (.int (here : Int)), some (.str (tx [c])), some (.int (a : Int)), e9]) (env2 := [some (machO w), some (.int (at' : Int)), some (.tup [.str (tx ch), .tup (as.map aD)]), some (.str (tx ch)), some (.tup (as.map aD)), some (.int (tot + t)), some (.int (g : Int)), some (.str (tx [c])), some (.int (a : Int)), some (.int (t : Int))]) (st2 := st) (by simp [aD]) (by
          subst hB
          have xi : fIndex (.str (tx w.rows)) [.str (tx [c])] st = .ok (.int (i : Int)) st := by simp only [fIndex]; rw [show (tx [c]) = ⟨#[c]⟩ from rfl, x1]
          simp [fld_moves, fld_rows, isStr, xi, mvD, itD, psD, pD, x3, x4, x5, dAug]), e]
        simp only [walk, x6]
        simp
        omega
  obtain ⟨e7, e8, e9, e⟩ := key ch as at' 0 none none none hr.rows hr.ans h1
  rw [e]
  have hb : 2 ≤ bigLine := by decide
  simp [hb]
end
end DD

namespace DD
open PySem L2 PyProof.Rows
/-! ### turns of a long run, one after another -/
theorem while_use {t : DT} {d : DS} {n : Nat} {env : Env} {st : Sto} {r : ResS} {I : Nat → Env → Sto → Prop} (h : whileN t d n env st = r) (m : Nat) (hm : m < n) (h0 : I m env st)
    (hs : ∀ m env st, I m env st → t env st = .ok false st ∨ (t env st = .ok true st ∧ ∃ env2 st2 m2, d env st = .nx env2 st2 ∧ m2 < m ∧ I m2 env2 st2)) :
    ∃ env' st' m', r = .nx env' st' ∧ I m' env' st' ∧ t env' st' = .ok false st' := by
  obtain ⟨env', st', m', e, i, e2⟩ := while_inv n m env st hm h0 fun m env st i => (hs m env st i).imp (fun z => ⟨z, trivial⟩) id
  exact ⟨env', st', m', by rw [← h, e], i, e2⟩
section
variable {α : Type} [DecidableEq α] {st : Sto} {hD : α → D} {hK : α → Key} {P : α → Prop} {f : α → Int × α} {a : α} {lam run : D} {all : List α} {b : Nat}
/-- what the dict of the begun ones holds -/
def begK (hK : α → Key) (f : α → Int × α) (a : α) (k : Nat) : List Key := (List.range k).map fun i => hK (itN f i a)
def begV (f : α → Int × α) (a : α) (k : Nat) : List D := (List.range k).map fun (i : Nat) => D.tup [.int (i : Int), .int (smN f i a)]
theorem begK_succ {k : Nat} : begK hK f a (k + 1) = begK hK f a k ++ [hK (itN f k a)] := by unfold begK; rw [List.range_succ]; simp
theorem begV_succ {k : Nat} : begV f a (k + 1) = begV f a k ++ [.tup [.int (k : Int), .int (smN f k a)]] := by unfold begV; rw [List.range_succ]; simp
theorem lookD_map {ι : Type} {g : ι → Key} {v : ι → D} {kk : Key} : ∀ (l : List ι), (∃ i ∈ l, g i = kk ∧ lookD kk (l.map g) (l.map v) = some (v i)) ∨ ((∀ i ∈ l, g i ≠ kk) ∧ lookD kk (l.map g) (l.map v) = none)
  | [] => .inr ⟨fun i h => absurd h (by simp), rfl⟩
  | i :: l => by
    simp only [List.map_cons, lookD]
    by_cases h : g i = kk
    · rw [if_pos h]; exact .inl ⟨i, List.mem_cons_self, h, rfl⟩
    · rw [if_neg h]
      rcases lookD_map (g := g) (v := v) (kk := kk) l with ⟨j, hj, e1, e2⟩ | ⟨h1, h2⟩
      · exact .inl ⟨j, List.mem_cons_of_mem _ hj, e1, e2⟩
      · exact .inr ⟨fun j hj => by
          rcases List.mem_cons.mp hj with z | z
          · rw [z]; exact h
          · exact h1 j z, h2⟩
theorem noLam_beg {k : Nat} : noLamO (.dct (begK hK f a k) (begV f a k)) = true := noLams_map (fun _ => rfl) _
theorem noRef_beg {k : Nat} : NoRefO (.dct (begK hK f a k) (begV f a k)) := fun n => belows_map (fun _ => rfl) _
noncomputable def dRepTail : DS := dSeq (dFor (dRange1 (dCons (dBin fSub (dVar 1) (dVar 6)) dNil)) (gdName 11) (dSeq (dAsg (dLamGo tab_repeated_once 3 (dCons (dVar 2) (dCons (dVar 0) dNil))) (gdTup 2 (gdCons (gdName 7) (gdCons (gdName 2) gdNil)))) (dAug 5 (fun i j => i + j) (dVar 7)))) (dRet (dTup (dCons (dVar 5) (dCons (dVar 2) dNil))))
theorem dRepTail_e : dRepTail = dSeq (dFor (dRange1 (dCons (dBin fSub (dVar 1) (dVar 6)) dNil)) (gdName 11) (dSeq (dAsg (dLamGo tab_repeated_once 3 (dCons (dVar 2) (dCons (dVar 0) dNil))) (gdTup 2 (gdCons (gdName 7) (gdCons (gdName 2) gdNil)))) (dAug 5 (fun i j => i + j) (dVar 7)))) (dRet (dTup (dCons (dVar 5) (dCons (dVar 2) dNil)))) := rfl
theorem repeated_ok (hk : ∀ a, P a → keyD (hD a) = some (hK a) ∧ noLam (hD a) = true) (hinj : ∀ a b, P a → P b → hK a = hK b → a = b) (hall : ∀ a, P a → a ∈ all) (hB : all.length ≤ 1000)
    (hst : ∀ a, P a → P (f a).2 ∧ (f a).1.natAbs ≤ b) (hb : b ≤ 10 ^ 20)
    (hgo : ∀ a s, P a → NL s → lamGoR tab_repeated_once lam [hD a, run] s = .ok (.tup [.int (f a).1, hD (f a).2]) s) (hlam : ∃ kk W cs, lam = .lam kk W cs)
    (ha : P a) (hn : NL st) {times : Nat} (ht : times ≤ 10 ^ 30) :
    ∃ k, m_repeated [run, .int (times : Int), hD a, lam] st = .ok (.tup [.int (smN f times a), hD (itN f times a)]) (st ++ [.dct (begK hK f a k) (begV f a k)]) := by
  obtain ⟨kk, W, cs, rfl⟩ := hlam
  have b2 : 2 ≤ bigLine := by decide
  have hP : ∀ n, P (itN f n a) := fun n => (sm_bound hst n a ha).1
  have hS : ∀ n, (smN f n a).natAbs ≤ n * b := fun n => (sm_bound hst n a ha).2
  have hk1 : ∀ n, keyD (hD (itN f n a)) = some (hK (itN f n a)) := fun n => (hk _ (hP n)).1
  have eqK : ∀ i j, hK (itN f i a) = hK (itN f j a) → itN f i a = itN f j a := fun i j e => hinj _ _ (hP i) (hP j) e
  have few : ∀ k, (∀ i j, i < k → j < k → itN f i a = itN f j a → i = j) → k ≤ 1000 := fun k hd => by
    have nd : ((List.range k).map fun i => itN f i a).Nodup := by
      refine List.pairwise_iff_getElem.mpr fun i j hi hj hij z => ?_
      rw [List.length_map, List.length_range] at hi hj
      rw [List.getElem_map, List.getElem_map, List.getElem_range, List.getElem_range] at z
      have := hd i j hi hj z
      omega
    have := nodup_le (T := all) nd fun x hx => by
      obtain ⟨i, _, rfl⟩ := List.mem_map.mp hx
      exact hall _ (hP i)
    rw [List.length_map, List.length_range] at this
    omega
  have dec : ∀ k, (∃ i, i < k ∧ itN f i a = itN f k a ∧ lookD (hK (itN f k a)) (begK hK f a k) (begV f a k) = some (.tup [.int (i : Int), .int (smN f i a)])) ∨ ((∀ i, i < k → itN f i a ≠ itN f k a) ∧ lookD (hK (itN f k a)) (begK hK f a k) (begV f a k) = none ∧ (begK hK f a k).any (fun k' => decide (k' = hK (itN f k a))) = false) := fun k => by
    rcases lookD_map (g := fun i => hK (itN f i a)) (v := fun (i : Nat) => D.tup [.int (i : Int), .int (smN f i a)]) (kk := hK (itN f k a)) (List.range k) with ⟨i, hi, e1, e2⟩ | ⟨h1, h2⟩
    · exact .inl ⟨i, List.mem_range.mp hi, eqK _ _ e1, e2⟩
    · refine .inr ⟨fun i hi z => h1 i (List.mem_range.mpr hi) (by rw [z]), h2, ?_⟩
      rw [List.any_eq_false]
      intro x hx
      obtain ⟨i, hi, rfl⟩ := List.mem_map.mp hx
      simpa using h1 i hi
  have keyNL : ∀ k, NL (st ++ [.dct (begK hK f a k) (begV f a k)]) := fun k => hn.app noLam_beg
  obtain ⟨n0, en0⟩ : ∃ n0, n0 = st.length := ⟨_, rfl⟩
  have getD : ∀ k, (st ++ [O.dct (begK hK f a k) (begV f a k)])[n0]? = some (.dct (begK hK f a k) (begV f a k)) := fun k => by rw [en0]; exact app_get
  have dc : ∀ k, dctOf (.ref n0) (st ++ [O.dct (begK hK f a k) (begV f a k)]) = some (begK hK f a k, begV f a k) := fun k => dctOf_ref (getD k)
  rw [m_repeated_e]
  simp [mOf_e, d_repeated]
  generalize hw : whileN _ _ _ _ _ = r
  obtain ⟨env', st', m', rfl, ⟨k, e7, -, hkt, rfl, rfl, hd⟩, e2⟩ := while_use (I := fun m env s => ∃ (k : Nat) (e7 : Option D), m = 1001 - k ∧ k ≤ times ∧ env = [some run, some (.int (times : Int)), some (hD (itN f k a)), some (.lam kk W cs), some (.ref n0), some (.int (smN f k a)), some (.int (k : Int)), e7, none, none, none, none] ∧ s = st ++ [.dct (begK hK f a k) (begV f a k)] ∧ ∀ i j, i < k → j < k → itN f i a = itN f j a → i = j)
    hw 1001 (fuel_gt (by decide)) ⟨0, none, rfl, Nat.zero_le _, by rw [en0]; rfl, rfl, fun i j h => by omega⟩ (by
      rintro m env s ⟨k, e7, rfl, hkt, rfl, rfl, hd⟩
      by_cases hlt : k < times
      · rcases dec k with ⟨i, hi, e1, e2⟩ | ⟨h1, h2, h3⟩
        · have eh := hasR_of (neg := true) (dc k) (hk1 k) e2
          exact .inl (by simp [hlt, eh])
        · have eh := hasR_of (neg := true) (dc k) (hk1 k) h2
          right
          have k1000 := few k hd
          have hb1 : (begK hK f a k).length ≤ bigLine := by unfold begK; rw [List.length_map, List.length_range]; exact le_big (by omega)
          have g1 := hgo (itN f k a) _ (hP k) (keyNL (k + 1))
          refine ⟨by simp [hlt, eh], [some run, some (.int (times : Int)), some (hD (itN f (k + 1) a)), some (.lam kk W cs), some (.ref n0), some (.int (smN f (k + 1) a)), some (.int ((k + 1 : Nat) : Int)), some (.int (f (itN f k a)).1), none, none, none, none], st ++ [.dct (begK hK f a (k + 1)) (begV f a (k + 1))], 1001 - (k + 1), ?_, by omega, k + 1, _, rfl, by omega, rfl, rfl, ?_⟩
          · have es : setKeyR (.ref n0) (hD (itN f k a)) (.tup [.int (k : Int), .int (smN f k a)]) [some run, some (.int (times : Int)), some (hD (itN f k a)), some (.lam kk W cs), some (.ref n0), some (.int (smN f k a)), some (.int (k : Int)), e7, none, none, none, none] (st ++ [.dct (begK hK f a k) (begV f a k)]) = .nx [some run, some (.int (times : Int)), some (hD (itN f k a)), some (.lam kk W cs), some (.ref n0), some (.int (smN f k a)), some (.int (k : Int)), e7, none, none, none, none] (st ++ [.dct (begK hK f a (k + 1)) (begV f a (k + 1))]) := by
              unfold setKeyR
              rw [hk1 k]
              simp only []
              rw [getD k]
              simp only [hb1, if_true, pkD]
              rw [h3]
              simp only [Bool.false_eq_true, if_false]
              rw [en0, app_set, begK_succ, begV_succ]
            rw [itN_succ, smN_succ]
            simp [b2, es, g1, dAug]
          · intro i j hi hj e
            by_cases hik : i = k
            · by_cases hjk : j = k
              · omega
              · rw [hik] at e; exact absurd e.symm (h1 j (by omega))
            · by_cases hjk : j = k
              · rw [hjk] at e; exact absurd e (h1 i (by omega))
              · exact hd i j (by omega) (by omega) e
      · exact .inl (by simp [hlt]))
  have tail : ∀ (x : α) (T D0 : Int) (r : Nat) (e7 e8 e9 e10 : Option D), P x → (times : Int) - D0 = r → r ≤ 1000 →
      dRepTail
        [some run, some (.int (times : Int)), some (hD x), some (.lam kk W cs), some (.ref n0), some (.int T), some (.int D0), e7, e8, e9, e10, none] (st ++ [.dct (begK hK f a k) (begV f a k)]) = .rt (.tup [.int (T + smN f r x), hD (itN f r x)]) (st ++ [.dct (begK hK f a k) (begV f a k)]) := by
    intro x T D0 r e7 e8 e9 e10 px er hr
    unfold dRepTail
    simp
    rw [er, rgR_ok (n := r) rfl (by omega)]
    simp
    generalize hloop : loop _ _ _ _ _ _ = rr
    obtain ⟨env', st', rfl, e7', e11', rfl, rfl⟩ := for_use1 (I := fun j env s => ∃ e7 e11 : Option D, env = [some run, some (.int (times : Int)), some (hD (itN f j x)), some (.lam kk W cs), some (.ref n0), some (.int (T + smN f j x)), some (.int D0), e7, e8, e9, e10, e11] ∧ s = st ++ [.dct (begK hK f a k) (begV f a k)]) hloop
      ⟨e7, none, by simp [smN, itN], rfl⟩ (fun j y env s hy hI => by
        obtain ⟨e7, e11, rfl, rfl⟩ := hI
        have g1 := hgo (itN f j x) _ (sm_bound hst j x px).1 (keyNL k)
        refine ⟨_, rfl, [some run, some (.int (times : Int)), some (hD (itN f (j + 1) x)), some (.lam kk W cs), some (.ref n0), some (.int (T + smN f (j + 1) x)), some (.int D0), some (.int (f (itN f j x)).1), e8, e9, e10, some y], _, ?_, _, _, rfl, rfl⟩
        rw [itN_succ, smN_succ]
        simp [b2, g1, dAug]
        omega)
    rw [intsD_length]
    simp [b2]
  refine ⟨k, ?_⟩
  rw [← dRepTail_e]
  simp
  by_cases hlt : k < times
  · rcases dec k with ⟨i, hi, e3, e4⟩ | ⟨h1, h2, h3⟩
    · have k1000 := few k hd
      have eg := getR_of (dc k) (hk1 k) e4
      obtain ⟨p, hp⟩ : ∃ p, p = k - i := ⟨_, rfl⟩
      have ep : (k : Int) - (i : Int) = (p : Int) := by omega
      have hp0 : 0 < p := by omega
      obtain ⟨c, hc⟩ : ∃ c, c = (times - k) / p := ⟨_, rfl⟩
      obtain ⟨r, hr⟩ : ∃ r, r = (times - k) % p := ⟨_, rfl⟩
      have hcr : times - k = c * p + r := by rw [hc, hr, Nat.mul_comm]; exact (Nat.div_add_mod _ _).symm
      have hrp : r < p := by rw [hr]; exact Nat.mod_lt _ hp0
      have ec : ((times : Int) - (k : Int)) / (p : Int) = (c : Int) := by
        rw [hc, show (times : Int) - (k : Int) = ((times - k : Nat) : Int) by omega]; rfl
      have c1 : cDivW (p : Int) = true := cDivW_to (by omega) (by omega)
      have cle : c ≤ times := by
        have h1 : c * 1 ≤ c * p := Nat.mul_le_mul_left c hp0
        omega
      have sk := hS k
      have si := hS i
      have kb : k * b ≤ 1000 * 10 ^ 20 := Nat.mul_le_mul k1000 hb
      have ib : i * b ≤ 1000 * 10 ^ 20 := Nat.mul_le_mul (by omega) hb
      have c2 : cMulW (c : Int) (smN f k a - smN f i a) = true := cMulW_to2 (by rw [Int.natAbs_natCast]; omega) (by omega)
      have c3 : cMulW (c : Int) (p : Int) = true := cMulW_to2 (by rw [Int.natAbs_natCast]; omega) (by rw [Int.natAbs_natCast]; omega)
      have per : itN f (k + p) a = itN f k a := by
        rw [itN_add, ← e3, ← itN_add, show i + p = k by omega, e3]
      have sper : smN f (k + p) a - smN f k a = smN f k a - smN f i a := by
        have h1 := smN_add (f := f) k p a
        have h2 := smN_add (f := f) i p a
        rw [e3] at h2
        rw [show i + p = k by omega] at h2
        omega
      have et : times = (k + c * p) + r := by omega
      have fin1 : itN f times a = itN f r (itN f k a) := by
        rw [et, itN_add, it_period per c]
      have fin2 : smN f times a = smN f k a + c * (smN f k a - smN f i a) + smN f r (itN f k a) := by
        rw [et, smN_add, it_period per c, sm_period per c, sper]
      have etail := tail (itN f k a) (smN f k a + c * (smN f k a - smN f i a)) ((k : Int) + (c : Int) * (p : Int)) r e7 (some (.int (i : Int))) (some (.int (smN f i a))) (some (.int (c : Int))) (hP k) (by
        have : ((c * p : Nat) : Int) = (c : Int) * (p : Int) := by rw [Int.natCast_mul]
        omega) (by omega)
      simp only [hlt, if_true, eg]
      simp [ep, ec, c1, c2, c3, dAug]
      rw [etail, fin1, fin2]
      simp
    · exfalso
      have eh := hasR_of (neg := true) (dc k) (hk1 k) h2
      simp [hlt, eh] at e2
  · have ek : k = times := by omega
    subst ek
    have etail := tail (itN f k a) (smN f k a) (k : Int) 0 e7 none none none (hP k) (by omega) (by omega)
    simp only [Nat.lt_irrefl, if_false]
    simp
    rw [etail]
    simp [smN, itN]
end
end DD

namespace DD
open PySem L2 PyProof.Rows
/-! ### tails -/
/-- the tails of codes over the rows -/
def TailP (cs : List Nat) (w : Nat) (t : List Nat) : Prop := ∃ u : List Nat, (∀ c ∈ u, c ∈ cs) ∧ ((t = 94 :: u ∧ u.length + 1 < w) ∨ (t = u ∧ u.length + 1 = w))
def behN (w : Nat) (s : List Nat) : List Nat := if s.length < w then s else s.drop 1
theorem tailP_first {cs ch : List Nat} {w : Nat} (h1 : 1 ≤ w) : TailP cs w (tailN ch w 0) := by
  refine ⟨[], (fun c h => absurd h (by simp)), ?_⟩
  unfold tailN
  by_cases h : 0 + 1 < w
  · rw [if_pos h]; exact .inl ⟨by simp, by simpa using h⟩
  · rw [if_neg h]; exact .inr ⟨by simp; omega, by simp; omega⟩
theorem tailP_in {cs : List Nat} {w c : Nat} {t : List Nat} (h : TailP cs w t) (hc : c ∈ cs) : t ++ [c] ∈ allN cs w := by
  obtain ⟨u, hu, ⟨rfl, hl⟩ | ⟨rfl, hl⟩⟩ := h
  · refine List.mem_append_left _ (heads_mem.mpr ⟨u.length, u ++ [c], by omega, words_mem.mpr ⟨by simp, fun x hx => ?_⟩, rfl⟩)
    rcases List.mem_append.mp hx with z | z
    · exact hu x z
    · rw [List.mem_singleton.mp z]; exact hc
  · refine List.mem_append_right _ (words_mem.mpr ⟨by simp; omega, fun x hx => ?_⟩)
    rcases List.mem_append.mp hx with z | z
    · exact hu x z
    · rw [List.mem_singleton.mp z]; exact hc
theorem tailP_next {cs : List Nat} {w c : Nat} {t : List Nat} (h : TailP cs w t) (hc : c ∈ cs) : TailP cs w (behN w (t ++ [c])) := by
  obtain ⟨u, hu, ⟨rfl, hl⟩ | ⟨rfl, hl⟩⟩ := h
  · have hx : ∀ x ∈ u ++ [c], x ∈ cs := fun x hx => by
      rcases List.mem_append.mp hx with z | z
      · exact hu x z
      · rw [List.mem_singleton.mp z]; exact hc
    refine ⟨u ++ [c], hx, ?_⟩
    unfold behN
    by_cases hlt : (94 :: u ++ [c]).length < w
    · rw [if_pos hlt]; simp at hlt; exact .inl ⟨by simp, by simp; omega⟩
    · rw [if_neg hlt]; simp at hlt; exact .inr ⟨by simp, by simp; omega⟩
  · unfold behN
    rw [if_neg (by simp; omega)]
    refine ⟨(t ++ [c]).drop 1, fun x hx => ?_, .inr ⟨rfl, by simp; omega⟩⟩
    rcases List.mem_append.mp (List.mem_of_mem_drop hx) with z | z
    · exact hu x z
    · rw [List.mem_singleton.mp z]; exact hc
theorem tailP_len {cs : List Nat} {w : Nat} {t : List Nat} (h : TailP cs w t) : t.length + 1 ≤ w := by
  obtain ⟨u, hu, ⟨rfl, hl⟩ | ⟨rfl, hl⟩⟩ := h
  · simp; omega
  · omega
/-- what a code costs behind a tail, and the tail behind it -/
def chg (G : List Nat → Int) (w : Nat) : List Nat → List Nat → Int × List Nat
  | t, [] => (0, t)
  | t, c :: r => (G (t ++ [c]) + (chg G w (behN w (t ++ [c])) r).1, (chg G w (behN w (t ++ [c])) r).2)
theorem chg_app {G : List Nat → Int} {w : Nat} : ∀ (x y t : List Nat), chg G w t (x ++ y) = ((chg G w t x).1 + (chg G w (chg G w t x).2 y).1, (chg G w (chg G w t x).2 y).2)
  | [], y, t => by simp [chg]
  | c :: x, y, t => by simp only [List.cons_append, chg, chg_app x y, Int.add_assoc]
theorem chg_P {G : List Nat → Int} {cs : List Nat} {w b : Nat} (hG : ∀ u ∈ allN cs w, (G u).natAbs ≤ b) : ∀ {ch t : List Nat}, TailP cs w t → (∀ c ∈ ch, c ∈ cs) → TailP cs w (chg G w t ch).2 ∧ (chg G w t ch).1.natAbs ≤ ch.length * b
  | [], t, h, _ => ⟨h, by simp [chg]⟩
  | c :: r, t, h, hc => by
    have h1 := hG _ (tailP_in h (hc c List.mem_cons_self))
    obtain ⟨h2, h3⟩ := chg_P hG (tailP_next h (hc c List.mem_cons_self)) fun x hx => hc x (List.mem_cons_of_mem _ hx)
    refine ⟨h2, ?_⟩
    simp only [chg, List.length_cons]
    have := Int.natAbs_add_le (G (t ++ [c])) (chg G w (behN w (t ++ [c])) r).1
    rw [Nat.add_mul]
    omega
theorem chg_T {G : List Nat → Int} {cs : List Nat} {w : Nat} : ∀ {ch t : List Nat}, TailP cs w t → (∀ c ∈ ch, c ∈ cs) → TailP cs w (chg G w t ch).2
  | [], t, h, _ => h
  | c :: r, t, h, hc => chg_T (ch := r) (tailP_next h (hc c List.mem_cons_self)) fun x hx => hc x (List.mem_cons_of_mem _ hx)
section
variable {st : Sto} {cs ch : List Nat} {w n : Nat} {F : List Nat → Int × Int}
theorem charged_gen {L : Int} {t : List Nat} (hl : ch.length ≤ 1000) (h1 : 1 ≤ w) (h3 : w ≤ 3) (hc : ∀ c ∈ ch, c ∈ cs) (ht : TailP cs w t) :
    m_charged [topD (allN cs w) L F, .int (w : Int), .str (tx t), .str (tx ch)] st = .ok (.tup [.int (chg (topF L F) w t ch).1, .str (tx (chg (topF L F) w t ch).2)]) st := by
  have dc : dctOf (topD (allN cs w) L F) st = some ((allN cs w).map keyN, (allN cs w).map fun u => .int (topF L F u)) := dctOf_fd
  have hb : ch.length ≤ bigLine := le_big hl
  have b2 : 2 ≤ bigLine := by decide
  rw [m_charged_e]
  simp [mOf_e, d_charged, hb]
  generalize hw : loop _ _ _ _ _ _ = r
  obtain ⟨env', st', rfl, e5, rfl, rfl⟩ := for_use1 (I := fun k env s => ∃ e5 : Option D, env = [some (topD (allN cs w) L F), some (.int (w : Int)), some (.str (tx (chg (topF L F) w t (ch.take k)).2)), some (.str (tx ch)), some (.int (chg (topF L F) w t (ch.take k)).1), e5] ∧ s = st) hw
    ⟨none, by simp [chg], rfl⟩ (fun k x env s hx hI => by
      obtain ⟨e5, rfl, rfl⟩ := hI
      rw [List.getElem?_map] at hx
      obtain ⟨c, hcc, rfl⟩ := Option.map_eq_some_iff.mp hx
      have hcs : c ∈ cs := hc c (List.mem_of_getElem? hcc)
      have hp := chg_T (G := topF L F) (ch := ch.take k) ht fun x hx => hc x (List.mem_of_mem_take hx)
      have et : ch.take (k + 1) = ch.take k ++ [c] := by rw [List.take_add_one, hcc]; rfl
      rw [et, chg_app]
      generalize (chg (topF L F) w t (ch.take k)).2 = tt at hp
      generalize (chg (topF L F) w t (ch.take k)).1 = S
      have hl2 := tailP_len hp
      have hin := tailP_in hp hcs
      have b1 : tt.length + 1 ≤ bigLine := le_big (by omega)
      have e3 := getR_of (st := s) dc keyD_str (look_map (F := fun u => D.int (topF L F u)) hin)
      have e4 := tail_behind_ok (st := s) (w := w) (u := tt ++ [c]) (by simp; omega)
      refine ⟨_, rfl, [some (topD (allN cs w) L F), some (.int (w : Int)), some (.str (tx (behN w (tt ++ [c])))), some (.str (tx ch)), some (.int (S + topF L F (tt ++ [c]))), some (.str (tx [c]))], s, ?_, some (.str (tx [c])), by simp [chg], rfl⟩
      have e3' : getR (topD (allN cs w) L F) (.str (tx (tt ++ [c]))) s = .ok (.int (topF L F (tt ++ [c]))) s := e3
      have e4' : m_tail_behind [.str (tx (tt ++ [c])), .int (w : Int)] s = .ok (.str (tx (behN w (tt ++ [c])))) s := e4
      simp [dAug, b1, e3', e4'])
  have : ch.take ch.length = ch := List.take_length
  simp [b2, this]
end
/-! ### long runs -/
section
variable {α R : Type} [DecidableEq α] {st : Sto} {hD : α → D} {hK : α → Key} {P : α → Prop} {f : R → α → Int × α} {a : α} {lam : D} {rD : R → D} {all : List α} {b : Nat}
def turnD (rD : R → D) (p : R × Nat) : D := .tup [rD p.1, .int (p.2 : Int)]
def sumL (f : R → α → Int × α) : List (R × Nat) → α → Int × α
  | [], a => (0, a)
  | (r, t) :: l, a => (smN (f r) t a + (sumL f l (itN (f r) t a)).1, (sumL f l (itN (f r) t a)).2)
/-- things put behind the store, without lambdas and without what leads into it -/
def More (st st' : Sto) : Prop := ∃ more : Sto, st' = st ++ more ∧ NL more ∧ ∀ o ∈ more, NoRefO o
theorem More.refl : More st st := ⟨[], by simp, rfl, fun o h => by cases h⟩
theorem More.trans {s1 s2 s3 : Sto} (h : More s1 s2) (k : More s2 s3) : More s1 s3 := by
  obtain ⟨m1, rfl, h2, h3⟩ := h
  obtain ⟨m2, rfl, k2, k3⟩ := k
  refine ⟨m1 ++ m2, by simp, ?_, fun o ho => (List.mem_append.mp ho).elim (h3 o) (k3 o)⟩
  unfold NL at *
  rw [List.all_append, h2, k2]; rfl
theorem More.nl {s1 s2 : Sto} (h : More s1 s2) (k : NL s1) : NL s2 := by
  obtain ⟨m, rfl, h2, _⟩ := h
  unfold NL at *
  rw [List.all_append, h2, k]; rfl
theorem More.noRef {s1 s2 : Sto} (h : More s1 s2) (k : NoRef s1) : NoRef s2 := by
  obtain ⟨m, rfl, _, h3⟩ := h
  exact fun o ho => (List.mem_append.mp ho).elim (k o) (h3 o)
theorem More.hg {n : Nat} {s1 s2 : Sto} (h : More s1 s2) (k : HG n s1) : HG n s2 := by
  obtain ⟨m, rfl, _, _⟩ := h
  have := k.lt
  obtain ⟨h, e⟩ := k
  exact ⟨h, by rw [List.getElem?_append_left this]; exact e⟩
theorem summed_ok (hk : ∀ a, P a → keyD (hD a) = some (hK a) ∧ noLam (hD a) = true) (hinj : ∀ a b, P a → P b → hK a = hK b → a = b) (hall : ∀ a, P a → a ∈ all) (hB : all.length ≤ 1000) (hb : b ≤ 10 ^ 20) {l : List (R × Nat)}
    (hst : ∀ p ∈ l, ∀ a, P a → P (f p.1 a).2 ∧ (f p.1 a).1.natAbs ≤ b) (hgo : ∀ p ∈ l, ∀ a s, P a → NL s → lamGoR tab_repeated_once lam [hD a, rD p.1] s = .ok (.tup [.int (f p.1 a).1, hD (f p.1 a).2]) s) (hlam : ∃ kk W cs, lam = .lam kk W cs)
    (ha : P a) (hn : NL st) (ht : ∀ p ∈ l, p.2 ≤ 10 ^ 30) (hl : l.length ≤ 1000) :
    ∃ st', m_summed [.tup (l.map (turnD rD)), hD a, lam] st = .ok (.int (sumL f l a).1) st' ∧ More st st' := by
  have key : ∀ (l2 : List (R × Nat)), (∀ p ∈ l2, p ∈ l) → ∀ (a : α) (T : Int) (s : Sto) (e4 e5 e6 : Option D), P a → NL s → ∃ (st' : Sto) (e4' e5' e6' : Option D),
      loop (gdTup 2 (gdCons (gdName 4) (gdCons (gdName 5) gdNil))) (dSeq (dAsg (dOwn m_repeated 4 (dCons (dVar 4) (dCons (dVar 5) (dCons (dVar 1) (dCons (dVar 2) dNil))))) (gdTup 2 (gdCons (gdName 6) (gdCons (gdName 1) gdNil)))) (dAug 3 (fun i j => i + j) (dVar 6))) yes (l2.map (turnD rD))
        [some (.tup (l.map (turnD rD))), some (hD a), some lam, some (.int T), e4, e5, e6] s = .nx [some (.tup (l.map (turnD rD))), some (hD (sumL f l2 a).2), some lam, some (.int (T + (sumL f l2 a).1)), e4', e5', e6'] st' ∧ More s st' := by
    intro l2
    induction l2 with
    | nil => intro _ a T s e4 e5 e6 _ _; exact ⟨s, e4, e5, e6, by simp [loop, sumL, yes], More.refl⟩
    | cons p l2 ih =>
      intro hm a T s e4 e5 e6 pa hs
      obtain ⟨r, t⟩ := p
      have hp := hm (r, t) List.mem_cons_self
      obtain ⟨k, er⟩ := repeated_ok (f := f r) (run := rD r) hk hinj hall hB (hst _ hp) hb (hgo _ hp) hlam pa hs (ht _ hp)
      have m1 : More s (s ++ [.dct (begK hK (f r) a k) (begV (f r) a k)]) := ⟨_, rfl, by unfold NL; simp [noLam_beg], fun o ho => by rw [List.mem_singleton.mp ho]; exact noRef_beg⟩
      obtain ⟨st', e4', e5', e6', e, m2⟩ := ih (fun q hq => hm q (List.mem_cons_of_mem _ hq)) (itN (f r) t a) (T + smN (f r) t a) _ (some (rD r)) (some (.int (t : Int))) (some (.int (smN (f r) t a))) (sm_bound (hst _ hp) t a pa).1 (m1.nl hs)
      refine ⟨st', e4', e5', e6', ?_, m1.trans m2⟩
      rw [List.map_cons, loop_step (env1 := [some (.tup (l.map (turnD rD))), some (hD a), some lam, some (.int T), some (rD r), some (.int (t : Int)), e6]) (env2 := [some (.tup (l.map (turnD rD))), some (hD (itN (f r) t a)), some lam, some (.int (T + smN (f r) t a)), some (rD r), some (.int (t : Int)), some (.int (smN (f r) t a))]) (st2 := s ++ [.dct (begK hK (f r) a k) (begV (f r) a k)]) (by simp [turnD]) (by simp [er, dAug]), e]
      simp only [sumL, Int.add_assoc]
  obtain ⟨st', e4, e5, e6, e, m⟩ := key l (fun p h => h) a 0 st none none none ha hn
  refine ⟨st', ?_, m⟩
  rw [m_summed_e]
  simp [mOf_e, d_summed, e]
end
end DD

namespace DD
open PySem L2 PyProof.Rows
/-! ### long_ticks, long_price -/
section
variable {st : Sto} {w : Mach}
/-- a run by its parts -/
abbrev RP := (List Nat × List Nat)
def rpD (r : RP) : D := runD r.1 r.2
theorem noLam_run {ch as : List Nat} : noLam (runD ch as) = true := by
  have : noLams (as.map aD) = true := noLams_map (fun _ => rfl) _
  simp [runD, noLam, noLams, this]
theorem noLam_mach : noLam (machO w) = true := by
  have : noLams (w.mv.map itD) = true := noLams_map (f := itD) (fun it => show noLams (it.map psD) = true from noLams_map (f := psD) (fun ps => show noLams (ps.map pD) = true from noLams_map (f := pD) (fun p => rfl) ps) it) w.mv
  simp [machO, mvD, noLam, noLams, this]
theorem walk_le (h : MachOk w) : ∀ {ch as : List Nat} {at' : Nat}, at' < w.mv.length → (∀ c ∈ ch, c ∈ w.rows) → (∀ a ∈ as, a < w.ans) → (walk w ch as at').1 ≤ ch.length * 99
  | [], _, _, _, _, _ => by simp [walk]
  | _ :: _, [], _, _, _, _ => by simp [walk]
  | c :: ch, a :: as, at', h1, h2, h3 => by
    obtain ⟨it, ps, t, g, i, _, _, x3, x4, x5, e, hg⟩ := step_ok h h1 (h2 c List.mem_cons_self) (h3 a List.mem_cons_self)
    have q2 := ((h.it it (List.mem_of_getElem? x3)).2 ps (List.mem_of_getElem? x4)).2 (t, g) (List.mem_of_getElem? x5)
    have q2 : 1 ≤ t ∧ t ≤ 99 ∧ g < w.mv.length := q2
    have ih := walk_le (ch := ch) (as := as) h hg (fun c hc => h2 c (List.mem_cons_of_mem _ hc)) (fun a ha => h3 a (List.mem_cons_of_mem _ ha))
    simp only [walk, e, List.length_cons]
    omega
noncomputable def tkF (w : Mach) (r : RP) (a : Nat) : Int × Nat := (((walk w r.1 r.2 a).1 : Int), (walk w r.1 r.2 a).2)
theorem lam0_go (h : MachOk w) {r : RP} (hr : RunOk w r.1 r.2) {a : Nat} (ha : a < w.mv.length) (hn : NL st) : lamGoR tab_repeated_once (.lam 0 lw_la_long_ticks_0 [machO w]) [.int (a : Int), rpD r] st = .ok (.tup [.int (tkF w r a).1, .int ((tkF w r a).2 : Int)]) st := by
  refine lamGoR_ok ?_ (by simp [noLams, noLam, rpD, noLam_run]) (by simp [noLams, noLam_mach]) hn rfl
  unfold tab_repeated_once
  rw [tabCons_hit, m_la_long_ticks_0_e]
  have e := walked_ok (st := st) h ha hr
  simp [mLam, dl_la_long_ticks_0, rpD, e, tkF]
structure LongOk (w : Mach) (l : List (RP × Nat)) : Prop where
  run : ∀ p ∈ l, RunOk w p.1.1 p.1.2
  times : ∀ p ∈ l, p.2 ≤ 10 ^ 30
  len : l.length ≤ 1000
def longD (l : List (RP × Nat)) : D := .tup (l.map (turnD rpD))
theorem long_ticks_ok (h : MachOk w) {l : List (RP × Nat)} (hl : LongOk w l) (hn : NL st) (hg : GD (longD l)) (hj : longJ w.rows w.ans (longD l) = true) :
    ∃ st', m_long_ticks [machO w, longD l] st = .ok (.int (sumL (tkF w) l 0).1) st' ∧ More st st' := by
  have e1 := check_long_gen (st := st) (cs := w.rows) (ans := (w.ans : Int)) hg
  rw [if_pos hj] at e1
  obtain ⟨st', e2, m⟩ := summed_ok (f := tkF w) (rD := rpD) (hD := fun a : Nat => D.int (a : Int)) (hK := fun a : Nat => (Sum.inl (a : Int) : Key)) (P := fun a => a < w.mv.length) (all := List.range 12) (b := 1000 * 99) (a := 0) (lam := .lam 0 lw_la_long_ticks_0 [machO w]) (l := l) (st := st)
    (fun a _ => ⟨rfl, rfl⟩) (fun a b _ _ e => by have := Sum.inl.inj e; omega) (fun a ha => List.mem_range.mpr (by have := h.mv12; omega)) (by simp) (by decide)
    (fun p hp a ha => by
      have hr := hl.run p hp
      refine ⟨walk_lt h ha hr.rows hr.ans, ?_⟩
      have := walk_le h ha hr.rows hr.ans
      have := hr.big
      show ((walk w p.1.1 p.1.2 a).1 : Int).natAbs ≤ _
      rw [Int.natAbs_natCast]
      omega)
    (fun p hp a s ha hs => lam0_go h (hl.run p hp) ha hs) ⟨_, _, _, rfl⟩ (by have := h.mv1; omega) hn hl.times hl.len
  refine ⟨st', ?_, m⟩
  have e3 := ownLamR_ok (n := 3) (k := 0) (lw := lw_la_long_ticks_0) (xs := [longD l, .int 0]) rfl e2 rfl (m.nl hn)
  rw [m_long_ticks_e]
  simp [mOf_e, d_long_ticks, fld_rows, fld_answers, e1, capsE, e3]
theorem long_ticks_no {d : D} (hg : GD d) (hj : longJ w.rows w.ans d = false) : m_long_ticks [machO w, d] st = .exc ("NoLong", none) st := by
  have e1 := check_long_gen (st := st) (cs := w.rows) (ans := (w.ans : Int)) hg
  rw [hj] at e1
  rw [m_long_ticks_e]
  simp [mOf_e, d_long_ticks, fld_rows, fld_answers, e1]
end
section
variable {st : Sto} {cs : List Nat} {w : Nat} {F : List Nat → Int × Int} {L : Int}
theorem noLam_top {ks : List (List Nat)} : noLam (topD ks L F) = true := noLams_map (fun _ => rfl) _
def prF (L : Int) (F : List Nat → Int × Int) (w : Nat) (r : RP) (t : List Nat) : Int × List Nat := chg (topF L F) w t r.1
theorem lam1_go {r : RP} (h1 : 1 ≤ w) (h3 : w ≤ 3) (hl : r.1.length ≤ 1000) (hc : ∀ c ∈ r.1, c ∈ cs) {t : List Nat} (ht : TailP cs w t) (hn : NL st) : lamGoR tab_repeated_once (.lam 1 lw_la_long_price_0 [topD (allN cs w) L F, .int (w : Int)]) [.str (tx t), rpD r] st = .ok (.tup [.int (prF L F w r t).1, .str (tx (prF L F w r t).2)]) st := by
  refine lamGoR_ok ?_ (by simp [noLams, noLam, rpD, noLam_run]) (by simp [noLams, noLam_top, noLam]) hn rfl
  unfold tab_repeated_once
  rw [tabCons_miss rfl, tabCons_hit, m_la_long_price_0_e]
  have e := charged_gen (st := st) (F := F) (L := L) hl h1 h3 hc ht
  simp [mLam, dl_la_long_price_0, rpD, runD, e, prF]
structure LongP (cs : List Nat) (l : List (RP × Nat)) : Prop where
  run : ∀ p ∈ l, p.1.1.length ≤ 1000 ∧ ∀ c ∈ p.1.1, c ∈ cs
  times : ∀ p ∈ l, p.2 ≤ 10 ^ 30
  len : l.length ≤ 1000
theorem topF_le {L : Int} {u : List Nat} (h : Fr30 (F u)) (hL : 0 < L) (hd : L ∣ MM) : (topF L F u).natAbs ≤ 10 ^ 16 := by
  have h1 := dvd_le hd MM_pos
  have h2 : L / (F u).2 ≤ L := div_le' (by omega) h.1
  have h3 : 0 ≤ L / (F u).2 := div_nn (by omega) h.1
  have h4 := h.2.2.1
  unfold topF
  rw [Int.natAbs_mul]
  have h5 : (L / (F u).2).natAbs ≤ 2329089562800 := by
    have : MM = 2329089562800 := rfl
    omega
  have := Nat.mul_le_mul h4 h5
  omega
theorem long_price_ok {l : List (RP × Nat)} (hF : ∀ u ∈ allN cs w, Fr30 (F u)) (nd : (allN cs w).Nodup) (al : (allN cs w).length ≤ 1000) (h1 : 1 ≤ w) (h3 : w ≤ 3) (hne : cs ≠ []) (hl : LongP cs l) (hn : NL st) (hg : GD (longD l)) (hj : longJ cs 3 (longD l) = true) :
    ∃ (L : Int) (st' : Sto), m_long_price [priD cs w F, longD l] st = .ok (frV (red (sumL (prF L F w) l (tailN [] w 0)).1 L)) st' ∧ More st st' ∧ 0 < L ∧ L ∣ MM ∧ ∀ u ∈ allN cs w, (F u).2 ∣ L := by
  have e1 := check_long_gen (st := st) (cs := cs) (ans := 3) hg
  rw [if_pos hj] at e1
  obtain ⟨L, e4, hL, hd, hdv⟩ := shared_ok (st := st) (fun u hu => (hF u hu).ok) nd al
  have e5 := first_tail_ok (st := st) (ch := []) h1
  obtain ⟨c0, hc0⟩ : ∃ c0, c0 ∈ cs := by
    cases cs with
    | nil => exact absurd rfl hne
    | cons c r => exact ⟨c, List.mem_cons_self⟩
  have hG : ∀ u ∈ allN cs w, (topF L F u).natAbs ≤ 10 ^ 16 := fun u hu => topF_le (hF u hu) hL hd
  obtain ⟨st', e2, m⟩ := summed_ok (f := prF L F w) (rD := rpD) (hD := fun t : List Nat => D.str (tx t)) (hK := fun t : List Nat => (Sum.inr (tx t) : Key)) (P := TailP cs w) (all := (allN cs w).map List.dropLast) (b := 1000 * 10 ^ 16) (a := tailN [] w 0) (lam := .lam 1 lw_la_long_price_0 [topD (allN cs w) L F, .int (w : Int)]) (l := l) (st := st)
    (fun a _ => ⟨rfl, rfl⟩) (fun a b _ _ e => by simpa [tx_inj] using e) (fun t ht => List.mem_map.mpr ⟨t ++ [c0], tailP_in ht hc0, by simp⟩) (by rw [List.length_map]; exact al) (by decide)
    (fun p hp t ht => by
      obtain ⟨q1, q2⟩ := hl.run p hp
      obtain ⟨q3, q4⟩ := chg_P hG ht q2
      refine ⟨q3, Nat.le_trans q4 (Nat.mul_le_mul_right _ q1)⟩)
    (fun p hp t s ht hs => lam1_go h1 h3 (hl.run p hp).1 (hl.run p hp).2 ht hs) ⟨_, _, _, rfl⟩ (tailP_first h1) hn hl.times hl.len
  refine ⟨L, st', ?_, m, hL, hd, hdv⟩
  have e3 := ownLamR_ok (n := 3) (k := 1) (lw := lw_la_long_price_0) (xs := [longD l, .str (tx (tailN [] w 0))]) rfl e2 rfl (m.nl hn)
  have le1 := dvd_le hd MM_pos
  have e6 := lowest_ok (st := st') (tp := (sumL (prF L F w) l (tailN [] w 0)).1) (bt := L) hL (by have := MM_lt; omega)
  rw [m_long_price_e]
  simp [mOf_e, d_long_price, fld_rowsP, fld_widthP, e1, e4, e5, capsE, e3, e6]
theorem long_price_no {d : D} (hg : GD d) (hj : longJ cs 3 d = false) : m_long_price [priD cs w F, d] st = .exc ("NoLong", none) st := by
  have e1 := check_long_gen (st := st) (cs := cs) (ans := 3) hg
  rw [hj] at e1
  rw [m_long_price_e]
  simp [mOf_e, d_long_price, fld_rowsP, e1]
end
/-! ### values of some depth; the state -/
theorem gd_int {i : Int} : GD (.int i) := gd_other rfl rfl rfl
theorem gd_fz {l : List D} : GD (.fz l) := gd_other rfl rfl rfl
theorem gd_non : GD .non := gd_other rfl rfl rfl
theorem gd_pair {a b : D} (ha : GD a) (hb : GD b) : GD (.tup [a, b]) := gd_tup (by simp) fun x hx => by
  simp only [List.mem_cons, List.not_mem_nil, or_false] at hx
  rcases hx with rfl | rfl
  · exact ha
  · exact hb
theorem gd_one {a : D} (ha : GD a) : GD (.tup [a]) := gd_tup (by simp) fun x hx => by rw [List.mem_singleton.mp hx]; exact ha
theorem gd_tx {ch : List Nat} (h : ch.length ≤ 1000) : GD (.str (tx ch)) := gd_str h
theorem gd_as {as : List Nat} (h : as.length ≤ 900) {more : List D} (hm : more.length ≤ 100) (hg : ∀ x ∈ more, GD x) : GD (.tup (as.map aD ++ more)) := gd_tup (by simp; omega) fun x hx => by
  rcases List.mem_append.mp hx with z | z
  · obtain ⟨a, _, rfl⟩ := List.mem_map.mp z
    exact gd_int
  · exact hg x z
theorem gd_run {ch as : List Nat} (h1 : ch.length ≤ 900) (h2 : as.length ≤ 900) : GD (runD ch as) := by
  have := gd_as (as := as) (more := []) h2 (by simp) (fun x hx => by cases hx)
  rw [List.append_nil] at this
  exact gd_pair (gd_tx (by omega)) this
theorem cutL_mem {α : Type} {l : List α} {lo hi : Option Int} {x : α} (h : x ∈ cutL l lo hi) : x ∈ l := List.mem_of_mem_drop (List.mem_of_mem_take h)
theorem NL.dr {n : Nat} {st st' : Sto} (h : NL st) (d : Dr n st st') : NL st' := by
  obtain ⟨hh, rfl⟩ := d
  refine h.set ?_
  have : noLams (hh.cells.map D.int) = true := noLams_map (fun _ => rfl) _
  simp [Hand.ds, noLamO, noLams, noLam, this]
/-- what stays so -/
structure St (st : Sto) : Prop where
  hg : HG 0 st
  nr : NoRef st
  nl : NL st
theorem St.dr {st st' : Sto} (h : St st) (d : Dr 0 st st') : St st' := ⟨d.hg h.hg, h.nr.dr d, h.nl.dr d⟩
theorem St.more {st st' : Sto} (h : St st) (d : More st st') : St st' := ⟨d.hg h.hg, d.noRef h.nr, d.nl h.nl⟩
theorem St.app {st : Sto} {o : O} (h : St st) (h1 : NoRefO o) (h2 : noLamO o = true) : St (st ++ [o]) := ⟨h.hg.app, h.nr.app h1, h.nl.app h2⟩
section
variable {cs : List Nat}
theorem gd_rps {l : List (RP × Nat)} (h : ∀ p ∈ l, p.1.1.length = p.1.2.length ∧ p.1.1.length ≤ 30) (hl : l.length ≤ 3) : GD (longD l) := gd_tup (by rw [List.length_map]; omega) fun x hx => by
  obtain ⟨p, hp, rfl⟩ := List.mem_map.mp hx
  obtain ⟨q1, q2⟩ := h p hp
  exact gd_pair (gd_run (by omega) (by omega)) gd_int
theorem longJ_rps {aa : Int} {l : List (RP × Nat)} (h : ∀ p ∈ l, p.1.1.length = p.1.2.length ∧ (∀ c ∈ p.1.1, c ∈ cs) ∧ (∀ b ∈ p.1.2, (b : Int) < aa)) : longJ cs aa (longD l) = true := by
  show (l.map (turnD rpD)).all _ = true
  rw [List.all_eq_true]
  intro x hx
  obtain ⟨p, hp, rfl⟩ := List.mem_map.mp hx
  obtain ⟨q1, q3, q4⟩ := h p hp
  show ((codeJ cs (.str (tx p.1.1)) && tupJ (lenS (.str (tx p.1.1))) (numD 0 (aa - 1)) (.tup (p.1.2.map aD))) && natJ (.int (p.2 : Int))) = true
  have e1 : codeJ cs (.str (tx p.1.1)) = true := by
    show (tx p.1.1).cps.toList.all _ = true
    rw [tx_list, List.all_eq_true]
    exact fun c hc => decide_eq_true (q3 c hc)
  have e2 : tupJ (lenS (.str (tx p.1.1))) (numD 0 (aa - 1)) (.tup (p.1.2.map aD)) = true := by
    show (decide (((p.1.2.map aD).length : Int) = ((tx p.1.1).length : Int)) && (p.1.2.map aD).all _) = true
    rw [Bool.and_eq_true, List.all_eq_true, List.length_map]
    refine ⟨decide_eq_true (by show (p.1.2.length : Int) = (p.1.1.length : Int); omega), fun y hy => ?_⟩
    obtain ⟨b, hb, rfl⟩ := List.mem_map.mp hy
    have := q4 b hb
    show (decide ((0 : Int) ≤ b) && decide ((b : Int) ≤ aa - 1)) = true
    rw [Bool.and_eq_true]
    exact ⟨decide_eq_true (by omega), decide_eq_true (by omega)⟩
  rw [e1, e2]
  simp [natJ]
end
theorem ne_told (x y : Str) (st : Sto) (h : PyData.strOk x = true) (h2 : PyData.strOk y = true) : fEq true (.str x) (.str y) st = .ok (.bl (!decide (x = y))) st := fEq_str h h2
end DD

namespace DD
open PySem L2 PyProof.Rows
theorem run_ok {n : Nat} {st : Sto} {cs : List Nat} {ans many : Nat} (hg : HG n st) (hc : RowsOk cs) (h1 : 1 ≤ ans) (h2 : ans ≤ 3) (hm : many ≤ 900) :
    ∃ (ch as : List Nat) (st' : Sto), m_law_run [.ref n, .str (tx cs), .int (ans : Int), .int (many : Int)] st = .ok (runD ch as) st' ∧ Dr n st st' ∧ ch.length = many ∧ as.length = many ∧ (∀ c ∈ ch, c ∈ cs) ∧ ∀ a ∈ as, a < ans := by
  obtain ⟨_, _, c1, c4⟩ := hc
  rw [m_law_run_e]
  simp [mOf_e, d_law_run, isStr]
  rw [rgR_ok (n := many) rfl (by omega)]
  have hb : many ≤ bigLine := Nat.le_trans hm (by decide)
  have hlen : (tx cs).length ≤ bigLine := Nat.le_trans (show cs.length ≤ 4 from c4) (by decide)
  simp [intsD_length, hb]
  generalize hloop : lcLoop _ _ _ _ _ _ _ = r
  obtain ⟨ys, st', rfl, dr, l, hy⟩ := lc_use (fun st' => Dr n st st') (fun y => ∃ c : Nat, y = .str (tx [c]) ∧ c ∈ cs) hloop (Dr.refl hg) (fun x hx st2 dr2 => by
    obtain ⟨a, st3, ha, e3, dr3⟩ := draw (many := cs.length) (dr2.hg hg) (by omega) (by omega)
    have hi : a < cs.length := by omega
    have hix : (tx cs).cps.toList[a]? = some cs[a] := by rw [tx_list]; exact List.getElem?_eq_getElem hi
    exact ⟨_, .str (tx [cs[a]]), st3, rfl, by simp [wipe_set, fLen_str hlen, e3, fIx_str hlen hix], dr2.trans dr3, cs[a], rfl, List.getElem_mem hi⟩)
  obtain ⟨ch, rfl, hch⟩ := list_of ys hy
  rw [List.length_map, intsD_length] at l
  have hb2 : ch.length ≤ bigLine := by rw [l]; exact hb
  clear hloop hy
  simp only [Res.bind_ok, tx_nil, fJoin_signs hb2]
  simp [hb2]
  generalize hloop : lcLoop _ _ _ _ _ _ _ = r
  obtain ⟨ys, st2, rfl, dr2, l2, hy⟩ := lc_use (fun st' => Dr n st st') (fun y => ∃ a : Nat, y = aD a ∧ a < ans) hloop dr (fun x hx st2 dr2 => by
    obtain ⟨a, st3, ha, e3, dr3⟩ := draw (many := ans) (dr2.hg hg) (by omega) (by omega)
    exact ⟨_, aD a, st3, rfl, by simp [wipe_set, e3, aD], dr2.trans dr3, a, rfl, by omega⟩)
  obtain ⟨as, rfl, has⟩ := list_of ys hy
  rw [List.length_map, List.length_map] at l2
  have hb3 : 2 ≤ bigLine := by decide
  exact ⟨ch, as, st2, by simp [runD, hb3], dr2, l, by omega, hch, has⟩
/-! ### k15: runs that are repeated, written out -/
section
variable {w : Mach} {st : Sto}
def repL (n : Nat) (l : List Nat) : List Nat := (List.replicate n l).flatten
theorem repL_succ {n : Nat} {l : List Nat} : repL (n + 1) l = l ++ repL n l := by simp [repL, List.replicate_succ]
theorem repL_len {n : Nat} {l : List Nat} : (repL n l).length = n * l.length := by
  induction n with
  | zero => simp [repL]
  | succ n ih => rw [repL_succ, List.length_append, ih, Nat.add_mul]; omega
theorem repL_mem {n : Nat} {l : List Nat} {x : Nat} (h : x ∈ repL n l) : x ∈ l := by
  induction n with
  | zero => simp [repL] at h
  | succ n ih =>
    rw [repL_succ] at h
    rcases List.mem_append.mp h with z | z
    · exact z
    · exact ih z
theorem walk_rep {r : RP} (hl : r.1.length = r.2.length) : ∀ (n a : Nat), ((walk w (repL n r.1) (repL n r.2) a).1 : Int) = smN (tkF w r) n a ∧ (walk w (repL n r.1) (repL n r.2) a).2 = itN (tkF w r) n a
  | 0, a => by simp [repL, walk, smN, itN]
  | n + 1, a => by
    rw [repL_succ, repL_succ, walk_app hl]
    obtain ⟨h1, h2⟩ := walk_rep hl n (walk w r.1 r.2 a).2
    simp only [smN, itN, tkF]
    exact ⟨by rw [← h1]; omega, h2⟩
def wr1 : List (RP × Nat) → List Nat
  | [] => []
  | p :: l => repL p.2 p.1.1 ++ wr1 l
def wr2 : List (RP × Nat) → List Nat
  | [] => []
  | p :: l => repL p.2 p.1.2 ++ wr2 l
theorem wr_len : ∀ {l : List (RP × Nat)}, (∀ p ∈ l, p.1.1.length = p.1.2.length) → (wr1 l).length = (wr2 l).length
  | [], _ => rfl
  | p :: l, h => by
    simp only [wr1, wr2, List.length_append, repL_len, h p List.mem_cons_self, wr_len fun q hq => h q (List.mem_cons_of_mem _ hq)]
theorem wr1_mem : ∀ {l : List (RP × Nat)} {x : Nat}, x ∈ wr1 l → ∃ p ∈ l, x ∈ p.1.1
  | [], x, h => by simp [wr1] at h
  | p :: l, x, h => by
    rcases List.mem_append.mp h with z | z
    · exact ⟨p, List.mem_cons_self, repL_mem z⟩
    · obtain ⟨q, hq, hx⟩ := wr1_mem z
      exact ⟨q, List.mem_cons_of_mem _ hq, hx⟩
theorem wr2_mem : ∀ {l : List (RP × Nat)} {x : Nat}, x ∈ wr2 l → ∃ p ∈ l, x ∈ p.1.2
  | [], x, h => by simp [wr2] at h
  | p :: l, x, h => by
    rcases List.mem_append.mp h with z | z
    · exact ⟨p, List.mem_cons_self, repL_mem z⟩
    · obtain ⟨q, hq, hx⟩ := wr2_mem z
      exact ⟨q, List.mem_cons_of_mem _ hq, hx⟩
theorem wr_bound {b : Nat} : ∀ {l : List (RP × Nat)}, (∀ p ∈ l, p.2 * p.1.1.length ≤ b) → (wr1 l).length ≤ l.length * b
  | [], _ => by simp [wr1]
  | p :: l, h => by
    have h1 := h p List.mem_cons_self
    have h2 := wr_bound (l := l) fun q hq => h q (List.mem_cons_of_mem _ hq)
    simp only [wr1, List.length_append, repL_len, List.length_cons, Nat.add_mul]
    omega
theorem wr_snoc1 : ∀ {l : List (RP × Nat)} {p : RP × Nat}, wr1 (l ++ [p]) = wr1 l ++ repL p.2 p.1.1
  | [], p => by simp [wr1]
  | q :: l, p => by simp only [List.cons_append, wr1, wr_snoc1 (l := l), List.append_assoc]
theorem wr_snoc2 : ∀ {l : List (RP × Nat)} {p : RP × Nat}, wr2 (l ++ [p]) = wr2 l ++ repL p.2 p.1.2
  | [], p => by simp [wr2]
  | q :: l, p => by simp only [List.cons_append, wr2, wr_snoc2 (l := l), List.append_assoc]
theorem walk_wr : ∀ {l : List (RP × Nat)} (a : Nat), (∀ p ∈ l, p.1.1.length = p.1.2.length) → ((walk w (wr1 l) (wr2 l) a).1 : Int) = (sumL (tkF w) l a).1 ∧ (walk w (wr1 l) (wr2 l) a).2 = (sumL (tkF w) l a).2
  | [], a, _ => by simp [wr1, wr2, walk, sumL]
  | (r, t) :: l, a, h => by
    have hp : r.1.length = r.2.length := h (r, t) List.mem_cons_self
    obtain ⟨h1, h2⟩ := walk_rep (w := w) hp t a
    have hl : (repL t r.1).length = (repL t r.2).length := by rw [repL_len, repL_len, hp]
    obtain ⟨h3, h4⟩ := walk_wr (l := l) (itN (tkF w r) t a) fun q hq => h q (List.mem_cons_of_mem _ hq)
    simp only [wr1, wr2, walk_app hl, sumL]
    rw [h2]
    exact ⟨by rw [← h1, ← h3]; omega, h4⟩
theorem sumL_app {α R : Type} {f : R → α → Int × α} : ∀ (x y : List (R × Nat)) (a : α), sumL f (x ++ y) a = ((sumL f x a).1 + (sumL f y (sumL f x a).2).1, (sumL f y (sumL f x a).2).2)
  | [], y, a => by simp [sumL]
  | (r, t) :: x, y, a => by simp only [List.cons_append, sumL, sumL_app x y, Int.add_assoc]
/-! prices -/
theorem chg_rep {G : List Nat → Int} {wd : Nat} {c : List Nat} : ∀ (n : Nat) (t : List Nat), (chg G wd t (repL n c)).1 = smN (fun t => chg G wd t c) n t ∧ (chg G wd t (repL n c)).2 = itN (fun t => chg G wd t c) n t
  | 0, t => by simp [repL, chg, smN, itN]
  | n + 1, t => by
    rw [repL_succ, chg_app]
    obtain ⟨h1, h2⟩ := chg_rep (G := G) (wd := wd) (c := c) n (chg G wd t c).2
    simp only [smN, itN]
    exact ⟨by rw [h1], h2⟩
theorem chg_wr {L : Int} {F : List Nat → Int × Int} {wd : Nat} : ∀ {l : List (RP × Nat)} (t : List Nat), (chg (topF L F) wd t (wr1 l)).1 = (sumL (prF L F wd) l t).1 ∧ (chg (topF L F) wd t (wr1 l)).2 = (sumL (prF L F wd) l t).2
  | [], t => by simp [wr1, chg, sumL]
  | (r, n) :: l, t => by
    obtain ⟨h1, h2⟩ := chg_rep (G := topF L F) (wd := wd) (c := r.1) n t
    obtain ⟨h3, h4⟩ := chg_wr (L := L) (F := F) (wd := wd) (l := l) (itN (fun t => chg (topF L F) wd t r.1) n t)
    simp only [wr1, chg_app, sumL, h2]
    rw [h1, h3]
    exact ⟨rfl, h4⟩
/-- what a code costs, over one bottom -/
theorem chg_due {L : Int} {F : List Nat → Int × Int} {wd : Nat} (h1 : 1 ≤ wd) : ∀ (ch : List Nat), (chg (topF L F) wd (tailN [] wd 0) ch).1 = ((dueN ch wd).map (topF L F)).sum := by
  have key : ∀ (k : Nat) (ch : List Nat), k ≤ ch.length → (chg (topF L F) wd (tailN [] wd 0) (ch.take k)).1 = (((dueN ch wd).take k).map (topF L F)).sum ∧ (chg (topF L F) wd (tailN [] wd 0) (ch.take k)).2 = tailN ch wd k := by
    intro k ch
    induction k with
    | zero =>
      intro _
      refine ⟨by simp [chg], ?_⟩
      show tailN [] wd 0 = tailN ch wd 0
      unfold tailN
      by_cases h : 0 + 1 < wd
      · rw [if_pos h, if_pos h]; simp
      · have : wd - 1 = 0 := by omega
        rw [if_neg h, if_neg h, this]; simp
    | succ k ih =>
      intro hk
      obtain ⟨i1, i2⟩ := ih (by omega)
      obtain ⟨c, hc⟩ : ∃ c, ch[k]? = some c := ⟨_, List.getElem?_eq_getElem (by omega)⟩
      have et : ch.take (k + 1) = ch.take k ++ [c] := by rw [List.take_add_one, hc]; rfl
      have hd : (dueN ch wd)[k]? = some (cutN ch wd (k + 1)) := by simp [dueN, show k < ch.length by omega]
      have tc := tail_cut (w := wd) h1 hc
      have tn := tail_next (w := wd) (ch := ch) (k := k) h1 (by omega)
      rw [et, chg_app, i1, i2]
      simp only [chg, tc]
      refine ⟨?_, ?_⟩
      · rw [List.take_add_one, hd]; simp
      · rw [tn]; rfl
  intro ch
  have := (key ch.length ch (Nat.le_refl _)).1
  rw [List.take_length] at this
  rw [this, List.take_of_length_le (by simp [dueN])]
end
end DD

namespace DD
open PySem L2 PyProof.Rows
/-! ### k15: what its functions do -/
section
variable {st : Sto} {w : Mach} {cs : List Nat} {wd : Nat} {F : List Nat → Int × Int}
theorem codeJ_ok {ch : List Nat} (h : ∀ c ∈ ch, c ∈ cs) : codeJ cs (.str (tx ch)) = true := by
  show (tx ch).cps.toList.all _ = true
  rw [tx_list, List.all_eq_true]
  exact fun c hc => decide_eq_true (h c hc)
theorem tupJ_as {as : List Nat} {n : Nat} {aa : Int} (hl : as.length = n) (h : ∀ b ∈ as, (b : Int) < aa) : tupJ (n : Int) (numD 0 (aa - 1)) (.tup (as.map aD)) = true := by
  show (decide (((as.map aD).length : Int) = (n : Int)) && (as.map aD).all _) = true
  rw [Bool.and_eq_true, List.all_eq_true, List.length_map]
  refine ⟨decide_eq_true (by omega), fun y hy => ?_⟩
  obtain ⟨b, hb, rfl⟩ := List.mem_map.mp hy
  have := h b hb
  show (decide ((0 : Int) ≤ b) && decide ((b : Int) ≤ aa - 1)) = true
  rw [Bool.and_eq_true]
  exact ⟨decide_eq_true (by omega), decide_eq_true (by omega)⟩
theorem is_run_ok {ch as : List Nat} (hr : RunOk w ch as) (h9 : ch.length ≤ 900) : m_is_run [runD ch as, .str (tx w.rows), .int (w.ans : Int)] st = .ok (.bl true) st := by
  have h1 := hr.len
  rw [is_run_gen (gd_run h9 (by omega))]
  have : runJ w.rows (w.ans : Int) (runD ch as) = true := by
    show (codeJ w.rows (.str (tx ch)) && tupJ ((tx ch).length : Int) (numD 0 ((w.ans : Int) - 1)) (.tup (as.map aD))) = true
    rw [codeJ_ok hr.rows, Bool.true_and]
    exact tupJ_as (n := ch.length) h1.symm fun b hb => by have := hr.ans b hb; omega
  rw [this]
theorem check_run_ok {ch as : List Nat} (hr : RunOk w ch as) (h9 : ch.length ≤ 900) : m_check_run [machO w, runD ch as] st = .ok .non st := by
  rw [m_check_run_e]; simp [mOf_e, d_check_run, fld_rows, fld_answers, is_run_ok hr h9]
theorem ticks_ok (h : MachOk w) {ch as : List Nat} (hr : RunOk w ch as) (h9 : ch.length ≤ 900) : m_ticks [machO w, runD ch as] st = .ok (.int ((walk w ch as 0).1 : Int)) st := by
  have e1 := check_run_ok (st := st) hr h9
  have e2 := walked_ok (st := st) (at' := 0) h (by have := h.mv1; omega) hr
  have e2 : m_walked [machO w, .int 0, runD ch as] st = .ok (.tup [.int ((walk w ch as 0).1 : Int), .int ((walk w ch as 0).2 : Int)]) st := e2
  rw [m_ticks_e]
  simp [mOf_e, d_ticks, e1, e2]
/-! written out -/
theorem repS_tx {l : List Nat} {n : Nat} : repS (tx l) n = tx (repL n l) := by
  have el := repS_list (tx l) n
  rw [tx_list] at el
  have : (repS (tx l) n) = tx (repS (tx l) n).cps.toList := tx_eta _
  rw [this, el]; rfl
theorem rep_as {l : List Nat} {n : Nat} : (List.replicate n (l.map aD)).flatten = (repL n l).map aD := by
  induction n with
  | zero => simp [repL]
  | succ n ih => rw [List.replicate_succ, List.flatten_cons, ih, repL_succ, List.map_append]
theorem written_ok {l : List (RP × Nat)} (hl : ∀ p ∈ l, p.1.1.length = p.1.2.length ∧ p.1.1.length ≤ 900 ∧ p.2 ≤ 900) (hw : (wr1 l).length ≤ 900) (hl2 : l.length ≤ 900) : m_law_written [longD l] st = .ok (runD (wr1 l) (wr2 l)) st := by
  have wl := wr_len fun p hp => (hl p hp).1
  have b2 : 2 ≤ bigLine := by decide
  have b0 : 0 ≤ bigLine := by decide
  rw [m_law_written_e]
  simp [mOf_e, d_law_written, longD, b0, tx_nil]
  generalize hloop : loop _ _ _ _ _ _ = r
  obtain ⟨env', st', rfl, e3, e4, rfl, rfl⟩ := for_use1 (I := fun k env s => ∃ e3 e4 : Option D, env = [some (.tup (l.map (turnD rpD))), some (.str (tx (wr1 (l.take k)))), some (.tup ((wr2 (l.take k)).map aD)), e3, e4] ∧ s = st) hloop
    ⟨none, none, rfl, rfl⟩ (fun k x env s hx hI => by
      obtain ⟨e3, e4, rfl, rfl⟩ := hI
      rw [List.getElem?_map] at hx
      obtain ⟨⟨⟨ch, as⟩, t⟩, hp, rfl⟩ := Option.map_eq_some_iff.mp hx
      have hm := List.mem_of_getElem? hp
      obtain ⟨q1, q2, q3⟩ := hl _ hm
      have q1 : ch.length = as.length := q1
      have q2 : ch.length ≤ 900 := q2
      have q3 : t ≤ 900 := q3
      have et : l.take (k + 1) = l.take k ++ [((ch, as), t)] := by rw [List.take_add_one, hp]; rfl
      have lw : (wr1 (l.take (k + 1))).length ≤ (wr1 l).length := by
        have : wr1 l = wr1 (l.take (k + 1)) ++ wr1 (l.drop (k + 1)) := by
          have key : ∀ (x y : List (RP × Nat)), wr1 (x ++ y) = wr1 x ++ wr1 y := fun x y => by
            induction x with
            | nil => rfl
            | cons p x ih => simp only [List.cons_append, wr1, ih, List.append_assoc]
          rw [← key, List.take_append_drop]
        rw [this, List.length_append]; omega
      have lw2 := wr_len (l := l.take (k + 1)) fun p hp => (hl p (List.mem_of_mem_take hp)).1
      rw [et, wr_snoc1] at lw
      rw [et, wr_snoc1, wr_snoc2] at lw2
      rw [List.length_append] at lw
      rw [List.length_append, List.length_append] at lw2
      have b1 : (wr1 (l.take k)).length + (repL t ch).length ≤ bigLine := le_big (by simp only [] at lw; omega)
      have b3 : (wr2 (l.take k)).length + (repL t as).length ≤ bigLine := le_big (by simp only [] at lw lw2; omega)
      have f1 : ∀ s, fRepA (.str (tx ch)) (.int (t : Int)) s = .ok (.str (tx (repL t ch))) s := fun s => by rw [fRepA_str (z := tx ch) (by omega) (show ch.length ≤ 1000 by omega), repS_tx]
      have f2 : ∀ s, fRepA (.tup (as.map aD)) (.int (t : Int)) s = .ok (.tup ((repL t as).map aD)) s := fun s => by rw [fRepA_tup (by omega) (by rw [List.length_map]; omega), rep_as]
      refine ⟨_, rfl, [some (.tup (l.map (turnD rpD))), some (.str (tx (wr1 (l.take (k + 1))))), some (.tup ((wr2 (l.take (k + 1))).map aD)), some (runD ch as), some (.int (t : Int))], s, ?_, some (runD ch as), some (.int (t : Int)), rfl, rfl⟩
      rw [et, wr_snoc1, wr_snoc2]
      simp [rpD, runD, f1, f2, b1, b3])
  rw [List.length_map, List.take_length]
  simp [b2, runD]
/-! maps of standings -/
def mapD (n : Nat) (g : Nat → Int × Nat) : D := .fz ((List.range n).map fun i => .tup [.int (g i).1, .int ((g i).2 : Int)])
theorem mapD_ix {n i : Nat} {g : Nat → Int × Nat} (h : i < n) : fIx (mapD n g) (.int (i : Int)) st = .ok (.tup [.int (g i).1, .int ((g i).2 : Int)]) st := by
  simp [mapD, h]
def cmp2 (g1 g2 : Nat → Int × Nat) (i : Nat) : Int × Nat := ((g1 i).1 + (g2 (g1 i).2).1, (g2 (g1 i).2).2)
theorem behind_ok {n : Nat} {g1 g2 : Nat → Int × Nat} (hn : n ≤ 100) (h1 : ∀ i < n, (g1 i).2 < n) : m_law_behind [mapD n g1, mapD n g2] st = .ok (mapD n (cmp2 g1 g2)) st := by
  have bn : n ≤ bigLine := le_big (by omega)
  have b2 : 2 ≤ bigLine := by decide
  rw [m_law_behind_e]
  simp only [mOf_e, d_law_behind]
  have em : mapD n g1 = .fz ((List.range n).map fun i => .tup [.int (g1 i).1, .int ((g1 i).2 : Int)]) := rfl
  rw [em]
  simp [bn]
  generalize hloop : lcLoop _ _ _ _ _ _ _ = r
  have := lcm_use (fun x => match x with | .tup [.int a, .int b] => .tup [.int (a + (g2 b.toNat).1), .int ((g2 b.toNat).2 : Int)] | _ => .non) hloop (fun x hx => by
    obtain ⟨i, hi, rfl⟩ := List.mem_map.mp hx
    have hi := List.mem_range.mp hi
    have ix := mapD_ix (st := st) (g := g2) (h1 i hi)
    exact ⟨_, rfl, by simp [wipe_set, ix, b2]⟩)
  subst this
  simp [mapD, cmp2]
theorem led_ok (h : MachOk w) {ch as : List Nat} {at' : Nat} (h1 : at' < w.mv.length) (hr : RunOk w ch as) : m_law_led [w.wD, .int (at' : Int), runD ch as] st = .ok (.tup [.int ((walk w ch as at').1 : Int), .int ((walk w ch as at').2 : Int)]) st := by
  rw [m_law_led_e]
  simp [mOf_e, d_law_led, runD]
  generalize hB : dSeq (dAsg _ _) _ = B
  have key : ∀ (cs bs : List Nat) (here : Nat) (tot : Int) (e4 e5 e6 : Option D), (∀ c ∈ cs, c ∈ w.rows) → (∀ a ∈ bs, a < w.ans) → here < w.mv.length → ∃ e4' e5' e6' : Option D,
      loop (gdTup 2 (gdCons (gdName 4) (gdCons (gdName 5) gdNil))) B yes (pairsD (cs.map fun c => .str (tx [c])) (bs.map aD)) [some w.wD, some (.int (here : Int)), some (.tup [.str (tx ch), .tup (as.map aD)]), some (.int tot), e4, e5, e6] st =
        .nx [some w.wD, some (.int ((walk w cs bs here).2 : Int)), some (.tup [.str (tx ch), .tup (as.map aD)]), some (.int (tot + (walk w cs bs here).1)), e4', e5', e6'] st := by
    intro cs
    induction cs with
    | nil => intro bs here tot e4 e5 e6 _ _ _; exact ⟨e4, e5, e6, by simp [pairsD, loop, walk, yes]⟩
    | cons c cs ih =>
      intro bs here tot e4 e5 e6 q1 q2 q3
      cases bs with
      | nil => exact ⟨e4, e5, e6, by simp [pairsD, loop, walk, yes]⟩
      | cons a bs =>
        obtain ⟨it, ps, t, g, i, x1, x2, x3, x4, x5, x6, x7⟩ := step_ok h q3 (q1 c List.mem_cons_self) (q2 a List.mem_cons_self)
        obtain ⟨e4', e5', e6', e⟩ := ih bs g (tot + t) (some (.str (tx [c]))) (some (.int (a : Int))) (some (.int (t : Int))) (fun c hc => q1 c (List.mem_cons_of_mem _ hc)) (fun a ha => q2 a (List.mem_cons_of_mem _ ha)) x7
        refine ⟨e4', e5', e6', ?_⟩
        rw [List.map_cons, List.map_cons, pairsD, loop_step (env1 := [some w.wD, some (.int (here : Int)), some (.tup [.str (tx ch), .tup (as.map aD)]), some (.int tot), some (.str (tx [c])), some (.int (a : Int)), e6]) (env2 := [some w.wD, some (.int (g : Int)), some (.tup [.str (tx ch), .tup (as.map aD)]), some (.int (tot + t)), some (.str (tx [c])), some (.int (a : Int)), some (.int (t : Int))]) (st2 := st) (by simp [aD]) (by
          subst hB
          have lr : (tx w.rows).length ≤ bigLine := le_big (show w.rows.length ≤ 1000 by have := h.rows.2.2.2; omega)
          have xi : fFind (.str (tx w.rows)) [.str (tx [c])] st = .ok (.int (i : Int)) st := by
            simp only [fFind]
            rw [show (tx [c]) = ⟨#[c]⟩ from rfl, x2]
          simp [Mach.wD, isStr, xi, mvD, itD, psD, pD, x3, x4, x5]), e]
        simp only [walk, x6]
        simp
        omega
  obtain ⟨e4, e5, e6, e⟩ := key ch as at' 0 none none none hr.rows hr.ans h1
  rw [e]
  have hb : 2 ≤ bigLine := by decide
  simp [hb]
theorem map_ok (h : MachOk w) {r : RP} (hr : RunOk w r.1 r.2) : m_law_map [w.wD, rpD r] st = .ok (mapD w.mv.length (tkF w r)) st := by
  have hn := h.mv12
  have bn : w.mv.length ≤ bigLine := le_big (by omega)
  rw [m_law_map_e]
  simp [mOf_e, d_law_map, Mach.wD, mvD, bn]
  rw [rgR_ok (n := w.mv.length) rfl (by omega)]
  simp [intsD_length, bn]
  generalize hloop : lcLoop _ _ _ _ _ _ _ = rr
  have := lcm_use (fun x => match x with | .int a => .tup [.int (tkF w r a.toNat).1, .int ((tkF w r a.toNat).2 : Int)] | _ => .non) hloop (fun x hx => by
    obtain ⟨i, hi, rfl⟩ := intsD_mem hx
    have e := led_ok (st := st) h (at' := i) (by simpa using hi) hr
    have e : m_law_led [.tup [.str (tx w.rows), .int (w.ans : Int), .tup (w.mv.map itD)], .int (i : Int), rpD r] st = _ := e
    exact ⟨_, rfl, by simp [wipe_set, e, tkF]⟩)
  subst this
  simp [mapD, intsD]
end
end DD

namespace DD
open PySem L2 PyProof.Rows
section
variable {st : Sto} {w : Mach} {cs c as : List Nat} {wd : Nat} {F : List Nat → Int × Int}
noncomputable def pw (w : Mach) (r : RP) (k i : Nat) : Int × Nat := (smN (tkF w r) k i, itN (tkF w r) k i)
theorem pw_lt (h : MachOk w) {r : RP} (hr : RunOk w r.1 r.2) {k i : Nat} (hi : i < w.mv.length) : itN (tkF w r) k i < w.mv.length :=
  (sm_bound (P := fun a => a < w.mv.length) (b := 1000 * 99) (fun a ha => by
    refine ⟨walk_lt h ha hr.rows hr.ans, ?_⟩
    have := walk_le h ha hr.rows hr.ans
    have := hr.big
    show ((walk w r.1 r.2 a).1 : Int).natAbs ≤ _
    rw [Int.natAbs_natCast]
    omega) k i hi).1
theorem cmp_pw {r : RP} {a b : Nat} : cmp2 (pw w r a) (pw w r b) = pw w r (a + b) := by
  funext i
  simp only [cmp2, pw, smN_add, itN_add]
theorem pw_one {r : RP} : pw w r 1 = tkF w r := by
  funext i
  simp [pw, smN, itN]
theorem half0 (q b : Nat) : 2 * q * b = q * (b + b) := by rw [Nat.mul_comm 2 q, Nat.mul_assoc, Nat.two_mul]
theorem half1 (q b : Nat) : (2 * q + 1) * b = b + q * (b + b) := by rw [Nat.add_mul, half0]; omega
theorem many_ok (h : MachOk w) {r : RP} (hr : RunOk w r.1 r.2) {t : Nat} (ht : t ≤ 10 ^ 30) : m_law_many [w.wD, rpD r, .int (t : Int)] st = .ok (mapD w.mv.length (pw w r t)) st := by
  have hn := h.mv12
  have bn : w.mv.length ≤ bigLine := le_big (by omega)
  have b2 : 2 ≤ bigLine := by decide
  have em := map_ok (st := st) h hr
  have ix : fIx w.wD (.int 2) st = .ok (mvD w.mv) st := by simp [Mach.wD]
  have el : fLen [mvD w.mv] st = .ok (.int (w.mv.length : Int)) st := by simp [mvD, bn]
  rw [m_law_many_e]
  simp [mOf_e, d_law_many, ix, el]
  rw [rgR_ok (n := w.mv.length) rfl (by omega)]
  simp [intsD_length, bn]
  generalize hloop : lcLoop _ _ _ _ _ _ _ = rr
  have := lcm_use (fun x => .tup [.int 0, x]) hloop (fun x hx => ⟨_, rfl, by simp [wipe_set, b2]⟩)
  subst this
  have e0 : D.fz ((intsD 0 w.mv.length).map fun x => .tup [.int 0, x]) = mapD w.mv.length (pw w r 0) := by
    simp [mapD, intsD, pw, smN, itN]
  simp [e0, em]
  rw [← pw_one]
  generalize hw : whileN _ _ _ _ _ = rr
  obtain ⟨env', st', m', rfl, ⟨a, b, e5, rfl, rfl, hab⟩, e2⟩ := while_use (I := fun m env s => ∃ (a b : Nat) (e5 : Option D), env = [some w.wD, some (rpD r), some (.int (m : Int)), some (mapD w.mv.length (pw w r a)), some (mapD w.mv.length (pw w r b)), e5] ∧ s = st ∧ a + m * b = t) hw t (fuel_gt (Nat.le_trans ht (by decide)))
    ⟨0, 1, none, rfl, rfl, by omega⟩ (by
      rintro m env s ⟨a, b, e5, rfl, rfl, hab⟩
      by_cases hm : m = 0
      · subst hm
        exact .inl (by simp)
      · right
        have hm0 : (0 : Int) < (m : Int) := by omega
        have hm1 : 0 < m := by omega
        have cd2 : cDiv 2 = true := cDiv_to (by omega)
        have h1 := behind_ok (st := s) (n := w.mv.length) (g1 := pw w r a) (g2 := pw w r b) (by omega) (fun i hi => pw_lt h hr hi)
        have h2 := behind_ok (st := s) (n := w.mv.length) (g1 := pw w r b) (g2 := pw w r b) (by omega) (fun i hi => pw_lt h hr hi)
        rw [cmp_pw] at h1 h2
        have fd : ∀ s, fDiv (.int (m : Int)) (.int 2) s = .ok (.int ((m / 2 : Nat) : Int)) s := fun s => by simp [cd2]
        have fm : ∀ s, fMod (.int (m : Int)) (.int 2) s = .ok (.int ((m % 2 : Nat) : Int)) s := fun s => by simp
        have hmod := Nat.div_add_mod m 2
        rcases Nat.mod_two_eq_zero_or_one m with h0 | h0
        · refine ⟨by simp [hm0, hm1], [some w.wD, some (rpD r), some (.int ((m / 2 : Nat) : Int)), some (mapD w.mv.length (pw w r a)), some (mapD w.mv.length (pw w r (b + b))), e5], s, m / 2, ?_, by omega, a, b + b, e5, rfl, rfl, ?_⟩
          · simp [fm, fd, h0, h2]
          · rw [h0] at hmod
            have := half0 (m / 2) b
            rw [show 2 * (m / 2) = m by omega] at this
            omega
        · refine ⟨by simp [hm0, hm1], [some w.wD, some (rpD r), some (.int ((m / 2 : Nat) : Int)), some (mapD w.mv.length (pw w r (a + b))), some (mapD w.mv.length (pw w r (b + b))), e5], s, m / 2, ?_, by omega, a + b, b + b, e5, rfl, rfl, ?_⟩
          · simp [fm, fd, h0, h1, h2]
          · rw [h0] at hmod
            have := half1 (m / 2) b
            rw [show 2 * (m / 2) + 1 = m by omega] at this
            omega)
  have hm : m' = 0 := by
    by_cases hm : m' = 0
    · exact hm
    · have h0 : (0 : Int) < (m' : Int) := by omega
      have h1 : 0 < m' := by omega
      simp [h0, h1] at e2
  subst hm
  have ha : a = t := by omega
  subst ha
  simp
/-! prices that grow -/
noncomputable def qv (F : List Nat → Int × Int) (wd : Nat) (c : List Nat) (n : Nat) : Int := SS MM ((dueN (repL n c) wd).map F)
theorem qv_sm (h1 : 1 ≤ wd) (n : Nat) : qv F wd c n = smN (fun t => chg (topF MM F) wd t c) n (tailN [] wd 0) := by
  unfold qv
  rw [← topF_sum, ← chg_due h1, (chg_rep n _).1]
theorem chg_tail (L : Int) (h1 : 1 ≤ wd) (ch : List Nat) : (chg (topF L F) wd (tailN [] wd 0) ch).2 = tailN ch wd ch.length := by
  have key : ∀ (k : Nat), k ≤ ch.length → (chg (topF L F) wd (tailN [] wd 0) (ch.take k)).2 = tailN ch wd k := by
    intro k
    induction k with
    | zero =>
      intro _
      show tailN [] wd 0 = tailN ch wd 0
      unfold tailN
      by_cases h : 0 + 1 < wd
      · rw [if_pos h, if_pos h]; simp
      · have : wd - 1 = 0 := by omega
        rw [if_neg h, if_neg h, this]; simp
    | succ k ih =>
      intro hk
      have i2 := ih (by omega)
      obtain ⟨c, hc⟩ : ∃ c, ch[k]? = some c := ⟨_, List.getElem?_eq_getElem (by omega)⟩
      have et : ch.take (k + 1) = ch.take k ++ [c] := by rw [List.take_add_one, hc]; rfl
      have tc := tail_cut (w := wd) h1 hc
      have tn := tail_next (w := wd) (ch := ch) (k := k) h1 (by omega)
      rw [et, chg_app, i2]
      simp only [chg, tc]
      rw [tn]; rfl
  have := key ch.length (Nat.le_refl _)
  rwa [List.take_length] at this
theorem tail_pre {x y : List Nat} (h : wd ≤ y.length + 1) : tailN (x ++ y) wd (x ++ y).length = tailN y wd y.length := by
  unfold tailN
  rw [if_neg (by rw [List.length_append]; omega), if_neg (by omega)]
  have : (x ++ y).length + 1 - wd = x.length + (y.length + 1 - wd) := by rw [List.length_append]; omega
  rw [this, List.drop_append]
  have e1 : x.drop (x.length + (y.length + 1 - wd)) = [] := List.drop_eq_nil_of_le (by omega)
  have e2 : x.length + (y.length + 1 - wd) - x.length = y.length + 1 - wd := by omega
  rw [e1, e2, List.nil_append]
theorem it_stable (h1 : 1 ≤ wd) (h3 : wd ≤ 3) (hc : 1 ≤ c.length) {n : Nat} (hn : 2 ≤ n) : itN (fun t => chg (topF MM F) wd t c) (n + 1) (tailN [] wd 0) = itN (fun t => chg (topF MM F) wd t c) n (tailN [] wd 0) := by
  rw [← (chg_rep (n + 1) _).2, ← (chg_rep n _).2, chg_tail MM h1, chg_tail MM h1, repL_succ]
  refine tail_pre ?_
  rw [repL_len]
  have : 2 * 1 ≤ n * c.length := Nat.mul_le_mul hn hc
  omega
theorem qv_grow (h1 : 1 ≤ wd) (h3 : wd ≤ 3) (hc : 1 ≤ c.length) : ∀ k : Nat, qv F wd c (6 + k) = qv F wd c 6 + k * (qv F wd c 6 - qv F wd c 5) := by
  have step : ∀ n, qv F wd c (n + 1) = qv F wd c n + (chg (topF MM F) wd (itN (fun t => chg (topF MM F) wd t c) n (tailN [] wd 0)) c).1 := fun n => by
    rw [qv_sm h1, qv_sm h1, smN_succ]
  have st : ∀ k, itN (fun t => chg (topF MM F) wd t c) (5 + k) (tailN [] wd 0) = itN (fun t => chg (topF MM F) wd t c) 5 (tailN [] wd 0) := fun k => by
    induction k with
    | zero => rfl
    | succ k ih => rw [← ih]; exact it_stable (n := 5 + k) h1 h3 hc (by omega)
  intro k
  induction k with
  | zero => simp
  | succ k ih =>
    have e1 := step (6 + k)
    have e2 := step 5
    have s1 := st (1 + k)
    rw [show 5 + (1 + k) = 6 + k by omega] at s1
    rw [s1] at e1
    rw [show 6 + (k + 1) = 6 + k + 1 by omega, e1, ih]
    rw [show ((k + 1 : Nat) : Int) = (k : Int) + 1 by omega, Int.add_mul]
    have : qv F wd c (5 + 1) = qv F wd c 6 := rfl
    omega
theorem qv_le (h1 : 1 ≤ wd) (hF : ∀ u ∈ allN cs wd, Fr30 (F u)) (hc : ∀ x ∈ c, x ∈ cs) (n : Nat) : (qv F wd c n).natAbs ≤ n * c.length * 10 ^ 16 := by
  have hG : ∀ u ∈ allN cs wd, (topF MM F u).natAbs ≤ 10 ^ 16 := fun u hu => topF_le (hF u hu) MM_pos ⟨1, by simp⟩
  have := (chg_P hG (tailP_first (cs := cs) (ch := []) h1) (ch := repL n c) fun x hx => hc x (repL_mem hx)).2
  rw [chg_due h1, topF_sum, repL_len] at this
  exact this
theorem redMM_big {N : Int} (h : N.natAbs < 10 ^ 59) : FrBig (red N MM) := by
  obtain ⟨a, b, _, d⟩ := red_SS (N := N)
  exact ⟨a, b, by omega⟩
theorem frV_eta {f : Int × Int} : D.tup [.int f.1, .int f.2] = frV f := rfl
theorem great_ok (hF : ∀ u ∈ allN cs wd, Fr30 (F u)) (nd : (allN cs wd).Nodup) (al : (allN cs wd).length ≤ 1000) (h1 : 1 ≤ wd) (h3 : wd ≤ 3) (hc : ∀ x ∈ c, x ∈ cs) (hl1 : 1 ≤ c.length) (hl5 : c.length ≤ 5) {t : Nat} (ht : t ≤ 10 ^ 30) :
    m_law_great_price [priD cs wd F, runD c as, .int (t : Int)] st = .ok (frV (red (qv F wd c t) MM)) st := by
  have b7 : 7 ≤ bigLine := by decide
  have b2 : 2 ≤ bigLine := by decide
  have pr : ∀ i : Nat, i < 7 → m_price [priD cs wd F, .str (tx (repL i c))] st = .ok (frV (red (qv F wd c i) MM)) st := fun i hi =>
    price_ok (st := st) (fun u hu => (hF u hu).ok) nd al (by rw [repL_len]; have : i * c.length ≤ 6 * 5 := Nat.mul_le_mul (by omega) hl5; omega) h1 h3 fun x hx => hc x (repL_mem hx)
  rw [m_law_great_price_e]
  simp [mOf_e, d_law_great_price, runD]
  rw [rgR_ok (j := 7) (n := 7) rfl (by omega)]
  simp [intsD_length, b7]
  generalize hloop : lcLoop _ _ _ _ _ _ _ = rr
  have := lcm_use (fun x => match x with | .int a => frV (red (qv F wd c a.toNat) MM) | _ => .non) hloop (fun x hx => by
    obtain ⟨i, hi, rfl⟩ := intsD_mem hx
    have f1 : fRepA (.str (tx c)) (.int (i : Int)) st = .ok (.str (tx (repL i c))) st := by rw [fRepA_str (z := tx c) (by omega) (show c.length ≤ 1000 by omega), repS_tx]
    exact ⟨_, rfl, by simp [wipe_set, f1, pr i hi]⟩)
  subst this
  have el : ((intsD 0 7).map fun x => match x with | .int a => frV (red (qv F wd c a.toNat) MM) | _ => D.non) = (List.range 7).map fun i => frV (red (qv F wd c i) MM) := by
    simp [intsD]
  rw [el]
  by_cases hlt : t < 6
  · have hlt' : (t : Int) < 6 := by omega
    have : t < 7 := by omega
    simp [hlt', this]
  · have hlt' : ¬ (t : Int) < 6 := by omega
    obtain ⟨k, rfl⟩ : ∃ k, t = 6 + k := ⟨t - 6, by omega⟩
    obtain ⟨p6, e6⟩ : ∃ p, p = red (qv F wd c 6) MM := ⟨_, rfl⟩
    obtain ⟨p5, e5⟩ : ∃ p, p = red (qv F wd c 5) MM := ⟨_, rfl⟩
    obtain ⟨a6, b6, c6, d6⟩ := red_SS (N := qv F wd c 6)
    obtain ⟨a5, b5, c5, d5⟩ := red_SS (N := qv F wd c 5)
    have l6 := qv_le h1 hF hc 6
    have l5 := qv_le h1 hF hc 5
    have m6 : 6 * c.length * 10 ^ 16 ≤ 6 * 5 * 10 ^ 16 := Nat.mul_le_mul_right _ (Nat.mul_le_mul_left 6 hl5)
    have m5 : 5 * c.length * 10 ^ 16 ≤ 5 * 5 * 10 ^ 16 := Nat.mul_le_mul_right _ (Nat.mul_le_mul_left 5 hl5)
    have f6 : FrBig p6 := by rw [e6]; exact redMM_big (by omega)
    have f5 : FrBig (0 - p5.1, p5.2) := by
      rw [e5]
      exact ⟨a5, b5, by show (0 - (red (qv F wd c 5) MM).1).natAbs < _; omega⟩
    rw [← e6] at a6 b6 c6 d6
    rw [← e5] at a5 b5 c5 d5
    obtain ⟨Dv, eD⟩ : ∃ Dv, Dv = qv F wd c 6 - qv F wd c 5 := ⟨_, rfl⟩
    have lD : Dv.natAbs ≤ 10 ^ 20 := by omega
    have s1 := law_sum_big (st := st) (fs := [p6, (0 - p5.1, p5.2)]) (fun f hf => by
      simp only [List.mem_cons, List.not_mem_nil, or_false] at hf
      rcases hf with rfl | rfl
      · exact f6
      · exact f5) (by simp)
    have v1 : SS MM [p6, (0 - p5.1, p5.2)] = Dv := by
      have : (0 - p5.1) * (MM / p5.2) = - (p5.1 * (MM / p5.2)) := by rw [Int.sub_mul]; omega
      simp only [SS, List.map_cons, List.map_nil, List.sum_cons, List.sum_nil, this, c6, c5]
      omega
    rw [v1] at s1
    obtain ⟨g, eg⟩ : ∃ g, g = red Dv MM := ⟨_, rfl⟩
    obtain ⟨ag, bg, cg, dg⟩ := red_SS (N := Dv)
    rw [← eg] at s1 ag bg cg dg
    have le := dvd_le bg MM_pos
    have mlt := MM_lt
    have s2 := law_made_ok (st := st) (tp := g.1 * k) (bt := g.2) ag (by omega)
    have egg : red (g.1 * k) g.2 = red (Dv * k) MM := by
      refine red_eq ag MM_pos ?_
      have : g.1 * MM = Dv * g.2 := by
        rw [← cg, Int.mul_assoc, Int.ediv_mul_cancel bg]
      rw [Int.mul_assoc, Int.mul_comm (k : Int) MM, ← Int.mul_assoc, this, Int.mul_assoc, Int.mul_comm g.2, ← Int.mul_assoc]
    rw [egg] at s2
    have lk : (Dv * k).natAbs < 10 ^ 59 := by
      rw [Int.natAbs_mul, Int.natAbs_natCast]
      have : Dv.natAbs * k ≤ 10 ^ 20 * 10 ^ 30 := Nat.mul_le_mul lD (by omega)
      omega
    have s3 := law_sum_big (st := st) (fs := [p6, red (Dv * k) MM]) (fun f hf => by
      simp only [List.mem_cons, List.not_mem_nil, or_false] at hf
      rcases hf with rfl | rfl
      · exact f6
      · exact redMM_big lk) (by simp)
    have v2 : SS MM [p6, red (Dv * k) MM] = qv F wd c (6 + k) := by
      obtain ⟨_, _, cz, _⟩ := red_SS (N := Dv * k)
      simp only [SS, List.map_cons, List.map_nil, List.sum_cons, List.sum_nil, cz, c6]
      rw [qv_grow h1 h3 hl1 k, ← eD, Int.mul_comm (k : Int)]
      omega
    rw [v2] at s3
    have cm : cMulW g.1 (k : Int) = true := cMulW_to2 (by omega) (by rw [Int.natAbs_natCast]; omega)
    have s1' : m_law_sum [.fz [frV p6, .tup [.int (0 - p5.1), .int p5.2]]] st = .ok (frV g) st := s1
    rw [Int.zero_sub] at s1'
    have s3' : m_law_sum [.fz [frV p6, frV (red (Dv * k) MM)]] st = .ok (frV (red (qv F wd c (6 + k)) MM)) st := s3
    have i6 : ((List.range 7).map fun i => frV (red (qv F wd c i) MM))[6]? = some (frV p6) := by rw [e6]; rfl
    have i5 : ((List.range 7).map fun i => frV (red (qv F wd c i) MM))[5]? = some (frV p5) := by rw [e5]; rfl
    have j0 : ∀ (f : Int × Int) s, fIx (frV f) (.int 0) s = .ok (.int f.1) s := fun f s => by simp [frV]
    have j1 : ∀ (f : Int × Int) s, fIx (frV f) (.int 1) s = .ok (.int f.2) s := fun f s => by simp [frV]
    have hk : (6 : Int) + (k : Int) - 6 = (k : Int) := by omega
    have hl6 : ¬ (6 : Int) + (k : Int) < 6 := by omega
    generalize ((List.range 7).map fun i => frV (red (qv F wd c i) MM)) = FL at i6 i5
    have ix6 : ∀ s, fIx (.fz FL) (.int 6) s = .ok (frV p6) s := fun s => by simp [i6]
    have ix5 : ∀ s, fIx (.fz FL) (.int 5) s = .ok (frV p5) s := fun s => by simp [i5]
    simp [hl6, i6, i5, j0, j1, b2, s1', s2, s3', cm, hk]
end
section
variable {st : Sto} {w : Mach} {cs ch as : List Nat} {wd : Nat} {F : List Nat → Int × Int}
/-! rest -/
theorem same_rows {r1 r2 : D} {s1 : Str} {s2 : Str} {one two : D} (h1 : fFld fldC_rows "rows" one st = .ok (.str s1) st) (h2 : fFld fldC_rows "rows" two st = .ok (.str s2) st) (o1 : PyData.strOk s1 = true) (o2 : PyData.strOk s2 = true) :
    m_check_same_rows [one, two] st = if s1 = s2 then .ok .non st else .exc ("OtherRows", none) st := by
  rw [m_check_same_rows_e]
  have e := fEq_str (neg := true) (st := st) o1 o2
  by_cases h : s1 = s2
  · subst h
    simp [mOf_e, d_check_same_rows, h1, h2, e]
  · simp [mOf_e, d_check_same_rows, h1, h2, e, h]
theorem rows_strOk (h : RowsOk cs) : PyData.strOk (tx cs) = true := strOk_tx fun c hc => by have := h.2.1 c hc; omega
theorem rest_ok (hw : MachOk w) (hr : RunOk w ch as) (h9 : ch.length ≤ 900) (hF : ∀ u ∈ allN w.rows wd, Fr30 (F u)) (nd : (allN w.rows wd).Nodup) (al : (allN w.rows wd).length ≤ 1000) (h1 : 1 ≤ wd) (h3 : wd ≤ 3) :
    m_rest [machO w, priD w.rows wd F, runD ch as] st = .ok (frV (red (((walk w ch as 0).1 : Int) * MM - SS MM ((dueN ch wd).map F)) MM)) st := by
  have e1 := same_rows (st := st) (r1 := .non) (r2 := .non) (one := machO w) (two := priD w.rows wd F) fld_rows fld_rowsP (rows_strOk hw.rows) (rows_strOk hw.rows)
  rw [if_pos rfl] at e1
  have e2 := check_run_ok (st := st) hr h9
  have e3 := walked_ok (st := st) (at' := 0) hw (by have := hw.mv1; omega) hr
  have e3 : m_walked [machO w, .int 0, runD ch as] st = .ok (.tup [.int ((walk w ch as 0).1 : Int), .int ((walk w ch as 0).2 : Int)]) st := e3
  have e4 := price_ok (st := st) (F := F) (w := wd) (ch := ch) (fun u hu => (hF u hu).ok) nd al (by omega) h1 h3 hr.rows
  obtain ⟨p, ep⟩ : ∃ p, p = priceV F wd ch := ⟨_, rfl⟩
  obtain ⟨N, eN⟩ : ∃ N, N = SS MM ((dueN ch wd).map F) := ⟨_, rfl⟩
  have ep2 : p = red N MM := by rw [ep, eN]; rfl
  obtain ⟨q1, q2, q3, q4⟩ := red_SS (N := N)
  rw [← ep2] at q1 q2 q3 q4
  rw [← ep] at e4
  rw [← eN]
  have hM : MM = 2329089562800 := rfl
  have le := dvd_le q2 MM_pos
  have lw := walk_le hw (at' := 0) (by have := hw.mv1; omega) hr.rows hr.ans
  have lN : N.natAbs ≤ ch.length * 10 ^ 16 := by
    have hG : ∀ u ∈ allN w.rows wd, (topF MM F u).natAbs ≤ 10 ^ 16 := fun u hu => topF_le (hF u hu) MM_pos ⟨1, by simp⟩
    have := (chg_P hG (tailP_first (cs := w.rows) (ch := []) h1) (ch := ch) hr.rows).2
    rw [chg_due h1, topF_sum] at this
    rw [eN]; exact this
  obtain ⟨T, eT⟩ : ∃ T : Int, T = ((walk w ch as 0).1 : Int) := ⟨_, rfl⟩
  rw [← eT] at e3 ⊢
  have lT : T.natAbs ≤ 900 * 99 := by rw [eT, Int.natAbs_natCast]; have : ch.length * 99 ≤ 900 * 99 := Nat.mul_le_mul_right _ h9; omega
  have e5 := lowest_ok (st := st) (tp := T * p.2 - p.1) (bt := p.2) q1 (by omega)
  have er : red (T * p.2 - p.1) p.2 = red (T * MM - N) MM := by
    refine red_eq q1 MM_pos ?_
    have : p.1 * MM = N * p.2 := by rw [← q3, Int.mul_assoc, Int.ediv_mul_cancel q2]
    rw [Int.sub_mul, Int.sub_mul, this, Int.mul_assoc, Int.mul_assoc, Int.mul_comm p.2 MM]
  rw [er] at e5
  have m1 : cMulW T p.2 = true := cMulW_to2 (by omega) (by omega)
  have m2 : cMulW p.1 1 = true := cMulW_to2 (by have : ch.length * 10 ^ 16 ≤ 900 * 10 ^ 16 := Nat.mul_le_mul_right _ h9; omega) (by decide)
  have m3 : cMulW 1 p.2 = true := cMulW_to2 (by decide) (by omega)
  have j0 : ∀ (f : Int × Int) s, fIx (frV f) (.int 0) s = .ok (.int f.1) s := fun f s => by simp [frV]
  have j1 : ∀ (f : Int × Int) s, fIx (frV f) (.int 1) s = .ok (.int f.2) s := fun f s => by simp [frV]
  have e6 : m_minus [.tup [.int T, .int 1], frV p] st = .ok (frV (red (T * MM - N) MM)) st := by
    rw [m_minus_e]
    simp [mOf_e, d_minus, j0, j1, m1, m2, m3, e5]
  have r0 : ∀ s, fIx (runD ch as) (.int 0) s = .ok (.str (tx ch)) s := fun s => by simp [runD]
  have b2 : 2 ≤ bigLine := by decide
  rw [m_rest_e]
  simp [mOf_e, d_rest, e1, e2, e3, e4, r0, b2, e6]
end
end DD

namespace DD
open PySem L2 PyProof.Rows
/-! ### k15: the law -/
section
variable {st : Sto} {w : Mach} {wd : Nat} {F : List Nat → Int × Int} {ch as : List Nat} {S : D} {l : List (RP × Nat)}
/-- what is known of the machine and its prices -/
structure MP (w : Mach) (wd : Nat) (F : List Nat → Int × Int) : Prop where
  m : MachOk w
  w1 : 1 ≤ wd
  w3 : wd ≤ 3
  f : ∀ u ∈ allN w.rows wd, Fr30 (F u)
theorem MP.no (h : MP w wd F) : 94 ∉ w.rows := fun z => by have := h.m.rows.2.1 _ z; omega
theorem MP.nd (h : MP w wd F) : (allN w.rows wd).Nodup := all_nodup (h.m.rows.1.imp fun h => Nat.ne_of_lt h) h.no
theorem MP.al (h : MP w wd F) : (allN w.rows wd).length ≤ 1000 := all_len h.m.rows.2.2.2 h.w1 h.w3
theorem MP.ne (h : MP w wd F) : w.rows ≠ [] := by intro z; have := h.m.rows.2.2.1; rw [z] at this; simp at this
theorem MP.rest (h : MP w wd F) (hr : RunOk w ch as) (h9 : ch.length ≤ 900) : m_rest [machO w, priD w.rows wd F, runD ch as] st = .ok (frV (red (((walk w ch as 0).1 : Int) * MM - SS MM ((dueN ch wd).map F)) MM)) st := rest_ok h.m hr h9 h.f h.nd h.al h.w1 h.w3
theorem MP.price (h : MP w wd F) (hl : ch.length ≤ 1000) (hc : ∀ c ∈ ch, c ∈ w.rows) : m_price [priD w.rows wd F, .str (tx ch)] st = .ok (frV (priceV F wd ch)) st := price_ok (fun u hu => (h.f u hu).ok) h.nd h.al hl h.w1 h.w3 hc
/-- long runs of the law -/
structure LOk (w : Mach) (l : List (RP × Nat)) : Prop where
  run : ∀ p ∈ l, RunOk w p.1.1 p.1.2 ∧ p.1.1.length ≤ 900
  times : ∀ p ∈ l, p.2 ≤ 10 ^ 30
  len : l.length ≤ 900
theorem LOk.gd (h : LOk w l) : GD (longD l) := gd_tup (by rw [List.length_map]; have := h.len; omega) fun x hx => by
  obtain ⟨p, hp, rfl⟩ := List.mem_map.mp hx
  obtain ⟨q1, q2⟩ := h.run p hp
  exact gd_pair (gd_run q2 (by have := q1.len; omega)) gd_int
theorem LOk.j (h : LOk w l) {aa : Int} (ha : (w.ans : Int) ≤ aa) : longJ w.rows aa (longD l) = true := longJ_rps fun p hp => by
  obtain ⟨q1, q2⟩ := h.run p hp
  exact ⟨q1.len, q1.rows, fun b hb => by have := q1.ans b hb; omega⟩
theorem LOk.ticks (h : LOk w l) (hw : MachOk w) (hn : NL st) : ∃ st', m_long_ticks [machO w, longD l] st = .ok (.int (sumL (tkF w) l 0).1) st' ∧ More st st' :=
  long_ticks_ok hw ⟨fun p hp => (h.run p hp).1, h.times, by have := h.len; omega⟩ hn h.gd (h.j (by omega))
theorem LOk.price (h : LOk w l) (hp : MP w wd F) (hn : NL st) : ∃ st', m_long_price [priD w.rows wd F, longD l] st = .ok (frV (red (SS MM ((dueN (wr1 l) wd).map F)) MM)) st' ∧ More st st' := by
  obtain ⟨L, st', e, m, hL, hd, hdv⟩ := long_price_ok (l := l) hp.f hp.nd hp.al hp.w1 hp.w3 hp.ne ⟨fun p hp => ⟨by have := (h.run p hp).2; omega, (h.run p hp).1.rows⟩, h.times, by have := h.len; omega⟩ hn h.gd (h.j (by have := hp.m.ans3; omega))
  refine ⟨st', ?_, m⟩
  rw [e]
  congr 2
  have e1 := (chg_wr (L := L) (F := F) (wd := wd) (l := l) (tailN [] wd 0)).1
  rw [chg_due hp.w1, topF_sum] at e1
  rw [← e1, SS_red hL hd fun f hf => by
    obtain ⟨u, hu, rfl⟩ := List.mem_map.mp hf
    have hin := due_in (cs := w.rows) hp.w1 (fun x hx => by
      obtain ⟨p, hp', hx'⟩ := wr1_mem hx
      exact (h.run p hp').1.rows x hx') hu
    exact ⟨(hp.f u hin).1, hdv u hin⟩]
theorem eq_int {a b : Int} : fEq true (.int a) (.int b) st = .ok (.bl (!decide (a = b))) st := by simp
theorem fr_ne {a b : Int × Int} (h : a = b) : fEq true (frV a) (frV b) st = .ok (.bl false) st := by
  subst h
  simp [frV]
end
end DD

namespace DD
open PySem L2 PyProof.Rows
section
variable {st : Sto} {w : Mach} {wd : Nat} {F : List Nat → Int × Int} {ch as pc pa : List Nat} {l : List (RP × Nat)} {t : Nat} {x0 x1 x2 x3 x4 x5 x6 x7 x8 x9 x10 x11 x12 x13 x14 x15 x16 x17 x18 x19 x20 x21 : Option D}
theorem law1_ok (h : MP w wd F) (hr : RunOk w ch as) (h9 : ch.length ≤ 900) : d_law_1 [x0, x1, x2, x3, x4, x5, some (machO w), x7, some (priD w.rows wd F), some (runD ch as), some (frV (priceV F wd ch)), x11, x12, x13, x14, x15, x16, x17, x18, x19, x20, x21] st = .nx [x0, x1, x2, x3, x4, x5, some (machO w), x7, some (priD w.rows wd F), some (runD ch as), some (frV (priceV F wd ch)), x11, x12, x13, x14, x15, x16, x17, x18, x19, x20, x21] st := by
  have e1 := h.rest (st := st) hr h9
  have e2 := ticks_ok (st := st) h.m hr h9
  obtain ⟨N, eN⟩ : ∃ N, N = SS MM ((dueN ch wd).map F) := ⟨_, rfl⟩
  obtain ⟨p, ep⟩ : ∃ p, p = priceV F wd ch := ⟨_, rfl⟩
  have ep2 : p = red N MM := by rw [ep, eN]; rfl
  obtain ⟨q1, q2, q3, q4⟩ := red_SS (N := N)
  rw [← ep2] at q1 q2 q3 q4
  have lw := walk_le h.m (at' := 0) (by have := h.m.mv1; omega) hr.rows hr.ans
  have l99 : ch.length * 99 ≤ 900 * 99 := Nat.mul_le_mul_right _ h9
  have lN : N.natAbs ≤ 900 * 10 ^ 16 := by
    have hG : ∀ u ∈ allN w.rows wd, (topF MM F u).natAbs ≤ 10 ^ 16 := fun u hu => topF_le (h.f u hu) MM_pos ⟨1, by simp⟩
    have := (chg_P hG (tailP_first (cs := w.rows) (ch := []) h.w1) (ch := ch) hr.rows).2
    rw [chg_due h.w1, topF_sum] at this
    rw [eN]
    exact Nat.le_trans this (Nat.mul_le_mul_right _ h9)
  obtain ⟨T, eT⟩ : ∃ T : Int, T = ((walk w ch as 0).1 : Int) := ⟨_, rfl⟩
  rw [← eT, ← eN] at e1
  rw [← eT] at e2
  have s1 := law_sum_big (st := st) (fs := [(T, 1), (0 - p.1, p.2)]) (fun f hf => by
    simp only [List.mem_cons, List.not_mem_nil, or_false] at hf
    rcases hf with rfl | rfl
    · exact ⟨by show (0 : Int) < 1; omega, ⟨MM, by simp⟩, by show T.natAbs < _; omega⟩
    · exact ⟨q1, q2, by show (0 - p.1).natAbs < _; omega⟩) (by simp)
  have v1 : SS MM [(T, 1), (0 - p.1, p.2)] = T * MM - N := by
    have : (0 - p.1) * (MM / p.2) = - (p.1 * (MM / p.2)) := by rw [Int.sub_mul]; omega
    simp only [SS, List.map_cons, List.map_nil, List.sum_cons, List.sum_nil, this, q3, Int.ediv_one]
    omega
  rw [v1, Int.zero_sub] at s1
  have s1' : m_law_sum [.fz [.tup [.int T, .int 1], .tup [.int (-p.1), .int p.2]]] st = .ok (frV (red (T * MM - N) MM)) st := s1
  rw [← ep]
  have j0 : ∀ (f : Int × Int) s, fIx (frV f) (.int 0) s = .ok (.int f.1) s := fun f s => by simp [frV]
  have j1 : ∀ (f : Int × Int) s, fIx (frV f) (.int 1) s = .ok (.int f.2) s := fun f s => by simp [frV]
  have b2 : 2 ≤ bigLine := by decide
  have fe := fr_ne (st := st) (a := red (T * MM - N) MM) rfl
  simp [d_law_1, e1, e2, j0, j1, b2, s1', fe]
structure PartsOk (w : Mach) (l : List (RP × Nat)) (n T : Nat) : Prop where
  len : l.length = n
  run : ∀ p ∈ l, RunOk w p.1.1 p.1.2 ∧ p.1.1.length ≤ 3
  times : ∀ p ∈ l, p.2 ≤ T
theorem law2_ok (hs : St st) (hw : MachOk w) (ht : t < 8) : ∃ (l : List (RP × Nat)) (x13' x14' : Option D) (st' : Sto), d_law_2 [x0, some (.ref 0), x2, some (.str (tx w.rows)), some (.int (w.ans : Int)), x5, x6, x7, x8, x9, x10, some (.tup []), some (.int (t : Int)), x13, x14, x15, x16, x17, x18, x19, x20, x21] st = .nx [x0, some (.ref 0), x2, some (.str (tx w.rows)), some (.int (w.ans : Int)), x5, x6, x7, x8, x9, x10, some (longD l), some (.int (t : Int)), x13', x14', x15, x16, x17, x18, x19, x20, x21] st' ∧ Dr 0 st st' ∧ PartsOk w l t (if 4 < t then 9 else 16) := by
  simp [d_law_2]
  rw [rgR_ok (j := (t : Int)) (n := t) rfl (by omega)]
  simp
  generalize hloop : loop _ _ _ _ _ _ = r
  obtain ⟨env', st', rfl, l, p, q, rfl, hl, dr⟩ := for_use1 (I := fun i env s => ∃ (l : List (RP × Nat)) (p q : Option D), env = [x0, some (.ref 0), x2, some (.str (tx w.rows)), some (.int (w.ans : Int)), x5, x6, x7, x8, x9, x10, some (longD l), some (.int (t : Int)), p, q, x15, x16, x17, x18, x19, x20, x21] ∧ PartsOk w l i (if 4 < t then 9 else 16) ∧ Dr 0 st s) hloop
    ⟨[], x13, x14, rfl, ⟨rfl, (fun p h => by cases h), (fun p h => by cases h)⟩, Dr.refl hs.hg⟩ (fun i y env s hy hI => by
      obtain ⟨l, p, q, rfl, hl, dr⟩ := hI
      obtain ⟨hi, rfl⟩ := ints_get hy
      have sg := dr.hg hs.hg
      obtain ⟨n0, s1, hn0, e1, dr1⟩ := draw (many := 6) sg (by omega) (by omega)
      have hn0 : n0 < 6 := by omega
      have sg1 := dr1.hg sg
      obtain ⟨n1, s2, hn1, e2, dr2⟩ := draw (many := 4) sg1 (by omega) (by omega)
      obtain ⟨ch, as, s3, e3, dr3, q1, q2, q3, q4⟩ := run_ok (many := n1) (dr2.hg sg1) hw.rows hw.ans1 hw.ans3 (by omega)
      obtain ⟨m, em, hm⟩ : ∃ m : Nat, ([D.int 0, D.int 1, D.int 2, D.int 3, D.int 9, (if 4 < t then D.int 9 else D.int 16)] : List D)[n0]? = some (.int (m : Int)) ∧ m ≤ (if 4 < t then 9 else 16) := by
        by_cases h4 : 4 < t
        · simp only [h4, if_true]
          match n0, hn0 with
          | 0, _ => exact ⟨0, rfl, by omega⟩
          | 1, _ => exact ⟨1, rfl, by omega⟩
          | 2, _ => exact ⟨2, rfl, by omega⟩
          | 3, _ => exact ⟨3, rfl, by omega⟩
          | 4, _ => exact ⟨9, rfl, by omega⟩
          | 5, _ => exact ⟨9, rfl, by omega⟩
        · simp only [h4, if_false]
          match n0, hn0 with
          | 0, _ => exact ⟨0, rfl, by omega⟩
          | 1, _ => exact ⟨1, rfl, by omega⟩
          | 2, _ => exact ⟨2, rfl, by omega⟩
          | 3, _ => exact ⟨3, rfl, by omega⟩
          | 4, _ => exact ⟨9, rfl, by omega⟩
          | 5, _ => exact ⟨16, rfl, by omega⟩
      have b1 : 1 ≤ bigLine := by decide
      have b2 : 2 ≤ bigLine := by decide
      have b6 : 6 ≤ bigLine := by decide
      have bl : l.length + 1 ≤ bigLine := le_big (by have := hl.len; omega)
      have h4' : (4 : Int) < (t : Int) ↔ 4 < t := by omega
      refine ⟨_, rfl, [x0, some (.ref 0), x2, some (.str (tx w.rows)), some (.int (w.ans : Int)), x5, x6, x7, x8, x9, x10, some (longD (l ++ [((ch, as), m)])), some (.int (t : Int)), some (.int (i : Int)), some (.int (m : Int)), x15, x16, x17, x18, x19, x20, x21], s3, ?_, l ++ [((ch, as), m)], some (.int (i : Int)), some (.int (m : Int)), rfl, ⟨by simp [hl.len], fun p hp => ?_, fun p hp => ?_⟩, ((dr.trans dr1).trans dr2).trans dr3⟩
      · by_cases h4 : 4 < t
        · simp only [h4, if_true] at em
          have h4i : (4 : Int) < (t : Int) := by omega
          simp [e1, e2, e3, b1, b2, b6, bl, h4, h4i, em, longD, turnD, rpD]
        · simp only [h4, if_false] at em
          have h4i : ¬ (4 : Int) < (t : Int) := by omega
          simp [e1, e2, e3, b1, b2, b6, bl, h4, h4i, em, longD, turnD, rpD]
      · rcases List.mem_append.mp hp with z | z
        · exact hl.run p z
        · rw [List.mem_singleton.mp z]
          exact ⟨⟨show ch.length = as.length by omega, show ch.length ≤ 1000 by omega, q3, q4⟩, show ch.length ≤ 3 by omega⟩
      · rcases List.mem_append.mp hp with z | z
        · exact hl.times p z
        · rw [List.mem_singleton.mp z]; exact hm)
  rw [intsD_length] at hl
  exact ⟨l, p, q, st', rfl, dr, hl⟩
theorem PartsOk.lok {n T : Nat} (h : PartsOk w l n T) (hn : n ≤ 7) (hT : T ≤ 16) : LOk w l := ⟨fun p hp => ⟨(h.run p hp).1, by have := (h.run p hp).2; omega⟩, fun p hp => by have := h.times p hp; omega, by have := h.len; omega⟩
theorem PartsOk.wr {n T : Nat} (h : PartsOk w l n T) (hn : n ≤ 7) (hT : T ≤ 16) : (wr1 l).length ≤ 336 := by
  have := wr_bound (l := l) (b := 48) fun p hp => by
    have h1 := (h.run p hp).2
    have h2 := h.times p hp
    have : p.2 * p.1.1.length ≤ 16 * 3 := Nat.mul_le_mul (by omega) h1
    omega
  have h3 := h.len
  have : l.length * 48 ≤ 7 * 48 := Nat.mul_le_mul_right _ (by omega)
  omega
theorem PartsOk.whole {n T : Nat} (h : PartsOk w l n T) (hn : n ≤ 7) (hT : T ≤ 16) : RunOk w (wr1 l) (wr2 l) := ⟨wr_len fun p hp => (h.run p hp).1.len, by have := h.wr hn hT; omega, fun c hc => by
  obtain ⟨p, hp, hx⟩ := wr1_mem hc
  exact (h.run p hp).1.rows c hx, fun a ha => by
  obtain ⟨p, hp, hx⟩ := wr2_mem ha
  exact (h.run p hp).1.ans a hx⟩
theorem int_ne {a b : Int} (h : a = b) : fEq true (.int a) (.int b) st = .ok (.bl false) st := by subst h; simp
theorem law3_ok (h : MP w wd F) (hs : St st) (hl : PartsOk w l t (if 4 < t then 9 else 16)) (ht : t < 8) : ∃ st', d_law_3 [x0, x1, x2, x3, x4, x5, some (machO w), x7, some (priD w.rows wd F), x9, x10, some (longD l), x12, x13, x14, some (runD (wr1 l) (wr2 l)), x16, x17, x18, x19, x20, x21] st = .nx [x0, x1, x2, x3, x4, x5, some (machO w), x7, some (priD w.rows wd F), x9, x10, some (longD l), x12, x13, x14, some (runD (wr1 l) (wr2 l)), x16, x17, x18, x19, x20, x21] st' ∧ St st' := by
  have hT : (if 4 < t then 9 else 16) ≤ 16 := by split <;> omega
  have lo := hl.lok (by omega) hT
  have wh := hl.whole (by omega) hT
  have w9 := hl.wr (by omega) hT
  obtain ⟨s1, e1, m1⟩ := lo.ticks h.m hs.nl
  have h1 := hs.more m1
  have e2 := ticks_ok (st := s1) h.m wh (by omega)
  have v := (walk_wr (w := w) (l := l) 0 fun p hp => (hl.run p hp).1.len).1
  rw [v] at e2
  obtain ⟨s2, e3, m2⟩ := lo.price h h1.nl
  have e4 := h.price (st := s2) (ch := wr1 l) (by omega) wh.rows
  have i1 := int_ne (st := s1) (a := (sumL (tkF w) l 0).1) rfl
  have i2 := fr_ne (st := s2) (a := priceV F wd (wr1 l)) rfl
  have e3 : m_long_price [priD w.rows wd F, longD l] s1 = .ok (frV (priceV F wd (wr1 l))) s2 := e3
  have r0 : ∀ s, fIx (runD (wr1 l) (wr2 l)) (.int 0) s = .ok (.str (tx (wr1 l))) s := fun s => by simp [runD]
  refine ⟨s2, ?_, h1.more m2⟩
  simp [d_law_3, e1, e2, e3, e4, i2, r0]
theorem red_zero {L : Int} (hL : 0 < L) : red 0 L = (0, 1) := by
  have := red_eq (N := 0) (D := L) (N' := 0) (D' := 1) hL (by omega) (by simp)
  rw [this]
  exact red_id (by omega) (by simp)
theorem law4_ok (h : MP w wd F) (hs : St st) (hl : PartsOk w l t (if 4 < t then 9 else 16)) (ht : t < 8) (hr : RunOk w ch as) (h9 : ch.length ≤ 900) : ∃ st', d_law_4 [x0, x1, x2, x3, x4, x5, some (machO w), x7, some (priD w.rows wd F), some (runD ch as), x10, some (longD l), x12, x13, x14, some (runD (wr1 l) (wr2 l)), x16, x17, x18, x19, x20, x21] st = .nx [x0, x1, x2, x3, x4, x5, some (machO w), x7, some (priD w.rows wd F), some (runD ch as), x10, some (longD l), x12, x13, x14, some (runD (wr1 l) (wr2 l)), x16, x17, x18, x19, x20, x21] st' ∧ St st' := by
  have hT : (if 4 < t then 9 else 16) ≤ 16 := by split <;> omega
  have lo := hl.lok (by omega) hT
  have wh := hl.whole (by omega) hT
  have w9 := hl.wr (by omega) hT
  have hlen := hl.len
  have lo2 : LOk w (l ++ [((ch, as), 0)]) := ⟨fun p hp => by
    rcases List.mem_append.mp hp with z | z
    · exact lo.run p z
    · rw [List.mem_singleton.mp z]; exact ⟨hr, h9⟩, fun p hp => by
    rcases List.mem_append.mp hp with z | z
    · exact lo.times p z
    · rw [List.mem_singleton.mp z]; exact Nat.zero_le _, by simp; omega⟩
  obtain ⟨s1, e1, m1⟩ := lo2.ticks h.m hs.nl
  have h1 := hs.more m1
  have e2 := ticks_ok (st := s1) h.m wh (by omega)
  have v := (walk_wr (w := w) (l := l) 0 fun p hp => (hl.run p hp).1.len).1
  rw [v] at e2
  rw [sumL_app] at e1
  have z0 : (sumL (tkF w) [((ch, as), 0)] (sumL (tkF w) l 0).2).1 = 0 := by simp [sumL, smN]
  rw [z0, Int.add_zero] at e1
  have lo0 : LOk w [] := ⟨(fun p hp => by cases hp), (fun p hp => by cases hp), by simp⟩
  obtain ⟨s2, e3, m2⟩ := lo0.price h h1.nl
  have e3 : m_long_price [priD w.rows wd F, .tup []] s1 = .ok (frV (red 0 MM)) s2 := e3
  rw [red_zero MM_pos] at e3
  have i1 := int_ne (st := s1) (a := (sumL (tkF w) l 0).1) rfl
  have i2 := fr_ne (st := s2) (a := (0, 1)) rfl
  have b0 : 0 ≤ bigLine := by decide
  have b1 : 1 ≤ bigLine := by decide
  have b2 : 2 ≤ bigLine := by decide
  have bl : l.length + 1 ≤ bigLine := le_big (by omega)
  have ea : ∀ s, fAdd (longD l) (.tup [.tup [runD ch as, .int 0]]) s = .ok (longD (l ++ [((ch, as), 0)])) s := fun s => by simp [longD, bl, turnD, rpD]
  have i2' : fEq true (frV (0, 1)) (.tup [.int 0, .int 1]) s2 = .ok (.bl false) s2 := i2
  refine ⟨s2, ?_, h1.more m2⟩
  simp [d_law_4, ea, e1, e2, e3, i2', b0, b1, b2]
theorem one_ok (hr : RunOk w pc pa) (h9 : pc.length ≤ 900) (ht : t ≤ 10 ^ 30) : LOk w [((pc, pa), t)] := ⟨fun p hp => by rw [List.mem_singleton.mp hp]; exact ⟨hr, h9⟩, fun p hp => by rw [List.mem_singleton.mp hp]; exact ht, by simp⟩
theorem law5_ok (h : MP w wd F) (hs : St st) (hr : RunOk w pc pa) (h9 : pc.length ≤ 900) (ht : t ≤ 10 ^ 30) : ∃ st', d_law_5 [x0, x1, some w.wD, x3, x4, x5, some (machO w), x7, x8, x9, x10, x11, x12, x13, some (.int (t : Int)), x15, some (runD pc pa), x17, x18, x19, x20, x21] st = .nx [x0, x1, some w.wD, x3, x4, x5, some (machO w), x7, x8, x9, x10, x11, x12, x13, some (.int (t : Int)), x15, some (runD pc pa), x17, x18, x19, x20, x21] st' ∧ St st' := by
  obtain ⟨s1, e1, m1⟩ := (one_ok hr h9 ht).ticks h.m hs.nl
  have e1 : m_long_ticks [machO w, .tup [.tup [runD pc pa, .int (t : Int)]]] st = .ok (.int (smN (tkF w (pc, pa)) t 0 + 0)) s1 := e1
  rw [Int.add_zero] at e1
  have e2 := many_ok (st := s1) (r := (pc, pa)) h.m hr ht
  have e2 : m_law_many [w.wD, runD pc pa, .int (t : Int)] s1 = _ := e2
  have e3 := mapD_ix (st := s1) (n := w.mv.length) (i := 0) (g := pw w (pc, pa) t) (by have := h.m.mv1; omega)
  have e3 : fIx (mapD w.mv.length (pw w (pc, pa) t)) (.int 0) s1 = .ok (.tup [.int (smN (tkF w (pc, pa)) t 0), .int ((itN (tkF w (pc, pa)) t 0 : Nat) : Int)]) s1 := e3
  have i1 := int_ne (st := s1) (a := smN (tkF w (pc, pa)) t 0) rfl
  have b1 : 1 ≤ bigLine := by decide
  have b2 : 2 ≤ bigLine := by decide
  refine ⟨s1, ?_, hs.more m1⟩
  simp [d_law_5, e1, e2, e3, b1, b2]
theorem law6_ok (h : MP w wd F) (hs : St st) (hr : RunOk w pc pa) (h1 : 1 ≤ pc.length) (h5 : pc.length ≤ 5) (ht : t ≤ 10 ^ 30) : ∃ st', d_law_6 [x0, x1, x2, x3, x4, x5, x6, x7, some (priD w.rows wd F), x9, x10, x11, x12, x13, some (.int (t : Int)), x15, some (runD pc pa), x17, x18, x19, x20, x21] st = .nx [x0, x1, x2, x3, x4, x5, x6, x7, some (priD w.rows wd F), x9, x10, x11, x12, x13, some (.int (t : Int)), x15, some (runD pc pa), x17, x18, x19, x20, x21] st' ∧ St st' := by
  obtain ⟨s1, e1, m1⟩ := (one_ok hr (by omega) ht).price h hs.nl
  have e1 : m_long_price [priD w.rows wd F, .tup [.tup [runD pc pa, .int (t : Int)]]] st = .ok (frV (red (SS MM ((dueN (repL t pc ++ []) wd).map F)) MM)) s1 := e1
  rw [List.append_nil] at e1
  have e1 : m_long_price [priD w.rows wd F, .tup [.tup [runD pc pa, .int (t : Int)]]] st = .ok (frV (red (qv F wd pc t) MM)) s1 := e1
  have e2 := great_ok (st := s1) (cs := w.rows) (as := pa) h.f h.nd h.al h.w1 h.w3 hr.rows h1 h5 ht
  have i1 := fr_ne (st := s1) (a := red (qv F wd pc t) MM) rfl
  have b1 : 1 ≤ bigLine := by decide
  have b2 : 2 ≤ bigLine := by decide
  refine ⟨s1, ?_, hs.more m1⟩
  simp [d_law_6, e1, e2, b1, b2, i1]
theorem law7_ok (h : MP w wd F) (hs : St st) (hr0 : RunOk w ch as) (h90 : ch.length ≤ 900) (hr : RunOk w pc pa) (h9 : pc.length ≤ 900) (ht : t ≤ 10 ^ 30) : ∃ st', d_law_7 [x0, x1, x2, x3, x4, x5, some (machO w), x7, x8, some (runD ch as), x10, x11, x12, x13, some (.int (t : Int)), x15, some (runD pc pa), some (mapD w.mv.length (cmp2 (tkF w (ch, as)) (pw w (pc, pa) t))), x18, x19, x20, x21] st = .nx [x0, x1, x2, x3, x4, x5, some (machO w), x7, x8, some (runD ch as), x10, x11, x12, x13, some (.int (t : Int)), x15, some (runD pc pa), some (mapD w.mv.length (cmp2 (tkF w (ch, as)) (pw w (pc, pa) t))), x18, x19, x20, x21] st' ∧ St st' := by
  have lo : LOk w [((ch, as), 1), ((pc, pa), t)] := ⟨fun p hp => by
    simp only [List.mem_cons, List.not_mem_nil, or_false] at hp
    rcases hp with rfl | rfl
    · exact ⟨hr0, h90⟩
    · exact ⟨hr, h9⟩, fun p hp => by
    simp only [List.mem_cons, List.not_mem_nil, or_false] at hp
    rcases hp with rfl | rfl
    · exact show 1 ≤ 10 ^ 30 from by decide
    · exact ht, by simp⟩
  obtain ⟨s1, e1, m1⟩ := lo.ticks h.m hs.nl
  have v : (sumL (tkF w) [((ch, as), 1), ((pc, pa), t)] 0).1 = (cmp2 (tkF w (ch, as)) (pw w (pc, pa) t) 0).1 := by
    simp [sumL, cmp2, pw, smN, itN]
  rw [v] at e1
  have e1 : m_long_ticks [machO w, .tup [.tup [runD ch as, .int 1], .tup [runD pc pa, .int (t : Int)]]] st = .ok (.int (cmp2 (tkF w (ch, as)) (pw w (pc, pa) t) 0).1) s1 := e1
  generalize cmp2 (tkF w (ch, as)) (pw w (pc, pa) t) = g at e1
  have e3 := mapD_ix (st := s1) (n := w.mv.length) (i := 0) (g := g) (by have := h.m.mv1; omega)
  have e3 : fIx (mapD w.mv.length g) (.int 0) s1 = .ok (.tup [.int (g 0).1, .int ((g 0).2 : Int)]) s1 := e3
  have b2 : 2 ≤ bigLine := by decide
  refine ⟨s1, ?_, hs.more m1⟩
  simp [d_law_7, e1, e3, b2]
end
end DD

namespace DD
open PySem L2 PyProof.Rows
section
variable {st : Sto}
theorem cutL_to {α : Type} {l : List α} {i : Nat} : cutL l none (some (i : Int)) = l.take i := by
  unfold cutL
  rw [HT.sIx_none, HT.sIx_nat, List.drop_zero, Nat.sub_zero, List.take_eq_take_iff]
  omega
theorem fSl_str_to' {cs : List Nat} {i : Nat} (h : cs.length ≤ bigLine) : fSl (.str (tx cs)) none (some (i : Int)) st = .ok (.str (tx (cs.take i))) st := by
  have hl : (tx cs).length ≤ bigLine := h
  simp only [fSl, hl, if_true]
  congr 2
  show Str.mk ((((tx cs).cps.toList.drop (HT.sIx (tx cs).length 0 none)).take (HT.sIx (tx cs).length (tx cs).length (some (i : Int)) - HT.sIx (tx cs).length 0 none))).toArray = tx (cs.take i)
  rw [HT.sIx_nat, HT.sIx_none, tx_list, tx_length, Nat.sub_zero, List.drop_zero]
  show tx (List.take (min i cs.length) cs) = tx (cs.take i)
  rw [tx_inj, List.take_eq_take_iff]; omega
/-! other rows -/
def far8 (cs : List Nat) : List Nat := (([97, 98, 99, 100, 101, 102, 103, 104] : List Nat).filter fun c => decide (c ∉ cs)).take cs.length
theorem far8_len {cs : List Nat} (h3 : cs.length ≤ 3) (nd : cs.Nodup) : (far8 cs).length = cs.length := by
  have h1 : 8 ≤ (([97, 98, 99, 100, 101, 102, 103, 104] : List Nat).filter fun c => decide (c ∉ cs)).length + cs.length := by
    have e := List.length_eq_countP_add_countP (l := ([97, 98, 99, 100, 101, 102, 103, 104] : List Nat)) (fun c => decide (c ∉ cs))
    rw [List.countP_eq_length_filter, List.countP_eq_length_filter] at e
    have l2 := nodup_le (l := ([97, 98, 99, 100, 101, 102, 103, 104] : List Nat).filter fun c => decide ¬(decide (c ∉ cs)) = true) (T := cs) (List.Pairwise.filter _ (by decide)) (fun x hx => by
      have := (List.mem_filter.mp hx).2
      simpa using this)
    have e8 : ([97, 98, 99, 100, 101, 102, 103, 104] : List Nat).length = 8 := rfl
    rw [e8] at e
    omega
  unfold far8
  rw [List.length_take]
  omega
theorem far8_rows {cs : List Nat} (hc : RowsOk cs) (h3 : cs.length ≤ 3) : RowsOk (far8 cs) ∧ ∀ c ∈ far8 cs, c ∉ cs := by
  have hl := far8_len h3 (hc.1.imp fun h => Nat.ne_of_lt h)
  have sub : (far8 cs).Sublist [97, 98, 99, 100, 101, 102, 103, 104] := (List.take_sublist _ _).trans List.filter_sublist
  refine ⟨⟨List.Pairwise.sublist sub (by decide), fun c hm => ?_, by rw [hl]; exact hc.2.2.1, by rw [hl]; exact hc.2.2.2⟩, fun c hm => ?_⟩
  · have := sub.mem hm
    simp only [List.mem_cons, List.not_mem_nil, or_false] at this
    omega
  · have := (List.mem_filter.mp (List.mem_of_mem_take hm)).2
    simpa using this
noncomputable def dFar15 : DE := dMeth isStr fJoin (dC (.str "")) (dCons (dSl (dFz (dLc (dSigns (dC (.str "abcdefgh"))) (gdName 21) (dTst (dBin (fIn true) (dVar 21) (dVar 3))) (dVar 21) [21])) dNoPart (dPart (dCall fLen (dCons (dVar 3) dNil)))) dNil)
theorem s_ah : (Str.ofString "abcdefgh" : Str) = tx [97, 98, 99, 100, 101, 102, 103, 104] := by decide +kernel
def farP (cs : List Nat) (x : D) : Bool := !inL cs x
theorem farP_tx {cs : List Nat} {c : Nat} : farP cs (.str (tx [c])) = decide (c ∉ cs) := by simp [farP, inL]
theorem far15_ok {cs : List Nat} {x0 x1 x2 x4 x5 x6 x7 x8 x9 x10 x11 x12 x13 x14 x15 x16 x17 x18 x19 x20 x21 : Option D} (h3 : cs.length ≤ 3) : dFar15 [x0, x1, x2, some (.str (tx cs)), x4, x5, x6, x7, x8, x9, x10, x11, x12, x13, x14, x15, x16, x17, x18, x19, x20, x21] st = .ok (.str (tx (far8 cs))) st := by
  have b8 : 8 ≤ bigLine := by decide
  have e2 : ([D.str (tx [97]), D.str (tx [98]), D.str (tx [99]), D.str (tx [100]), D.str (tx [101]), D.str (tx [102]), D.str (tx [103]), D.str (tx [104])].filter (farP cs)).map id = (([97, 98, 99, 100, 101, 102, 103, 104] : List Nat).filter fun c => decide (c ∉ cs)).map fun c => .str (tx [c]) := by
    rw [List.map_id]
    show (([97, 98, 99, 100, 101, 102, 103, 104].map fun c => D.str (tx [c])).filter (farP cs)) = _
    rw [List.filter_map]
    congr 1
    apply List.filter_congr
    intro c _
    exact farP_tx
  have s_ah' : ("abcdefgh" : Str) = tx [97, 98, 99, 100, 101, 102, 103, 104] := s_ah
  have ll : (tx cs).length ≤ bigLine := le_big (show cs.length ≤ 1000 by omega)
  have lb : (far8 cs).length ≤ bigLine := le_big (by unfold far8; rw [List.length_take]; omega)
  have ej := fJoin_signs (st := st) lb
  unfold dFar15
  rw [s_ah']
  simp [b8, wipeE, isStr, tx_nil]
  generalize hm : lcLoop _ _ _ _ _ _ _ = rr
  have hr := lcf_use (farP cs) id hm (fun x hx => by
    simp only [List.mem_cons, List.not_mem_nil, or_false] at hx
    rcases hx with rfl | rfl | rfl | rfl | rfl | rfl | rfl | rfl <;> exact ⟨_, rfl, by simp [farP, inL]; exact decide_eq_decide.mpr Iff.rfl, fun _ => rfl⟩)
  subst hr
  rw [e2]
  have ec : cutL ((([97, 98, 99, 100, 101, 102, 103, 104] : List Nat).filter fun c => decide (c ∉ cs)).map fun c => D.str (tx [c])) none (some (cs.length : Int)) = (far8 cs).map fun c => D.str (tx [c]) := by
    rw [cutL_to, ← List.map_take]; rfl
  generalize (([97, 98, 99, 100, 101, 102, 103, 104] : List Nat).filter fun c => decide (c ∉ cs)).map (fun c => D.str (tx [c])) = XL at ec
  simp [fLen_str ll, ec, ej]
/-! words -/
section
variable {w : Mach} {wd : Nat} {F : List Nat → Int × Int} {ch as cs : List Nat}
theorem word_rows {d : D} (hw : MachOk w) (hc : RowsOk cs) (hne : cs ≠ w.rows) : m_law_word [machO w, priD cs wd F, d] st = .ok (.str "rows") st := by
  have e1 := same_rows (st := st) (r1 := .non) (r2 := .non) (one := machO w) (two := priD cs wd F) fld_rows fld_rowsP (rows_strOk hw.rows) (rows_strOk hc)
  rw [if_neg (by rw [tx_inj]; exact fun z => hne z.symm)] at e1
  have e2 : m_rest [machO w, priD cs wd F, d] st = .exc ("OtherRows", none) st := by
    rw [m_rest_e]; simp [mOf_e, d_rest, e1]
  rw [m_law_word_e]
  have t1 : subT (Str.ofString "OtherRows") (Str.ofString "OtherRows") = some true := by decide +kernel
  have t2 : subT (Str.ofString "NoRun") (Str.ofString "OtherRows") = some false := by decide +kernel
  have t3 : subT (Str.ofString "NoRun") (Str.ofString "NoRun") = some true := by decide +kernel
  simp [mOf_e, d_law_word, e2, hdR, noExcR, t1, t2, t3]
theorem word_run {d : D} (hw : MachOk w) (hg : GD d) (hj : runJ w.rows (w.ans : Int) d = false) : m_law_word [machO w, priD w.rows wd F, d] st = .ok (.str "run") st := by
  have e1 := same_rows (st := st) (r1 := .non) (r2 := .non) (one := machO w) (two := priD w.rows wd F) fld_rows fld_rowsP (rows_strOk hw.rows) (rows_strOk hw.rows)
  rw [if_pos rfl] at e1
  have e3 := is_run_gen (st := st) (cs := w.rows) (ans := (w.ans : Int)) hg
  rw [hj] at e3
  have e4 : m_check_run [machO w, d] st = .exc ("NoRun", none) st := by
    rw [m_check_run_e]; simp [mOf_e, d_check_run, fld_rows, fld_answers, e3]
  have e2 : m_rest [machO w, priD w.rows wd F, d] st = .exc ("NoRun", none) st := by
    rw [m_rest_e]; simp [mOf_e, d_rest, e1, e4]
  rw [m_law_word_e]
  have t1 : subT (Str.ofString "OtherRows") (Str.ofString "OtherRows") = some true := by decide +kernel
  have t2 : subT (Str.ofString "NoRun") (Str.ofString "OtherRows") = some false := by decide +kernel
  have t3 : subT (Str.ofString "NoRun") (Str.ofString "NoRun") = some true := by decide +kernel
  simp [mOf_e, d_law_word, e2, hdR, noExcR, t1, t2, t3]
end
end
end DD

namespace DD
open PySem L2 PyProof.Rows
theorem noLam_its (its : List (List (List (Nat × Nat)))) : noLamO (.lst (its.map itD)) = true := noLams_map (f := itD) (fun it => show noLams (it.map psD) = true from noLams_map (f := psD) (fun ps => show noLams (ps.map pD) = true from noLams_map (f := pD) (fun p => rfl) ps) it) its
theorem noLam_tab {ks : List (List Nat)} {F : List Nat → Int × Int} : noLamO (tabO ks F) = true := noLams_map (fun u => rfl) ks
theorem law_ok (ns : List Int) (hl : ns.length ≤ 63) : ∃ st', m_law [.sc (ns.map .int)] [] = .ok (.bl true) st' := by
  obtain ⟨h, e0⟩ := hand_ok (st := []) hl
  have e0 : m_law_hand [.sc (ns.map .int)] [] = .ok (.ref 0) [.lst h.ds] := e0
  obtain ⟨s0, es0⟩ : ∃ s0 : Sto, s0 = [.lst h.ds] := ⟨_, rfl⟩
  have S0 : St s0 := by
    rw [es0]
    exact ⟨⟨h, rfl⟩, fun o ho => by rw [List.mem_singleton.mp ho]; exact noRef_hand h, by
      have : noLams (h.cells.map D.int) = true := noLams_map (fun _ => rfl) _
      simp [NL, Hand.ds, noLamO, noLams, noLam, this]⟩
  rw [← es0] at e0
  obtain ⟨w, s1, e1, hg1, hr1, hw, lr, lm, its, s0', dr0, es1⟩ := world_ok2 (most := 3) (size := 4) S0.hg S0.nr (by omega) (by omega) (by omega) (by omega)
  have e1 := e1 3 4 rfl rfl
  have S1 : St s1 := by rw [es1]; exact (S0.dr dr0).app (noRef_its its) (noLam_its its)
  have e2 := make_ok hw S1.nr
  obtain ⟨a2, s2, ha2, e3, dr2⟩ := draw (many := 3) S1.hg (by omega) (by omega)
  have S2 := S1.dr dr2
  obtain ⟨wd, ewd, w1, w3⟩ : ∃ wd : Nat, (1 : Int) + (a2 : Int) = (wd : Int) ∧ 1 ≤ wd ∧ wd ≤ 3 := ⟨1 + a2, by omega, by omega, by omega⟩
  have no : 94 ∉ w.rows := fun z => by have := hw.rows.2.1 _ z; omega
  obtain ⟨F, s3', e4, dr3, hF⟩ := law_table_ok (w := wd) S2.hg hw.rows no w1 w3
  obtain ⟨s3, es3⟩ : ∃ s3 : Sto, s3 = s3' ++ [tabO (allN w.rows wd) F] := ⟨_, rfl⟩
  have S3 : St s3 := by rw [es3]; exact (S2.dr dr3).app noRef_tab noLam_tab
  have l3 : s3'.length = s2.length := dr3.len
  have e5 := prices_ok (L := s2.length) (F := F) (w := wd) hw.rows w1 w3 S3.nr (by rw [es3, ← l3]; exact app_get) (fun u hu => fr30w (hF u hu))
  rw [← es3] at e4
  have hp : MP w wd F := ⟨hw, w1, w3, hF⟩
  obtain ⟨a4, s4, ha4, e6, dr4⟩ := draw (many := 8) S3.hg (by omega) (by omega)
  have S4 := S3.dr dr4
  obtain ⟨K, eK, hK⟩ : ∃ K : Nat, ([D.int 0, D.int 1, D.int 5, D.int 20, D.int 5, D.int 20, D.int 1, D.int 200] : List D)[a4]? = some (.int (K : Int)) ∧ K ≤ 200 := by
    have : a4 < 8 := by omega
    match a4, this with
    | 0, _ => exact ⟨0, rfl, by omega⟩
    | 1, _ => exact ⟨1, rfl, by omega⟩
    | 2, _ => exact ⟨5, rfl, by omega⟩
    | 3, _ => exact ⟨20, rfl, by omega⟩
    | 4, _ => exact ⟨5, rfl, by omega⟩
    | 5, _ => exact ⟨20, rfl, by omega⟩
    | 6, _ => exact ⟨1, rfl, by omega⟩
    | 7, _ => exact ⟨200, rfl, by omega⟩
  obtain ⟨ch, as, s5, e7, dr5, r1, r2, r3, r4⟩ := run_ok (many := K) S4.hg hw.rows hw.ans1 hw.ans3 (by omega)
  have S5 := S4.dr dr5
  have hr : RunOk w ch as := ⟨by omega, by omega, r3, r4⟩
  have h9 : ch.length ≤ 900 := by omega
  have e8 := hp.price (st := s5) (ch := ch) (by omega) r3
  obtain ⟨t, s6, ht, e9, dr6⟩ := draw (many := 8) S5.hg (by omega) (by omega)
  have ht : t < 8 := by omega
  have S6 := S5.dr dr6
  have b0 : 0 ≤ bigLine := by decide
  have b1 : 1 ≤ bigLine := by decide
  have b2 : 2 ≤ bigLine := by decide
  have b3 : 3 ≤ bigLine := by decide
  have b8 : 8 ≤ bigLine := by decide
  have q0 : (dSet 1 (dOwn m_law_hand 1 (dCons (dVar 0) dNil))) [some (.sc (ns.map .int)), none, none, none, none, none, none, none, none, none, none, none, none, none, none, none, none, none, none, none, none, none] [] = .nx [some (.sc (ns.map .int)), some (.ref 0), none, none, none, none, none, none, none, none, none, none, none, none, none, none, none, none, none, none, none, none] s0 := by
    simp [e0]
  have q1 : (dSet 2 (dOwn m_law_world 3 (dCons (dVar 1) (dCons (dC (.int 3)) (dCons (dC (.int 4)) dNil))))) [some (.sc (ns.map .int)), some (.ref 0), none, none, none, none, none, none, none, none, none, none, none, none, none, none, none, none, none, none, none, none] s0 = .nx [some (.sc (ns.map .int)), some (.ref 0), some w.wD, none, none, none, none, none, none, none, none, none, none, none, none, none, none, none, none, none, none, none] s1 := by
    simp [e1]
  have q2 : (dAsg (dVar 2) (gdTup 3 (gdCons (gdName 3) (gdCons (gdName 4) (gdCons (gdName 5) gdNil))))) [some (.sc (ns.map .int)), some (.ref 0), some w.wD, none, none, none, none, none, none, none, none, none, none, none, none, none, none, none, none, none, none, none] s1 = .nx [some (.sc (ns.map .int)), some (.ref 0), some w.wD, some (.str (tx w.rows)), some (.int (w.ans : Int)), some (mvD w.mv), none, none, none, none, none, none, none, none, none, none, none, none, none, none, none, none] s1 := by
    simp [Mach.wD]
  have q3 : (dSet 6 (dMake "Machine" m_Machine_init 4 (dCons (dVar 3) (dCons (dVar 4) (dCons (dVar 5) dNil))))) [some (.sc (ns.map .int)), some (.ref 0), some w.wD, some (.str (tx w.rows)), some (.int (w.ans : Int)), some (mvD w.mv), none, none, none, none, none, none, none, none, none, none, none, none, none, none, none, none] s1 = .nx [some (.sc (ns.map .int)), some (.ref 0), some w.wD, some (.str (tx w.rows)), some (.int (w.ans : Int)), some (mvD w.mv), some (machO w), none, none, none, none, none, none, none, none, none, none, none, none, none, none, none] s1 := by
    simp [dMake_e, e2]
  have q4 : (dSet 7 (dBin fAdd (dC (.int 1)) (dOwn m_law_draw 2 (dCons (dVar 1) (dCons (dC (.int 3)) dNil))))) [some (.sc (ns.map .int)), some (.ref 0), some w.wD, some (.str (tx w.rows)), some (.int (w.ans : Int)), some (mvD w.mv), some (machO w), none, none, none, none, none, none, none, none, none, none, none, none, none, none, none] s1 = .nx [some (.sc (ns.map .int)), some (.ref 0), some w.wD, some (.str (tx w.rows)), some (.int (w.ans : Int)), some (mvD w.mv), some (machO w), some (.int (wd : Int)), none, none, none, none, none, none, none, none, none, none, none, none, none, none] s2 := by
    simp [e3, ewd]
  have q5 : (dSet 8 (dMake "Prices" m_Prices_init 4 (dCons (dVar 3) (dCons (dVar 7) (dCons (dOwn m_law_table 3 (dCons (dVar 1) (dCons (dVar 3) (dCons (dVar 7) dNil)))) dNil))))) [some (.sc (ns.map .int)), some (.ref 0), some w.wD, some (.str (tx w.rows)), some (.int (w.ans : Int)), some (mvD w.mv), some (machO w), some (.int (wd : Int)), none, none, none, none, none, none, none, none, none, none, none, none, none, none] s2 = .nx [some (.sc (ns.map .int)), some (.ref 0), some w.wD, some (.str (tx w.rows)), some (.int (w.ans : Int)), some (mvD w.mv), some (machO w), some (.int (wd : Int)), some (priD w.rows wd F), none, none, none, none, none, none, none, none, none, none, none, none, none] s3 := by
    simp [dMake_e, e4, e5]
  have q6 : (dSet 9 (dOwn m_law_run 4 (dCons (dVar 1) (dCons (dVar 3) (dCons (dVar 4) (dCons (dBin fIx (dFz (dLst (dCons (dC (.int 0)) (dCons (dC (.int 1)) (dCons (dC (.int 5)) (dCons (dC (.int 20)) (dCons (dC (.int 5)) (dCons (dC (.int 20)) (dCons (dC (.int 1)) (dCons (dC (.int 200)) dNil)))))))))) (dOwn m_law_draw 2 (dCons (dVar 1) (dCons (dC (.int 8)) dNil)))) dNil)))))) [some (.sc (ns.map .int)), some (.ref 0), some w.wD, some (.str (tx w.rows)), some (.int (w.ans : Int)), some (mvD w.mv), some (machO w), some (.int (wd : Int)), some (priD w.rows wd F), none, none, none, none, none, none, none, none, none, none, none, none, none] s3 = .nx [some (.sc (ns.map .int)), some (.ref 0), some w.wD, some (.str (tx w.rows)), some (.int (w.ans : Int)), some (mvD w.mv), some (machO w), some (.int (wd : Int)), some (priD w.rows wd F), some (runD ch as), none, none, none, none, none, none, none, none, none, none, none, none] s5 := by
    simp [b8, e6, eK, e7]
  have q7 : (dSet 10 (dOwn m_price 2 (dCons (dVar 8) (dCons (dBin fIx (dVar 9) (dC (.int 0))) dNil)))) [some (.sc (ns.map .int)), some (.ref 0), some w.wD, some (.str (tx w.rows)), some (.int (w.ans : Int)), some (mvD w.mv), some (machO w), some (.int (wd : Int)), some (priD w.rows wd F), some (runD ch as), none, none, none, none, none, none, none, none, none, none, none, none] s5 = .nx [some (.sc (ns.map .int)), some (.ref 0), some w.wD, some (.str (tx w.rows)), some (.int (w.ans : Int)), some (mvD w.mv), some (machO w), some (.int (wd : Int)), some (priD w.rows wd F), some (runD ch as), some (frV (priceV F wd ch)), none, none, none, none, none, none, none, none, none, none, none] s5 := by
    have r0 : fIx (runD ch as) (.int 0) s5 = .ok (.str (tx ch)) s5 := by simp [runD]
    simp [r0, e8]
  have q8 : d_law_1 [some (.sc (ns.map .int)), some (.ref 0), some w.wD, some (.str (tx w.rows)), some (.int (w.ans : Int)), some (mvD w.mv), some (machO w), some (.int (wd : Int)), some (priD w.rows wd F), some (runD ch as), some (frV (priceV F wd ch)), none, none, none, none, none, none, none, none, none, none, none] s5 = .nx [some (.sc (ns.map .int)), some (.ref 0), some w.wD, some (.str (tx w.rows)), some (.int (w.ans : Int)), some (mvD w.mv), some (machO w), some (.int (wd : Int)), some (priD w.rows wd F), some (runD ch as), some (frV (priceV F wd ch)), none, none, none, none, none, none, none, none, none, none, none] s5 := by
    exact law1_ok hp hr h9
  have q9 : (dSet 11 (dTup dNil)) [some (.sc (ns.map .int)), some (.ref 0), some w.wD, some (.str (tx w.rows)), some (.int (w.ans : Int)), some (mvD w.mv), some (machO w), some (.int (wd : Int)), some (priD w.rows wd F), some (runD ch as), some (frV (priceV F wd ch)), none, none, none, none, none, none, none, none, none, none, none] s5 = .nx [some (.sc (ns.map .int)), some (.ref 0), some w.wD, some (.str (tx w.rows)), some (.int (w.ans : Int)), some (mvD w.mv), some (machO w), some (.int (wd : Int)), some (priD w.rows wd F), some (runD ch as), some (frV (priceV F wd ch)), some (.tup []), none, none, none, none, none, none, none, none, none, none] s5 := by
    simp [b0]
  have q10 : (dSet 12 (dOwn m_law_draw 2 (dCons (dVar 1) (dCons (dC (.int 8)) dNil)))) [some (.sc (ns.map .int)), some (.ref 0), some w.wD, some (.str (tx w.rows)), some (.int (w.ans : Int)), some (mvD w.mv), some (machO w), some (.int (wd : Int)), some (priD w.rows wd F), some (runD ch as), some (frV (priceV F wd ch)), some (.tup []), none, none, none, none, none, none, none, none, none, none] s5 = .nx [some (.sc (ns.map .int)), some (.ref 0), some w.wD, some (.str (tx w.rows)), some (.int (w.ans : Int)), some (mvD w.mv), some (machO w), some (.int (wd : Int)), some (priD w.rows wd F), some (runD ch as), some (frV (priceV F wd ch)), some (.tup []), some (.int (t : Int)), none, none, none, none, none, none, none, none, none] s6 := by
    simp [e9]
  obtain ⟨l, y13, y14, s7, q11, dr7, hl7⟩ := law2_ok (w := w) (t := t) (x0 := some (.sc (ns.map .int))) (x2 := some w.wD) (x5 := some (mvD w.mv)) (x6 := some (machO w)) (x7 := some (.int (wd : Int))) (x8 := some (priD w.rows wd F)) (x9 := some (runD ch as)) (x10 := some (frV (priceV F wd ch))) (x13 := none) (x14 := none) (x15 := none) (x16 := none) (x17 := none) (x18 := none) (x19 := none) (x20 := none) (x21 := none) S6 hw ht
  have S7 := S6.dr dr7
  have hT : (if 4 < t then 9 else 16) ≤ 16 := by split <;> omega
  have lo := hl7.lok (by omega) hT
  have wh := hl7.whole (by omega) hT
  have w9 := hl7.wr (by omega) hT
  have ew := written_ok (st := s7) (l := l) (fun p hp => ⟨(hl7.run p hp).1.len, by have := (hl7.run p hp).2; omega, by have := hl7.times p hp; omega⟩) (by omega) (by have := hl7.len; omega)
  have q12 : (dSet 15 (dOwn m_law_written 1 (dCons (dVar 11) dNil))) [some (.sc (ns.map .int)), some (.ref 0), some w.wD, some (.str (tx w.rows)), some (.int (w.ans : Int)), some (mvD w.mv), some (machO w), some (.int (wd : Int)), some (priD w.rows wd F), some (runD ch as), some (frV (priceV F wd ch)), some (longD l), some (.int (t : Int)), y13, y14, none, none, none, none, none, none, none] s7 = .nx [some (.sc (ns.map .int)), some (.ref 0), some w.wD, some (.str (tx w.rows)), some (.int (w.ans : Int)), some (mvD w.mv), some (machO w), some (.int (wd : Int)), some (priD w.rows wd F), some (runD ch as), some (frV (priceV F wd ch)), some (longD l), some (.int (t : Int)), y13, y14, some (runD (wr1 l) (wr2 l)), none, none, none, none, none, none] s7 := by
    simp [ew]
  obtain ⟨s8, q13, S8⟩ := law3_ok (w := w) (wd := wd) (F := F) (l := l) (t := t) (x0 := some (.sc (ns.map .int))) (x1 := some (.ref 0)) (x2 := some w.wD) (x3 := some (.str (tx w.rows))) (x4 := some (.int (w.ans : Int))) (x5 := some (mvD w.mv)) (x7 := some (.int (wd : Int))) (x9 := some (runD ch as)) (x10 := some (frV (priceV F wd ch))) (x12 := some (.int (t : Int))) (x13 := y13) (x14 := y14) (x16 := none) (x17 := none) (x18 := none) (x19 := none) (x20 := none) (x21 := none) hp S7 hl7 ht
  obtain ⟨s9, q14, S9⟩ := law4_ok (w := w) (wd := wd) (F := F) (l := l) (t := t) (ch := ch) (as := as) (x0 := some (.sc (ns.map .int))) (x1 := some (.ref 0)) (x2 := some w.wD) (x3 := some (.str (tx w.rows))) (x4 := some (.int (w.ans : Int))) (x5 := some (mvD w.mv)) (x7 := some (.int (wd : Int))) (x10 := some (frV (priceV F wd ch))) (x12 := some (.int (t : Int))) (x13 := y13) (x14 := y14) (x16 := none) (x17 := none) (x18 := none) (x19 := none) (x20 := none) (x21 := none) hp S8 hl7 ht hr h9
  obtain ⟨n1, s10, hn1, f1, dr10⟩ := draw (many := 1000000000) S9.hg (by omega) (by omega)
  have S10 := S9.dr dr10
  obtain ⟨n2, s11, hn2, f2, dr11⟩ := draw (many := 9) S10.hg (by omega) (by omega)
  have S11 := S10.dr dr11
  obtain ⟨n3, s12, hn3, f3, dr12⟩ := draw (many := 3) S11.hg (by omega) (by omega)
  have S12 := S11.dr dr12
  have p30 : ∀ s, fPow (.int 10) (.int 30) s = .ok (.int 1000000000000000000000000000000) s := fun s => by
    have : (10 : Int) ^ (30 : Int).toNat = 1000000000000000000000000000000 := by decide
    simp [fPow, this]
  have p9 : ∀ s, fPow (.int 10) (.int 9) s = .ok (.int 1000000000) s := fun s => by
    have : (10 : Int) ^ (9 : Int).toNat = 1000000000 := by decide
    simp [fPow, this]
  obtain ⟨T, eT, hT30⟩ : ∃ T : Nat, ([D.int 1000000000000000000000000000000, D.int (7 + (n1 : Int)), D.int (n2 : Int)] : List D)[n3]? = some (.int (T : Int)) ∧ T ≤ 10 ^ 30 := by
    have : n3 < 3 := by omega
    match n3, this with
    | 0, _ => exact ⟨1000000000000000000000000000000, rfl, by decide⟩
    | 1, _ => exact ⟨7 + n1, by simp, by omega⟩
    | 2, _ => exact ⟨n2, rfl, by omega⟩
  have q15 : (dSet 14 (dBin fIx (dFz (dLst (dCons (dBin fPow (dC (.int 10)) (dC (.int 30))) (dCons (dBin fAdd (dC (.int 7)) (dOwn m_law_draw 2 (dCons (dVar 1) (dCons (dBin fPow (dC (.int 10)) (dC (.int 9))) dNil)))) (dCons (dOwn m_law_draw 2 (dCons (dVar 1) (dCons (dC (.int 9)) dNil))) dNil))))) (dOwn m_law_draw 2 (dCons (dVar 1) (dCons (dC (.int 3)) dNil))))) [some (.sc (ns.map .int)), some (.ref 0), some w.wD, some (.str (tx w.rows)), some (.int (w.ans : Int)), some (mvD w.mv), some (machO w), some (.int (wd : Int)), some (priD w.rows wd F), some (runD ch as), some (frV (priceV F wd ch)), some (longD l), some (.int (t : Int)), y13, y14, some (runD (wr1 l) (wr2 l)), none, none, none, none, none, none] s9 = .nx [some (.sc (ns.map .int)), some (.ref 0), some w.wD, some (.str (tx w.rows)), some (.int (w.ans : Int)), some (mvD w.mv), some (machO w), some (.int (wd : Int)), some (priD w.rows wd F), some (runD ch as), some (frV (priceV F wd ch)), some (longD l), some (.int (t : Int)), y13, some (.int (T : Int)), some (runD (wr1 l) (wr2 l)), none, none, none, none, none, none] s12 := by
    simp [p30, p9, f1, f2, f3, b3, eT]
  obtain ⟨n4, s13, hn4, f4, dr13⟩ := draw (many := 5) S12.hg (by omega) (by omega)
  have S13 := S12.dr dr13
  obtain ⟨K2, eK2, k1, k5⟩ : ∃ K2 : Nat, (1 : Int) + (n4 : Int) = (K2 : Int) ∧ 1 ≤ K2 ∧ K2 ≤ 5 := ⟨1 + n4, by omega, by omega, by omega⟩
  obtain ⟨pc, pa, s14, f5, dr14, t1, t2, t3, t4⟩ := run_ok (many := K2) S13.hg hw.rows hw.ans1 hw.ans3 (by omega)
  have S14 := S13.dr dr14
  have hr2 : RunOk w pc pa := ⟨by omega, by omega, t3, t4⟩
  have q16 : (dSet 16 (dOwn m_law_run 4 (dCons (dVar 1) (dCons (dVar 3) (dCons (dVar 4) (dCons (dBin fAdd (dC (.int 1)) (dOwn m_law_draw 2 (dCons (dVar 1) (dCons (dC (.int 5)) dNil)))) dNil)))))) [some (.sc (ns.map .int)), some (.ref 0), some w.wD, some (.str (tx w.rows)), some (.int (w.ans : Int)), some (mvD w.mv), some (machO w), some (.int (wd : Int)), some (priD w.rows wd F), some (runD ch as), some (frV (priceV F wd ch)), some (longD l), some (.int (t : Int)), y13, some (.int (T : Int)), some (runD (wr1 l) (wr2 l)), none, none, none, none, none, none] s12 = .nx [some (.sc (ns.map .int)), some (.ref 0), some w.wD, some (.str (tx w.rows)), some (.int (w.ans : Int)), some (mvD w.mv), some (machO w), some (.int (wd : Int)), some (priD w.rows wd F), some (runD ch as), some (frV (priceV F wd ch)), some (longD l), some (.int (t : Int)), y13, some (.int (T : Int)), some (runD (wr1 l) (wr2 l)), some (runD pc pa), none, none, none, none, none] s14 := by
    simp [f4, eK2, f5]
  obtain ⟨s15, q17, S15⟩ := law5_ok (w := w) (wd := wd) (F := F) (pc := pc) (pa := pa) (t := T) (x0 := some (.sc (ns.map .int))) (x1 := some (.ref 0)) (x3 := some (.str (tx w.rows))) (x4 := some (.int (w.ans : Int))) (x5 := some (mvD w.mv)) (x7 := some (.int (wd : Int))) (x8 := some (priD w.rows wd F)) (x9 := some (runD ch as)) (x10 := some (frV (priceV F wd ch))) (x11 := some (longD l)) (x12 := some (.int (t : Int))) (x13 := y13) (x15 := some (runD (wr1 l) (wr2 l))) (x17 := none) (x18 := none) (x19 := none) (x20 := none) (x21 := none) hp S14 hr2 (by omega) hT30
  obtain ⟨s16, q18, S16⟩ := law6_ok (w := w) (wd := wd) (F := F) (pc := pc) (pa := pa) (t := T) (x0 := some (.sc (ns.map .int))) (x1 := some (.ref 0)) (x2 := some w.wD) (x3 := some (.str (tx w.rows))) (x4 := some (.int (w.ans : Int))) (x5 := some (mvD w.mv)) (x6 := some (machO w)) (x7 := some (.int (wd : Int))) (x9 := some (runD ch as)) (x10 := some (frV (priceV F wd ch))) (x11 := some (longD l)) (x12 := some (.int (t : Int))) (x13 := y13) (x15 := some (runD (wr1 l) (wr2 l))) (x17 := none) (x18 := none) (x19 := none) (x20 := none) (x21 := none) hp S15 hr2 (by omega) (by omega) hT30
  have g1 := map_ok (st := s16) (r := (ch, as)) hw hr
  have g1 : m_law_map [w.wD, runD ch as] s16 = .ok (mapD w.mv.length (tkF w (ch, as))) s16 := g1
  have g2 := many_ok (st := s16) (r := (pc, pa)) hw hr2 hT30
  have g2 : m_law_many [w.wD, runD pc pa, .int (T : Int)] s16 = .ok (mapD w.mv.length (pw w (pc, pa) T)) s16 := g2
  have g3 := behind_ok (st := s16) (n := w.mv.length) (g1 := tkF w (ch, as)) (g2 := pw w (pc, pa) T) (by have := hw.mv12; omega) (fun i hi => walk_lt hw hi hr.rows hr.ans)
  have q19 : (dSet 17 (dOwn m_law_behind 2 (dCons (dOwn m_law_map 2 (dCons (dVar 2) (dCons (dVar 9) dNil))) (dCons (dOwn m_law_many 3 (dCons (dVar 2) (dCons (dVar 16) (dCons (dVar 14) dNil)))) dNil)))) [some (.sc (ns.map .int)), some (.ref 0), some w.wD, some (.str (tx w.rows)), some (.int (w.ans : Int)), some (mvD w.mv), some (machO w), some (.int (wd : Int)), some (priD w.rows wd F), some (runD ch as), some (frV (priceV F wd ch)), some (longD l), some (.int (t : Int)), y13, some (.int (T : Int)), some (runD (wr1 l) (wr2 l)), some (runD pc pa), none, none, none, none, none] s16 = .nx [some (.sc (ns.map .int)), some (.ref 0), some w.wD, some (.str (tx w.rows)), some (.int (w.ans : Int)), some (mvD w.mv), some (machO w), some (.int (wd : Int)), some (priD w.rows wd F), some (runD ch as), some (frV (priceV F wd ch)), some (longD l), some (.int (t : Int)), y13, some (.int (T : Int)), some (runD (wr1 l) (wr2 l)), some (runD pc pa), some (mapD w.mv.length (cmp2 (tkF w (ch, as)) (pw w (pc, pa) T))), none, none, none, none] s16 := by
    simp [g1, g2, g3]
  obtain ⟨s17, q20, S17⟩ := law7_ok (w := w) (wd := wd) (F := F) (ch := ch) (as := as) (pc := pc) (pa := pa) (t := T) (x0 := some (.sc (ns.map .int))) (x1 := some (.ref 0)) (x2 := some w.wD) (x3 := some (.str (tx w.rows))) (x4 := some (.int (w.ans : Int))) (x5 := some (mvD w.mv)) (x7 := some (.int (wd : Int))) (x8 := some (priD w.rows wd F)) (x10 := some (frV (priceV F wd ch))) (x11 := some (longD l)) (x12 := some (.int (t : Int))) (x13 := y13) (x15 := some (runD (wr1 l) (wr2 l))) (x18 := none) (x19 := none) (x20 := none) (x21 := none) hp S16 hr h9 hr2 (by omega) hT30
  obtain ⟨hfr, hfn⟩ := far8_rows hw.rows lr
  have fl := far8_len lr (hw.rows.1.imp fun h => Nat.ne_of_lt h)
  have no2 : 94 ∉ far8 w.rows := fun z => by have := hfr.2.1 _ z; omega
  have q21 : (dSet 18 (dMeth isStr fJoin (dC (.str "")) (dCons (dSl (dFz (dLc (dSigns (dC (.str "abcdefgh"))) (gdName 21) (dTst (dBin (fIn true) (dVar 21) (dVar 3))) (dVar 21) [21])) dNoPart (dPart (dCall fLen (dCons (dVar 3) dNil)))) dNil))) [some (.sc (ns.map .int)), some (.ref 0), some w.wD, some (.str (tx w.rows)), some (.int (w.ans : Int)), some (mvD w.mv), some (machO w), some (.int (wd : Int)), some (priD w.rows wd F), some (runD ch as), some (frV (priceV F wd ch)), some (longD l), some (.int (t : Int)), y13, some (.int (T : Int)), some (runD (wr1 l) (wr2 l)), some (runD pc pa), some (mapD w.mv.length (cmp2 (tkF w (ch, as)) (pw w (pc, pa) T))), none, none, none, none] s17 = .nx [some (.sc (ns.map .int)), some (.ref 0), some w.wD, some (.str (tx w.rows)), some (.int (w.ans : Int)), some (mvD w.mv), some (machO w), some (.int (wd : Int)), some (priD w.rows wd F), some (runD ch as), some (frV (priceV F wd ch)), some (longD l), some (.int (t : Int)), y13, some (.int (T : Int)), some (runD (wr1 l) (wr2 l)), some (runD pc pa), some (mapD w.mv.length (cmp2 (tkF w (ch, as)) (pw w (pc, pa) T))), some (.str (tx (far8 w.rows))), none, none, none] s17 := by
    have ef := far15_ok (cs := w.rows) (st := s17) (x0 := some (.sc (ns.map .int))) (x1 := some (.ref 0)) (x2 := some w.wD) (x4 := some (.int (w.ans : Int))) (x5 := some (mvD w.mv)) (x6 := some (machO w)) (x7 := some (.int (wd : Int))) (x8 := some (priD w.rows wd F)) (x9 := some (runD ch as)) (x10 := some (frV (priceV F wd ch))) (x11 := some (longD l)) (x12 := some (.int (t : Int))) (x13 := y13) (x14 := some (.int (T : Int))) (x15 := some (runD (wr1 l) (wr2 l))) (x16 := some (runD pc pa)) (x17 := some (mapD w.mv.length (cmp2 (tkF w (ch, as)) (pw w (pc, pa) T)))) (x18 := none) (x19 := none) (x20 := none) (x21 := none) lr
    show dSet 18 dFar15 _ _ = _
    rw [dSet_e, ef]
    rfl
  obtain ⟨F2, s18', g4, dr18, hF2⟩ := law_table_ok (w := 1) S17.hg hfr no2 (by omega) (by omega)
  obtain ⟨s18, es18⟩ : ∃ s18 : Sto, s18 = s18' ++ [tabO (allN (far8 w.rows) 1) F2] := ⟨_, rfl⟩
  have S18 : St s18 := by rw [es18]; exact (S17.dr dr18).app noRef_tab noLam_tab
  have l18 : s18'.length = s17.length := dr18.len
  have g5 := prices_ok (L := s17.length) (F := F2) (w := 1) hfr (by omega) (by omega) S18.nr (by rw [es18, ← l18]; exact app_get) (fun u hu => fr30w (hF2 u hu))
  rw [← es18] at g4
  have g4' : m_law_table [.ref 0, .str (tx (far8 w.rows)), .int 1] s17 = .ok (.ref s17.length) s18 := g4
  have g5' : mkR (Str.ofString "Prices") m_Prices_init 4 [.str (tx (far8 w.rows)), .int 1, .ref s17.length] s18 = .ok (priD (far8 w.rows) 1 F2) s18 := g5
  obtain ⟨f0, fr0, ef0⟩ : ∃ f0 fr0, far8 w.rows = f0 :: fr0 := by
    cases q : far8 w.rows with
    | nil => have := hfr.2.2.1; rw [q] at this; simp at this
    | cons c r => exact ⟨c, r, rfl⟩
  have hf0 : f0 ∉ w.rows := hfn f0 (by rw [ef0]; exact List.mem_cons_self)
  have q22 : (dSet 19 (dMake "Prices" m_Prices_init 4 (dCons (dVar 18) (dCons (dC (.int 1)) (dCons (dOwn m_law_table 3 (dCons (dVar 1) (dCons (dVar 18) (dCons (dC (.int 1)) dNil)))) dNil))))) [some (.sc (ns.map .int)), some (.ref 0), some w.wD, some (.str (tx w.rows)), some (.int (w.ans : Int)), some (mvD w.mv), some (machO w), some (.int (wd : Int)), some (priD w.rows wd F), some (runD ch as), some (frV (priceV F wd ch)), some (longD l), some (.int (t : Int)), y13, some (.int (T : Int)), some (runD (wr1 l) (wr2 l)), some (runD pc pa), some (mapD w.mv.length (cmp2 (tkF w (ch, as)) (pw w (pc, pa) T))), some (.str (tx (far8 w.rows))), none, none, none] s17 = .nx [some (.sc (ns.map .int)), some (.ref 0), some w.wD, some (.str (tx w.rows)), some (.int (w.ans : Int)), some (mvD w.mv), some (machO w), some (.int (wd : Int)), some (priD w.rows wd F), some (runD ch as), some (frV (priceV F wd ch)), some (longD l), some (.int (t : Int)), y13, some (.int (T : Int)), some (runD (wr1 l) (wr2 l)), some (runD pc pa), some (mapD w.mv.length (cmp2 (tkF w (ch, as)) (pw w (pc, pa) T))), some (.str (tx (far8 w.rows))), some (priD (far8 w.rows) 1 F2), none, none] s18 := by
    simp [dMake_e, g4', g5']
  have q23 : (dSet 20 (dTup (dCons (dBin fAdd (dSl (dBin fIx (dVar 9) (dC (.int 0))) dNoPart (dPart (dC (.int 5)))) (dBin fIx (dVar 18) (dC (.int 0)))) (dCons (dBin fAdd (dSl (dBin fIx (dVar 9) (dC (.int 1))) dNoPart (dPart (dC (.int 5)))) (dTup (dCons (dC (.int 0)) dNil))) dNil)))) [some (.sc (ns.map .int)), some (.ref 0), some w.wD, some (.str (tx w.rows)), some (.int (w.ans : Int)), some (mvD w.mv), some (machO w), some (.int (wd : Int)), some (priD w.rows wd F), some (runD ch as), some (frV (priceV F wd ch)), some (longD l), some (.int (t : Int)), y13, some (.int (T : Int)), some (runD (wr1 l) (wr2 l)), some (runD pc pa), some (mapD w.mv.length (cmp2 (tkF w (ch, as)) (pw w (pc, pa) T))), some (.str (tx (far8 w.rows))), some (priD (far8 w.rows) 1 F2), none, none] s18 = .nx [some (.sc (ns.map .int)), some (.ref 0), some w.wD, some (.str (tx w.rows)), some (.int (w.ans : Int)), some (mvD w.mv), some (machO w), some (.int (wd : Int)), some (priD w.rows wd F), some (runD ch as), some (frV (priceV F wd ch)), some (longD l), some (.int (t : Int)), y13, some (.int (T : Int)), some (runD (wr1 l) (wr2 l)), some (runD pc pa), some (mapD w.mv.length (cmp2 (tkF w (ch, as)) (pw w (pc, pa) T))), some (.str (tx (far8 w.rows))), some (priD (far8 w.rows) 1 F2), some (runD (ch.take 5 ++ [f0]) (as.take 5 ++ [0])), none] s18 := by
    have i0 : ∀ s, fIx (runD ch as) (.int 0) s = .ok (.str (tx ch)) s := fun s => by simp [runD]
    have i1 : ∀ s, fIx (runD ch as) (.int 1) s = .ok (.tup (as.map aD)) s := fun s => by simp [runD]
    have i2 : ∀ s, fIx (.str (tx (far8 w.rows))) (.int 0) s = .ok (.str (tx [f0])) s := fun s => fIx_str (i := 0) (le_big (show (far8 w.rows).length ≤ 1000 by omega)) (by rw [tx_list, ef0]; rfl)
    have i3 : ∀ s, fSl (.str (tx ch)) none (some 5) s = .ok (.str (tx (ch.take 5))) s := fun s => fSl_str_to' (i := 5) (le_big (by omega))
    have i4 : cutL (as.map aD) none (some 5) = (as.take 5).map aD := by
      have := cutL_to (l := as.map aD) (i := 5)
      rw [← List.map_take] at this
      exact this
    have b6 : min 5 ch.length + 1 ≤ bigLine := le_big (by omega)
    have b7 : min 5 as.length + 1 ≤ bigLine := le_big (by omega)
    simp [i0, i1, i2, i3, i4, b1, b2, b6, b7, runD, aD]
  have x1 := word_rows (st := s18) (wd := 1) (F := F2) (d := runD ch as) hw hfr (fun z => hf0 (by rw [← z, ef0]; exact List.mem_cons_self))
  have x2 := word_rows (st := s18) (wd := 1) (F := F2) (d := runD (ch.take 5 ++ [f0]) (as.take 5 ++ [0])) hw hfr (fun z => hf0 (by rw [← z, ef0]; exact List.mem_cons_self))
  have x3 := word_run (st := s18) (wd := wd) (F := F) (d := runD (ch.take 5 ++ [f0]) (as.take 5 ++ [0])) hw (gd_run (by simp; omega) (by simp; omega)) (by
    have : codeJ w.rows (.str (tx (ch.take 5 ++ [f0]))) = false := by
      show (tx (ch.take 5 ++ [f0])).cps.toList.all _ = false
      rw [tx_list, List.all_eq_false]
      exact ⟨f0, by simp, by simpa using hf0⟩
    simp only [runD, runJ, this, Bool.false_and])
  have x1 : m_law_word [machO w, priD (far8 w.rows) 1 F2, runD ch as] s18 = .ok (.str (Str.ofString "rows")) s18 := x1
  have x2 : m_law_word [machO w, priD (far8 w.rows) 1 F2, runD (ch.take 5 ++ [f0]) (as.take 5 ++ [0])] s18 = .ok (.str (Str.ofString "rows")) s18 := x2
  have x3 : m_law_word [machO w, priD w.rows wd F, runD (ch.take 5 ++ [f0]) (as.take 5 ++ [0])] s18 = .ok (.str (Str.ofString "run")) s18 := x3
  have q24 : (dRet (dBin (fEq false) (dFz (dLst (dCons (dOwn m_law_word 3 (dCons (dVar 6) (dCons (dVar 19) (dCons (dVar 9) dNil)))) (dCons (dOwn m_law_word 3 (dCons (dVar 6) (dCons (dVar 19) (dCons (dVar 20) dNil)))) (dCons (dOwn m_law_word 3 (dCons (dVar 6) (dCons (dVar 8) (dCons (dVar 20) dNil)))) dNil))))) (dFz (dLst (dCons (dC (.str "rows")) (dCons (dC (.str "rows")) (dCons (dC (.str "run")) dNil))))))) [some (.sc (ns.map .int)), some (.ref 0), some w.wD, some (.str (tx w.rows)), some (.int (w.ans : Int)), some (mvD w.mv), some (machO w), some (.int (wd : Int)), some (priD w.rows wd F), some (runD ch as), some (frV (priceV F wd ch)), some (longD l), some (.int (t : Int)), y13, some (.int (T : Int)), some (runD (wr1 l) (wr2 l)), some (runD pc pa), some (mapD w.mv.length (cmp2 (tkF w (ch, as)) (pw w (pc, pa) T))), some (.str (tx (far8 w.rows))), some (priD (far8 w.rows) 1 F2), some (runD (ch.take 5 ++ [f0]) (as.take 5 ++ [0])), none] s18 = .rt (.bl true) s18 := by
    have fe : fEq false (.fz [.str (Str.ofString "rows"), .str (Str.ofString "rows"), .str (Str.ofString "run")]) (.fz [.str (Str.ofString "rows"), .str (Str.ofString "rows"), .str (Str.ofString "run")]) s18 = .ok (.bl true) s18 := by
      have p : toPy s18 (.fz [.str (Str.ofString "rows"), .str (Str.ofString "rows"), .str (Str.ofString "run")]) = some (.list [.str (Str.ofString "rows"), .str (Str.ofString "rows"), .str (Str.ofString "run")]) := rfl
      have sh : SeqAt.shaped (PyData.list [.str (Str.ofString "rows"), .str (Str.ofString "rows"), .str (Str.ofString "run")]) = true := by decide +kernel
      have eq : PyData.eqv (PyData.list [.str (Str.ofString "rows"), .str (Str.ofString "rows"), .str (Str.ofString "run")]) (PyData.list [.str (Str.ofString "rows"), .str (Str.ofString "rows"), .str (Str.ofString "run")]) = true := by decide +kernel
      simp only [fEq, p, sh, eq, and_self, if_true]
      rfl
    simp [x1, x2, x3, b3, fe]
  refine ⟨s18, ?_⟩
  rw [m_law_e]
  have qa : d_law [some (.sc (ns.map .int)), none, none, none, none, none, none, none, none, none, none, none, none, none, none, none, none, none, none, none, none, none] [] = .rt (.bl true) s18 := by
    unfold d_law
    rw [dSeq_e, q0, andS_nx, dSeq_e, q1, andS_nx, dSeq_e, q2, andS_nx, dSeq_e, q3, andS_nx, dSeq_e, q4, andS_nx, dSeq_e, q5, andS_nx, dSeq_e, q6, andS_nx, dSeq_e, q7, andS_nx, dSeq_e, q8, andS_nx, dSeq_e, q9, andS_nx, dSeq_e, q10, andS_nx, dSeq_e, q11, andS_nx, dSeq_e, q12, andS_nx, dSeq_e, q13, andS_nx, dSeq_e, q14, andS_nx, dSeq_e, q15, andS_nx, dSeq_e, q16, andS_nx, dSeq_e, q17, andS_nx, dSeq_e, q18, andS_nx, dSeq_e, q19, andS_nx, dSeq_e, q20, andS_nx, dSeq_e, q21, andS_nx, dSeq_e, q22, andS_nx, dSeq_e, q23, andS_nx, q24]
  show (match d_law _ [] with
    | .nx _ st' => Res.ok D.non st'
    | .rt x st' => .ok x st'
    | .exc x _ st' => .exc x st'
    | _ => .bad) = _
  have qb : d_law ([D.sc (ns.map .int)].map some ++ List.replicate (22 - [D.sc (ns.map .int)].length) none) [] = .rt (.bl true) s18 := qa
  rw [qb]
end DD

namespace DD
open PySem L2 PyProof.Rows
theorem all_mk {l : PySem.W.OpenLaw} {w : World} {K : PySem.W.Frag} {h : Heap} {mg : Str → Option Value} {fa : Addr} (X : K.In h) (G : h.Ns mainGlobals mg) (hfa : mg "law" = some (.ref fa))
    {C_OtherRows : Addr}
    {C_NoRun : Addr}
    {C_NoLong : Addr}
    {C_NoCode : Addr}
    {C_BadPrices f_BadPrices N_BadPrices : Addr} {nm_BadPrices qn_BadPrices : Str} {bs_BadPrices bm_BadPrices sb_BadPrices : List Value} {sn_BadPrices : List Str} {ab_BadPrices : Bool} {col_BadPrices : Option Bool} {dd_BadPrices : Option Addr} {m0_BadPrices m1_BadPrices m2_BadPrices m3_BadPrices m5_BadPrices : Option Value}
    {C_BadMachine f_BadMachine N_BadMachine : Addr} {nm_BadMachine qn_BadMachine : Str} {bs_BadMachine bm_BadMachine sb_BadMachine : List Value} {sn_BadMachine : List Str} {ab_BadMachine : Bool} {col_BadMachine : Option Bool} {dd_BadMachine : Option Addr} {m0_BadMachine m1_BadMachine m2_BadMachine m3_BadMachine m5_BadMachine : Option Value}
    {C_Prices : Addr}
    {C_Machine : Addr}
    {f0 : Addr} {od0 an0 : Option Addr} {sl0 : Array (Option Value)} {oc0 kV0 dc0 pm0 cd0 ct0 : Value}
    {f1 : Addr} {od1 an1 : Option Addr} {sl1 : Array (Option Value)} {oc1 kV1 dc1 pm1 cd1 ct1 : Value}
    {f2 : Addr} {od2 an2 : Option Addr} {sl2 : Array (Option Value)} {oc2 kV2 dc2 pm2 cd2 ct2 : Value}
    {f3 : Addr} {od3 an3 : Option Addr} {sl3 : Array (Option Value)} {oc3 kV3 dc3 pm3 cd3 ct3 : Value}
    {f4 : Addr} {od4 an4 : Option Addr} {sl4 : Array (Option Value)} {oc4 kV4 dc4 pm4 cd4 ct4 : Value}
    {f5 : Addr} {od5 an5 : Option Addr} {sl5 : Array (Option Value)} {oc5 kV5 dc5 pm5 cd5 ct5 : Value}
    {f6 : Addr} {od6 an6 : Option Addr} {sl6 : Array (Option Value)} {oc6 kV6 dc6 pm6 cd6 ct6 : Value}
    {f7 : Addr} {od7 an7 : Option Addr} {sl7 : Array (Option Value)} {oc7 kV7 dc7 pm7 cd7 ct7 : Value}
    {f8 : Addr} {od8 an8 : Option Addr} {sl8 : Array (Option Value)} {oc8 kV8 dc8 pm8 cd8 ct8 : Value}
    {f9 : Addr} {od9 an9 : Option Addr} {sl9 : Array (Option Value)} {oc9 kV9 dc9 pm9 cd9 ct9 : Value}
    {f10 : Addr} {od10 an10 : Option Addr} {sl10 : Array (Option Value)} {oc10 kV10 dc10 pm10 cd10 ct10 : Value}
    {f11 : Addr} {od11 an11 : Option Addr} {sl11 : Array (Option Value)} {oc11 kV11 dc11 pm11 cd11 ct11 : Value}
    {f12 : Addr} {od12 an12 : Option Addr} {sl12 : Array (Option Value)} {oc12 kV12 dc12 pm12 cd12 ct12 : Value}
    {f13 : Addr} {od13 an13 : Option Addr} {sl13 : Array (Option Value)} {oc13 kV13 dc13 pm13 cd13 ct13 : Value}
    {f14 : Addr} {od14 an14 : Option Addr} {sl14 : Array (Option Value)} {oc14 kV14 dc14 pm14 cd14 ct14 : Value}
    {f15 : Addr} {od15 an15 : Option Addr} {sl15 : Array (Option Value)} {oc15 kV15 dc15 pm15 cd15 ct15 : Value}
    {f16 : Addr} {od16 an16 : Option Addr} {sl16 : Array (Option Value)} {oc16 kV16 dc16 pm16 cd16 ct16 : Value}
    {f17 : Addr} {od17 an17 : Option Addr} {sl17 : Array (Option Value)} {oc17 kV17 dc17 pm17 cd17 ct17 : Value}
    {f18 : Addr} {od18 an18 : Option Addr} {sl18 : Array (Option Value)} {oc18 kV18 dc18 pm18 cd18 ct18 : Value}
    {f19 : Addr} {od19 an19 : Option Addr} {sl19 : Array (Option Value)} {oc19 kV19 dc19 pm19 cd19 ct19 : Value}
    {f20 : Addr} {od20 an20 : Option Addr} {sl20 : Array (Option Value)} {oc20 kV20 dc20 pm20 cd20 ct20 : Value}
    {f21 : Addr} {od21 an21 : Option Addr} {sl21 : Array (Option Value)} {oc21 kV21 dc21 pm21 cd21 ct21 : Value}
    {f22 : Addr} {od22 an22 : Option Addr} {sl22 : Array (Option Value)} {oc22 kV22 dc22 pm22 cd22 ct22 : Value}
    {f23 : Addr} {od23 an23 : Option Addr} {sl23 : Array (Option Value)} {oc23 kV23 dc23 pm23 cd23 ct23 : Value}
    {f24 : Addr} {od24 an24 : Option Addr} {sl24 : Array (Option Value)} {oc24 kV24 dc24 pm24 cd24 ct24 : Value}
    {f25 : Addr} {od25 an25 : Option Addr} {sl25 : Array (Option Value)} {oc25 kV25 dc25 pm25 cd25 ct25 : Value}
    {f26 : Addr} {od26 an26 : Option Addr} {sl26 : Array (Option Value)} {oc26 kV26 dc26 pm26 cd26 ct26 : Value}
    {f27 : Addr} {od27 an27 : Option Addr} {sl27 : Array (Option Value)} {oc27 kV27 dc27 pm27 cd27 ct27 : Value}
    {f28 : Addr} {od28 an28 : Option Addr} {sl28 : Array (Option Value)} {oc28 kV28 dc28 pm28 cd28 ct28 : Value}
    {pp28 : Addr} {rs28 : List Value}
    {f29 : Addr} {od29 an29 : Option Addr} {sl29 : Array (Option Value)} {oc29 kV29 dc29 pm29 cd29 ct29 : Value}
    {f30 : Addr} {od30 an30 : Option Addr} {sl30 : Array (Option Value)} {oc30 kV30 dc30 pm30 cd30 ct30 : Value}
    {f31 : Addr} {od31 an31 : Option Addr} {sl31 : Array (Option Value)} {oc31 kV31 dc31 pm31 cd31 ct31 : Value}
    {f32 : Addr} {od32 an32 : Option Addr} {sl32 : Array (Option Value)} {oc32 kV32 dc32 pm32 cd32 ct32 : Value}
    {f33 : Addr} {od33 an33 : Option Addr} {sl33 : Array (Option Value)} {oc33 kV33 dc33 pm33 cd33 ct33 : Value}
    {f34 : Addr} {od34 an34 : Option Addr} {sl34 : Array (Option Value)} {oc34 kV34 dc34 pm34 cd34 ct34 : Value}
    {f35 : Addr} {od35 an35 : Option Addr} {sl35 : Array (Option Value)} {oc35 kV35 dc35 pm35 cd35 ct35 : Value}
    {f36 : Addr} {od36 an36 : Option Addr} {sl36 : Array (Option Value)} {oc36 kV36 dc36 pm36 cd36 ct36 : Value}
    {f37 : Addr} {od37 an37 : Option Addr} {sl37 : Array (Option Value)} {oc37 kV37 dc37 pm37 cd37 ct37 : Value}
    {f38 : Addr} {od38 an38 : Option Addr} {sl38 : Array (Option Value)} {oc38 kV38 dc38 pm38 cd38 ct38 : Value}
    {f39 : Addr} {od39 an39 : Option Addr} {sl39 : Array (Option Value)} {oc39 kV39 dc39 pm39 cd39 ct39 : Value}
    {f40 : Addr} {od40 an40 : Option Addr} {sl40 : Array (Option Value)} {oc40 kV40 dc40 pm40 cd40 ct40 : Value}
    {f41 : Addr} {od41 an41 : Option Addr} {sl41 : Array (Option Value)} {oc41 kV41 dc41 pm41 cd41 ct41 : Value}
    {f42 : Addr} {od42 an42 : Option Addr} {sl42 : Array (Option Value)} {oc42 kV42 dc42 pm42 cd42 ct42 : Value}
    {f43 : Addr} {od43 an43 : Option Addr} {sl43 : Array (Option Value)} {oc43 kV43 dc43 pm43 cd43 ct43 : Value}
    {f44 : Addr} {od44 an44 : Option Addr} {sl44 : Array (Option Value)} {oc44 kV44 dc44 pm44 cd44 ct44 : Value}
    {f45 : Addr} {od45 an45 : Option Addr} {sl45 : Array (Option Value)} {oc45 kV45 dc45 pm45 cd45 ct45 : Value}
    {f46 : Addr} {od46 an46 : Option Addr} {sl46 : Array (Option Value)} {oc46 kV46 dc46 pm46 cd46 ct46 : Value}
    {f47 : Addr} {od47 an47 : Option Addr} {sl47 : Array (Option Value)} {oc47 kV47 dc47 pm47 cd47 ct47 : Value}
    {f48 : Addr} {od48 an48 : Option Addr} {sl48 : Array (Option Value)} {oc48 kV48 dc48 pm48 cd48 ct48 : Value}
    {f49 : Addr} {od49 an49 : Option Addr} {sl49 : Array (Option Value)} {oc49 kV49 dc49 pm49 cd49 ct49 : Value}
    {f50 : Addr} {od50 an50 : Option Addr} {sl50 : Array (Option Value)} {oc50 kV50 dc50 pm50 ct50 : Value}
    {ctA50 PtA50 : Addr} {tc50 : Value} {td50 : Option Addr} {tv50 : Array Value} {ts50 : Array (Option Value)}
    {f51 : Addr} {od51 an51 : Option Addr} {sl51 : Array (Option Value)} {oc51 kV51 dc51 pm51 ct51 : Value}
    {ctA51 PtA51 : Addr} {tc51 : Value} {td51 : Option Addr} {tv51 : Array Value} {ts51 : Array (Option Value)}
    {f52 : Addr} {od52 an52 : Option Addr} {sl52 : Array (Option Value)} {oc52 kV52 dc52 pm52 cd52 ct52 : Value}
    {f53 : Addr} {od53 an53 : Option Addr} {sl53 : Array (Option Value)} {oc53 kV53 dc53 pm53 cd53 ct53 : Value}
    {f54 : Addr} {od54 an54 : Option Addr} {sl54 : Array (Option Value)} {oc54 kV54 dc54 pm54 cd54 ct54 : Value}
    {f55 : Addr} {od55 an55 : Option Addr} {sl55 : Array (Option Value)} {oc55 kV55 dc55 pm55 cd55 ct55 : Value}
    {f56 : Addr} {od56 an56 : Option Addr} {sl56 : Array (Option Value)} {oc56 kV56 dc56 pm56 cd56 ct56 : Value}
    {f57 : Addr} {od57 an57 : Option Addr} {sl57 : Array (Option Value)} {oc57 kV57 dc57 pm57 cd57 ct57 : Value}
    {f58 : Addr} {od58 an58 : Option Addr} {sl58 : Array (Option Value)} {oc58 kV58 dc58 pm58 cd58 ct58 : Value}
    {od_BadMachine_init an_BadMachine_init : Option Addr} {sl_BadMachine_init : Array (Option Value)} {oc_BadMachine_init kV_BadMachine_init dc_BadMachine_init pm_BadMachine_init cd_BadMachine_init ct_BadMachine_init : Value}
    {od_BadPrices_init an_BadPrices_init : Option Addr} {sl_BadPrices_init : Array (Option Value)} {oc_BadPrices_init kV_BadPrices_init dc_BadPrices_init pm_BadPrices_init cd_BadPrices_init ct_BadPrices_init : Value}
    {tc_LETTERS : Tok}
    (aC_Machine : PySem.W.nsIn K mainGlobals "Machine" = some (some (.ref C_Machine)))
    (pg_Machine : PySem.W.plainGet K C_Machine Str.empty = true)
    (hd_Machine : PySem.W.hasDictIn K C_Machine = true)
    (po_Machine : PySem.W.plainOver K C_Machine = true)
    (sa_Machine : PySem.W.findIn K (.ref C_Machine) "__setattr__" = some (some (.builtin "object.__setattr__")))
    (mk_Machine : PySem.W.makesIn K C_Machine = true)
    (kc_Machine : PySem.W.keepIn K (.ref C_Machine) = true)
    (nf_Machine_answers : PySem.W.findIn K (.ref C_Machine) "answers" = some none)
    (nf_Machine_moves : PySem.W.findIn K (.ref C_Machine) "moves" = some none)
    (nf_Machine_rows : PySem.W.findIn K (.ref C_Machine) "rows" = some none)
    (nf_Machine_size : PySem.W.findIn K (.ref C_Machine) "size" = some none)
    (aC_Prices : PySem.W.nsIn K mainGlobals "Prices" = some (some (.ref C_Prices)))
    (pg_Prices : PySem.W.plainGet K C_Prices Str.empty = true)
    (hd_Prices : PySem.W.hasDictIn K C_Prices = true)
    (po_Prices : PySem.W.plainOver K C_Prices = true)
    (sa_Prices : PySem.W.findIn K (.ref C_Prices) "__setattr__" = some (some (.builtin "object.__setattr__")))
    (mk_Prices : PySem.W.makesIn K C_Prices = true)
    (kc_Prices : PySem.W.keepIn K (.ref C_Prices) = true)
    (nf_Prices__table : PySem.W.findIn K (.ref C_Prices) "_table" = some none)
    (nf_Prices_rows : PySem.W.findIn K (.ref C_Prices) "rows" = some none)
    (nf_Prices_width : PySem.W.findIn K (.ref C_Prices) "width" = some none)
    (aC_BadMachine : PySem.W.nsIn K mainGlobals "BadMachine" = some (some (.ref C_BadMachine)))
    (xL_BadMachine : K.lookup C_BadMachine = some (excClassObj nm_BadMachine qn_BadMachine C_BadMachine N_BadMachine bs_BadMachine bm_BadMachine true sn_BadMachine sb_BadMachine ab_BadMachine col_BadMachine dd_BadMachine m0_BadMachine m1_BadMachine m2_BadMachine m3_BadMachine m5_BadMachine "ValueError.__new__"))
    (rv_BadMachine : PySem.HandSPX.refsVE bm_BadMachine = true)
    (sa_BadMachine : PySem.W.findIn K (.ref C_BadMachine) "__setattr__" = some (some (.builtin "object.__setattr__")))
    (ga_BadMachine : PySem.W.findIn K (.ref C_BadMachine) "__getattribute__" = some (some (.builtin "BaseException.__getattribute__")))
    (gg_BadMachine : PySem.W.findIn K (.ref C_BadMachine) "__getattr__" = some none)
    (nb_BadMachine : PySem.W.findIn K (.ref C_BadMachine) "part" = some none)
    (iX_BadMachine : PySem.W.findIn K (.ref C_BadMachine) "__init__" = some (some (.ref f_BadMachine)))
    (tX_BadMachine : PySem.W.typeIn K (.ref f_BadMachine) = some (.type "function"))
    (lX_BadMachine : K.lookup f_BadMachine = some ⟨oc_BadMachine_init, od_BadMachine_init, .func (PySem.W.fnOf "__init__" "BadMachine.__init__" (defArgs s_BadMachine_init) (defBody s_BadMachine_init) (defScope s_BadMachine_init) .none kV_BadMachine_init dc_BadMachine_init pm_BadMachine_init an_BadMachine_init cd_BadMachine_init ct_BadMachine_init), sl_BadMachine_init⟩)
    (cX_BadMachine : PySem.W.codeIn K cd_BadMachine_init "BadMachine.__init__" = true)
    (kX_BadMachine : PySem.W.keepIn K (.ref f_BadMachine) = true)
    (kc_BadMachine : PySem.W.keepIn K (.ref C_BadMachine) = true)
    (xb_BadMachine : PySem.W.subIn K (.ref C_BadMachine) (.type "BaseException") = some true)
    (xt_BadMachine : PySem.W.typeIn K (.ref C_BadMachine) = some (.type "type"))
    (hd_BadMachine : PySem.W.hasDictIn K C_BadMachine = true)
    (aC_BadPrices : PySem.W.nsIn K mainGlobals "BadPrices" = some (some (.ref C_BadPrices)))
    (xL_BadPrices : K.lookup C_BadPrices = some (excClassObj nm_BadPrices qn_BadPrices C_BadPrices N_BadPrices bs_BadPrices bm_BadPrices true sn_BadPrices sb_BadPrices ab_BadPrices col_BadPrices dd_BadPrices m0_BadPrices m1_BadPrices m2_BadPrices m3_BadPrices m5_BadPrices "ValueError.__new__"))
    (rv_BadPrices : PySem.HandSPX.refsVE bm_BadPrices = true)
    (sa_BadPrices : PySem.W.findIn K (.ref C_BadPrices) "__setattr__" = some (some (.builtin "object.__setattr__")))
    (ga_BadPrices : PySem.W.findIn K (.ref C_BadPrices) "__getattribute__" = some (some (.builtin "BaseException.__getattribute__")))
    (gg_BadPrices : PySem.W.findIn K (.ref C_BadPrices) "__getattr__" = some none)
    (nb_BadPrices : PySem.W.findIn K (.ref C_BadPrices) "part" = some none)
    (iX_BadPrices : PySem.W.findIn K (.ref C_BadPrices) "__init__" = some (some (.ref f_BadPrices)))
    (tX_BadPrices : PySem.W.typeIn K (.ref f_BadPrices) = some (.type "function"))
    (lX_BadPrices : K.lookup f_BadPrices = some ⟨oc_BadPrices_init, od_BadPrices_init, .func (PySem.W.fnOf "__init__" "BadPrices.__init__" (defArgs s_BadPrices_init) (defBody s_BadPrices_init) (defScope s_BadPrices_init) .none kV_BadPrices_init dc_BadPrices_init pm_BadPrices_init an_BadPrices_init cd_BadPrices_init ct_BadPrices_init), sl_BadPrices_init⟩)
    (cX_BadPrices : PySem.W.codeIn K cd_BadPrices_init "BadPrices.__init__" = true)
    (kX_BadPrices : PySem.W.keepIn K (.ref f_BadPrices) = true)
    (kc_BadPrices : PySem.W.keepIn K (.ref C_BadPrices) = true)
    (xb_BadPrices : PySem.W.subIn K (.ref C_BadPrices) (.type "BaseException") = some true)
    (xt_BadPrices : PySem.W.typeIn K (.ref C_BadPrices) = some (.type "type"))
    (hd_BadPrices : PySem.W.hasDictIn K C_BadPrices = true)
    (aC_NoCode : PySem.W.nsIn K mainGlobals "NoCode" = some (some (.ref C_NoCode)))
    (xi_NoCode : PySem.W.excIn K C_NoCode [.type "ValueError", .type "Exception", .type "BaseException", .type "object"] "ValueError.__new__" = true)
    (kc_NoCode : PySem.W.keepIn K (.ref C_NoCode) = true)
    (xb_NoCode : PySem.W.subIn K (.ref C_NoCode) (.type "BaseException") = some true)
    (xt_NoCode : PySem.W.typeIn K (.ref C_NoCode) = some (.type "type"))
    (aC_NoLong : PySem.W.nsIn K mainGlobals "NoLong" = some (some (.ref C_NoLong)))
    (xi_NoLong : PySem.W.excIn K C_NoLong [.type "ValueError", .type "Exception", .type "BaseException", .type "object"] "ValueError.__new__" = true)
    (kc_NoLong : PySem.W.keepIn K (.ref C_NoLong) = true)
    (xb_NoLong : PySem.W.subIn K (.ref C_NoLong) (.type "BaseException") = some true)
    (xt_NoLong : PySem.W.typeIn K (.ref C_NoLong) = some (.type "type"))
    (aC_NoRun : PySem.W.nsIn K mainGlobals "NoRun" = some (some (.ref C_NoRun)))
    (xi_NoRun : PySem.W.excIn K C_NoRun [.type "ValueError", .type "Exception", .type "BaseException", .type "object"] "ValueError.__new__" = true)
    (kc_NoRun : PySem.W.keepIn K (.ref C_NoRun) = true)
    (xb_NoRun : PySem.W.subIn K (.ref C_NoRun) (.type "BaseException") = some true)
    (xt_NoRun : PySem.W.typeIn K (.ref C_NoRun) = some (.type "type"))
    (aC_OtherRows : PySem.W.nsIn K mainGlobals "OtherRows" = some (some (.ref C_OtherRows)))
    (xi_OtherRows : PySem.W.excIn K C_OtherRows [.type "ValueError", .type "Exception", .type "BaseException", .type "object"] "ValueError.__new__" = true)
    (kc_OtherRows : PySem.W.keepIn K (.ref C_OtherRows) = true)
    (xb_OtherRows : PySem.W.subIn K (.ref C_OtherRows) (.type "BaseException") = some true)
    (xt_OtherRows : PySem.W.typeIn K (.ref C_OtherRows) = some (.type "type"))
    (su_BadMachine_NoRun : PySem.W.subIn K (.ref C_BadMachine) (.ref C_NoRun) = some false)
    (su_BadMachine_OtherRows : PySem.W.subIn K (.ref C_BadMachine) (.ref C_OtherRows) = some false)
    (su_BadPrices_NoRun : PySem.W.subIn K (.ref C_BadPrices) (.ref C_NoRun) = some false)
    (su_BadPrices_OtherRows : PySem.W.subIn K (.ref C_BadPrices) (.ref C_OtherRows) = some false)
    (su_NoCode_NoRun : PySem.W.subIn K (.ref C_NoCode) (.ref C_NoRun) = some false)
    (su_NoCode_OtherRows : PySem.W.subIn K (.ref C_NoCode) (.ref C_OtherRows) = some false)
    (su_NoLong_NoRun : PySem.W.subIn K (.ref C_NoLong) (.ref C_NoRun) = some false)
    (su_NoLong_OtherRows : PySem.W.subIn K (.ref C_NoLong) (.ref C_OtherRows) = some false)
    (su_NoRun_NoRun : PySem.W.subIn K (.ref C_NoRun) (.ref C_NoRun) = some true)
    (su_NoRun_OtherRows : PySem.W.subIn K (.ref C_NoRun) (.ref C_OtherRows) = some false)
    (su_OtherRows_NoRun : PySem.W.subIn K (.ref C_OtherRows) (.ref C_NoRun) = some false)
    (su_OtherRows_OtherRows : PySem.W.subIn K (.ref C_OtherRows) (.ref C_OtherRows) = some true)
    (ic_NoRun : PySem.W.isClsIn K C_NoRun = true)
    (ic_OtherRows : PySem.W.isClsIn K C_OtherRows = true)
    (a0 : PySem.W.nsIn K mainGlobals "_law_hand" = some (some (.ref f0)))
    (l0 : K.lookup f0 = some ⟨oc0, od0, .func (PySem.W.fnOf "_law_hand" "_law_hand" (defArgs s_law_hand) (defBody s_law_hand) (defScope s_law_hand) .none kV0 dc0 pm0 an0 cd0 ct0), sl0⟩)
    (c0 : PySem.W.codeIn K cd0 "_law_hand" = true)
    (k0 : PySem.W.keepIn K (.ref f0) = true)
    (a1 : PySem.W.nsIn K mainGlobals "_law_draw" = some (some (.ref f1)))
    (l1 : K.lookup f1 = some ⟨oc1, od1, .func (PySem.W.fnOf "_law_draw" "_law_draw" (defArgs s_law_draw) (defBody s_law_draw) (defScope s_law_draw) .none kV1 dc1 pm1 an1 cd1 ct1), sl1⟩)
    (c1 : PySem.W.codeIn K cd1 "_law_draw" = true)
    (k1 : PySem.W.keepIn K (.ref f1) = true)
    (a2 : PySem.W.nsIn K mainGlobals "_law_rows" = some (some (.ref f2)))
    (l2 : K.lookup f2 = some ⟨oc2, od2, .func (PySem.W.fnOf "_law_rows" "_law_rows" (defArgs s_law_rows) (defBody s_law_rows) (defScope s_law_rows) .none kV2 dc2 pm2 an2 cd2 ct2), sl2⟩)
    (c2 : PySem.W.codeIn K cd2 "_law_rows" = true)
    (k2 : PySem.W.keepIn K (.ref f2) = true)
    (a3 : PySem.W.nsIn K mainGlobals "_law_line" = some (some (.ref f3)))
    (l3 : K.lookup f3 = some ⟨oc3, od3, .func (PySem.W.fnOf "_law_line" "_law_line" (defArgs s_law_line) (defBody s_law_line) (defScope s_law_line) .none kV3 dc3 pm3 an3 cd3 ct3), sl3⟩)
    (c3 : PySem.W.codeIn K cd3 "_law_line" = true)
    (k3 : PySem.W.keepIn K (.ref f3) = true)
    (a4 : PySem.W.nsIn K mainGlobals "_law_world" = some (some (.ref f4)))
    (l4 : K.lookup f4 = some ⟨oc4, od4, .func (PySem.W.fnOf "_law_world" "_law_world" (defArgs s_law_world) (defBody s_law_world) (defScope s_law_world) .none kV4 dc4 pm4 an4 cd4 ct4), sl4⟩)
    (c4 : PySem.W.codeIn K cd4 "_law_world" = true)
    (k4 : PySem.W.keepIn K (.ref f4) = true)
    (a5 : PySem.W.nsIn K mainGlobals "is_code" = some (some (.ref f5)))
    (l5 : K.lookup f5 = some ⟨oc5, od5, .func (PySem.W.fnOf "is_code" "is_code" (defArgs s_is_code) (defBody s_is_code) (defScope s_is_code) .none kV5 dc5 pm5 an5 cd5 ct5), sl5⟩)
    (c5 : PySem.W.codeIn K cd5 "is_code" = true)
    (k5 : PySem.W.keepIn K (.ref f5) = true)
    (a6 : PySem.W.nsIn K mainGlobals "is_letters" = some (some (.ref f6)))
    (l6 : K.lookup f6 = some ⟨oc6, od6, .func (PySem.W.fnOf "is_letters" "is_letters" (defArgs s_is_letters) (defBody s_is_letters) (defScope s_is_letters) .none kV6 dc6 pm6 an6 cd6 ct6), sl6⟩)
    (c6 : PySem.W.codeIn K cd6 "is_letters" = true)
    (k6 : PySem.W.keepIn K (.ref f6) = true)
    (a7 : PySem.W.nsIn K mainGlobals "is_rows" = some (some (.ref f7)))
    (l7 : K.lookup f7 = some ⟨oc7, od7, .func (PySem.W.fnOf "is_rows" "is_rows" (defArgs s_is_rows) (defBody s_is_rows) (defScope s_is_rows) .none kV7 dc7 pm7 an7 cd7 ct7), sl7⟩)
    (c7 : PySem.W.codeIn K cd7 "is_rows" = true)
    (k7 : PySem.W.keepIn K (.ref f7) = true)
    (a8 : PySem.W.nsIn K mainGlobals "is_integer" = some (some (.ref f8)))
    (l8 : K.lookup f8 = some ⟨oc8, od8, .func (PySem.W.fnOf "is_integer" "is_integer" (defArgs s_is_integer) (defBody s_is_integer) (defScope s_is_integer) .none kV8 dc8 pm8 an8 cd8 ct8), sl8⟩)
    (c8 : PySem.W.codeIn K cd8 "is_integer" = true)
    (k8 : PySem.W.keepIn K (.ref f8) = true)
    (a9 : PySem.W.nsIn K mainGlobals "is_between" = some (some (.ref f9)))
    (l9 : K.lookup f9 = some ⟨oc9, od9, .func (PySem.W.fnOf "is_between" "is_between" (defArgs s_is_between) (defBody s_is_between) (defScope s_is_between) .none kV9 dc9 pm9 an9 cd9 ct9), sl9⟩)
    (c9 : PySem.W.codeIn K cd9 "is_between" = true)
    (k9 : PySem.W.keepIn K (.ref f9) = true)
    (a10 : PySem.W.nsIn K mainGlobals "is_answers" = some (some (.ref f10)))
    (l10 : K.lookup f10 = some ⟨oc10, od10, .func (PySem.W.fnOf "is_answers" "is_answers" (defArgs s_is_answers) (defBody s_is_answers) (defScope s_is_answers) .none kV10 dc10 pm10 an10 cd10 ct10), sl10⟩)
    (c10 : PySem.W.codeIn K cd10 "is_answers" = true)
    (k10 : PySem.W.keepIn K (.ref f10) = true)
    (a11 : PySem.W.nsIn K mainGlobals "is_tuple" = some (some (.ref f11)))
    (l11 : K.lookup f11 = some ⟨oc11, od11, .func (PySem.W.fnOf "is_tuple" "is_tuple" (defArgs s_is_tuple) (defBody s_is_tuple) (defScope s_is_tuple) .none kV11 dc11 pm11 an11 cd11 ct11), sl11⟩)
    (c11 : PySem.W.codeIn K cd11 "is_tuple" = true)
    (k11 : PySem.W.keepIn K (.ref f11) = true)
    (a12 : PySem.W.nsIn K mainGlobals "_is_move" = some (some (.ref f12)))
    (l12 : K.lookup f12 = some ⟨oc12, od12, .func (PySem.W.fnOf "_is_move" "_is_move" (defArgs s_is_move) (defBody s_is_move) (defScope s_is_move) .none kV12 dc12 pm12 an12 cd12 ct12), sl12⟩)
    (c12 : PySem.W.codeIn K cd12 "_is_move" = true)
    (k12 : PySem.W.keepIn K (.ref f12) = true)
    (a13 : PySem.W.nsIn K mainGlobals "_are_pairs" = some (some (.ref f13)))
    (l13 : K.lookup f13 = some ⟨oc13, od13, .func (PySem.W.fnOf "_are_pairs" "_are_pairs" (defArgs s_are_pairs) (defBody s_are_pairs) (defScope s_are_pairs) .none kV13 dc13 pm13 an13 cd13 ct13), sl13⟩)
    (c13 : PySem.W.codeIn K cd13 "_are_pairs" = true)
    (k13 : PySem.W.keepIn K (.ref f13) = true)
    (a14 : PySem.W.nsIn K mainGlobals "_is_item" = some (some (.ref f14)))
    (l14 : K.lookup f14 = some ⟨oc14, od14, .func (PySem.W.fnOf "_is_item" "_is_item" (defArgs s_is_item) (defBody s_is_item) (defScope s_is_item) .none kV14 dc14 pm14 an14 cd14 ct14), sl14⟩)
    (c14 : PySem.W.codeIn K cd14 "_is_item" = true)
    (k14 : PySem.W.keepIn K (.ref f14) = true)
    (a15 : PySem.W.nsIn K mainGlobals "_are_moves" = some (some (.ref f15)))
    (l15 : K.lookup f15 = some ⟨oc15, od15, .func (PySem.W.fnOf "_are_moves" "_are_moves" (defArgs s_are_moves) (defBody s_are_moves) (defScope s_are_moves) .none kV15 dc15 pm15 an15 cd15 ct15), sl15⟩)
    (c15 : PySem.W.codeIn K cd15 "_are_moves" = true)
    (k15 : PySem.W.keepIn K (.ref f15) = true)
    (a16 : PySem.W.findIn K (.ref C_Machine) "__init__" = some (some (.ref f16)))
    (i16 : PySem.W.isFn K (.ref f16) = true)
    (l16 : K.lookup f16 = some ⟨oc16, od16, .func (PySem.W.fnOf "__init__" "Machine.__init__" (defArgs s_Machine_init) (defBody s_Machine_init) (defScope s_Machine_init) .none kV16 dc16 pm16 an16 cd16 ct16), sl16⟩)
    (c16 : PySem.W.codeIn K cd16 "Machine.__init__" = true)
    (k16 : PySem.W.keepIn K (.ref f16) = true)
    (a17 : PySem.W.nsIn K mainGlobals "is_width" = some (some (.ref f17)))
    (l17 : K.lookup f17 = some ⟨oc17, od17, .func (PySem.W.fnOf "is_width" "is_width" (defArgs s_is_width) (defBody s_is_width) (defScope s_is_width) .none kV17 dc17 pm17 an17 cd17 ct17), sl17⟩)
    (c17 : PySem.W.codeIn K cd17 "is_width" = true)
    (k17 : PySem.W.keepIn K (.ref f17) = true)
    (a18 : PySem.W.nsIn K mainGlobals "is_fraction" = some (some (.ref f18)))
    (l18 : K.lookup f18 = some ⟨oc18, od18, .func (PySem.W.fnOf "is_fraction" "is_fraction" (defArgs s_is_fraction) (defBody s_is_fraction) (defScope s_is_fraction) .none kV18 dc18 pm18 an18 cd18 ct18), sl18⟩)
    (c18 : PySem.W.codeIn K cd18 "is_fraction" = true)
    (k18 : PySem.W.keepIn K (.ref f18) = true)
    (a19 : PySem.W.nsIn K mainGlobals "_is_table" = some (some (.ref f19)))
    (l19 : K.lookup f19 = some ⟨oc19, od19, .func (PySem.W.fnOf "_is_table" "_is_table" (defArgs s_is_table) (defBody s_is_table) (defScope s_is_table) .none kV19 dc19 pm19 an19 cd19 ct19), sl19⟩)
    (c19 : PySem.W.codeIn K cd19 "_is_table" = true)
    (k19 : PySem.W.keepIn K (.ref f19) = true)
    (a20 : PySem.W.nsIn K mainGlobals "_stretches_over" = some (some (.ref f20)))
    (l20 : K.lookup f20 = some ⟨oc20, od20, .func (PySem.W.fnOf "_stretches_over" "_stretches_over" (defArgs s_stretches_over) (defBody s_stretches_over) (defScope s_stretches_over) .none kV20 dc20 pm20 an20 cd20 ct20), sl20⟩)
    (c20 : PySem.W.codeIn K cd20 "_stretches_over" = true)
    (k20 : PySem.W.keepIn K (.ref f20) = true)
    (a21 : PySem.W.findIn K (.ref C_Prices) "__init__" = some (some (.ref f21)))
    (i21 : PySem.W.isFn K (.ref f21) = true)
    (l21 : K.lookup f21 = some ⟨oc21, od21, .func (PySem.W.fnOf "__init__" "Prices.__init__" (defArgs s_Prices_init) (defBody s_Prices_init) (defScope s_Prices_init) .none kV21 dc21 pm21 an21 cd21 ct21), sl21⟩)
    (c21 : PySem.W.codeIn K cd21 "Prices.__init__" = true)
    (k21 : PySem.W.keepIn K (.ref f21) = true)
    (a22 : PySem.W.nsIn K mainGlobals "_law_names" = some (some (.ref f22)))
    (l22 : K.lookup f22 = some ⟨oc22, od22, .func (PySem.W.fnOf "_law_names" "_law_names" (defArgs s_law_names) (defBody s_law_names) (defScope s_law_names) .none kV22 dc22 pm22 an22 cd22 ct22), sl22⟩)
    (c22 : PySem.W.codeIn K cd22 "_law_names" = true)
    (k22 : PySem.W.keepIn K (.ref f22) = true)
    (a23 : PySem.W.nsIn K mainGlobals "_law_made" = some (some (.ref f23)))
    (l23 : K.lookup f23 = some ⟨oc23, od23, .func (PySem.W.fnOf "_law_made" "_law_made" (defArgs s_law_made) (defBody s_law_made) (defScope s_law_made) .none kV23 dc23 pm23 an23 cd23 ct23), sl23⟩)
    (c23 : PySem.W.codeIn K cd23 "_law_made" = true)
    (k23 : PySem.W.keepIn K (.ref f23) = true)
    (a24 : PySem.W.nsIn K mainGlobals "_law_fraction" = some (some (.ref f24)))
    (l24 : K.lookup f24 = some ⟨oc24, od24, .func (PySem.W.fnOf "_law_fraction" "_law_fraction" (defArgs s_law_fraction) (defBody s_law_fraction) (defScope s_law_fraction) .none kV24 dc24 pm24 an24 cd24 ct24), sl24⟩)
    (c24 : PySem.W.codeIn K cd24 "_law_fraction" = true)
    (k24 : PySem.W.keepIn K (.ref f24) = true)
    (a25 : PySem.W.nsIn K mainGlobals "_law_table" = some (some (.ref f25)))
    (l25 : K.lookup f25 = some ⟨oc25, od25, .func (PySem.W.fnOf "_law_table" "_law_table" (defArgs s_law_table) (defBody s_law_table) (defScope s_law_table) .none kV25 dc25 pm25 an25 cd25 ct25), sl25⟩)
    (c25 : PySem.W.codeIn K cd25 "_law_table" = true)
    (k25 : PySem.W.keepIn K (.ref f25) = true)
    (a26 : PySem.W.nsIn K mainGlobals "_law_run" = some (some (.ref f26)))
    (l26 : K.lookup f26 = some ⟨oc26, od26, .func (PySem.W.fnOf "_law_run" "_law_run" (defArgs s_law_run) (defBody s_law_run) (defScope s_law_run) .none kV26 dc26 pm26 an26 cd26 ct26), sl26⟩)
    (c26 : PySem.W.codeIn K cd26 "_law_run" = true)
    (k26 : PySem.W.keepIn K (.ref f26) = true)
    (a27 : PySem.W.nsIn K mainGlobals "check_code" = some (some (.ref f27)))
    (l27 : K.lookup f27 = some ⟨oc27, od27, .func (PySem.W.fnOf "check_code" "check_code" (defArgs s_check_code) (defBody s_check_code) (defScope s_check_code) .none kV27 dc27 pm27 an27 cd27 ct27), sl27⟩)
    (c27 : PySem.W.codeIn K cd27 "check_code" = true)
    (k27 : PySem.W.keepIn K (.ref f27) = true)
    (a28 : PySem.W.findIn K (.ref C_Prices) "table" = some (some (.ref pp28)))
    (pg28 : PySem.W.specialIn K (.ref pp28) "__get__" = some (some (.builtin "property.__get__")))
    (pt28 : PySem.W.takesIn K (.ref pp28) = some true)
    (pr28 : PySem.W.recIn K pp28 "property" = some (.ref f28 :: rs28))
    (l28 : K.lookup f28 = some ⟨oc28, od28, .func (PySem.W.fnOf "table" "Prices.table" (defArgs s_Prices_table) (defBody s_Prices_table) (defScope s_Prices_table) .none kV28 dc28 pm28 an28 cd28 ct28), sl28⟩)
    (c28 : PySem.W.codeIn K cd28 "Prices.table" = true)
    (k28 : PySem.W.keepIn K (.ref f28) = true)
    (a29 : PySem.W.nsIn K mainGlobals "shared_bottom" = some (some (.ref f29)))
    (l29 : K.lookup f29 = some ⟨oc29, od29, .func (PySem.W.fnOf "shared_bottom" "shared_bottom" (defArgs s_shared_bottom) (defBody s_shared_bottom) (defScope s_shared_bottom) .none kV29 dc29 pm29 an29 cd29 ct29), sl29⟩)
    (c29 : PySem.W.codeIn K cd29 "shared_bottom" = true)
    (k29 : PySem.W.keepIn K (.ref f29) = true)
    (a30 : PySem.W.nsIn K mainGlobals "tail_behind" = some (some (.ref f30)))
    (l30 : K.lookup f30 = some ⟨oc30, od30, .func (PySem.W.fnOf "tail_behind" "tail_behind" (defArgs s_tail_behind) (defBody s_tail_behind) (defScope s_tail_behind) .none kV30 dc30 pm30 an30 cd30 ct30), sl30⟩)
    (c30 : PySem.W.codeIn K cd30 "tail_behind" = true)
    (k30 : PySem.W.keepIn K (.ref f30) = true)
    (a31 : PySem.W.nsIn K mainGlobals "charged" = some (some (.ref f31)))
    (l31 : K.lookup f31 = some ⟨oc31, od31, .func (PySem.W.fnOf "charged" "charged" (defArgs s_charged) (defBody s_charged) (defScope s_charged) .none kV31 dc31 pm31 an31 cd31 ct31), sl31⟩)
    (c31 : PySem.W.codeIn K cd31 "charged" = true)
    (k31 : PySem.W.keepIn K (.ref f31) = true)
    (a32 : PySem.W.nsIn K mainGlobals "first_tail" = some (some (.ref f32)))
    (l32 : K.lookup f32 = some ⟨oc32, od32, .func (PySem.W.fnOf "first_tail" "first_tail" (defArgs s_first_tail) (defBody s_first_tail) (defScope s_first_tail) .none kV32 dc32 pm32 an32 cd32 ct32), sl32⟩)
    (c32 : PySem.W.codeIn K cd32 "first_tail" = true)
    (k32 : PySem.W.keepIn K (.ref f32) = true)
    (a33 : PySem.W.nsIn K mainGlobals "lowest" = some (some (.ref f33)))
    (l33 : K.lookup f33 = some ⟨oc33, od33, .func (PySem.W.fnOf "lowest" "lowest" (defArgs s_lowest) (defBody s_lowest) (defScope s_lowest) .none kV33 dc33 pm33 an33 cd33 ct33), sl33⟩)
    (c33 : PySem.W.codeIn K cd33 "lowest" = true)
    (k33 : PySem.W.keepIn K (.ref f33) = true)
    (a34 : PySem.W.nsIn K mainGlobals "cost" = some (some (.ref f34)))
    (l34 : K.lookup f34 = some ⟨oc34, od34, .func (PySem.W.fnOf "cost" "cost" (defArgs s_cost) (defBody s_cost) (defScope s_cost) .none kV34 dc34 pm34 an34 cd34 ct34), sl34⟩)
    (c34 : PySem.W.codeIn K cd34 "cost" = true)
    (k34 : PySem.W.keepIn K (.ref f34) = true)
    (a35 : PySem.W.nsIn K mainGlobals "price" = some (some (.ref f35)))
    (l35 : K.lookup f35 = some ⟨oc35, od35, .func (PySem.W.fnOf "price" "price" (defArgs s_price) (defBody s_price) (defScope s_price) .none kV35 dc35 pm35 an35 cd35 ct35), sl35⟩)
    (c35 : PySem.W.codeIn K cd35 "price" = true)
    (k35 : PySem.W.keepIn K (.ref f35) = true)
    (a36 : PySem.W.nsIn K mainGlobals "check_same_rows" = some (some (.ref f36)))
    (l36 : K.lookup f36 = some ⟨oc36, od36, .func (PySem.W.fnOf "check_same_rows" "check_same_rows" (defArgs s_check_same_rows) (defBody s_check_same_rows) (defScope s_check_same_rows) .none kV36 dc36 pm36 an36 cd36 ct36), sl36⟩)
    (c36 : PySem.W.codeIn K cd36 "check_same_rows" = true)
    (k36 : PySem.W.keepIn K (.ref f36) = true)
    (a37 : PySem.W.nsIn K mainGlobals "is_run" = some (some (.ref f37)))
    (l37 : K.lookup f37 = some ⟨oc37, od37, .func (PySem.W.fnOf "is_run" "is_run" (defArgs s_is_run) (defBody s_is_run) (defScope s_is_run) .none kV37 dc37 pm37 an37 cd37 ct37), sl37⟩)
    (c37 : PySem.W.codeIn K cd37 "is_run" = true)
    (k37 : PySem.W.keepIn K (.ref f37) = true)
    (a38 : PySem.W.nsIn K mainGlobals "check_run" = some (some (.ref f38)))
    (l38 : K.lookup f38 = some ⟨oc38, od38, .func (PySem.W.fnOf "check_run" "check_run" (defArgs s_check_run) (defBody s_check_run) (defScope s_check_run) .none kV38 dc38 pm38 an38 cd38 ct38), sl38⟩)
    (c38 : PySem.W.codeIn K cd38 "check_run" = true)
    (k38 : PySem.W.keepIn K (.ref f38) = true)
    (a39 : PySem.W.nsIn K mainGlobals "minus" = some (some (.ref f39)))
    (l39 : K.lookup f39 = some ⟨oc39, od39, .func (PySem.W.fnOf "minus" "minus" (defArgs s_minus) (defBody s_minus) (defScope s_minus) .none kV39 dc39 pm39 an39 cd39 ct39), sl39⟩)
    (c39 : PySem.W.codeIn K cd39 "minus" = true)
    (k39 : PySem.W.keepIn K (.ref f39) = true)
    (a40 : PySem.W.nsIn K mainGlobals "walked" = some (some (.ref f40)))
    (l40 : K.lookup f40 = some ⟨oc40, od40, .func (PySem.W.fnOf "walked" "walked" (defArgs s_walked) (defBody s_walked) (defScope s_walked) .none kV40 dc40 pm40 an40 cd40 ct40), sl40⟩)
    (c40 : PySem.W.codeIn K cd40 "walked" = true)
    (k40 : PySem.W.keepIn K (.ref f40) = true)
    (a41 : PySem.W.nsIn K mainGlobals "rest" = some (some (.ref f41)))
    (l41 : K.lookup f41 = some ⟨oc41, od41, .func (PySem.W.fnOf "rest" "rest" (defArgs s_rest) (defBody s_rest) (defScope s_rest) .none kV41 dc41 pm41 an41 cd41 ct41), sl41⟩)
    (c41 : PySem.W.codeIn K cd41 "rest" = true)
    (k41 : PySem.W.keepIn K (.ref f41) = true)
    (a42 : PySem.W.nsIn K mainGlobals "_law_common" = some (some (.ref f42)))
    (l42 : K.lookup f42 = some ⟨oc42, od42, .func (PySem.W.fnOf "_law_common" "_law_common" (defArgs s_law_common) (defBody s_law_common) (defScope s_law_common) .none kV42 dc42 pm42 an42 cd42 ct42), sl42⟩)
    (c42 : PySem.W.codeIn K cd42 "_law_common" = true)
    (k42 : PySem.W.keepIn K (.ref f42) = true)
    (a43 : PySem.W.nsIn K mainGlobals "_law_sum" = some (some (.ref f43)))
    (l43 : K.lookup f43 = some ⟨oc43, od43, .func (PySem.W.fnOf "_law_sum" "_law_sum" (defArgs s_law_sum) (defBody s_law_sum) (defScope s_law_sum) .none kV43 dc43 pm43 an43 cd43 ct43), sl43⟩)
    (c43 : PySem.W.codeIn K cd43 "_law_sum" = true)
    (k43 : PySem.W.keepIn K (.ref f43) = true)
    (a44 : PySem.W.nsIn K mainGlobals "ticks" = some (some (.ref f44)))
    (l44 : K.lookup f44 = some ⟨oc44, od44, .func (PySem.W.fnOf "ticks" "ticks" (defArgs s_ticks) (defBody s_ticks) (defScope s_ticks) .none kV44 dc44 pm44 an44 cd44 ct44), sl44⟩)
    (c44 : PySem.W.codeIn K cd44 "ticks" = true)
    (k44 : PySem.W.keepIn K (.ref f44) = true)
    (a45 : PySem.W.nsIn K mainGlobals "_law_written" = some (some (.ref f45)))
    (l45 : K.lookup f45 = some ⟨oc45, od45, .func (PySem.W.fnOf "_law_written" "_law_written" (defArgs s_law_written) (defBody s_law_written) (defScope s_law_written) .none kV45 dc45 pm45 an45 cd45 ct45), sl45⟩)
    (c45 : PySem.W.codeIn K cd45 "_law_written" = true)
    (k45 : PySem.W.keepIn K (.ref f45) = true)
    (a46 : PySem.W.nsIn K mainGlobals "_is_turn" = some (some (.ref f46)))
    (l46 : K.lookup f46 = some ⟨oc46, od46, .func (PySem.W.fnOf "_is_turn" "_is_turn" (defArgs s_is_turn) (defBody s_is_turn) (defScope s_is_turn) .none kV46 dc46 pm46 an46 cd46 ct46), sl46⟩)
    (c46 : PySem.W.codeIn K cd46 "_is_turn" = true)
    (k46 : PySem.W.keepIn K (.ref f46) = true)
    (a47 : PySem.W.nsIn K mainGlobals "check_long" = some (some (.ref f47)))
    (l47 : K.lookup f47 = some ⟨oc47, od47, .func (PySem.W.fnOf "check_long" "check_long" (defArgs s_check_long) (defBody s_check_long) (defScope s_check_long) .none kV47 dc47 pm47 an47 cd47 ct47), sl47⟩)
    (c47 : PySem.W.codeIn K cd47 "check_long" = true)
    (k47 : PySem.W.keepIn K (.ref f47) = true)
    (a48 : PySem.W.nsIn K mainGlobals "_repeated" = some (some (.ref f48)))
    (l48 : K.lookup f48 = some ⟨oc48, od48, .func (PySem.W.fnOf "_repeated" "_repeated" (defArgs s_repeated) (defBody s_repeated) (defScope s_repeated) .none kV48 dc48 pm48 an48 cd48 ct48), sl48⟩)
    (c48 : PySem.W.codeIn K cd48 "_repeated" = true)
    (k48 : PySem.W.keepIn K (.ref f48) = true)
    (a49 : PySem.W.nsIn K mainGlobals "_summed" = some (some (.ref f49)))
    (l49 : K.lookup f49 = some ⟨oc49, od49, .func (PySem.W.fnOf "_summed" "_summed" (defArgs s_summed) (defBody s_summed) (defScope s_summed) .none kV49 dc49 pm49 an49 cd49 ct49), sl49⟩)
    (c49 : PySem.W.codeIn K cd49 "_summed" = true)
    (k49 : PySem.W.keepIn K (.ref f49) = true)
    (a50 : PySem.W.nsIn K mainGlobals "long_ticks" = some (some (.ref f50)))
    (l50 : K.lookup f50 = some ⟨oc50, od50, .func (PySem.W.fnOf "long_ticks" "long_ticks" (defArgs s_long_ticks) (defBody s_long_ticks) (defScope s_long_ticks) .none kV50 dc50 pm50 an50 (.ref ctA50) ct50), sl50⟩)
    (c50 : PySem.W.codeIn K (.ref ctA50) "long_ticks" = true)
    (k50 : PySem.W.keepIn K (.ref f50) = true)
    (lt50 : K.lookup ctA50 = some ⟨tc50, td50, .fields tv50, ts50⟩)
    (rft50 : tv50[11]? = some (.ref PtA50))
    (kz50 : K.lookup PtA50 = none)
    (a51 : PySem.W.nsIn K mainGlobals "long_price" = some (some (.ref f51)))
    (l51 : K.lookup f51 = some ⟨oc51, od51, .func (PySem.W.fnOf "long_price" "long_price" (defArgs s_long_price) (defBody s_long_price) (defScope s_long_price) .none kV51 dc51 pm51 an51 (.ref ctA51) ct51), sl51⟩)
    (c51 : PySem.W.codeIn K (.ref ctA51) "long_price" = true)
    (k51 : PySem.W.keepIn K (.ref f51) = true)
    (lt51 : K.lookup ctA51 = some ⟨tc51, td51, .fields tv51, ts51⟩)
    (rft51 : tv51[11]? = some (.ref PtA51))
    (kz51 : K.lookup PtA51 = none)
    (a52 : PySem.W.nsIn K mainGlobals "_law_led" = some (some (.ref f52)))
    (l52 : K.lookup f52 = some ⟨oc52, od52, .func (PySem.W.fnOf "_law_led" "_law_led" (defArgs s_law_led) (defBody s_law_led) (defScope s_law_led) .none kV52 dc52 pm52 an52 cd52 ct52), sl52⟩)
    (c52 : PySem.W.codeIn K cd52 "_law_led" = true)
    (k52 : PySem.W.keepIn K (.ref f52) = true)
    (a53 : PySem.W.nsIn K mainGlobals "_law_map" = some (some (.ref f53)))
    (l53 : K.lookup f53 = some ⟨oc53, od53, .func (PySem.W.fnOf "_law_map" "_law_map" (defArgs s_law_map) (defBody s_law_map) (defScope s_law_map) .none kV53 dc53 pm53 an53 cd53 ct53), sl53⟩)
    (c53 : PySem.W.codeIn K cd53 "_law_map" = true)
    (k53 : PySem.W.keepIn K (.ref f53) = true)
    (a54 : PySem.W.nsIn K mainGlobals "_law_behind" = some (some (.ref f54)))
    (l54 : K.lookup f54 = some ⟨oc54, od54, .func (PySem.W.fnOf "_law_behind" "_law_behind" (defArgs s_law_behind) (defBody s_law_behind) (defScope s_law_behind) .none kV54 dc54 pm54 an54 cd54 ct54), sl54⟩)
    (c54 : PySem.W.codeIn K cd54 "_law_behind" = true)
    (k54 : PySem.W.keepIn K (.ref f54) = true)
    (a55 : PySem.W.nsIn K mainGlobals "_law_many" = some (some (.ref f55)))
    (l55 : K.lookup f55 = some ⟨oc55, od55, .func (PySem.W.fnOf "_law_many" "_law_many" (defArgs s_law_many) (defBody s_law_many) (defScope s_law_many) .none kV55 dc55 pm55 an55 cd55 ct55), sl55⟩)
    (c55 : PySem.W.codeIn K cd55 "_law_many" = true)
    (k55 : PySem.W.keepIn K (.ref f55) = true)
    (a56 : PySem.W.nsIn K mainGlobals "_law_great_price" = some (some (.ref f56)))
    (l56 : K.lookup f56 = some ⟨oc56, od56, .func (PySem.W.fnOf "_law_great_price" "_law_great_price" (defArgs s_law_great_price) (defBody s_law_great_price) (defScope s_law_great_price) .none kV56 dc56 pm56 an56 cd56 ct56), sl56⟩)
    (c56 : PySem.W.codeIn K cd56 "_law_great_price" = true)
    (k56 : PySem.W.keepIn K (.ref f56) = true)
    (a57 : PySem.W.nsIn K mainGlobals "_law_word" = some (some (.ref f57)))
    (l57 : K.lookup f57 = some ⟨oc57, od57, .func (PySem.W.fnOf "_law_word" "_law_word" (defArgs s_law_word) (defBody s_law_word) (defScope s_law_word) .none kV57 dc57 pm57 an57 cd57 ct57), sl57⟩)
    (c57 : PySem.W.codeIn K cd57 "_law_word" = true)
    (k57 : PySem.W.keepIn K (.ref f57) = true)
    (a58 : PySem.W.nsIn K mainGlobals "law" = some (some (.ref f58)))
    (l58 : K.lookup f58 = some ⟨oc58, od58, .func (PySem.W.fnOf "law" "law" (defArgs s_law) (defBody s_law) (defScope s_law) .none kV58 dc58 pm58 an58 cd58 ct58), sl58⟩)
    (c58 : PySem.W.codeIn K cd58 "law" = true)
    (k58 : PySem.W.keepIn K (.ref f58) = true)
    (rvt_50_51 : (PtA50 == PtA51) = false)
    (rvt_51_50 : (PtA51 == PtA50) = false)
    (im_gcd : PySem.W.nsIn K mainGlobals "gcd" = some (some (.builtin "math.gcd")))
    (im_lcm : PySem.W.nsIn K mainGlobals "lcm" = some (some (.builtin "math.lcm")))
    (z_abs : PySem.W.nsIn K mainGlobals "abs" = some none)
    (z_all : PySem.W.nsIn K mainGlobals "all" = some none)
    (z_bool : PySem.W.nsIn K mainGlobals "bool" = some none)
    (z_dict : PySem.W.nsIn K mainGlobals "dict" = some none)
    (z_int : PySem.W.nsIn K mainGlobals "int" = some none)
    (z_isinstance : PySem.W.nsIn K mainGlobals "isinstance" = some none)
    (z_len : PySem.W.nsIn K mainGlobals "len" = some none)
    (z_range : PySem.W.nsIn K mainGlobals "range" = some none)
    (z_sorted : PySem.W.nsIn K mainGlobals "sorted" = some none)
    (z_str : PySem.W.nsIn K mainGlobals "str" = some none)
    (z_sum : PySem.W.nsIn K mainGlobals "sum" = some none)
    (z_tuple : PySem.W.nsIn K mainGlobals "tuple" = some none)
    (z_zip : PySem.W.nsIn K mainGlobals "zip" = some none)
    (v_LETTERS : PySem.W.nsIn K mainGlobals "LETTERS" = some (some (.str "abcdefghijklmnopqrstuvwxyz" tc_LETTERS))) :
    (∀ p ∈ lamNms, ∀ c P, PySem.W.tabIn K p.1 = some (c, P) → K.lookup P = none) ∧ ∃ fd : FuncData, (∀ (s : Shared) (v : Value), BindsTo s fd ⟨[v], []⟩ [("script", v)]) ∧ ∀ base : Heap, K.In base → base.Ns mainGlobals mg → (∀ p ∈ lamNms, ∀ c P, PySem.W.tabIn K p.1 = some (c, P) → LamX.TabB base mg c P) → FnOk l.prog w K mg base (L2.CX l.prog w) 9 fa fd ["script"] (spLaw K) := by
  have e := hfa.symm.trans (PySem.W.mg_of X G a58)
  cases e
  have F0 := fun_mk (st := s_law_hand) l0 c0 k0
  have b0 := F0.binds (ps := ["script"]) fun _ _ _ _ _ _ us hl => match us, hl with | [_], _ => rfl
  have F1 := fun_mk (st := s_law_draw) l1 c1 k1
  have b1 := F1.binds (ps := ["hand", "many"]) fun _ _ _ _ _ _ us hl => match us, hl with | [_, _], _ => rfl
  have F2 := fun_mk (st := s_law_rows) l2 c2 k2
  have b2 := F2.binds (ps := ["hand", "kinds"]) fun _ _ _ _ _ _ us hl => match us, hl with | [_, _], _ => rfl
  have F3 := fun_mk (st := s_law_line) l3 c3 k3
  have b3 := F3.binds (ps := ["hand", "answers", "size", "top"]) fun _ _ _ _ _ _ us hl => match us, hl with | [_, _, _, _], _ => rfl
  have F4 := fun_mk (st := s_law_world) l4 c4 k4
  have b4 := F4.binds (ps := ["hand", "kinds", "size"]) fun _ _ _ _ _ _ us hl => match us, hl with | [_, _, _], _ => rfl
  have F5 := fun_mk (st := s_is_code) l5 c5 k5
  have b5 := F5.binds (ps := ["thing", "rows"]) fun _ _ _ _ _ _ us hl => match us, hl with | [_, _], _ => rfl
  have F6 := fun_mk (st := s_is_letters) l6 c6 k6
  have b6 := F6.binds (ps := ["thing", "letters"]) fun _ _ _ _ _ _ us hl => match us, hl with | [_, _], _ => rfl
  have F7 := fun_mk (st := s_is_rows) l7 c7 k7
  have b7 := F7.binds (ps := ["thing"]) fun _ _ _ _ _ _ us hl => match us, hl with | [_], _ => rfl
  have F8 := fun_mk (st := s_is_integer) l8 c8 k8
  have b8 := F8.binds (ps := ["thing"]) fun _ _ _ _ _ _ us hl => match us, hl with | [_], _ => rfl
  have F9 := fun_mk (st := s_is_between) l9 c9 k9
  have b9 := F9.binds (ps := ["thing", "least", "most"]) fun _ _ _ _ _ _ us hl => match us, hl with | [_, _, _], _ => rfl
  have F10 := fun_mk (st := s_is_answers) l10 c10 k10
  have b10 := F10.binds (ps := ["thing"]) fun _ _ _ _ _ _ us hl => match us, hl with | [_], _ => rfl
  have F11 := fun_mk (st := s_is_tuple) l11 c11 k11
  have b11 := F11.binds (ps := ["thing", "many"]) fun _ _ _ _ _ _ us hl => match us, hl with | [_, _], _ => rfl
  have F12 := fun_mk (st := s_is_move) l12 c12 k12
  have b12 := F12.binds (ps := ["pair", "size"]) fun _ _ _ _ _ _ us hl => match us, hl with | [_, _], _ => rfl
  have F13 := fun_mk (st := s_are_pairs) l13 c13 k13
  have b13 := F13.binds (ps := ["pairs", "answers", "size"]) fun _ _ _ _ _ _ us hl => match us, hl with | [_, _, _], _ => rfl
  have F14 := fun_mk (st := s_is_item) l14 c14 k14
  have b14 := F14.binds (ps := ["item", "rows", "answers", "size"]) fun _ _ _ _ _ _ us hl => match us, hl with | [_, _, _, _], _ => rfl
  have F15 := fun_mk (st := s_are_moves) l15 c15 k15
  have b15 := F15.binds (ps := ["moves", "rows", "answers"]) fun _ _ _ _ _ _ us hl => match us, hl with | [_, _, _], _ => rfl
  have F16 := fun_mk (st := s_Machine_init) l16 c16 k16
  have b16 := F16.binds (ps := ["self", "rows", "answers", "moves"]) fun _ _ _ _ _ _ us hl => match us, hl with | [_, _, _, _], _ => rfl
  have F17 := fun_mk (st := s_is_width) l17 c17 k17
  have b17 := F17.binds (ps := ["thing"]) fun _ _ _ _ _ _ us hl => match us, hl with | [_], _ => rfl
  have F18 := fun_mk (st := s_is_fraction) l18 c18 k18
  have b18 := F18.binds (ps := ["thing"]) fun _ _ _ _ _ _ us hl => match us, hl with | [_], _ => rfl
  have F19 := fun_mk (st := s_is_table) l19 c19 k19
  have b19 := F19.binds (ps := ["table", "names"]) fun _ _ _ _ _ _ us hl => match us, hl with | [_, _], _ => rfl
  have F20 := fun_mk (st := s_stretches_over) l20 c20 k20
  have b20 := F20.binds (ps := ["rows", "width"]) fun _ _ _ _ _ _ us hl => match us, hl with | [_, _], _ => rfl
  have F21 := fun_mk (st := s_Prices_init) l21 c21 k21
  have b21 := F21.binds (ps := ["self", "rows", "width", "table"]) fun _ _ _ _ _ _ us hl => match us, hl with | [_, _, _, _], _ => rfl
  have F22 := fun_mk (st := s_law_names) l22 c22 k22
  have b22 := F22.binds (ps := ["rows", "width"]) fun _ _ _ _ _ _ us hl => match us, hl with | [_, _], _ => rfl
  have F23 := fun_mk (st := s_law_made) l23 c23 k23
  have b23 := F23.binds (ps := ["top", "bottom"]) fun _ _ _ _ _ _ us hl => match us, hl with | [_, _], _ => rfl
  have F24 := fun_mk (st := s_law_fraction) l24 c24 k24
  have b24 := F24.binds (ps := ["hand"]) fun _ _ _ _ _ _ us hl => match us, hl with | [_], _ => rfl
  have F25 := fun_mk (st := s_law_table) l25 c25 k25
  have b25 := F25.binds (ps := ["hand", "rows", "width"]) fun _ _ _ _ _ _ us hl => match us, hl with | [_, _, _], _ => rfl
  have F26 := fun_mk (st := s_law_run) l26 c26 k26
  have b26 := F26.binds (ps := ["hand", "rows", "answers", "many"]) fun _ _ _ _ _ _ us hl => match us, hl with | [_, _, _, _], _ => rfl
  have F27 := fun_mk (st := s_check_code) l27 c27 k27
  have b27 := F27.binds (ps := ["thing", "rows"]) fun _ _ _ _ _ _ us hl => match us, hl with | [_, _], _ => rfl
  have F28 := fun_mk (st := s_Prices_table) l28 c28 k28
  have b28 := F28.binds (ps := ["self"]) fun _ _ _ _ _ _ us hl => match us, hl with | [_], _ => rfl
  have F29 := fun_mk (st := s_shared_bottom) l29 c29 k29
  have b29 := F29.binds (ps := ["prices"]) fun _ _ _ _ _ _ us hl => match us, hl with | [_], _ => rfl
  have F30 := fun_mk (st := s_tail_behind) l30 c30 k30
  have b30 := F30.binds (ps := ["stretch", "width"]) fun _ _ _ _ _ _ us hl => match us, hl with | [_, _], _ => rfl
  have F31 := fun_mk (st := s_charged) l31 c31 k31
  have b31 := F31.binds (ps := ["tops", "width", "tail", "code"]) fun _ _ _ _ _ _ us hl => match us, hl with | [_, _, _, _], _ => rfl
  have F32 := fun_mk (st := s_first_tail) l32 c32 k32
  have b32 := F32.binds (ps := ["width"]) fun _ _ _ _ _ _ us hl => match us, hl with | [_], _ => rfl
  have F33 := fun_mk (st := s_lowest) l33 c33 k33
  have b33 := F33.binds (ps := ["top", "bottom"]) fun _ _ _ _ _ _ us hl => match us, hl with | [_, _], _ => rfl
  have F34 := fun_mk (st := s_cost) l34 c34 k34
  have b34 := F34.binds (ps := ["prices", "code"]) fun _ _ _ _ _ _ us hl => match us, hl with | [_, _], _ => rfl
  have F35 := fun_mk (st := s_price) l35 c35 k35
  have b35 := F35.binds (ps := ["prices", "code"]) fun _ _ _ _ _ _ us hl => match us, hl with | [_, _], _ => rfl
  have F36 := fun_mk (st := s_check_same_rows) l36 c36 k36
  have b36 := F36.binds (ps := ["machine", "prices"]) fun _ _ _ _ _ _ us hl => match us, hl with | [_, _], _ => rfl
  have F37 := fun_mk (st := s_is_run) l37 c37 k37
  have b37 := F37.binds (ps := ["thing", "rows", "answers"]) fun _ _ _ _ _ _ us hl => match us, hl with | [_, _, _], _ => rfl
  have F38 := fun_mk (st := s_check_run) l38 c38 k38
  have b38 := F38.binds (ps := ["machine", "run"]) fun _ _ _ _ _ _ us hl => match us, hl with | [_, _], _ => rfl
  have F39 := fun_mk (st := s_minus) l39 c39 k39
  have b39 := F39.binds (ps := ["one", "other"]) fun _ _ _ _ _ _ us hl => match us, hl with | [_, _], _ => rfl
  have F40 := fun_mk (st := s_walked) l40 c40 k40
  have b40 := F40.binds (ps := ["machine", "start", "run"]) fun _ _ _ _ _ _ us hl => match us, hl with | [_, _, _], _ => rfl
  have F41 := fun_mk (st := s_rest) l41 c41 k41
  have b41 := F41.binds (ps := ["machine", "prices", "run"]) fun _ _ _ _ _ _ us hl => match us, hl with | [_, _, _], _ => rfl
  have F42 := fun_mk (st := s_law_common) l42 c42 k42
  have b42 := F42.binds (ps := ["one", "other"]) fun _ _ _ _ _ _ us hl => match us, hl with | [_, _], _ => rfl
  have F43 := fun_mk (st := s_law_sum) l43 c43 k43
  have b43 := F43.binds (ps := ["fractions"]) fun _ _ _ _ _ _ us hl => match us, hl with | [_], _ => rfl
  have F44 := fun_mk (st := s_ticks) l44 c44 k44
  have b44 := F44.binds (ps := ["machine", "run"]) fun _ _ _ _ _ _ us hl => match us, hl with | [_, _], _ => rfl
  have F45 := fun_mk (st := s_law_written) l45 c45 k45
  have b45 := F45.binds (ps := ["long"]) fun _ _ _ _ _ _ us hl => match us, hl with | [_], _ => rfl
  have F46 := fun_mk (st := s_is_turn) l46 c46 k46
  have b46 := F46.binds (ps := ["thing", "rows", "answers"]) fun _ _ _ _ _ _ us hl => match us, hl with | [_, _, _], _ => rfl
  have F47 := fun_mk (st := s_check_long) l47 c47 k47
  have b47 := F47.binds (ps := ["thing", "rows", "answers"]) fun _ _ _ _ _ _ us hl => match us, hl with | [_, _, _], _ => rfl
  have F48 := fun_mk (st := s_repeated) l48 c48 k48
  have b48 := F48.binds (ps := ["run", "times", "here", "once"]) fun _ _ _ _ _ _ us hl => match us, hl with | [_, _, _, _], _ => rfl
  have F49 := fun_mk (st := s_summed) l49 c49 k49
  have b49 := F49.binds (ps := ["long", "here", "once"]) fun _ _ _ _ _ _ us hl => match us, hl with | [_, _, _], _ => rfl
  have F50 := fun_mk (st := s_long_ticks) l50 c50 k50
  have b50 := F50.binds (ps := ["machine", "long"]) fun _ _ _ _ _ _ us hl => match us, hl with | [_, _], _ => rfl
  have F51 := fun_mk (st := s_long_price) l51 c51 k51
  have b51 := F51.binds (ps := ["prices", "long"]) fun _ _ _ _ _ _ us hl => match us, hl with | [_, _], _ => rfl
  have F52 := fun_mk (st := s_law_led) l52 c52 k52
  have b52 := F52.binds (ps := ["world", "at", "run"]) fun _ _ _ _ _ _ us hl => match us, hl with | [_, _, _], _ => rfl
  have F53 := fun_mk (st := s_law_map) l53 c53 k53
  have b53 := F53.binds (ps := ["world", "run"]) fun _ _ _ _ _ _ us hl => match us, hl with | [_, _], _ => rfl
  have F54 := fun_mk (st := s_law_behind) l54 c54 k54
  have b54 := F54.binds (ps := ["one", "other"]) fun _ _ _ _ _ _ us hl => match us, hl with | [_, _], _ => rfl
  have F55 := fun_mk (st := s_law_many) l55 c55 k55
  have b55 := F55.binds (ps := ["world", "run", "times"]) fun _ _ _ _ _ _ us hl => match us, hl with | [_, _, _], _ => rfl
  have F56 := fun_mk (st := s_law_great_price) l56 c56 k56
  have b56 := F56.binds (ps := ["prices", "run", "times"]) fun _ _ _ _ _ _ us hl => match us, hl with | [_, _, _], _ => rfl
  have F57 := fun_mk (st := s_law_word) l57 c57 k57
  have b57 := F57.binds (ps := ["machine", "prices", "run"]) fun _ _ _ _ _ _ us hl => match us, hl with | [_, _, _], _ => rfl
  have F58 := fun_mk (st := s_law) l58 c58 k58
  have b58 := F58.binds (ps := ["script"]) fun _ _ _ _ _ _ us hl => match us, hl with | [_], _ => rfl
  have gC_Machine : mg "Machine" = some (.ref C_Machine) := PySem.W.mg_of X G aC_Machine
  have cl_Machine : Cls K C_Machine := ⟨pg_Machine, hd_Machine, po_Machine, sa_Machine⟩
  have gC_Prices : mg "Prices" = some (.ref C_Prices) := PySem.W.mg_of X G aC_Prices
  have cl_Prices : Cls K C_Prices := ⟨pg_Prices, hd_Prices, po_Prices, sa_Prices⟩
  have gC_BadMachine : mg "BadMachine" = some (.ref C_BadMachine) := PySem.W.mg_of X G aC_BadMachine
  have gC_BadPrices : mg "BadPrices" = some (.ref C_BadPrices) := PySem.W.mg_of X G aC_BadPrices
  have gC_NoCode : mg "NoCode" = some (.ref C_NoCode) := PySem.W.mg_of X G aC_NoCode
  have gC_NoLong : mg "NoLong" = some (.ref C_NoLong) := PySem.W.mg_of X G aC_NoLong
  have gC_NoRun : mg "NoRun" = some (.ref C_NoRun) := PySem.W.mg_of X G aC_NoRun
  have gC_OtherRows : mg "OtherRows" = some (.ref C_OtherRows) := PySem.W.mg_of X G aC_OtherRows
  have FX_BadMachine := fun_mk (st := s_BadMachine_init) lX_BadMachine cX_BadMachine kX_BadMachine
  have bX_BadMachine := FX_BadMachine.binds (ps := ["self", "part"]) fun _ _ _ _ _ _ us hl => match us, hl with | [_, _], _ => rfl
  have FX_BadPrices := fun_mk (st := s_BadPrices_init) lX_BadPrices cX_BadPrices kX_BadPrices
  have bX_BadPrices := FX_BadPrices.binds (ps := ["self", "part"]) fun _ _ _ _ _ _ us hl => match us, hl with | [_, _], _ => rfl
  have subs : SubOk K mg subT := subOk_of (l := subL) (by
    intro e he C D h1 h2
    simp only [subL, List.mem_cons, List.not_mem_nil, or_false] at he
    rcases he with he | he | he | he | he | he | he | he | he | he | he | he
    · subst he; rw [gC_BadMachine] at h1; rw [gC_NoRun] at h2; cases h1; cases h2; exact exm_mk xb_NoRun ic_NoRun xt_NoRun su_BadMachine_NoRun
    · subst he; rw [gC_BadMachine] at h1; rw [gC_OtherRows] at h2; cases h1; cases h2; exact exm_mk xb_OtherRows ic_OtherRows xt_OtherRows su_BadMachine_OtherRows
    · subst he; rw [gC_BadPrices] at h1; rw [gC_NoRun] at h2; cases h1; cases h2; exact exm_mk xb_NoRun ic_NoRun xt_NoRun su_BadPrices_NoRun
    · subst he; rw [gC_BadPrices] at h1; rw [gC_OtherRows] at h2; cases h1; cases h2; exact exm_mk xb_OtherRows ic_OtherRows xt_OtherRows su_BadPrices_OtherRows
    · subst he; rw [gC_NoCode] at h1; rw [gC_NoRun] at h2; cases h1; cases h2; exact exm_mk xb_NoRun ic_NoRun xt_NoRun su_NoCode_NoRun
    · subst he; rw [gC_NoCode] at h1; rw [gC_OtherRows] at h2; cases h1; cases h2; exact exm_mk xb_OtherRows ic_OtherRows xt_OtherRows su_NoCode_OtherRows
    · subst he; rw [gC_NoLong] at h1; rw [gC_NoRun] at h2; cases h1; cases h2; exact exm_mk xb_NoRun ic_NoRun xt_NoRun su_NoLong_NoRun
    · subst he; rw [gC_NoLong] at h1; rw [gC_OtherRows] at h2; cases h1; cases h2; exact exm_mk xb_OtherRows ic_OtherRows xt_OtherRows su_NoLong_OtherRows
    · subst he; have h1 := gC_NoRun.symm.trans h1; have h2 := gC_NoRun.symm.trans h2; cases h1; cases h2; exact exm_mk xb_NoRun ic_NoRun xt_NoRun su_NoRun_NoRun
    · subst he; rw [gC_NoRun] at h1; rw [gC_OtherRows] at h2; cases h1; cases h2; exact exm_mk xb_OtherRows ic_OtherRows xt_OtherRows su_NoRun_OtherRows
    · subst he; rw [gC_OtherRows] at h1; rw [gC_NoRun] at h2; cases h1; cases h2; exact exm_mk xb_NoRun ic_NoRun xt_NoRun su_OtherRows_NoRun
    · subst he; have h1 := gC_OtherRows.symm.trans h1; have h2 := gC_OtherRows.symm.trans h2; cases h1; cases h2; exact exm_mk xb_OtherRows ic_OtherRows xt_OtherRows su_OtherRows_OtherRows
    )
  have tt50 := tab_mk (x := "long_ticks") a50 l50 lt50 rft50
  have FL50 := funL_mk (st := s_long_ticks) l50 c50 rfl
  have tt51 := tab_mk (x := "long_price") a51 l51 lt51 rft51
  have FL51 := funL_mk (st := s_long_price) l51 c51 rfl
  have tu50 : ∀ p ∈ NMs.T K, p.1 = PtA50 → p.2 = "long_ticks.<locals>.<lambda>" := tu_of (nm := lamNms) (by
    intro y hy c e
    simp only [lamNms, List.mem_cons, List.not_mem_nil, or_false] at hy
    rcases hy with rfl | rfl
    · rfl
    · have e := tt51.symm.trans e; have e2 := congrArg Prod.snd (Option.some.inj e); simp only [] at e2; rw [e2] at rvt_51_50; simp at rvt_51_50
    )
  have tu51 : ∀ p ∈ NMs.T K, p.1 = PtA51 → p.2 = "long_price.<locals>.<lambda>" := tu_of (nm := lamNms) (by
    intro y hy c e
    simp only [lamNms, List.mem_cons, List.not_mem_nil, or_false] at hy
    rcases hy with rfl | rfl
    · have e := tt50.symm.trans e; have e2 := congrArg Prod.snd (Option.some.inj e); simp only [] at e2; rw [e2] at rvt_50_51; simp at rvt_50_51
    · rfl
    )
  refine ⟨?_, PySem.W.fnOf "law" "law" (defArgs s_law) (defBody s_law) (defScope s_law) .none kV58 dc58 pm58 an58 cd58 ct58, fun s v => .of_eq rfl, fun base _ _ tb => ?_⟩
  · intro p hp c P e
    simp only [lamNms, List.mem_cons, List.not_mem_nil, or_false] at hp
    rcases hp with rfl | rfl
    · have e := tt50.symm.trans e; have e2 := congrArg Prod.snd (Option.some.inj e); simp only [] at e2; rw [← e2]; exact kz50
    · have e := tt51.symm.trans e; have e2 := congrArg Prod.snd (Option.some.inj e); simp only [] at e2; rw [← e2]; exact kz51
  let T : Txt K mg base :=
    { a_law_hand := _
      fd_law_hand := _
      F_law_hand := F0
      b_law_hand := b0
      k_law_hand := k0
      g_law_hand := PySem.W.mg_of X G a0
      a_law_draw := _
      fd_law_draw := _
      F_law_draw := F1
      b_law_draw := b1
      k_law_draw := k1
      g_law_draw := PySem.W.mg_of X G a1
      a_law_rows := _
      fd_law_rows := _
      F_law_rows := F2
      b_law_rows := b2
      k_law_rows := k2
      g_law_rows := PySem.W.mg_of X G a2
      a_law_line := _
      fd_law_line := _
      F_law_line := F3
      b_law_line := b3
      k_law_line := k3
      g_law_line := PySem.W.mg_of X G a3
      a_law_world := _
      fd_law_world := _
      F_law_world := F4
      b_law_world := b4
      k_law_world := k4
      g_law_world := PySem.W.mg_of X G a4
      a_is_code := _
      fd_is_code := _
      F_is_code := F5
      b_is_code := b5
      k_is_code := k5
      g_is_code := PySem.W.mg_of X G a5
      a_is_letters := _
      fd_is_letters := _
      F_is_letters := F6
      b_is_letters := b6
      k_is_letters := k6
      g_is_letters := PySem.W.mg_of X G a6
      a_is_rows := _
      fd_is_rows := _
      F_is_rows := F7
      b_is_rows := b7
      k_is_rows := k7
      g_is_rows := PySem.W.mg_of X G a7
      a_is_integer := _
      fd_is_integer := _
      F_is_integer := F8
      b_is_integer := b8
      k_is_integer := k8
      g_is_integer := PySem.W.mg_of X G a8
      a_is_between := _
      fd_is_between := _
      F_is_between := F9
      b_is_between := b9
      k_is_between := k9
      g_is_between := PySem.W.mg_of X G a9
      a_is_answers := _
      fd_is_answers := _
      F_is_answers := F10
      b_is_answers := b10
      k_is_answers := k10
      g_is_answers := PySem.W.mg_of X G a10
      a_is_tuple := _
      fd_is_tuple := _
      F_is_tuple := F11
      b_is_tuple := b11
      k_is_tuple := k11
      g_is_tuple := PySem.W.mg_of X G a11
      a_is_move := _
      fd_is_move := _
      F_is_move := F12
      b_is_move := b12
      k_is_move := k12
      g_is_move := PySem.W.mg_of X G a12
      a_are_pairs := _
      fd_are_pairs := _
      F_are_pairs := F13
      b_are_pairs := b13
      k_are_pairs := k13
      g_are_pairs := PySem.W.mg_of X G a13
      a_is_item := _
      fd_is_item := _
      F_is_item := F14
      b_is_item := b14
      k_is_item := k14
      g_is_item := PySem.W.mg_of X G a14
      a_are_moves := _
      fd_are_moves := _
      F_are_moves := F15
      b_are_moves := b15
      k_are_moves := k15
      g_are_moves := PySem.W.mg_of X G a15
      a_Machine_init := _
      fd_Machine_init := _
      F_Machine_init := F16
      b_Machine_init := b16
      k_Machine_init := k16
      a_is_width := _
      fd_is_width := _
      F_is_width := F17
      b_is_width := b17
      k_is_width := k17
      g_is_width := PySem.W.mg_of X G a17
      a_is_fraction := _
      fd_is_fraction := _
      F_is_fraction := F18
      b_is_fraction := b18
      k_is_fraction := k18
      g_is_fraction := PySem.W.mg_of X G a18
      a_is_table := _
      fd_is_table := _
      F_is_table := F19
      b_is_table := b19
      k_is_table := k19
      g_is_table := PySem.W.mg_of X G a19
      a_stretches_over := _
      fd_stretches_over := _
      F_stretches_over := F20
      b_stretches_over := b20
      k_stretches_over := k20
      g_stretches_over := PySem.W.mg_of X G a20
      a_Prices_init := _
      fd_Prices_init := _
      F_Prices_init := F21
      b_Prices_init := b21
      k_Prices_init := k21
      a_law_names := _
      fd_law_names := _
      F_law_names := F22
      b_law_names := b22
      k_law_names := k22
      g_law_names := PySem.W.mg_of X G a22
      a_law_made := _
      fd_law_made := _
      F_law_made := F23
      b_law_made := b23
      k_law_made := k23
      g_law_made := PySem.W.mg_of X G a23
      a_law_fraction := _
      fd_law_fraction := _
      F_law_fraction := F24
      b_law_fraction := b24
      k_law_fraction := k24
      g_law_fraction := PySem.W.mg_of X G a24
      a_law_table := _
      fd_law_table := _
      F_law_table := F25
      b_law_table := b25
      k_law_table := k25
      g_law_table := PySem.W.mg_of X G a25
      a_law_run := _
      fd_law_run := _
      F_law_run := F26
      b_law_run := b26
      k_law_run := k26
      g_law_run := PySem.W.mg_of X G a26
      a_check_code := _
      fd_check_code := _
      F_check_code := F27
      b_check_code := b27
      k_check_code := k27
      g_check_code := PySem.W.mg_of X G a27
      a_Prices_table := _
      fd_Prices_table := _
      F_Prices_table := F28
      b_Prices_table := b28
      k_Prices_table := k28
      p_Prices_table := _
      P_Prices_table := ⟨a28, pg28, pt28, ⟨_, pr28⟩⟩
      a_shared_bottom := _
      fd_shared_bottom := _
      F_shared_bottom := F29
      b_shared_bottom := b29
      k_shared_bottom := k29
      g_shared_bottom := PySem.W.mg_of X G a29
      a_tail_behind := _
      fd_tail_behind := _
      F_tail_behind := F30
      b_tail_behind := b30
      k_tail_behind := k30
      g_tail_behind := PySem.W.mg_of X G a30
      a_charged := _
      fd_charged := _
      F_charged := F31
      b_charged := b31
      k_charged := k31
      g_charged := PySem.W.mg_of X G a31
      a_first_tail := _
      fd_first_tail := _
      F_first_tail := F32
      b_first_tail := b32
      k_first_tail := k32
      g_first_tail := PySem.W.mg_of X G a32
      a_lowest := _
      fd_lowest := _
      F_lowest := F33
      b_lowest := b33
      k_lowest := k33
      g_lowest := PySem.W.mg_of X G a33
      a_cost := _
      fd_cost := _
      F_cost := F34
      b_cost := b34
      k_cost := k34
      g_cost := PySem.W.mg_of X G a34
      a_price := _
      fd_price := _
      F_price := F35
      b_price := b35
      k_price := k35
      g_price := PySem.W.mg_of X G a35
      a_check_same_rows := _
      fd_check_same_rows := _
      F_check_same_rows := F36
      b_check_same_rows := b36
      k_check_same_rows := k36
      g_check_same_rows := PySem.W.mg_of X G a36
      a_is_run := _
      fd_is_run := _
      F_is_run := F37
      b_is_run := b37
      k_is_run := k37
      g_is_run := PySem.W.mg_of X G a37
      a_check_run := _
      fd_check_run := _
      F_check_run := F38
      b_check_run := b38
      k_check_run := k38
      g_check_run := PySem.W.mg_of X G a38
      a_minus := _
      fd_minus := _
      F_minus := F39
      b_minus := b39
      k_minus := k39
      g_minus := PySem.W.mg_of X G a39
      a_walked := _
      fd_walked := _
      F_walked := F40
      b_walked := b40
      k_walked := k40
      g_walked := PySem.W.mg_of X G a40
      a_rest := _
      fd_rest := _
      F_rest := F41
      b_rest := b41
      k_rest := k41
      g_rest := PySem.W.mg_of X G a41
      a_law_common := _
      fd_law_common := _
      F_law_common := F42
      b_law_common := b42
      k_law_common := k42
      g_law_common := PySem.W.mg_of X G a42
      a_law_sum := _
      fd_law_sum := _
      F_law_sum := F43
      b_law_sum := b43
      k_law_sum := k43
      g_law_sum := PySem.W.mg_of X G a43
      a_ticks := _
      fd_ticks := _
      F_ticks := F44
      b_ticks := b44
      k_ticks := k44
      g_ticks := PySem.W.mg_of X G a44
      a_law_written := _
      fd_law_written := _
      F_law_written := F45
      b_law_written := b45
      k_law_written := k45
      g_law_written := PySem.W.mg_of X G a45
      a_is_turn := _
      fd_is_turn := _
      F_is_turn := F46
      b_is_turn := b46
      k_is_turn := k46
      g_is_turn := PySem.W.mg_of X G a46
      a_check_long := _
      fd_check_long := _
      F_check_long := F47
      b_check_long := b47
      k_check_long := k47
      g_check_long := PySem.W.mg_of X G a47
      a_repeated := _
      fd_repeated := _
      F_repeated := F48
      b_repeated := b48
      k_repeated := k48
      g_repeated := PySem.W.mg_of X G a48
      a_summed := _
      fd_summed := _
      F_summed := F49
      b_summed := b49
      k_summed := k49
      g_summed := PySem.W.mg_of X G a49
      a_long_ticks := _
      fd_long_ticks := _
      F_long_ticks := FL50
      b_long_ticks := b50
      k_long_ticks := k50
      ct_long_ticks := ctA50
      Pt_long_ticks := PtA50
      TB_long_ticks := tb ("long_ticks", "long_ticks.<locals>.<lambda>") (by simp [lamNms]) _ _ tt50
      tm_long_ticks := mem_tabsOf (nm := lamNms) (x := ("long_ticks", "long_ticks.<locals>.<lambda>")) (by simp [lamNms]) tt50
      tu_long_ticks := tu50
      g_long_ticks := PySem.W.mg_of X G a50
      a_long_price := _
      fd_long_price := _
      F_long_price := FL51
      b_long_price := b51
      k_long_price := k51
      ct_long_price := ctA51
      Pt_long_price := PtA51
      TB_long_price := tb ("long_price", "long_price.<locals>.<lambda>") (by simp [lamNms]) _ _ tt51
      tm_long_price := mem_tabsOf (nm := lamNms) (x := ("long_price", "long_price.<locals>.<lambda>")) (by simp [lamNms]) tt51
      tu_long_price := tu51
      g_long_price := PySem.W.mg_of X G a51
      a_law_led := _
      fd_law_led := _
      F_law_led := F52
      b_law_led := b52
      k_law_led := k52
      g_law_led := PySem.W.mg_of X G a52
      a_law_map := _
      fd_law_map := _
      F_law_map := F53
      b_law_map := b53
      k_law_map := k53
      g_law_map := PySem.W.mg_of X G a53
      a_law_behind := _
      fd_law_behind := _
      F_law_behind := F54
      b_law_behind := b54
      k_law_behind := k54
      g_law_behind := PySem.W.mg_of X G a54
      a_law_many := _
      fd_law_many := _
      F_law_many := F55
      b_law_many := b55
      k_law_many := k55
      g_law_many := PySem.W.mg_of X G a55
      a_law_great_price := _
      fd_law_great_price := _
      F_law_great_price := F56
      b_law_great_price := b56
      k_law_great_price := k56
      g_law_great_price := PySem.W.mg_of X G a56
      a_law_word := _
      fd_law_word := _
      F_law_word := F57
      b_law_word := b57
      k_law_word := k57
      g_law_word := PySem.W.mg_of X G a57
      a_law := _
      fd_law := _
      F_law := F58
      b_law := b58
      k_law := k58
      g_law := PySem.W.mg_of X G a58
      i_gcd := PySem.W.mg_of X G im_gcd
      i_lcm := PySem.W.mg_of X G im_lcm
      c_Machine := C_Machine
      C_Machine := gC_Machine
      mk_Machine := ⟨mk_Machine, a16, i16, kc_Machine⟩
      c_Prices := C_Prices
      C_Prices := gC_Prices
      K_Prices := cl_Prices
      mk_Prices := ⟨mk_Prices, a21, i21, kc_Prices⟩
      a_BadMachine_init := _
      fd_BadMachine_init := _
      F_BadMachine_init := FX_BadMachine
      b_BadMachine_init := bX_BadMachine
      c_BadMachine := C_BadMachine
      C_BadMachine := gC_BadMachine
      X_BadMachine := ⟨⟨⟨nm_BadMachine, qn_BadMachine, N_BadMachine, bs_BadMachine, bm_BadMachine, sn_BadMachine, sb_BadMachine, ab_BadMachine, col_BadMachine, dd_BadMachine, m0_BadMachine, m1_BadMachine, m2_BadMachine, m3_BadMachine, m5_BadMachine, xL_BadMachine, rv_BadMachine⟩, sa_BadMachine, xb_BadMachine, xt_BadMachine, kc_BadMachine⟩, iX_BadMachine, tX_BadMachine, nb_BadMachine, ⟨ga_BadMachine, gg_BadMachine, xb_BadMachine, hd_BadMachine⟩⟩
      a_BadPrices_init := _
      fd_BadPrices_init := _
      F_BadPrices_init := FX_BadPrices
      b_BadPrices_init := bX_BadPrices
      c_BadPrices := C_BadPrices
      C_BadPrices := gC_BadPrices
      X_BadPrices := ⟨⟨⟨nm_BadPrices, qn_BadPrices, N_BadPrices, bs_BadPrices, bm_BadPrices, sn_BadPrices, sb_BadPrices, ab_BadPrices, col_BadPrices, dd_BadPrices, m0_BadPrices, m1_BadPrices, m2_BadPrices, m3_BadPrices, m5_BadPrices, xL_BadPrices, rv_BadPrices⟩, sa_BadPrices, xb_BadPrices, xt_BadPrices, kc_BadPrices⟩, iX_BadPrices, tX_BadPrices, nb_BadPrices, ⟨ga_BadPrices, gg_BadPrices, xb_BadPrices, hd_BadPrices⟩⟩
      c_NoCode := C_NoCode
      C_NoCode := gC_NoCode
      E_NoCode := ⟨xi_NoCode, kc_NoCode, xb_NoCode, xt_NoCode⟩
      c_NoLong := C_NoLong
      C_NoLong := gC_NoLong
      E_NoLong := ⟨xi_NoLong, kc_NoLong, xb_NoLong, xt_NoLong⟩
      c_NoRun := C_NoRun
      C_NoRun := gC_NoRun
      E_NoRun := ⟨xi_NoRun, kc_NoRun, xb_NoRun, xt_NoRun⟩
      c_OtherRows := C_OtherRows
      C_OtherRows := gC_OtherRows
      E_OtherRows := ⟨xi_OtherRows, kc_OtherRows, xb_OtherRows, xt_OtherRows⟩
      sub := subs
      f__table := by
        intro c hc C hC
        simp only [fldC__table, List.mem_cons, List.not_mem_nil, or_false] at hc
        subst hc
        rw [gC_Prices] at hC
        cases hC
        exact ⟨cl_Prices, nf_Prices__table⟩
      f_answers := by
        intro c hc C hC
        simp only [fldC_answers, List.mem_cons, List.not_mem_nil, or_false] at hc
        subst hc
        rw [gC_Machine] at hC
        cases hC
        exact ⟨cl_Machine, nf_Machine_answers⟩
      f_moves := by
        intro c hc C hC
        simp only [fldC_moves, List.mem_cons, List.not_mem_nil, or_false] at hc
        subst hc
        rw [gC_Machine] at hC
        cases hC
        exact ⟨cl_Machine, nf_Machine_moves⟩
      f_rows := by
        intro c hc C hC
        simp only [fldC_rows, List.mem_cons, List.not_mem_nil, or_false] at hc
        rcases hc with hc | hc
        · subst hc; rw [gC_Machine] at hC; cases hC; exact ⟨cl_Machine, nf_Machine_rows⟩
        · subst hc; rw [gC_Prices] at hC; cases hC; exact ⟨cl_Prices, nf_Prices_rows⟩
      f_size := by
        intro c hc C hC
        simp only [fldC_size, List.mem_cons, List.not_mem_nil, or_false] at hc
        subst hc
        rw [gC_Machine] at hC
        cases hC
        exact ⟨cl_Machine, nf_Machine_size⟩
      f_width := by
        intro c hc C hC
        simp only [fldC_width, List.mem_cons, List.not_mem_nil, or_false] at hc
        subst hc
        rw [gC_Prices] at hC
        cases hC
        exact ⟨cl_Prices, nf_Prices_width⟩
      n_abs := PySem.W.mg_none_of X G z_abs
      n_all := PySem.W.mg_none_of X G z_all
      n_bool := PySem.W.mg_none_of X G z_bool
      n_dict := PySem.W.mg_none_of X G z_dict
      n_int := PySem.W.mg_none_of X G z_int
      n_isinstance := PySem.W.mg_none_of X G z_isinstance
      n_len := PySem.W.mg_none_of X G z_len
      n_range := PySem.W.mg_none_of X G z_range
      n_sorted := PySem.W.mg_none_of X G z_sorted
      n_str := PySem.W.mg_none_of X G z_str
      n_sum := PySem.W.mg_none_of X G z_sum
      n_tuple := PySem.W.mg_none_of X G z_tuple
      n_zip := PySem.W.mg_none_of X G z_zip
      c_LETTERS := ⟨_, PySem.W.mg_of X G v_LETTERS⟩ }
  have q := G_law (P := l.prog) (w := w) (base := base) T
  exact q.imp fun vs H Q E h => law_imp law_ok h
end DD
open PySem PySem.W PyProof.Rows in
set_option maxRecDepth 100000 in
set_option maxHeartbeats 0 in
theorem PySem.Challenge.cw_stretchprices_k15_whole_rests_and_long_r_holds : PySem.Challenge.rw_stretchprices_k15_whole_rests_and_long_r.Holds := by
  w_on; o_law; k_head; (case hw => w_witness2)
  k_fill
  refine DD.walk_ofDT (l := PySem.Challenge.rw_stretchprices_k15_whole_rests_and_long_r) (k := 9) DD.lamNms (fun _ => rfl) rfl rfl ⟨rfl, by decide, by decide⟩ (by decide +kernel) (fun w h Y => PySem.W.km_in_of Y) ?F
  case F =>
    intro w mg fa h KX G hmg
    refine' DD.all_mk KX G hmg ?aC_Machine ?pg_Machine ?hd_Machine ?po_Machine ?sa_Machine ?mk_Machine ?kc_Machine ?nf_Machine_answers ?nf_Machine_moves ?nf_Machine_rows ?nf_Machine_size ?aC_Prices ?pg_Prices ?hd_Prices ?po_Prices ?sa_Prices ?mk_Prices ?kc_Prices ?nf_Prices__table ?nf_Prices_rows ?nf_Prices_width ?aC_BadMachine ?xL_BadMachine ?rv_BadMachine ?sa_BadMachine ?ga_BadMachine ?gg_BadMachine ?nb_BadMachine ?iX_BadMachine ?tX_BadMachine ?lX_BadMachine ?cX_BadMachine ?kX_BadMachine ?kc_BadMachine ?xb_BadMachine ?xt_BadMachine ?hd_BadMachine ?aC_BadPrices ?xL_BadPrices ?rv_BadPrices ?sa_BadPrices ?ga_BadPrices ?gg_BadPrices ?nb_BadPrices ?iX_BadPrices ?tX_BadPrices ?lX_BadPrices ?cX_BadPrices ?kX_BadPrices ?kc_BadPrices ?xb_BadPrices ?xt_BadPrices ?hd_BadPrices ?aC_NoCode ?xi_NoCode ?kc_NoCode ?xb_NoCode ?xt_NoCode ?aC_NoLong ?xi_NoLong ?kc_NoLong ?xb_NoLong ?xt_NoLong ?aC_NoRun ?xi_NoRun ?kc_NoRun ?xb_NoRun ?xt_NoRun ?aC_OtherRows ?xi_OtherRows ?kc_OtherRows ?xb_OtherRows ?xt_OtherRows ?su_BadMachine_NoRun ?su_BadMachine_OtherRows ?su_BadPrices_NoRun ?su_BadPrices_OtherRows ?su_NoCode_NoRun ?su_NoCode_OtherRows ?su_NoLong_NoRun ?su_NoLong_OtherRows ?su_NoRun_NoRun ?su_NoRun_OtherRows ?su_OtherRows_NoRun ?su_OtherRows_OtherRows ?ic_NoRun ?ic_OtherRows ?a0 ?l0 ?c0 ?k0 ?a1 ?l1 ?c1 ?k1 ?a2 ?l2 ?c2 ?k2 ?a3 ?l3 ?c3 ?k3 ?a4 ?l4 ?c4 ?k4 ?a5 ?l5 ?c5 ?k5 ?a6 ?l6 ?c6 ?k6 ?a7 ?l7 ?c7 ?k7 ?a8 ?l8 ?c8 ?k8 ?a9 ?l9 ?c9 ?k9 ?a10 ?l10 ?c10 ?k10 ?a11 ?l11 ?c11 ?k11 ?a12 ?l12 ?c12 ?k12 ?a13 ?l13 ?c13 ?k13 ?a14 ?l14 ?c14 ?k14 ?a15 ?l15 ?c15 ?k15 ?a16 ?i16 ?l16 ?c16 ?k16 ?a17 ?l17 ?c17 ?k17 ?a18 ?l18 ?c18 ?k18 ?a19 ?l19 ?c19 ?k19 ?a20 ?l20 ?c20 ?k20 ?a21 ?i21 ?l21 ?c21 ?k21 ?a22 ?l22 ?c22 ?k22 ?a23 ?l23 ?c23 ?k23 ?a24 ?l24 ?c24 ?k24 ?a25 ?l25 ?c25 ?k25 ?a26 ?l26 ?c26 ?k26 ?a27 ?l27 ?c27 ?k27 ?a28 ?pg28 ?pt28 ?pr28 ?l28 ?c28 ?k28 ?a29 ?l29 ?c29 ?k29 ?a30 ?l30 ?c30 ?k30 ?a31 ?l31 ?c31 ?k31 ?a32 ?l32 ?c32 ?k32 ?a33 ?l33 ?c33 ?k33 ?a34 ?l34 ?c34 ?k34 ?a35 ?l35 ?c35 ?k35 ?a36 ?l36 ?c36 ?k36 ?a37 ?l37 ?c37 ?k37 ?a38 ?l38 ?c38 ?k38 ?a39 ?l39 ?c39 ?k39 ?a40 ?l40 ?c40 ?k40 ?a41 ?l41 ?c41 ?k41 ?a42 ?l42 ?c42 ?k42 ?a43 ?l43 ?c43 ?k43 ?a44 ?l44 ?c44 ?k44 ?a45 ?l45 ?c45 ?k45 ?a46 ?l46 ?c46 ?k46 ?a47 ?l47 ?c47 ?k47 ?a48 ?l48 ?c48 ?k48 ?a49 ?l49 ?c49 ?k49 ?a50 ?l50 ?c50 ?k50 ?lt50 ?rft50 ?kz50 ?a51 ?l51 ?c51 ?k51 ?lt51 ?rft51 ?kz51 ?a52 ?l52 ?c52 ?k52 ?a53 ?l53 ?c53 ?k53 ?a54 ?l54 ?c54 ?k54 ?a55 ?l55 ?c55 ?k55 ?a56 ?l56 ?c56 ?k56 ?a57 ?l57 ?c57 ?k57 ?a58 ?l58 ?c58 ?k58 ?rvt_50_51 ?rvt_51_50 ?im_gcd ?im_lcm ?z_abs ?z_all ?z_bool ?z_dict ?z_int ?z_isinstance ?z_len ?z_range ?z_sorted ?z_str ?z_sum ?z_tuple ?z_zip ?v_LETTERS
    (case aC_Machine => k_is)
    (case pg_Machine => k_is)
    (case hd_Machine => k_is)
    (case po_Machine => k_is)
    (case sa_Machine => k_is)
    (case mk_Machine => k_is)
    (case kc_Machine => k_is)
    (case nf_Machine_answers => k_is)
    (case nf_Machine_moves => k_is)
    (case nf_Machine_rows => k_is)
    (case nf_Machine_size => k_is)
    (case aC_Prices => k_is)
    (case pg_Prices => k_is)
    (case hd_Prices => k_is)
    (case po_Prices => k_is)
    (case sa_Prices => k_is)
    (case mk_Prices => k_is)
    (case kc_Prices => k_is)
    (case nf_Prices__table => k_is)
    (case nf_Prices_rows => k_is)
    (case nf_Prices_width => k_is)
    (case aC_BadMachine => k_is)
    (case xL_BadMachine => k_is)
    (case rv_BadMachine => decide +kernel)
    (case sa_BadMachine => k_is)
    (case ga_BadMachine => k_is)
    (case gg_BadMachine => k_is)
    (case nb_BadMachine => k_is)
    (case iX_BadMachine => k_is)
    (case tX_BadMachine => k_is)
    (case lX_BadMachine => k_is)
    (case cX_BadMachine => k_is)
    (case kX_BadMachine => k_is)
    (case kc_BadMachine => k_is)
    (case xb_BadMachine => k_is)
    (case xt_BadMachine => k_is)
    (case hd_BadMachine => k_is)
    (case aC_BadPrices => k_is)
    (case xL_BadPrices => k_is)
    (case rv_BadPrices => decide +kernel)
    (case sa_BadPrices => k_is)
    (case ga_BadPrices => k_is)
    (case gg_BadPrices => k_is)
    (case nb_BadPrices => k_is)
    (case iX_BadPrices => k_is)
    (case tX_BadPrices => k_is)
    (case lX_BadPrices => k_is)
    (case cX_BadPrices => k_is)
    (case kX_BadPrices => k_is)
    (case kc_BadPrices => k_is)
    (case xb_BadPrices => k_is)
    (case xt_BadPrices => k_is)
    (case hd_BadPrices => k_is)
    (case aC_NoCode => k_is)
    (case xi_NoCode => k_exc)
    (case kc_NoCode => k_is)
    (case xb_NoCode => k_is)
    (case xt_NoCode => k_is)
    (case aC_NoLong => k_is)
    (case xi_NoLong => k_exc)
    (case kc_NoLong => k_is)
    (case xb_NoLong => k_is)
    (case xt_NoLong => k_is)
    (case aC_NoRun => k_is)
    (case xi_NoRun => k_exc)
    (case kc_NoRun => k_is)
    (case xb_NoRun => k_is)
    (case xt_NoRun => k_is)
    (case aC_OtherRows => k_is)
    (case xi_OtherRows => k_exc)
    (case kc_OtherRows => k_is)
    (case xb_OtherRows => k_is)
    (case xt_OtherRows => k_is)
    (case su_BadMachine_NoRun => k_is)
    (case su_BadMachine_OtherRows => k_is)
    (case su_BadPrices_NoRun => k_is)
    (case su_BadPrices_OtherRows => k_is)
    (case su_NoCode_NoRun => k_is)
    (case su_NoCode_OtherRows => k_is)
    (case su_NoLong_NoRun => k_is)
    (case su_NoLong_OtherRows => k_is)
    (case su_NoRun_NoRun => k_is)
    (case su_NoRun_OtherRows => k_is)
    (case su_OtherRows_NoRun => k_is)
    (case su_OtherRows_OtherRows => k_is)
    (case ic_NoRun => k_is)
    (case ic_OtherRows => k_is)
    (case a0 => k_is)
    (case l0 => k_is)
    (case c0 => k_is)
    (case k0 => k_is)
    (case a1 => k_is)
    (case l1 => k_is)
    (case c1 => k_is)
    (case k1 => k_is)
    (case a2 => k_is)
    (case l2 => k_is)
    (case c2 => k_is)
    (case k2 => k_is)
    (case a3 => k_is)
    (case l3 => k_is)
    (case c3 => k_is)
    (case k3 => k_is)
    (case a4 => k_is)
    (case l4 => k_is)
    (case c4 => k_is)
    (case k4 => k_is)
    (case a5 => k_is)
    (case l5 => k_is)
    (case c5 => k_is)
    (case k5 => k_is)
    (case a6 => k_is)
    (case l6 => k_is)
    (case c6 => k_is)
    (case k6 => k_is)
    (case a7 => k_is)
    (case l7 => k_is)
    (case c7 => k_is)
    (case k7 => k_is)
    (case a8 => k_is)
    (case l8 => k_is)
    (case c8 => k_is)
    (case k8 => k_is)
    (case a9 => k_is)
    (case l9 => k_is)
    (case c9 => k_is)
    (case k9 => k_is)
    (case a10 => k_is)
    (case l10 => k_is)
    (case c10 => k_is)
    (case k10 => k_is)
    (case a11 => k_is)
    (case l11 => k_is)
    (case c11 => k_is)
    (case k11 => k_is)
    (case a12 => k_is)
    (case l12 => k_is)
    (case c12 => k_is)
    (case k12 => k_is)
    (case a13 => k_is)
    (case l13 => k_is)
    (case c13 => k_is)
    (case k13 => k_is)
    (case a14 => k_is)
    (case l14 => k_is)
    (case c14 => k_is)
    (case k14 => k_is)
    (case a15 => k_is)
    (case l15 => k_is)
    (case c15 => k_is)
    (case k15 => k_is)
    (case a16 => k_is)
    (case i16 => k_is)
    (case l16 => k_is)
    (case c16 => k_is)
    (case k16 => k_is)
    (case a17 => k_is)
    (case l17 => k_is)
    (case c17 => k_is)
    (case k17 => k_is)
    (case a18 => k_is)
    (case l18 => k_is)
    (case c18 => k_is)
    (case k18 => k_is)
    (case a19 => k_is)
    (case l19 => k_is)
    (case c19 => k_is)
    (case k19 => k_is)
    (case a20 => k_is)
    (case l20 => k_is)
    (case c20 => k_is)
    (case k20 => k_is)
    (case a21 => k_is)
    (case i21 => k_is)
    (case l21 => k_is)
    (case c21 => k_is)
    (case k21 => k_is)
    (case a22 => k_is)
    (case l22 => k_is)
    (case c22 => k_is)
    (case k22 => k_is)
    (case a23 => k_is)
    (case l23 => k_is)
    (case c23 => k_is)
    (case k23 => k_is)
    (case a24 => k_is)
    (case l24 => k_is)
    (case c24 => k_is)
    (case k24 => k_is)
    (case a25 => k_is)
    (case l25 => k_is)
    (case c25 => k_is)
    (case k25 => k_is)
    (case a26 => k_is)
    (case l26 => k_is)
    (case c26 => k_is)
    (case k26 => k_is)
    (case a27 => k_is)
    (case l27 => k_is)
    (case c27 => k_is)
    (case k27 => k_is)
    (case a28 => k_is)
    (case pg28 => k_is)
    (case pt28 => k_is)
    (case pr28 => k_is)
    (case l28 => k_is)
    (case c28 => k_is)
    (case k28 => k_is)
    (case a29 => k_is)
    (case l29 => k_is)
    (case c29 => k_is)
    (case k29 => k_is)
    (case a30 => k_is)
    (case l30 => k_is)
    (case c30 => k_is)
    (case k30 => k_is)
    (case a31 => k_is)
    (case l31 => k_is)
    (case c31 => k_is)
    (case k31 => k_is)
    (case a32 => k_is)
    (case l32 => k_is)
    (case c32 => k_is)
    (case k32 => k_is)
    (case a33 => k_is)
    (case l33 => k_is)
    (case c33 => k_is)
    (case k33 => k_is)
    (case a34 => k_is)
    (case l34 => k_is)
    (case c34 => k_is)
    (case k34 => k_is)
    (case a35 => k_is)
    (case l35 => k_is)
    (case c35 => k_is)
    (case k35 => k_is)
    (case a36 => k_is)
    (case l36 => k_is)
    (case c36 => k_is)
    (case k36 => k_is)
    (case a37 => k_is)
    (case l37 => k_is)
    (case c37 => k_is)
    (case k37 => k_is)
    (case a38 => k_is)
    (case l38 => k_is)
    (case c38 => k_is)
    (case k38 => k_is)
    (case a39 => k_is)
    (case l39 => k_is)
    (case c39 => k_is)
    (case k39 => k_is)
    (case a40 => k_is)
    (case l40 => k_is)
    (case c40 => k_is)
    (case k40 => k_is)
    (case a41 => k_is)
    (case l41 => k_is)
    (case c41 => k_is)
    (case k41 => k_is)
    (case a42 => k_is)
    (case l42 => k_is)
    (case c42 => k_is)
    (case k42 => k_is)
    (case a43 => k_is)
    (case l43 => k_is)
    (case c43 => k_is)
    (case k43 => k_is)
    (case a44 => k_is)
    (case l44 => k_is)
    (case c44 => k_is)
    (case k44 => k_is)
    (case a45 => k_is)
    (case l45 => k_is)
    (case c45 => k_is)
    (case k45 => k_is)
    (case a46 => k_is)
    (case l46 => k_is)
    (case c46 => k_is)
    (case k46 => k_is)
    (case a47 => k_is)
    (case l47 => k_is)
    (case c47 => k_is)
    (case k47 => k_is)
    (case a48 => k_is)
    (case l48 => k_is)
    (case c48 => k_is)
    (case k48 => k_is)
    (case a49 => k_is)
    (case l49 => k_is)
    (case c49 => k_is)
    (case k49 => k_is)
    (case a50 => k_is)
    (case l50 => k_is)
    (case c50 => k_is)
    (case k50 => k_is)
    (case lt50 => k_is)
    (case rft50 => exact rfl)
    (case kz50 => kernel_rfl!)
    (case a51 => k_is)
    (case l51 => k_is)
    (case c51 => k_is)
    (case k51 => k_is)
    (case lt51 => k_is)
    (case rft51 => exact rfl)
    (case kz51 => kernel_rfl!)
    (case a52 => k_is)
    (case l52 => k_is)
    (case c52 => k_is)
    (case k52 => k_is)
    (case a53 => k_is)
    (case l53 => k_is)
    (case c53 => k_is)
    (case k53 => k_is)
    (case a54 => k_is)
    (case l54 => k_is)
    (case c54 => k_is)
    (case k54 => k_is)
    (case a55 => k_is)
    (case l55 => k_is)
    (case c55 => k_is)
    (case k55 => k_is)
    (case a56 => k_is)
    (case l56 => k_is)
    (case c56 => k_is)
    (case k56 => k_is)
    (case a57 => k_is)
    (case l57 => k_is)
    (case c57 => k_is)
    (case k57 => k_is)
    (case a58 => k_is)
    (case l58 => k_is)
    (case c58 => k_is)
    (case k58 => k_is)
    (case rvt_50_51 => decide +kernel)
    (case rvt_51_50 => decide +kernel)
    (case im_gcd => k_is)
    (case im_lcm => k_is)
    (case z_abs => k_is)
    (case z_all => k_is)
    (case z_bool => k_is)
    (case z_dict => k_is)
    (case z_int => k_is)
    (case z_isinstance => k_is)
    (case z_len => k_is)
    (case z_range => k_is)
    (case z_sorted => k_is)
    (case z_str => k_is)
    (case z_sum => k_is)
    (case z_tuple => k_is)
    (case z_zip => k_is)
    (case v_LETTERS => k_is)
