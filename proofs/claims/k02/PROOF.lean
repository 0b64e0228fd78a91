import PyProof.Rows.All
import Wide.All
import OpenK.AllK
import Wide.FinOn
import HandS.ForMost
import HandS.ForExc
import HandS.TupAny
import HandS.IsInst
import HandS.Wide
import HandS.Conv
import HandS.StrMore
import HandS.TupMul
import KE.GoesNew
import KE.GoesMore
import KE.GoesEnum
import HandS.TryMany
import HandS.Small
import HandS.SortInts
import PySem.Challenge.RW_stretchprices_k02_whole_runs_by_own_step
set_option Elab.async false
set_option linter.all false
set_option maxRecDepth 100000
set_option maxHeartbeats 4000000
/-! DD1: a value layer over HandS: data D, a store of mutable objects, readings as total functions. -/
namespace DD
open PySem L2

/-- data: what never changes by value, mutable objects by their place in the store -/
inductive D where
  | non | bl (b : Bool) | int (i : Int) | str (x : Str) | tup (ds : List D) | fz (ds : List D) | sc (ds : List D) | fd (ks : List Key) (ds : List D) | obj (c : Str) (ns : List Str) (ds : List D) | ref (n : Nat) | ty (n : String)
  deriving Inhabited
/-- what stands in the store -/
inductive O where
  | lst (ds : List D)
  | ins (c : Str) (ns : List Str) (ds : List D)
  | dct (ks : List Key) (ds : List D)
abbrev Sto := List O
abbrev Env := List (Option D)
/-- an error: its class's name, its field -/
abbrev Xc := Str × Option (Str × D)
inductive Res (α : Type) where
  | ok (a : α) (st : Sto)
  | exc (x : Xc) (st : Sto)
  | bad
def Res.bind {α β : Type} (r : Res α) (f : α → Sto → Res β) : Res β := match r with
  | .ok a st => f a st
  | .exc x st => .exc x st
  | .bad => .bad
@[simp] theorem Res.bind_ok {α β : Type} (a : α) (st : Sto) (f : α → Sto → Res β) : (Res.ok a st).bind f = f a st := rfl
@[simp] theorem Res.bind_exc {α β : Type} (x : Xc) (st : Sto) (f : α → Sto → Res β) : (Res.exc x st : Res α).bind f = .exc x st := rfl
@[simp] theorem Res.bind_bad {α β : Type} (f : α → Sto → Res β) : (Res.bad : Res α).bind f = .bad := rfl
inductive ResS where
  | nx (env : Env) (st : Sto)
  | rt (x : D) (st : Sto)
  | bk (env : Env) (st : Sto)
  | ct (env : Env) (st : Sto)
  | exc (x : Xc) (env : Env) (st : Sto)
  | bad
abbrev DE := Env → Sto → Res D
abbrev DT := Env → Sto → Res Bool
abbrev DA := Env → Sto → Res (List D)
abbrev DS := Env → Sto → ResS
abbrev M := List D → Sto → Res D

/-! ### relations -/
/-- the written part, the module's names, addresses that are set aside -/
structure Bs where
  K : PySem.W.Frag
  mg : Str → Option Value
  ρ : List Addr
def Bs.more (B : Bs) (p : Addr) : Bs := ⟨B.K, B.mg, p :: B.ρ⟩
/-- a list, a tuple that never changes any more -/
def ScL (B : Bs) (H : Hp) (ι : List Addr) (a : Addr) (xs : List V) : Prop :=
  (Rd H a (.lst xs) ∧ a ∉ ι ∧ a ∉ B.ρ) ∨ ∃ (o : Obj) (its : Array Value) (n : Nat), B.K.lookup a = some o ∧ o.cls = .type "list" ∧ o.dict = none ∧ o.data = .seq its n ∧ its.size ≤ sizeLine ∧ Vals xs its.toList
def FzT (B : Bs) (H : Hp) (ι : List Addr) (a : Addr) (xs : List V) : Prop :=
  (Rd H a (.tup xs) ∧ a ∉ ι ∧ a ∉ B.ρ) ∨ ∃ (o : Obj) (its : Array Value) (n : Nat), B.K.lookup a = some o ∧ o.cls = .type "tuple" ∧ o.data = .seq its n ∧ its.size ≤ sizeLine ∧ Vals xs its.toList
theorem ScL.sq {B H ι a xs} (h : ScL B H ι a xs) : SqL B.K H a xs := h.elim (fun x => .inl x.1) .inr
theorem FzT.sq {B H ι a xs} (h : FzT B H ι a xs) : SqT B.K H a xs := h.elim (fun x => .inl x.1) .inr
mutual
def VR (B : Bs) (H : Hp) (ι : List Addr) : D → V → Prop
  | .non, v => v = .non
  | .bl b, v => v = .bl b
  | .int i, v => v = .int i
  | .str x, v => v = .str x
  | .ty n, v => v = .ty n
  | .ref n, v => ∃ a, ι[n]? = some a ∧ v = .ref a
  | .tup ds, v => ∃ a xs, v = .ref a ∧ FzT B H ι a xs ∧ VRs B H ι ds xs
  | .fz ds, v => ∃ a xs, v = .ref a ∧ H a = some (.lst xs) ∧ (a ∉ ι ∧ a ∉ B.ρ) ∧ VRs B H ι ds xs
  | .sc ds, v => ∃ a xs, v = .ref a ∧ ScL B H ι a xs ∧ VRs B H ι ds xs
  | .fd ks ds, v => ∃ a kvs xs, v = .ref a ∧ H a = some (.dK kvs) ∧ (a ∉ ι ∧ a ∉ B.ρ) ∧ kvs = ks.zip xs ∧ ks.length = xs.length ∧ VRs B H ι ds xs
  | .obj c ns ds, v => ∃ a C dx fs xs, v = .ref a ∧ B.mg c = some (.ref C) ∧ H a = some (.ins C dx fs) ∧ (a ∉ ι ∧ a ∉ B.ρ) ∧ fs = ns.zip xs ∧ ns.length = xs.length ∧ VRs B H ι ds xs
def VRs (B : Bs) (H : Hp) (ι : List Addr) : List D → List V → Prop
  | [], xs => xs = []
  | d :: ds, xs => ∃ x r, xs = x :: r ∧ VR B H ι d x ∧ VRs B H ι ds r
end
def OR (B : Bs) (H : Hp) (ι : List Addr) (a : Addr) : O → Prop
  | .lst ds => ∃ xs, H a = some (.lst xs) ∧ VRs B H ι ds xs
  | .ins c ns ds => ∃ C dx fs xs, B.mg c = some (.ref C) ∧ H a = some (.ins C dx fs) ∧ fs = ns.zip xs ∧ ns.length = xs.length ∧ VRs B H ι ds xs
  | .dct ks ds => ∃ kvs xs, H a = some (.dK kvs) ∧ kvs = ks.zip xs ∧ ks.length = xs.length ∧ VRs B H ι ds xs
structure Sim (B : Bs) (H : Hp) (ι : List Addr) (st : Sto) : Prop where
  len : ι.length = st.length
  nd : ι.Nodup
  ob : ∀ (n : Nat) (o : O), st[n]? = some o → ∃ a, ι[n]? = some a ∧ OR B H ι a o
  rs : ∀ a ∈ B.ρ, (∃ o, H a = some o) ∧ a ∉ ι
structure Step (ι : List Addr) (H : Hp) (ι' : List Addr) (H' : Hp) : Prop where
  pre : ∃ more, ι' = ι ++ more ∧ ∀ a ∈ more, H a = none ∧ a ∉ ι
  rest : ∀ a o, a ∉ ι → H a = some o → H' a = some o
def VEnv (B : Bs) (H : Hp) (ι : List Addr) (env : Env) (σ : L2.St) : Prop :=
  σ.length = env.length ∧ ∀ (i : Nat) (d : D), env[i]? = some (some d) → ∃ v, σ[i]? = some (some v) ∧ VR B H ι d v

section
variable {B : Bs} {H H' H1 H2 : Hp} {ι ι' ι1 ι2 : List Addr} {st st' : Sto} {env : Env} {σ : L2.St} {a : Addr} {xs : List V}
theorem Step.refl (ι : List Addr) (H : Hp) : Step ι H ι H := ⟨⟨[], by simp, by simp⟩, fun _ _ _ h => h⟩
theorem Step.ix (s : Step ι H ι' H') {n : Nat} {a : Addr} (h : ι[n]? = some a) : ι'[n]? = some a := by
  obtain ⟨more, rfl, _⟩ := s.pre
  rw [List.getElem?_append_left (List.getElem?_eq_some_iff.mp h).1]
  exact h
theorem Step.mem (s : Step ι H ι' H') {a : Addr} (h : a ∈ ι) : a ∈ ι' := by
  obtain ⟨more, rfl, _⟩ := s.pre
  exact List.mem_append_left _ h
theorem Step.notMem (s : Step ι H ι' H') {a : Addr} {o : HO} (h : a ∉ ι) (e : H a = some o) : a ∉ ι' := by
  obtain ⟨more, rfl, f⟩ := s.pre
  intro z
  rcases List.mem_append.mp z with z | z
  · exact h z
  · rw [(f a z).1] at e; cases e
theorem Step.trans (s : Step ι H ι1 H1) (t : Step ι1 H1 ι2 H2) : Step ι H ι2 H2 := by
  obtain ⟨m1, e1, f1⟩ := s.pre
  obtain ⟨m2, e2, f2⟩ := t.pre
  refine ⟨⟨m1 ++ m2, by rw [e2, e1, List.append_assoc], fun a ha => ?_⟩, fun a o hn h => ?_⟩
  · rcases List.mem_append.mp ha with h | h
    · exact f1 a h
    · have hm : a ∉ ι := fun z => (f2 a h).2 (s.mem z)
      refine ⟨?_, hm⟩
      cases q : H a with
      | none => rfl
      | some o =>
        have z := s.rest a o hm q
        rw [(f2 a h).1] at z; cases z
  · exact t.rest a o (s.notMem hn h) (s.rest a o hn h)
theorem Step.rd (s : Step ι H ι' H') {o : HO} (h : Rd H a o) (hn : a ∉ ι) : Rd H' a o ∧ a ∉ ι' := by
  rcases h with h | ⟨u, h⟩
  · exact ⟨.inl (s.rest a _ hn h), s.notMem hn h⟩
  · exact ⟨.inr ⟨u, s.rest a _ hn h⟩, s.notMem hn h⟩
theorem ScL.step (s : Step ι H ι' H') (h : ScL B H ι a xs) : ScL B H' ι' a xs := h.elim (fun x => .inl ⟨(s.rd x.1 x.2.1).1, (s.rd x.1 x.2.1).2, x.2.2⟩) .inr
theorem FzT.step (s : Step ι H ι' H') (h : FzT B H ι a xs) : FzT B H' ι' a xs := h.elim (fun x => .inl ⟨(s.rd x.1 x.2.1).1, (s.rd x.1 x.2.1).2, x.2.2⟩) .inr
mutual
theorem VR.step (s : Step ι H ι' H') : ∀ {d : D} {v : V}, VR B H ι d v → VR B H' ι' d v
  | .non, _, h => h
  | .bl _, _, h => h
  | .int _, _, h => h
  | .str _, _, h => h
  | .ty _, _, h => h
  | .ref _, _, ⟨a, h, e⟩ => ⟨a, s.ix h, e⟩
  | .tup _, _, ⟨a, xs, e, h, r⟩ => ⟨a, xs, e, h.step s, VRs.step s r⟩
  | .fz _, _, ⟨a, xs, e, h, n, r⟩ => ⟨a, xs, e, s.rest _ _ n.1 h, ⟨s.notMem n.1 h, n.2⟩, VRs.step s r⟩
  | .sc _, _, ⟨a, xs, e, h, r⟩ => ⟨a, xs, e, h.step s, VRs.step s r⟩
  | .fd _ _, _, ⟨a, fs, xs, e, h, n, e2, l, r⟩ => ⟨a, fs, xs, e, s.rest _ _ n.1 h, ⟨s.notMem n.1 h, n.2⟩, e2, l, VRs.step s r⟩
  | .obj _ _ _, _, ⟨a, C, dx, fs, xs, e, c, h, n, e2, l, r⟩ => ⟨a, C, dx, fs, xs, e, c, s.rest _ _ n.1 h, ⟨s.notMem n.1 h, n.2⟩, e2, l, VRs.step s r⟩
theorem VRs.step (s : Step ι H ι' H') : ∀ {ds : List D} {vs : List V}, VRs B H ι ds vs → VRs B H' ι' ds vs
  | [], _, h => h
  | _ :: _, _, ⟨x, r, e, h, t⟩ => ⟨x, r, e, VR.step s h, VRs.step s t⟩
end
/-- one more address set aside: what stood before does not hang on it -/
theorem ScL.more {p : Addr} (n : H p = none) (h : ScL B H ι a xs) : ScL (B.more p) H ι a xs := h.elim (fun x => .inl ⟨x.1, x.2.1, fun z => by
  rcases List.mem_cons.mp z with z | z
  · subst z
    rcases x.1 with q | ⟨_, q⟩ <;> (rw [n] at q; cases q)
  · exact x.2.2 z⟩) .inr
theorem FzT.more {p : Addr} (n : H p = none) (h : FzT B H ι a xs) : FzT (B.more p) H ι a xs := h.elim (fun x => .inl ⟨x.1, x.2.1, fun z => by
  rcases List.mem_cons.mp z with z | z
  · subst z
    rcases x.1 with q | ⟨_, q⟩ <;> (rw [n] at q; cases q)
  · exact x.2.2 z⟩) .inr
mutual
theorem VR.more {p : Addr} (n : H p = none) : ∀ {d : D} {v : V}, VR B H ι d v → VR (B.more p) H ι d v
  | .non, _, h => h
  | .bl _, _, h => h
  | .int _, _, h => h
  | .str _, _, h => h
  | .ty _, _, h => h
  | .ref _, _, h => h
  | .tup _, _, ⟨a, xs, e, h, r⟩ => ⟨a, xs, e, h.more n, VRs.more n r⟩
  | .sc _, _, ⟨a, xs, e, h, r⟩ => ⟨a, xs, e, h.more n, VRs.more n r⟩
  | .fz _, _, ⟨a, xs, e, h, m, r⟩ => ⟨a, xs, e, h, ⟨m.1, fun z => by
      rcases List.mem_cons.mp z with z | z
      · subst z; rw [n] at h; cases h
      · exact m.2 z⟩, VRs.more n r⟩
  | .fd _ _, _, ⟨a, fs, xs, e, h, m, e2, l, r⟩ => ⟨a, fs, xs, e, h, ⟨m.1, fun z => by
      rcases List.mem_cons.mp z with z | z
      · subst z; rw [n] at h; cases h
      · exact m.2 z⟩, e2, l, VRs.more n r⟩
  | .obj _ _ _, _, ⟨a, C, dx, fs, xs, e, c, h, m, e2, l, r⟩ => ⟨a, C, dx, fs, xs, e, c, h, ⟨m.1, fun z => by
      rcases List.mem_cons.mp z with z | z
      · subst z; rw [n] at h; cases h
      · exact m.2 z⟩, e2, l, VRs.more n r⟩
theorem VRs.more {p : Addr} (n : H p = none) : ∀ {ds : List D} {vs : List V}, VRs B H ι ds vs → VRs (B.more p) H ι ds vs
  | [], _, h => h
  | _ :: _, _, ⟨x, r, e, h, t⟩ => ⟨x, r, e, VR.more n h, VRs.more n t⟩
end
/-- an address set aside is free again, or goes into the store -/
theorem ScL.less {p : Addr} (h : ScL (B.more p) H ι a xs) : ScL B H ι a xs ∧ ScL B H (ι ++ [p]) a xs := by
  rcases h with x | x
  · have h1 : a ∉ B.ρ := fun z => x.2.2 (List.mem_cons_of_mem _ z)
    exact ⟨.inl ⟨x.1, x.2.1, h1⟩, .inl ⟨x.1, fun z => by
      rcases List.mem_append.mp z with z | z
      · exact x.2.1 z
      · have : a = p := by simpa using z
        exact x.2.2 (by rw [this]; exact List.mem_cons_self), h1⟩⟩
  · exact ⟨.inr x, .inr x⟩
theorem FzT.less {p : Addr} (h : FzT (B.more p) H ι a xs) : FzT B H ι a xs ∧ FzT B H (ι ++ [p]) a xs := by
  rcases h with x | x
  · have h1 : a ∉ B.ρ := fun z => x.2.2 (List.mem_cons_of_mem _ z)
    exact ⟨.inl ⟨x.1, x.2.1, h1⟩, .inl ⟨x.1, fun z => by
      rcases List.mem_append.mp z with z | z
      · exact x.2.1 z
      · have : a = p := by simpa using z
        exact x.2.2 (by rw [this]; exact List.mem_cons_self), h1⟩⟩
  · exact ⟨.inr x, .inr x⟩
mutual
theorem VR.less {p : Addr} : ∀ {d : D} {v : V}, VR (B.more p) H ι d v → VR B H ι d v ∧ VR B H (ι ++ [p]) d v
  | .non, _, h => ⟨h, h⟩
  | .bl _, _, h => ⟨h, h⟩
  | .int _, _, h => ⟨h, h⟩
  | .str _, _, h => ⟨h, h⟩
  | .ty _, _, h => ⟨h, h⟩
  | .ref _, _, ⟨a, h, e⟩ => ⟨⟨a, h, e⟩, ⟨a, by rw [List.getElem?_append_left (List.getElem?_eq_some_iff.mp h).1]; exact h, e⟩⟩
  | .tup _, _, ⟨a, xs, e, h, r⟩ => ⟨⟨a, xs, e, h.less.1, (VRs.less r).1⟩, ⟨a, xs, e, h.less.2, (VRs.less r).2⟩⟩
  | .sc _, _, ⟨a, xs, e, h, r⟩ => ⟨⟨a, xs, e, h.less.1, (VRs.less r).1⟩, ⟨a, xs, e, h.less.2, (VRs.less r).2⟩⟩
  | .fz _, _, ⟨a, xs, e, h, m, r⟩ => by
    have h1 : a ∉ B.ρ := fun z => m.2 (List.mem_cons_of_mem _ z)
    refine ⟨⟨a, xs, e, h, ⟨m.1, h1⟩, (VRs.less r).1⟩, ⟨a, xs, e, h, ⟨fun z => ?_, h1⟩, (VRs.less r).2⟩⟩
    rcases List.mem_append.mp z with z | z
    · exact m.1 z
    · have : a = p := by simpa using z
      exact m.2 (by rw [this]; exact List.mem_cons_self)
  | .fd _ _, _, ⟨a, fs, xs, e, h, m, e2, l, r⟩ => by
    have h1 : a ∉ B.ρ := fun z => m.2 (List.mem_cons_of_mem _ z)
    refine ⟨⟨a, fs, xs, e, h, ⟨m.1, h1⟩, e2, l, (VRs.less r).1⟩, ⟨a, fs, xs, e, h, ⟨fun z => ?_, h1⟩, e2, l, (VRs.less r).2⟩⟩
    rcases List.mem_append.mp z with z | z
    · exact m.1 z
    · have : a = p := by simpa using z
      exact m.2 (by rw [this]; exact List.mem_cons_self)
  | .obj _ _ _, _, ⟨a, C, dx, fs, xs, e, c, h, m, e2, l, r⟩ => by
    have h1 : a ∉ B.ρ := fun z => m.2 (List.mem_cons_of_mem _ z)
    refine ⟨⟨a, C, dx, fs, xs, e, c, h, ⟨m.1, h1⟩, e2, l, (VRs.less r).1⟩, ⟨a, C, dx, fs, xs, e, c, h, ⟨fun z => ?_, h1⟩, e2, l, (VRs.less r).2⟩⟩
    rcases List.mem_append.mp z with z | z
    · exact m.1 z
    · have : a = p := by simpa using z
      exact m.2 (by rw [this]; exact List.mem_cons_self)
theorem VRs.less {p : Addr} : ∀ {ds : List D} {vs : List V}, VRs (B.more p) H ι ds vs → VRs B H ι ds vs ∧ VRs B H (ι ++ [p]) ds vs
  | [], _, h => ⟨h, h⟩
  | _ :: _, _, ⟨x, r, e, h, t⟩ => ⟨⟨x, r, e, (VR.less h).1, (VRs.less t).1⟩, ⟨x, r, e, (VR.less h).2, (VRs.less t).2⟩⟩
end
theorem VRs.length : ∀ {ds : List D} {vs : List V}, VRs B H ι ds vs → ds.length = vs.length
  | [], _, h => by cases h; rfl
  | _ :: _, _, ⟨x, r, e, _, t⟩ => by subst e; simp [VRs.length t]
theorem VRs.get : ∀ {ds : List D} {vs : List V} {i : Nat} {d : D}, VRs B H ι ds vs → ds[i]? = some d → ∃ v, vs[i]? = some v ∧ VR B H ι d v
  | [], _, _, _, _, e => by simp at e
  | _ :: _, _, 0, _, ⟨x, r, e, h, _⟩, q => by subst e; simp at q; subst q; exact ⟨x, rfl, h⟩
  | _ :: _, _, i + 1, d, ⟨x, r, e, _, t⟩, q => by
    subst e
    obtain ⟨v, h1, h2⟩ := VRs.get (i := i) (d := d) t (by simpa using q)
    exact ⟨v, by simpa using h1, h2⟩
theorem VRs.append : ∀ {ds es : List D} {vs ws : List V}, VRs B H ι ds vs → VRs B H ι es ws → VRs B H ι (ds ++ es) (vs ++ ws)
  | [], _, _, _, h, k => by cases h; exact k
  | _ :: _, _, _, _, ⟨x, r, e, h, t⟩, k => by subst e; exact ⟨x, r ++ _, rfl, h, VRs.append t k⟩
theorem VRs.take : ∀ {ds : List D} {vs : List V} (n : Nat), VRs B H ι ds vs → VRs B H ι (ds.take n) (vs.take n)
  | _, _, 0, _ => rfl
  | [], _, _ + 1, h => by cases h; rfl
  | _ :: _, _, n + 1, ⟨x, r, e, h, t⟩ => by subst e; exact ⟨x, r.take n, rfl, h, VRs.take n t⟩
theorem VRs.drop : ∀ {ds : List D} {vs : List V} (n : Nat), VRs B H ι ds vs → VRs B H ι (ds.drop n) (vs.drop n)
  | _, _, 0, h => h
  | [], _, _ + 1, h => by cases h; rfl
  | _ :: _, _, n + 1, ⟨x, r, e, h, t⟩ => by subst e; exact VRs.drop n t
theorem VRs.set {d : D} {v : V} (hd : VR B H ι d v) : ∀ {ds : List D} {vs : List V} (n : Nat), VRs B H ι ds vs → VRs B H ι (ds.set n d) (vs.set n v)
  | [], _, _, h => by cases h; rfl
  | _ :: _, _, 0, ⟨x, r, e, h, t⟩ => by subst e; exact ⟨v, r, rfl, hd, t⟩
  | _ :: _, _, n + 1, ⟨x, r, e, h, t⟩ => by subst e; exact ⟨x, r.set n v, rfl, h, VRs.set hd n t⟩
theorem VRs.ints : ∀ (ns : List Int), VRs B H ι (ns.map D.int) (ns.map V.int)
  | [] => rfl
  | n :: ns => ⟨.int n, ns.map V.int, rfl, rfl, VRs.ints ns⟩
theorem VRs.one {d : D} {v : V} (h : VR B H ι d v) : VRs B H ι [d] [v] := ⟨v, [], rfl, h, rfl⟩
theorem VEnv.step (s : Step ι H ι' H') (h : VEnv B H ι env σ) : VEnv B H' ι' env σ :=
  ⟨h.1, fun i d e => let ⟨v, a, b⟩ := h.2 i d e; ⟨v, a, b.step s⟩⟩
theorem VEnv.set {i : Nat} {d : D} {v : V} (h : VEnv B H ι env σ) (r : VR B H ι d v) : VEnv B H ι (env.set i (some d)) (σ.set i (some v)) := by
  refine ⟨by simp [h.1], fun j e q => ?_⟩
  by_cases hj : i = j
  · subst hj
    by_cases hl : i < env.length
    · rw [List.getElem?_set_self hl] at q
      cases q
      exact ⟨v, by rw [List.getElem?_set_self (by rw [h.1]; exact hl)], r⟩
    · rw [List.getElem?_eq_none (by simpa using hl)] at q; cases q
  · rw [List.getElem?_set_ne hj] at q
    rw [List.getElem?_set_ne hj]
    exact h.2 j e q
/-- a slot that is forgotten -/
theorem VEnv.forget {i : Nat} (h : VEnv B H ι env σ) : VEnv B H ι (env.set i none) σ := by
  refine ⟨by simp [h.1], fun j e q => ?_⟩
  by_cases hj : i = j
  · subst hj
    by_cases hl : i < env.length
    · rw [List.getElem?_set_self hl] at q; cases q
    · rw [List.getElem?_eq_none (by simpa using hl)] at q; cases q
  · rw [List.getElem?_set_ne hj] at q
    exact h.2 j e q
theorem VEnv.gone {i : Nat} (h : VEnv B H ι env σ) : VEnv B H ι (env.set i none) (σ.set i none) := by
  refine ⟨by simp [h.1], fun j e q => ?_⟩
  by_cases hj : i = j
  · subst hj
    by_cases hl : i < env.length
    · rw [List.getElem?_set_self hl] at q; cases q
    · rw [List.getElem?_eq_none (by simpa using hl)] at q; cases q
  · rw [List.getElem?_set_ne hj] at q
    rw [List.getElem?_set_ne hj]
    exact h.2 j e q
theorem VEnv.wipe {vs : List Nat} (h : VEnv B H ι env σ) : VEnv B H ι (vs.foldr (fun i e => e.set i none) env) (L2.wipe σ vs) := by
  induction vs with
  | nil => exact h
  | cons v vs ih => exact VEnv.gone ih
theorem VEnv.start {vs : List V} {ds : List D} (N : List Str) (h : VRs B H ι ds vs) : VEnv B H ι (ds.map some ++ List.replicate (N.length - ds.length) none) (L2.start N vs) := by
  have hl := h.length
  refine ⟨by simp [L2.start, hl], fun i d e => ?_⟩
  by_cases hi : i < ds.length
  · rw [List.getElem?_append_left (by simpa using hi), List.getElem?_map] at e
    cases q : ds[i]? with
    | none => rw [q] at e; cases e
    | some d' =>
      rw [q] at e; cases e
      obtain ⟨v, h1, h2⟩ := h.get q
      refine ⟨v, ?_, h2⟩
      unfold L2.start
      rw [List.getElem?_append_left (by simpa [← hl] using hi), List.getElem?_map, h1]
      rfl
  · rw [List.getElem?_append_right (by simpa using hi), List.getElem?_replicate] at e
    split at e <;> cases e
/-- everything that is in the store is known to the heap -/
theorem Sim.there (S : Sim B H ι st) (h : a ∈ ι) : ∃ o, H a = some o := by
  obtain ⟨n, hn, rfl⟩ := List.mem_iff_getElem.mp h
  have hs : n < st.length := by rw [← S.len]; exact hn
  obtain ⟨b, hb, o⟩ := S.ob n st[n] (List.getElem?_eq_getElem hs)
  rw [List.getElem?_eq_getElem hn] at hb
  cases hb
  cases e : st[n] with
  | lst ds => rw [e] at o; obtain ⟨_, h, _⟩ := o; exact ⟨_, h⟩
  | ins c ns ds => rw [e] at o; obtain ⟨_, _, _, _, _, h, _⟩ := o; exact ⟨_, h⟩
  | dct ks ds => rw [e] at o; obtain ⟨_, _, h, _⟩ := o; exact ⟨_, h⟩
theorem Sim.fresh (S : Sim B H ι st) (h : H a = none) : a ∉ ι := fun z => by
  obtain ⟨o, e⟩ := S.there z
  rw [h] at e; cases e
theorem OR.stays {b : Addr} {o : O} (e : ∀ u, H b = some u → H' b = some u) (hv : ∀ ds xs, VRs B H ι ds xs → VRs B H' ι' ds xs) (h : OR B H ι b o) : OR B H' ι' b o := by
  cases o with
  | lst ds => obtain ⟨xs, h, r⟩ := h; exact ⟨xs, e _ h, hv _ _ r⟩
  | ins c ns ds => obtain ⟨C, dx, fs, xs, c, h, q, l, r⟩ := h; exact ⟨C, dx, fs, xs, c, e _ h, q, l, hv _ _ r⟩
  | dct ks ds => obtain ⟨kvs, xs, h, q, l, r⟩ := h; exact ⟨kvs, xs, e _ h, q, l, hv _ _ r⟩
theorem OR.stays2 {B' : Bs} (hm : B'.mg = B.mg) {b : Addr} {o : O} (hv : ∀ ds xs, VRs B H ι ds xs → VRs B' H ι' ds xs) (h : OR B H ι b o) : OR B' H ι' b o := by
  cases o with
  | lst ds => obtain ⟨xs, h, r⟩ := h; exact ⟨xs, h, hv _ _ r⟩
  | ins c ns ds => obtain ⟨C, dx, fs, xs, c, h, q, l, r⟩ := h; exact ⟨C, dx, fs, xs, by rw [hm]; exact c, h, q, l, hv _ _ r⟩
  | dct ks ds => obtain ⟨kvs, xs, h, q, l, r⟩ := h; exact ⟨kvs, xs, h, q, l, hv _ _ r⟩
/-- a new object that is not of the store -/
theorem Step.new {o : HO} (S : Sim B H ι st) (h : H a = none) : Step ι H ι (upd H a o) :=
  ⟨⟨[], by simp, by simp⟩, fun b u _ e => by rw [upd_ne (ne_of_none e h)]; exact e⟩
theorem Sim.new {o : HO} (S : Sim B H ι st) (h : H a = none) : Sim B (upd H a o) ι st := by
  have s : Step ι H ι (upd H a o) := Step.new S h
  refine ⟨S.len, S.nd, fun n ob e => ?_, fun b hb => ?_⟩
  · obtain ⟨b, hb, q⟩ := S.ob n ob e
    exact ⟨b, hb, q.stays (fun u z => by rw [upd_ne (ne_of_none z h)]; exact z) fun ds xs r => r.step s⟩
  · obtain ⟨⟨o, e⟩, m⟩ := S.rs b hb
    exact ⟨⟨o, by rw [upd_ne (ne_of_none e h)]; exact e⟩, m⟩
/-- a new object, set aside -/
theorem Sim.reserve {o : HO} (S : Sim B H ι st) (h : H a = none) : Sim (B.more a) (upd H a o) ι st := by
  have s : Step ι H ι (upd H a o) := Step.new S h
  refine ⟨S.len, S.nd, fun n ob e => ?_, fun b hb => ?_⟩
  · obtain ⟨b, hb, q⟩ := S.ob n ob e
    refine ⟨b, hb, ?_⟩
    have q1 : OR (B.more a) H ι b ob := OR.stays2 (B := B) (B' := B.more a) rfl (fun _ _ r => r.more h) q
    exact q1.stays (fun u z => by rw [upd_ne (ne_of_none z h)]; exact z) fun ds xs r => r.step s
  · rcases List.mem_cons.mp hb with z | z
    · subst z; exact ⟨⟨o, upd_same⟩, S.fresh h⟩
    · obtain ⟨⟨o', e⟩, m⟩ := S.rs b z
      exact ⟨⟨o', by rw [upd_ne (ne_of_none e h)]; exact e⟩, m⟩
theorem Sim.fr (S : Sim B H ι st) (h : H a = none) : a ∉ B.ρ := fun z => by
  obtain ⟨⟨o, e⟩, _⟩ := S.rs a z
  rw [h] at e; cases e
/-- a new object of the store -/
theorem Step.alloc {o : HO} (S : Sim B H ι st) (h : H a = none) : Step ι H (ι ++ [a]) (upd H a o) :=
  ⟨⟨[a], rfl, fun b hb => by have e : b = a := by simpa using hb
                             subst e; exact ⟨h, S.fresh h⟩⟩, fun b u _ e => by rw [upd_ne (ne_of_none e h)]; exact e⟩
theorem Sim.alloc {o : HO} {ob : O} (S : Sim B H ι st) (h : H a = none) (hq : OR B (upd H a o) (ι ++ [a]) a ob) : Sim B (upd H a o) (ι ++ [a]) (st ++ [ob]) := by
  have s : Step ι H (ι ++ [a]) (upd H a o) := Step.alloc S h
  refine ⟨by simp [S.len], ?_, fun n ob' e => ?_, fun b hb => ?_⟩
  rotate_left 2
  · obtain ⟨⟨o', e⟩, m⟩ := S.rs b hb
    refine ⟨⟨o', by rw [upd_ne (ne_of_none e h)]; exact e⟩, fun z => ?_⟩
    rcases List.mem_append.mp z with z | z
    · exact m z
    · have : b = a := by simpa using z
      subst this; rw [h] at e; cases e
  · rw [List.nodup_append]
    refine ⟨S.nd, by simp, fun x hx y hy => ?_⟩
    have : y = a := by simpa using hy
    subst this
    rintro rfl
    exact S.fresh h hx
  · by_cases hn : n < st.length
    · rw [List.getElem?_append_left hn] at e
      obtain ⟨b, hb, q⟩ := S.ob n ob' e
      exact ⟨b, s.ix hb, q.stays (fun u z => by rw [upd_ne (ne_of_none z h)]; exact z) fun ds xs r => r.step s⟩
    · have hn' : n = st.length := by
        have := (List.getElem?_eq_some_iff.mp e).1
        simp at this
        omega
      subst hn'
      rw [List.getElem?_append_right (by omega)] at e
      simp at e
      subst e
      exact ⟨a, by rw [← S.len, List.getElem?_append_right (by omega)]; simp, hq⟩
theorem Sim.less {p : Addr} (S : Sim (B.more p) H ι st) : Sim B H ι st :=
  ⟨S.len, S.nd, fun n' o e => let ⟨a, h, q⟩ := S.ob n' o e; ⟨a, h, OR.stays2 (B := B.more p) (B' := B) rfl (fun _ _ r => r.less.1) q⟩, fun a ha => S.rs a (List.mem_cons_of_mem _ ha)⟩
theorem VEnv.more {p : Addr} (h : VEnv B H ι env σ) (n : H p = none) : VEnv (B.more p) H ι env σ :=
  ⟨h.1, fun i d e => let ⟨v, a, b⟩ := h.2 i d e; ⟨v, a, b.more n⟩⟩
theorem VEnv.less {p : Addr} (h : VEnv (B.more p) H ι env σ) : VEnv B H ι env σ :=
  ⟨h.1, fun i d e => let ⟨v, a, b⟩ := h.2 i d e; ⟨v, a, b.less.1⟩⟩
/-- a list that was set aside goes into the store -/
theorem Sim.take {p : Addr} {ds : List D} {xs : List V} (S : Sim (B.more p) H ι st) (hb : p ∉ B.ρ) (hp : H p = some (.lst xs)) (r : VRs (B.more p) H ι ds xs) : Sim B H (ι ++ [p]) (st ++ [.lst ds]) := by
  have h : p ∉ ι := (S.rs p List.mem_cons_self).2
  refine ⟨by simp [S.len], ?_, fun n ob' e => ?_, fun b hb' => ⟨(S.rs b (List.mem_cons_of_mem _ hb')).1, fun z => ?_⟩⟩
  rotate_left 2
  · rcases List.mem_append.mp z with z | z
    · exact (S.rs b (List.mem_cons_of_mem _ hb')).2 z
    · have : b = p := by simpa using z
      subst this; exact hb hb'
  · rw [List.nodup_append]
    refine ⟨S.nd, by simp, fun x hx y hy => ?_⟩
    have : y = p := by simpa using hy
    subst this
    rintro rfl
    exact h hx
  · by_cases hn : n < st.length
    · rw [List.getElem?_append_left hn] at e
      obtain ⟨b, hb, q⟩ := S.ob n ob' e
      exact ⟨b, by rw [List.getElem?_append_left (List.getElem?_eq_some_iff.mp hb).1]; exact hb, OR.stays2 (B := B.more p) (B' := B) rfl (fun _ _ r => r.less.2) q⟩
    · have hn' : n = st.length := by
        have := (List.getElem?_eq_some_iff.mp e).1
        simp at this
        omega
      subst hn'
      rw [List.getElem?_append_right (by omega)] at e
      simp at e
      subst e
      exact ⟨p, by rw [← S.len, List.getElem?_append_right (by omega)]; simp, xs, hp, r.less.2⟩
/-- an object of the store changes -/
theorem Step.write {o : HO} {n : Nat} (h : ι[n]? = some a) : Step ι H ι (upd H a o) :=
  ⟨⟨[], by simp, by simp⟩, fun b u hb e => by rw [upd_ne (fun z => hb (by rw [z]; exact List.mem_of_getElem? h))]; exact e⟩
theorem Sim.write {o : HO} {ob : O} {n : Nat} (S : Sim B H ι st) (h : ι[n]? = some a) (hq : OR B (upd H a o) ι a ob) : Sim B (upd H a o) ι (st.set n ob) := by
  have s : Step ι H ι (upd H a o) := Step.write h
  refine ⟨by simp [S.len], S.nd, fun m ob' e => ?_, fun b hb => ⟨?_, (S.rs b hb).2⟩⟩
  rotate_left 1
  · obtain ⟨⟨o', e⟩, m⟩ := S.rs b hb
    exact ⟨o', by rw [upd_ne (fun z => m (by rw [z]; exact List.mem_of_getElem? h))]; exact e⟩
  by_cases hm : n = m
  · subst hm
    have hl : n < st.length := by rw [← S.len]; exact (List.getElem?_eq_some_iff.mp h).1
    rw [List.getElem?_set_self hl] at e
    cases e
    exact ⟨a, h, hq⟩
  · rw [List.getElem?_set_ne hm] at e
    obtain ⟨b, hb, q⟩ := S.ob m ob' e
    have nb : b ≠ a := fun z => by
      subst z
      obtain ⟨l1, e1⟩ := List.getElem?_eq_some_iff.mp h
      obtain ⟨l2, e2⟩ := List.getElem?_eq_some_iff.mp hb
      exact hm ((List.getElem_inj S.nd).mp (e1.trans e2.symm))
    exact ⟨b, hb, q.stays (fun u z => by rw [upd_ne nb]; exact z) fun ds xs r => r.step s⟩
theorem Sim.look (S : Sim B H ι st) {n : Nat} {o : O} (h : st[n]? = some o) {a : Addr} (ha : ι[n]? = some a) : OR B H ι a o := by
  obtain ⟨b, hb, q⟩ := S.ob n o h
  rw [ha] at hb; cases hb
  exact q
end
end DD

/-! DD2: readings by total functions; expressions. -/
namespace DD
open PySem L2

/-- how a result is seen: from the start (H, ι) to now (H', ι', the store) -/
structure Rel (α β : Type) where
  r : Bs → Hp → List Addr → Hp → List Addr → Sto → α → β → Prop
  back : ∀ {B ι H ι1 H1 H2 ι2 st a b}, Step ι H ι1 H1 → r B H1 ι1 H2 ι2 st a b → r B H ι H2 ι2 st a b
def relV : Rel D V := ⟨fun B _ _ H ι _ d v => VR B H ι d v, fun _ h => h⟩
def relA : Rel (List D) (List V) := ⟨fun B _ _ H ι _ d v => VRs B H ι d v, fun _ h => h⟩
def relB : Rel Bool Bool := ⟨fun _ _ _ _ _ _ d v => v = d, fun _ h => h⟩
/-- a new list, which nothing else hangs on -/
def relL : Rel (List D) V := ⟨fun B H ι H' ι' st ds v => ∃ p xs, v = .ref p ∧ H' p = some (.lst xs) ∧ H p = none ∧ p ∉ ι ∧ p ∉ B.ρ ∧ VRs (B.more p) H' ι' ds xs ∧ Sim (B.more p) H' ι' st, by
  rintro B ι H ι1 H1 H2 ι2 st a b s ⟨p, xs, e, h, n, m, r⟩
  have m0 : p ∉ ι := fun z => m (s.mem z)
  refine ⟨p, xs, e, h, ?_, m0, r⟩
  cases q : H p with
  | none => rfl
  | some o => rw [s.rest p o m0 q] at n; cases n⟩

def ExcR (B : Bs) (H : Hp) (ι : List Addr) (x : Xc) (cls : Value) (dd : Option Addr) : Prop :=
  ∃ C, cls = .ref C ∧ B.mg x.1 = some (.ref C) ∧ match x.2 with
    | none => dd = none
    | some (f, d) => ∃ p v, dd = some p ∧ H p = some (.xd [(f, v)]) ∧ VR B H ι d v

def Post {α β : Type} (B : Bs) (R : Rel α β) (W : WX) (σ : L2.St) (ι : List Addr) (H : Hp) (r : Res α) (Q : β → Hp → Prop) : Prop := match r with
  | .ok a st' => ∀ ι' H' b, Step ι H ι' H' → Sim B H' ι' st' → R.r B H ι H' ι' st' a b → Q b H'
  | .exc x st' => ∀ ι' H' cls dd, Step ι H ι' H' → Sim B H' ι' st' → ExcR B H' ι' x cls dd → W cls dd σ H'
  | .bad => False
/-- the base of a context -/
abbrev bs (X : Cx) (ρ : List Addr) : Bs := ⟨X.K, X.mg, ρ⟩
def tG {α β : Type} (K : PySem.W.Frag) (mg : Str → Option Value) (R : Rel α β) (W : WX) (d : Env → Sto → Res α) : L2.St → Hp → (β → Hp → Prop) → Prop := fun σ H Q =>
  ∃ ρ ι st env, Sim ⟨K, mg, ρ⟩ H ι st ∧ VEnv ⟨K, mg, ρ⟩ H ι env σ ∧ Post ⟨K, mg, ρ⟩ R W σ ι H (d env st) Q

section
variable {α β γ δ : Type} {B : Bs} {R : Rel α β} {R' : Rel γ δ} {W : WX} {H H' : Hp} {ι ι' : List Addr} {st st' : Sto} {env : Env} {σ : L2.St} {Q : β → Hp → Prop} {Q' : δ → Hp → Prop}
theorem Post.step (s : Step ι H ι' H') {r : Res α} (h : Post B R W σ ι H r Q) : Post B R W σ ι' H' r Q := by
  cases r with
  | ok a st' => exact fun ι2 H2 b s2 S2 r2 => h ι2 H2 b (s.trans s2) S2 (R.back s r2)
  | exc x st' => exact fun ι2 H2 c d s2 S2 r2 => h ι2 H2 c d (s.trans s2) S2 r2
  | bad => exact h
/-- one thing, then another -/
theorem Post.bind {r : Res α} {f : α → Sto → Res γ} {G : β → Hp → Prop} (h : Post B R' W σ ι H (r.bind f) Q')
    (hk : ∀ a st1 ι1 H1 b, Step ι H ι1 H1 → Sim B H1 ι1 st1 → R.r B H ι H1 ι1 st1 a b → Post B R' W σ ι1 H1 (f a st1) Q' → G b H1) : Post B R W σ ι H r G := by
  cases r with
  | ok a st' => exact fun ι1 H1 b s S q => hk a st' ι1 H1 b s S q (Post.step s h)
  | exc x st' => exact h
  | bad => exact h
/-- .. where the second begins elsewhere -/
theorem Post.bind0 {r : Res α} {f : α → Sto → Res γ} {G : β → Hp → Prop} (h : Post B R' W σ ι H (r.bind f) Q')
    (hk : ∀ a st1 ι1 H1 b, Step ι H ι1 H1 → Sim B H1 ι1 st1 → R.r B H ι H1 ι1 st1 a b → Post B R' W σ ι H (f a st1) Q' → G b H1) : Post B R W σ ι H r G := by
  cases r with
  | ok a st' => exact fun ι1 H1 b s S q => hk a st' ι1 H1 b s S q h
  | exc x st' => exact h
  | bad => exact h
theorem Post.ok {a : α} {b : β} (h : Post B R W σ ι H (.ok a st) Q) (S : Sim B H ι st) (r : R.r B H ι H ι st a b) : Q b H := h ι H b (Step.refl _ _) S r
/-- the result lies in a new heap -/
theorem Post.ok' {a : α} {b : β} (h : Post B R W σ ι H (.ok a st) Q) (s : Step ι H ι' H') (S : Sim B H' ι' st) (r : R.r B H ι H' ι' st a b) : Q b H' := h ι' H' b s S r
end

def PEd (X : Cx) (W : WX) (e : Expr) (d : DE) : Prop := PE X e (tG X.K X.mg relV W d)
def PTd (X : Cx) (W : WX) (e : Expr) (d : DT) : Prop := PT X e (tG X.K X.mg relB W d)
def PWd (X : Cx) (W : WX) (e : Expr) (d : DT) : Prop := PW X e (tG X.K X.mg relB W d)
def PAd (X : Cx) (W : WX) (es : List Expr) (d : DA) : Prop := PA X es (tG X.K X.mg relA W d)
/-- an expression that gives a new list -/
def PLd (X : Cx) (W : WX) (e : Expr) (d : DA) : Prop := PE X e (tG X.K X.mg relL W d)

section
variable {X : Cx} {W : WX} {e a b c : Expr} {es : List Expr} {da db dc : DE} {ds : DA} {t t' : TE} {u u' : TT} {v v' : TA}
theorem PE.mono (h : PE X e t) (k : ∀ σ H Q, t' σ H Q → t σ H Q) : PE X e t' := ⟨fun p s σ H Q I q => h.run p s σ H Q I (k σ H Q q)⟩
theorem PT.mono (h : PT X e u) (k : ∀ σ H Q, u' σ H Q → u σ H Q) : PT X e u' := ⟨fun p s σ H Q I q => h.run p s σ H Q I (k σ H Q q)⟩
theorem PW.mono (h : PW X e u) (k : ∀ σ H Q, u' σ H Q → u σ H Q) : PW X e u' := ⟨fun w p s σ H Q I q => h.run w p s σ H Q I (k σ H Q q)⟩
theorem PA.mono (h : PA X es v) (k : ∀ σ H Q, v' σ H Q → v σ H Q) : PA X es v' := ⟨fun po p s σ H Q I q => h.run po p s σ H Q I (k σ H Q q)⟩
theorem PWd.pt {u : DT} (h : PWd X W e u) : PTd X W e u := PW.pt h

/-! ### names, constants -/
def dVar (i : Nat) : DE := fun env st => match env[i]? with
  | some (some d) => .ok d st
  | _ => .bad
def dC (d : D) : DE := fun _ st => .ok d st
theorem pd_var {i : Nat} {x : Expr} (h : PE X x (tVar i)) : PEd X W x (dVar i) := PE.mono h fun σ H Q ⟨ρ, ι, st, env, S, ve, p⟩ => by
  unfold dVar at p
  cases q : env[i]? with
  | none => rw [q] at p; exact p.elim
  | some o => cases o with
    | none => rw [q] at p; exact p.elim
    | some d =>
      rw [q] at p
      obtain ⟨v, h1, h2⟩ := ve.2 i d q
      exact ⟨v, h1, p.ok S h2⟩
/-- what is one and the same value in every heap -/
def Flat : D → V → Prop
  | .non, v => v = .non
  | .bl b, v => v = .bl b
  | .int i, v => v = .int i
  | .str x, v => v = .str x
  | .ty n, v => v = .ty n
  | _, _ => False
theorem Flat.vr {B H ι} {d : D} {v : V} (h : Flat d v) : VR B H ι d v := by
  cases d <;> first | exact h | exact h.elim
theorem pd_c {d : D} {v : V} (h : PE X e (tC v)) (f : Flat d v) : PEd X W e (dC d) := PE.mono h fun σ H Q ⟨ρ, ι, st, env, S, ve, p⟩ => p.ok S f.vr
theorem pd_int {i j pos} : PEd X W (.Constant (.int i) j pos) (dC (.int i)) := pd_c pe_int rfl
theorem pd_bl {i j pos} : PEd X W (.Constant (.bool i) j pos) (dC (.bl i)) := pd_c pe_bl rfl
theorem pd_non {j pos} : PEd X W (.Constant .none j pos) (dC .non) := pd_c pe_non rfl
theorem pd_str {i j pos} : PEd X W (.Constant (.str i) j pos) (dC (.str i)) := pd_c pe_str rfl

/-! ### operators -/
abbrev F2 := D → D → Sto → Res D
/-- a rule by values is answered by a function of data -/
def RD (K : PySem.W.Frag) (mg : Str → Option Value) (r : R2) (f : F2) : Prop :=
  ∀ {ρ ι H st x y v u W σ} {Q : VK}, Sim ⟨K, mg, ρ⟩ H ι st → VR ⟨K, mg, ρ⟩ H ι x v → VR ⟨K, mg, ρ⟩ H ι y u → Post ⟨K, mg, ρ⟩ relV W σ ι H (f x y st) Q → r v u H Q
def dBin (f : F2) (da db : DE) : DE := fun env st => (da env st).bind fun x st1 => (db env st1).bind fun y st2 => f x y st2
theorem bin_read {r : R2} {f : F2} {K : PySem.W.Frag} {mg : Str → Option Value} (hr : RD K mg r f) {σ : L2.St} {H : Hp} {Q : VK} (h : tG K mg relV W (dBin f da db) σ H Q) : tOp r (tG K mg relV W da) (tG K mg relV W db) σ H Q := by
  obtain ⟨ρ, ι, st, env, S, ve, p⟩ := h
  refine ⟨ρ, ι, st, env, S, ve, Post.bind p fun x st1 ι1 H1 v s1 S1 rx p1 => ?_⟩
  refine ⟨ρ, ι1, st1, env, S1, ve.step s1, Post.bind p1 fun y st2 ι2 H2 u s2 S2 ry p2 => ?_⟩
  exact hr S2 (rx.step s2) ry p2
theorem pd_op {op : Operator} {r : R2} {f : F2} {pos : Pos} (ho : OpR X (binaryOp op) r) (hr : RD X.K X.mg r f) (ha : PEd X W a da) (hb : PEd X W b db) : PEd X W (.BinOp a op b pos) (dBin f da db) :=
  PE.mono (pe_op ho ha hb) fun _ _ _ h => bin_read hr h
theorem pd_cmp {op : CmpOp} {r : R2} {f : F2} {pos : Pos} (ho : OpR X (compareOp op) r) (hr : RD X.K X.mg r f) (ha : PEd X W a da) (hb : PEd X W b db) (hm : behindInMarks op b = false) : PEd X W (.Compare a [op] [b] pos) (dBin f da db) :=
  PE.mono (pe_cmpR ho ha hb hm) fun _ _ _ h => bin_read hr h
theorem pd_ix {r : R2} {f : F2} {pos : Pos} (ho : IxR X r) (hr : RD X.K X.mg r f) (ha : PEd X W a da) (hb : PEd X W b db) (hs : PlainIx b := by exact fun _ _ => rfl) : PEd X W (.Subscript a b pos) (dBin f da db) :=
  PE.mono (pe_ix ho ha hb hs) fun _ _ _ h => bin_read hr h
theorem OpR.or {f : Value → Value → Sem Value} {r1 r2 : R2} (h1 : OpR X f r1) (h2 : OpR X f r2) : OpR X f (fun x y H Q => r1 x y H Q ∨ r2 x y H Q) := fun pins s σ H x y v u Q I rx ry h => h.elim (h1 pins s σ H x y v u Q I rx ry) (h2 pins s σ H x y v u Q I rx ry)
/-- one place -/
abbrev F1 := D → Sto → Res D
def RU1 (K : PySem.W.Frag) (mg : Str → Option Value) (r : V → Hp → VK → Prop) (f : F1) : Prop :=
  ∀ {ρ ι H st x v W σ} {Q : VK}, Sim ⟨K, mg, ρ⟩ H ι st → VR ⟨K, mg, ρ⟩ H ι x v → Post ⟨K, mg, ρ⟩ relV W σ ι H (f x st) Q → r v H Q
def dUn (f : F1) (da : DE) : DE := fun env st => (da env st).bind fun x st1 => f x st1
theorem pd_un {op : UnaryOp} {r : V → Hp → VK → Prop} {f : F1} {pos : Pos} (ho : UnR X (unaryOp op) r) (hr : RU1 X.K X.mg r f) (ha : PEd X W a da) : PEd X W (.UnaryOp op a pos) (dUn f da) :=
  PE.mono (pe_un ho ha) fun _ _ _ ⟨ρ, ι, st, env, S, ve, p⟩ => ⟨ρ, ι, st, env, S, ve, Post.bind p fun x st1 ι1 H1 v s1 S1 rx p1 => hr S1 rx p1⟩

/-! ### arguments, tuples, lists -/
def dNil : DA := fun _ st => .ok [] st
def dCons (da : DE) (ds : DA) : DA := fun env st => (da env st).bind fun x st1 => (ds env st1).bind fun xs st2 => .ok (x :: xs) st2
theorem pad_nil : PAd X W [] dNil := PA.mono pa_nil fun σ H Q ⟨ρ, ι, st, env, S, ve, p⟩ => p.ok S rfl
theorem cons_read {K : PySem.W.Frag} {mg : Str → Option Value} {σ : L2.St} {H : Hp} {Q : List V → Hp → Prop} (h : tG K mg relA W (dCons da ds) σ H Q) : tCons (tG K mg relV W da) (tG K mg relA W ds) σ H Q := by
  obtain ⟨ρ, ι, st, env, S, ve, p⟩ := h
  refine ⟨ρ, ι, st, env, S, ve, Post.bind p fun x st1 ι1 H1 v s1 S1 rx p1 => ?_⟩
  refine ⟨ρ, ι1, st1, env, S1, ve.step s1, Post.bind p1 fun y st2 ι2 H2 u s2 S2 ry p2 => ?_⟩
  exact p2.ok S2 ⟨v, u, rfl, rx.step s2, ry⟩
theorem pad_cons (ha : PEd X W e da) (hr : PAd X W es ds) (hs : starEach (e :: es) X.env = (false, eval e X.env) :: starEach es X.env := by rfl) : PAd X W (e :: es) (dCons da ds) :=
  PA.mono (pa_cons ha hr hs) fun _ _ _ h => cons_read h
def bigLine : Nat := 1000000
theorem big_le {n : Nat} (h : n ≤ bigLine) : n ≤ sizeLine := Nat.le_trans h (by decide)
theorem big_lt {n : Nat} (h : n ≤ bigLine) : n < sizeLine := Nat.lt_of_le_of_lt h (by decide)
def dTup (ds : DA) : DE := fun env st => (ds env st).bind fun xs st1 => if xs.length ≤ bigLine then .ok (.tup xs) st1 else .bad
theorem pd_tup {x1 pos} (h : PAd X W es ds) : PEd X W (.Tuple es x1 pos) (dTup ds) := PE.mono (pe_tup h) fun σ H Q ⟨ρ, ι, st, env, S, ve, p⟩ => by
  refine ⟨ρ, ι, st, env, S, ve, Post.bind p fun xs st1 ι1 H1 vs s1 S1 rx p1 => ?_⟩
  have rx : VRs (bs X ρ) H1 ι1 xs vs := rx
  by_cases hl : xs.length ≤ bigLine
  · rw [if_pos hl] at p1
    refine ⟨by rw [← rx.length]; exact big_le hl, fun q hq => ?_⟩
    exact p1.ok' (Step.new S1 hq) (S1.new hq) ⟨q, vs, rfl, .inl ⟨.inl upd_same, S1.fresh hq, S1.fr hq⟩, rx.step (Step.new S1 hq)⟩
  · rw [if_neg hl] at p1; exact p1.elim
def dLst (ds : DA) : DA := fun env st => (ds env st).bind fun xs st1 => if xs.length ≤ bigLine then .ok xs st1 else .bad
theorem pld_lst {pos} (h : PAd X W es ds) : PLd X W (.List es pos) (dLst ds) := PE.mono (pe_lst h) fun σ H Q ⟨ρ, ι, st, env, S, ve, p⟩ => by
  refine ⟨ρ, ι, st, env, S, ve, Post.bind p fun xs st1 ι1 H1 vs s1 S1 rx p1 => ?_⟩
  have rx : VRs (bs X ρ) H1 ι1 xs vs := rx
  by_cases hl : xs.length ≤ bigLine
  · rw [if_pos hl] at p1
    refine ⟨by rw [← rx.length]; exact big_le hl, fun q hq => ?_⟩
    exact p1.ok' (Step.new S1 hq) (S1.new hq) ⟨q, vs, rfl, upd_same, hq, S1.fresh hq, S1.fr hq, (rx.more hq).step (Step.new S1 hq), S1.reserve hq⟩
  · rw [if_neg hl] at p1; exact p1.elim
/-- a new list that will not change: by value -/
def dFz (ds : DA) : DE := fun env st => (ds env st).bind fun xs st1 => .ok (.fz xs) st1
theorem pd_fz (h : PLd X W e ds) : PEd X W e (dFz ds) := PE.mono h fun σ H Q ⟨ρ, ι, st, env, S, ve, p⟩ => by
  refine ⟨ρ, ι, st, env, S, ve, Post.bind p fun xs st1 ι1 H1 v s1 S1 rx p1 => ?_⟩
  obtain ⟨q, ys, rfl, h1, h2, m, m', r, S2⟩ := rx
  exact p1.ok S1 ⟨q, ys, rfl, h1, ⟨(S2.rs q List.mem_cons_self).2, m'⟩, r.less.1⟩
/-- a new list that goes into the store -/
def dNew (ds : DA) : DE := fun env st => (ds env st).bind fun xs st1 => .ok (.ref st1.length) (st1 ++ [.lst xs])
theorem pd_new (h : PLd X W e ds) : PEd X W e (dNew ds) := PE.mono h fun σ H Q ⟨ρ, ι, st, env, S, ve, p⟩ => by
  refine ⟨ρ, ι, st, env, S, ve, Post.bind0 p fun xs st1 ι1 H1 v s1 S1 rx p1 => ?_⟩
  obtain ⟨q, ys, rfl, h1, h2, m, m', r, S2⟩ := rx
  obtain ⟨more, e1, f1⟩ := id s1.pre
  have sT : Step ι H (ι1 ++ [q]) H1 := ⟨⟨more ++ [q], by rw [e1, List.append_assoc], fun a ha => by
    rcases List.mem_append.mp ha with z | z
    · exact f1 a z
    · have : a = q := by simpa using z
      subst this
      exact ⟨h2, m⟩⟩, s1.rest⟩
  exact p1.ok' sT (S2.take m' h1 r) ⟨q, by rw [← S1.len, List.getElem?_append_right (by omega)]; simp, rfl⟩
end
end DD

/-! DD3: operations on data. -/
namespace DD
open PySem L2 PyProof.Rows

section
variable {K : PySem.W.Frag} {mg : Str → Option Value}
/-! ### + -/
def fAdd : F2 := fun x y st => match x, y with
  | .int i, .int j => .ok (.int (i + j)) st
  | .str a, .str b => if a.length + b.length ≤ bigLine then .ok (.str (a ++ b)) st else .bad
  | .tup a, .tup b => if a.length + b.length ≤ bigLine then .ok (.tup (a ++ b)) st else .bad
  | .fz a, .fz b => if a.length + b.length ≤ bigLine then .ok (.fz (a ++ b)) st else .bad
  | .int i, .bl k => .ok (.int (i + b2i k)) st
  | _, _ => .bad
def rAddAll (K : PySem.W.Frag) : R2 := fun x y H Q => (∃ i j, x = .int i ∧ y = .int j ∧ Q (.int (i + j)) H) ∨ (∃ i j, x = .str i ∧ y = .str j ∧ i.length + j.length ≤ sizeLine ∧ Q (.str (i ++ j)) H) ∨ rCatA K x y H Q ∨ rCat x y H Q ∨ (∃ i k, x = .int i ∧ y = .bl k ∧ Q (.int (i + b2i k)) H)
theorem op_addAll {X : Cx} : OpR X (binaryOp .Add) (rAddAll X.K) := OpR.or op_add (OpR.or op_add_str (OpR.or op_catA (OpR.or op_cat op_add_ib)))
theorem rd_add : RD K mg (rAddAll K) fAdd := by
  intro ρ ι H st x y v u W σ Q S rx ry p
  unfold fAdd at p
  cases x <;> cases y <;> (try exact p.elim)
  · cases rx; cases ry; exact .inr (.inr (.inr (.inr ⟨_, _, rfl, rfl, p.ok S rfl⟩)))
  · cases rx; cases ry; exact .inl ⟨_, _, rfl, rfl, p.ok S rfl⟩
  · cases rx; cases ry
    rename_i a b
    by_cases hl : a.length + b.length ≤ bigLine
    · simp only [hl, if_true] at p
      exact .inr (.inl ⟨_, _, rfl, rfl, big_le hl, p.ok S rfl⟩)
    · simp only [hl, if_false] at p; exact p.elim
  · rename_i a b
    by_cases hl : a.length + b.length ≤ bigLine
    · simp only [hl, if_true] at p
      obtain ⟨q1, xs, rfl, h1, r1⟩ := id rx
      obtain ⟨q2, ys, rfl, h2, r2⟩ := id ry
      have l1 := r1.length
      have l2 := r2.length
      refine .inr (.inr (.inl ⟨q1, q2, xs, ys, rfl, rfl, h1.sq, h2.sq, by rw [← l1, ← l2]; exact big_le hl, fun e => ?_, fun _ e => ?_, fun _ _ q hq => ?_⟩))
      · subst e
        have : a = [] := List.length_eq_zero_iff.mp l1
        subst this
        exact p.ok S ry
      · subst e
        have : b = [] := List.length_eq_zero_iff.mp l2
        subst this
        rw [List.append_nil] at p
        exact p.ok S rx
      · have s := Step.new S hq (o := .tup (xs ++ ys))
        exact p.ok' s (S.new hq) ⟨q, xs ++ ys, rfl, .inl ⟨.inl upd_same, S.fresh hq, S.fr hq⟩, (r1.append r2).step s⟩
    · simp only [hl, if_false] at p; exact p.elim
  · rename_i a b
    by_cases hl : a.length + b.length ≤ bigLine
    · simp only [hl, if_true] at p
      obtain ⟨q1, xs, rfl, h1, n1, r1⟩ := id rx
      obtain ⟨q2, ys, rfl, h2, n2, r2⟩ := id ry
      have l1 := r1.length
      have l2 := r2.length
      refine .inr (.inr (.inr (.inl ⟨q1, q2, xs, ys, rfl, rfl, h1, h2, by rw [← l1, ← l2]; exact big_le hl, fun q hq => ?_⟩)))
      have s := Step.new S hq (o := .lst (xs ++ ys))
      exact p.ok' s (S.new hq) ⟨q, xs ++ ys, rfl, upd_same, ⟨S.fresh hq, S.fr hq⟩, (r1.append r2).step s⟩
    · simp only [hl, if_false] at p; exact p.elim
/-! ### ints -/
/-- two ints under a condition -/
def fI (C : Int → Int → Bool) (g : Int → Int → D) : F2 := fun x y st => match x, y with
  | .int i, .int j => if C i j = true then .ok (g i j) st else .bad
  | _, _ => .bad
theorem rd_I {C : Int → Int → Bool} {C' : Int → Int → Prop} {g : Int → Int → D} {g' : Int → Int → V} (h : ∀ i j, C i j = true → C' i j ∧ Flat (g i j) (g' i j)) : RD K mg (rI C' g') (fI C g) := by
  intro ρ ι H st x y v u W σ Q S rx ry p
  unfold fI at p
  cases x <;> cases y <;> (try exact p.elim)
  cases rx; cases ry
  rename_i i j
  by_cases hc : C i j = true
  · simp only [hc, if_true] at p
    exact ⟨_, _, rfl, rfl, (h i j hc).1, p.ok S (h i j hc).2.vr⟩
  · simp only [hc, if_false] at p; exact p.elim
theorem rd_I0 {g : Int → Int → D} {g' : Int → Int → V} (h : ∀ i j, Flat (g i j) (g' i j)) : RD K mg (rI0 g') (fI (fun _ _ => true) g) := by
  intro ρ ι H st x y v u W σ Q S rx ry p
  unfold fI at p
  cases x <;> cases y <;> (try exact p.elim)
  cases rx; cases ry
  exact ⟨_, _, rfl, rfl, p.ok S (h _ _).vr⟩
def fSub : F2 := fI (fun _ _ => true) fun i j => .int (i - j)
theorem rd_sub : RD K mg (rI0 fun i j => .int (i - j)) fSub := by unfold fSub; exact rd_I0 (by intro i j; exact rfl)
def cMul0 (i j : Int) : Bool := (decide (-(2 ^ 64) < i) && decide (i < 2 ^ 64)) || (decide (-(2 ^ 64) < j) && decide (j < 2 ^ 64))
/-- sealed: the kernel is not to reckon with 2 ^ 64 -/
theorem x_cMul : ∃ f : Int → Int → Bool, f = cMul0 := ⟨_, rfl⟩
noncomputable def cMul : Int → Int → Bool := x_cMul.choose
theorem cMul_e : cMul = cMul0 := x_cMul.choose_spec
noncomputable def fMul : F2 := fI cMul fun i j => .int (i * j)
theorem rd_mul : RD K mg (rI CMul fun i j => .int (i * j)) fMul := rd_I fun i j h => by
  rw [cMul_e] at h
  unfold cMul0 at h
  simp only [Bool.or_eq_true, Bool.and_eq_true, decide_eq_true_eq] at h
  exact ⟨h, rfl⟩
def fMod : F2 := fI (fun _ j => decide (0 < j)) fun i j => .int (i % j)
theorem rd_mod : RD K mg (rI (fun _ j => 0 < j) fun i j => .int (i % j)) fMod := by unfold fMod; exact rd_I (by intro i j h; exact ⟨of_decide_eq_true h, rfl⟩)
theorem x_cDiv : ∃ f : Int → Bool, f = fun j => decide (0 < j) && decide (j < 1073741824) := ⟨_, rfl⟩
noncomputable def cDiv : Int → Bool := x_cDiv.choose
theorem cDiv_e : cDiv = fun j => decide (0 < j) && decide (j < 1073741824) := x_cDiv.choose_spec
theorem cDiv_to {j : Int} (h : 0 < j ∧ j < 1073741824) : cDiv j = true := by rw [cDiv_e]; simp [h.1, h.2]
noncomputable def fDiv : F2 := fI (fun _ j => cDiv j) fun i j => .int (i / j)
theorem rd_div : RD K mg (rI CDiv fun i j => .int (i / j)) fDiv := rd_I fun i j h => by
  rw [cDiv_e] at h
  simp only [Bool.and_eq_true, decide_eq_true_eq] at h
  exact ⟨h, rfl⟩
def fPow : F2 := fI (fun i j => decide (0 ≤ j) && decide (j ≤ 1000) && decide (i.natAbs < 1000)) fun i j => .int (i ^ j.toNat)
theorem rd_pow : RD K mg (rI CPow fun i j => .int (i ^ j.toNat)) fPow := rd_I fun i j h => by
  simp only [Bool.and_eq_true, decide_eq_true_eq] at h
  exact ⟨⟨h.1.1, by omega, Nat.lt_trans h.2 (by decide)⟩, rfl⟩
def fLt : F2 := fI (fun _ _ => true) fun i j => .bl (decide (i < j))
def fLe : F2 := fI (fun _ _ => true) fun i j => .bl (decide (i ≤ j))
def fGt : F2 := fI (fun _ _ => true) fun i j => .bl (decide (j < i))
def fGe : F2 := fI (fun _ _ => true) fun i j => .bl (decide (j ≤ i))
theorem rd_lt : RD K mg (rI0 fun i j => .bl (decide (i < j))) fLt := by unfold fLt; exact rd_I0 (by intro i j; exact rfl)
theorem rd_le : RD K mg (rI0 fun i j => .bl (decide (i ≤ j))) fLe := by unfold fLe; exact rd_I0 (by intro i j; exact rfl)
theorem rd_gt : RD K mg (rI0 fun i j => .bl (decide (j < i))) fGt := by unfold fGt; exact rd_I0 (by intro i j; exact rfl)
theorem rd_ge : RD K mg (rI0 fun i j => .bl (decide (j ≤ i))) fGe := by unfold fGe; exact rd_I0 (by intro i j; exact rfl)
/-- < of ints and of texts -/
def fLtS : F2 := fun x y st => match x, y with
  | .int i, .int j => .ok (.bl (decide (i < j))) st
  | .str a, .str b => .ok (.bl (decide (a.cps.toList < b.cps.toList))) st
  | _, _ => .bad
def rLtS : R2 := fun x y H Q => (∃ i j, x = .int i ∧ y = .int j ∧ Q (.bl (decide (i < j))) H) ∨ (∃ i j, x = .str i ∧ y = .str j ∧ Q (.bl (decide (i.cps.toList < j.cps.toList))) H)
theorem op_ltS {X : Cx} : OpR X (compareOp .Lt) rLtS := OpR.or op_lt op_lt_str
theorem rd_ltS : RD K mg rLtS fLtS := by
  intro ρ ι H st x y v u W σ Q S rx ry p
  unfold fLtS at p
  cases x <;> cases y <;> (try exact p.elim)
  · cases rx; cases ry; exact .inl ⟨_, _, rfl, rfl, p.ok S rfl⟩
  · cases rx; cases ry; exact .inr ⟨_, _, rfl, rfl, p.ok S rfl⟩
def fNeg : F1 := fun x st => match x with
  | .int i => .ok (.int (-i)) st
  | _ => .bad
theorem rd_neg : RU1 K mg (rU fun i => .int (-i)) fNeg := by
  intro ρ ι H st x v W σ Q S rx p
  cases x <;> (try exact p.elim)
  cases rx
  exact ⟨_, rfl, p.ok S rfl⟩
/-! ### an item -/
def fIx : F2 := fun x y st => match x, y with
  | .tup ds, .int i => match atI ds i with
    | some d => .ok d st
    | none => .bad
  | .fz ds, .int i => match atI ds i with
    | some d => .ok d st
    | none => .bad
  | .sc ds, .int i => match atI ds i with
    | some d => .ok d st
    | none => .bad
  | .ref n, .int i => match st[n]? with
    | some (.lst ds) => match atI ds i with
      | some d => .ok d st
      | none => .bad
    | _ => .bad
  | .str z, .int i => match atI z.cps.toList i with
    | some c => if z.length ≤ bigLine then .ok (.str ⟨#[c]⟩) st else .bad
    | none => .bad
  | _, _ => .bad
theorem VRs.atI {B H ι} {ds : List D} {vs : List V} {i : Int} {d : D} (h : VRs B H ι ds vs) (e : L2.atI ds i = some d) : ∃ v, L2.atI vs i = some v ∧ VR B H ι d v := by
  unfold L2.atI at e ⊢
  rw [← h.length]
  cases q : ixN ds.length i with
  | none => rw [q] at e; cases e
  | some j =>
    rw [q] at e
    exact h.get e
theorem rd_ix : RD K mg (rIx K) fIx := by
  intro ρ ι H st x y v u W σ Q S rx ry p
  unfold fIx at p
  cases x <;> cases y <;> (try exact p.elim)
  · cases rx; cases ry
    rename_i z i
    simp only [] at p
    split at p
    · rename_i c e
      split at p
      · rename_i hl
        exact .inr (.inr ⟨_, _, _, rfl, rfl, big_le hl, e, p.ok S rfl⟩)
      · exact p.elim
    · exact p.elim
  · cases ry
    obtain ⟨q1, xs, rfl, h1, r1⟩ := id rx
    simp only [] at p
    split at p
    · rename_i d e
      obtain ⟨w, e1, e2⟩ := r1.atI e
      exact .inr (.inl ⟨_, _, _, _, rfl, rfl, h1.sq, e1, p.ok S e2⟩)
    · exact p.elim
  · cases ry
    obtain ⟨q1, xs, rfl, h1, n1, r1⟩ := id rx
    simp only [] at p
    split at p
    · rename_i d e
      obtain ⟨w, e1, e2⟩ := r1.atI e
      exact .inl ⟨_, _, _, _, rfl, rfl, SqL.of h1, e1, p.ok S e2⟩
    · exact p.elim
  · cases ry
    obtain ⟨q1, xs, rfl, h1, r1⟩ := id rx
    simp only [] at p
    split at p
    · rename_i d e
      obtain ⟨w, e1, e2⟩ := r1.atI e
      exact .inl ⟨_, _, _, _, rfl, rfl, h1.sq, e1, p.ok S e2⟩
    · exact p.elim
  · cases ry
    obtain ⟨a, ha, rfl⟩ := id rx
    simp only [] at p
    split at p
    · rename_i ds hs
      obtain ⟨xs, h1, r1⟩ := S.look hs ha
      split at p
      · rename_i d e
        obtain ⟨w, e1, e2⟩ := r1.atI e
        exact .inl ⟨_, _, _, _, rfl, rfl, SqL.of h1, e1, p.ok S e2⟩
      · exact p.elim
    · exact p.elim
/-! ### in -/
def flatD : D → Bool
  | .non => true | .bl _ => true | .int _ => true | .str _ => true | _ => false
def toV : D → V
  | .non => .non | .bl b => .bl b | .int i => .int i | .str x => .str x | _ => .non
theorem toV_of {B H ι} {d : D} {v : V} (f : flatD d = true) (r : VR B H ι d v) : v = toV d ∧ flatV v = true := by
  cases d <;> (try cases f) <;> (cases r; exact ⟨rfl, rfl⟩)
def inD (d : D) (ds : List D) : Bool := inV (toV d) (ds.map toV)
theorem toVs_of {B H ι} : ∀ {ds : List D} {vs : List V}, ds.all flatD = true → VRs B H ι ds vs → vs = ds.map toV ∧ vs.all flatV = true
  | [], _, _, r => by cases r; exact ⟨rfl, rfl⟩
  | d :: ds, _, f, ⟨x, r, e, h, t⟩ => by
    rw [List.all_cons, Bool.and_eq_true] at f
    obtain ⟨e1, f1⟩ := toV_of f.1 h
    obtain ⟨e2, f2⟩ := toVs_of f.2 t
    subst e
    exact ⟨by rw [List.map_cons, ← e1, ← e2], by rw [List.all_cons, f1, f2]; rfl⟩
/-- x in y: a text in a text (one sign), a flat thing in a list or tuple -/
def fIn (neg : Bool) : F2 := fun x y st => match x, y with
  | .str a, .str z => match a.cps.toList with
    | [c] => .ok (.bl (if neg then !decide (c ∈ z.cps.toList) else decide (c ∈ z.cps.toList))) st
    | _ => .bad
  | x, .tup ds => if flatD x && ds.all flatD then .ok (.bl (if neg then !inD x ds else inD x ds)) st else .bad
  | x, .fz ds => if flatD x && ds.all flatD then .ok (.bl (if neg then !inD x ds else inD x ds)) st else .bad
  | _, _ => .bad
def rInAll (K : PySem.W.Frag) (neg : Bool) : R2 := fun x y H Q => (∃ (c : Nat) (z : Str), x = .str ⟨#[c]⟩ ∧ y = .str z ∧ Q (.bl (if neg then !decide (c ∈ z.cps.toList) else decide (c ∈ z.cps.toList))) H) ∨ rIn K neg x y H Q
theorem op_inAll {X : Cx} : OpR X (compareOp .In) (rInAll X.K false) := OpR.or op_in_sign op_in_seq
theorem op_notInAll {X : Cx} : OpR X (compareOp .NotIn) (rInAll X.K true) := OpR.or op_notIn_sign op_notIn_seq
theorem rd_in {neg : Bool} : RD K mg (rInAll K neg) (fIn neg) := by
  intro ρ ι H st x y v u W σ Q S rx ry p
  have tup : ∀ ds, y = .tup ds → (Post ⟨K, mg, ρ⟩ relV W σ ι H (if flatD x && ds.all flatD then .ok (.bl (if neg then !inD x ds else inD x ds)) st else .bad) Q) → rInAll K neg v u H Q := by
    rintro ds rfl p
    split at p
    · rename_i f
      rw [Bool.and_eq_true] at f
      obtain ⟨q1, xs, rfl, h1, r1⟩ := id ry
      obtain ⟨e1, f1⟩ := toV_of f.1 rx
      obtain ⟨e2, f2⟩ := toVs_of f.2 r1
      refine .inr ⟨q1, xs, rfl, .inr h1.sq, f1, f2, ?_⟩
      rw [e1, e2]
      exact p.ok S rfl
    · exact p.elim
  have fz : ∀ ds, y = .fz ds → (Post ⟨K, mg, ρ⟩ relV W σ ι H (if flatD x && ds.all flatD then .ok (.bl (if neg then !inD x ds else inD x ds)) st else .bad) Q) → rInAll K neg v u H Q := by
    rintro ds rfl p
    split at p
    · rename_i f
      rw [Bool.and_eq_true] at f
      obtain ⟨q1, xs, rfl, h1, n1, r1⟩ := id ry
      obtain ⟨e1, f1⟩ := toV_of f.1 rx
      obtain ⟨e2, f2⟩ := toVs_of f.2 r1
      refine .inr ⟨q1, xs, rfl, .inl (SqL.of h1), f1, f2, ?_⟩
      rw [e1, e2]
      exact p.ok S rfl
    · exact p.elim
  unfold fIn at p
  split at p
  · cases rx; cases ry
    rename_i a z
    split at p
    · rename_i c e
      refine .inl ⟨c, z, ?_, rfl, p.ok S rfl⟩
      obtain ⟨arr⟩ := a
      have : arr = #[c] := by
        apply Array.ext'
        simpa using e
      rw [this]
    · exact p.elim
  · exact tup _ rfl p
  · exact fz _ rfl p
  · exact p.elim
/-! ### is None -/
def isNon : D → Bool
  | .non => true | _ => false
def fIs (neg : Bool) : F2 := fun x y st => match y with
  | .non => .ok (.bl (if neg then !isNon x else isNon x)) st
  | _ => .bad
theorem isNon_of {B H ι} {d : D} {v : V} (r : VR B H ι d v) : decide (v = .non) = isNon d := by
  cases d with
  | non => cases r; rfl
  | bl _ => cases r; rfl
  | int _ => cases r; rfl
  | str _ => cases r; rfl
  | ty _ => cases r; rfl
  | tup _ => obtain ⟨_, _, rfl, _⟩ := r; rfl
  | fz _ => obtain ⟨_, _, rfl, _⟩ := r; rfl
  | sc _ => obtain ⟨_, _, rfl, _⟩ := r; rfl
  | fd _ _ => obtain ⟨_, _, _, rfl, _⟩ := r; rfl
  | obj _ _ _ => obtain ⟨_, _, _, _, _, rfl, _⟩ := r; rfl
  | ref _ => obtain ⟨_, _, rfl⟩ := r; rfl
theorem rd_is : RD K mg (fun x y H Q => y = .non ∧ Q (.bl (decide (x = .non))) H) (fIs false) := by
  intro ρ ι H st x y v u W σ Q S rx ry p
  unfold fIs at p
  cases y <;> (try exact p.elim)
  cases ry
  refine ⟨rfl, ?_⟩
  rw [isNon_of rx]
  exact p.ok S rfl
theorem rd_isNot : RD K mg (fun x y H Q => y = .non ∧ Q (.bl (!decide (x = .non))) H) (fIs true) := by
  intro ρ ι H st x y v u W σ Q S rx ry p
  unfold fIs at p
  cases y <;> (try exact p.elim)
  cases ry
  refine ⟨rfl, ?_⟩
  rw [isNon_of rx]
  exact p.ok S rfl
end
end DD

/-! DD4: tests, calls, fields. -/
namespace DD
open PySem L2 PyProof.Rows

section
variable {X : Cx} {W : WX} {e a b c o : Expr} {es : List Expr} {da db dc : DE} {ds : DA} {t u : DT} {pos : Pos}
/-! ### truth -/
def tru : D → Sto → Option Bool
  | .non, _ => some false
  | .bl b, _ => some b
  | .int i, _ => some (i != 0)
  | .str x, _ => if x.length ≤ bigLine then some ((x.length : Int) != 0) else none
  | .tup ds, _ => some (!ds.isEmpty)
  | .fz ds, _ => some (!ds.isEmpty)
  | .sc ds, _ => some (!ds.isEmpty)
  | .fd ks _, _ => some (!ks.isEmpty)
  | .ref n, st => match st[n]? with
    | some (.lst ds) => some (!ds.isEmpty)
    | some (.dct ks _) => some (!ks.isEmpty)
    | _ => none
  | _, _ => none
theorem VRs.isEmpty {B H ι} {ds : List D} {vs : List V} (h : VRs B H ι ds vs) : vs.isEmpty = ds.isEmpty := by
  have := h.length
  cases ds <;> cases vs <;> first | rfl | (simp at this)
theorem zip_isEmpty {α β : Type} {ks : List α} {xs : List β} (h : ks.length = xs.length) : (ks.zip xs).isEmpty = ks.isEmpty := by
  cases ks <;> cases xs <;> first | rfl | (simp at h)
theorem tru_of {B : Bs} {H ι st} {d : D} {v : V} {k : Bool} (S : Sim B H ι st) (r : VR B H ι d v) (h : tru d st = some k) : TruV B.K v H k := by
  cases d with
  | non => cases r; cases h; rfl
  | bl _ => cases r; cases h; rfl
  | int _ => cases r; cases h; rfl
  | str x =>
    cases r
    simp only [tru] at h
    split at h
    · rename_i hl; cases h; exact ⟨big_le hl, rfl⟩
    · cases h
  | tup ds =>
    obtain ⟨a, xs, rfl, h1, r1⟩ := r
    cases h
    exact .inr (.inl ⟨xs, h1.sq, by rw [r1.isEmpty]⟩)
  | fz ds =>
    obtain ⟨a, xs, rfl, h1, n1, r1⟩ := r
    cases h
    exact .inl ⟨xs, SqL.of h1, by rw [r1.isEmpty]⟩
  | sc ds =>
    obtain ⟨a, xs, rfl, h1, r1⟩ := r
    cases h
    exact .inl ⟨xs, h1.sq, by rw [r1.isEmpty]⟩
  | fd ks ds =>
    obtain ⟨a, kvs, xs, rfl, h1, n1, e, l, r1⟩ := r
    cases h
    exact .inr (.inr ⟨kvs, h1, by rw [e, zip_isEmpty l]⟩)
  | ref n =>
    obtain ⟨a, ha, rfl⟩ := r
    simp only [tru] at h
    split at h
    · rename_i ds e
      cases h
      obtain ⟨xs, h1, r1⟩ := S.look e ha
      exact .inl ⟨xs, SqL.of h1, by rw [r1.isEmpty]⟩
    · rename_i ks ds e
      cases h
      obtain ⟨kvs, xs, h1, e, l, r1⟩ := S.look e ha
      exact .inr (.inr ⟨kvs, h1, by rw [e, zip_isEmpty l]⟩)
    · cases h
  | ty _ => cases h
  | obj _ _ _ => cases h
def dTru (da : DE) : DT := fun env st => (da env st).bind fun x st1 => match tru x st1 with
  | some k => .ok k st1
  | none => .bad
theorem ptd_truth (ha : PEd X W a da) (he : ∀ whole, isTrue a X.env whole = (do let v ← whole; standAt a.pos; holding [v] (truthy v)) := by intro _; rfl) : PTd X W a (dTru da) :=
  PT.mono (pt_truth ha he) fun σ H Q ⟨ρ, ι, st, env, S, ve, p⟩ => ⟨ρ, ι, st, env, S, ve, Post.bind p fun x st1 ι1 H1 v s1 S1 rx p1 => by
    cases q : tru x st1 with
    | none => simp only [q] at p1; exact p1.elim
    | some k => simp only [q] at p1; exact ⟨k, tru_of S1 rx q, p1.ok S1 rfl⟩⟩
/-- a value that is a flag -/
def dTst (da : DE) : DT := fun env st => (da env st).bind fun x st1 => match x with
  | .bl k => .ok k st1
  | _ => .bad
theorem ptd_cmp {op : CmpOp} {r : R2} {f : F2} (ho : OpR X (compareOp op) r) (hr : RD X.K X.mg r f) (ha : PEd X W a da) (hb : PEd X W b db) (hm : behindInMarks op b = false) : PTd X W (.Compare a [op] [b] pos) (dTst (dBin f da db)) :=
  PT.mono (pt_cmpR ho ha hb hm) fun σ H Q ⟨ρ, ι, st, env, S, ve, p⟩ => bin_read hr ⟨ρ, ι, st, env, S, ve, Post.bind p fun x st1 ι1 H1 v s1 S1 rx p1 => by
    cases x <;> (try exact p1.elim)
    cases rx
    exact ⟨_, rfl, p1.ok S1 rfl⟩⟩
/-- a < b < c -/
def dChain (f g : F2) (da db dc : DE) : DE := fun env st => (da env st).bind fun x st1 => (db env st1).bind fun y st2 => (f x y st2).bind fun z st3 => match z with
  | .bl true => (dc env st3).bind fun w st4 => g y w st4
  | .bl false => .ok (.bl false) st3
  | _ => .bad
theorem chain_read {K : PySem.W.Frag} {mg : Str → Option Value} {r r' : R2} {f g : F2} (hr : RD K mg r f) (hr' : RD K mg r' g) {σ : L2.St} {H : Hp} {Q : VK} (h : tG K mg relV W (dChain f g da db dc) σ H Q) :
    tChain r r' (tG K mg relV W da) (tG K mg relV W db) (tG K mg relV W dc) σ H Q := by
  obtain ⟨ρ, ι, st, env, S, ve, p⟩ := h
  refine ⟨ρ, ι, st, env, S, ve, Post.bind p fun x st1 ι1 H1 v s1 S1 rx p1 => ?_⟩
  refine ⟨ρ, ι1, st1, env, S1, ve.step s1, Post.bind p1 fun y st2 ι2 H2 u s2 S2 ry p2 => ?_⟩
  refine hr S2 (rx.step s2) ry (Post.bind (R := relV) p2 fun z st3 ι3 H3 w s3 S3 rz p3 => ?_)
  cases z <;> (try exact p3.elim)
  rename_i k
  cases rz
  refine ⟨k, rfl, ?_⟩
  cases k with
  | true => exact iteT ⟨ρ, ι3, st3, env, S3, ((ve.step s1).step s2).step s3, Post.bind p3 fun w st4 ι4 H4 z s4 S4 rw p4 => hr' S4 ((VR.step s3 ry).step s4) rw p4⟩
  | false => exact iteF (p3.ok S3 rfl)
theorem pd_chain {op op' : CmpOp} {r r' : R2} {f g : F2} (ho : OpR X (compareOp op) r) (ho' : OpR X (compareOp op') r') (hr : RD X.K X.mg r f) (hr' : RD X.K X.mg r' g) (ha : PEd X W a da) (hb : PEd X W b db) (hc : PEd X W c dc)
    (h1 : lastMarks [op, op'] [b, c] = false := by rfl) : PEd X W (.Compare a [op, op'] [b, c] pos) (dChain f g da db dc) :=
  PE.mono (pe_chain ho ho' ha hb hc h1) fun _ _ _ h => chain_read hr hr' h
theorem ptd_chain {op op' : CmpOp} {r r' : R2} {f g : F2} (ho : OpR X (compareOp op) r) (ho' : OpR X (compareOp op') r') (hr : RD X.K X.mg r f) (hr' : RD X.K X.mg r' g) (ha : PEd X W a da) (hb : PEd X W b db) (hc : PEd X W c dc)
    (h1 : lastMarks [op, op'] [b, c] = false := by rfl) : PTd X W (.Compare a [op, op'] [b, c] pos) (dTst (dChain f g da db dc)) :=
  PT.mono (pt_chain ho ho' ha hb hc h1) fun σ H Q ⟨ρ, ι, st, env, S, ve, p⟩ => chain_read hr hr' ⟨ρ, ι, st, env, S, ve, Post.bind p fun x st1 ι1 H1 v s1 S1 rx p1 => by
    cases x <;> (try exact p1.elim)
    cases rx
    exact ⟨_, rfl, p1.ok S1 rfl⟩⟩
/-! ### and, or, not, if -/
def dAnd (t u : DT) : DT := fun env st => (t env st).bind fun k st1 => if k = true then u env st1 else .ok false st1
def dOr (t u : DT) : DT := fun env st => (t env st).bind fun k st1 => if k = true then .ok true st1 else u env st1
def dNot (t : DT) : DT := fun env st => (t env st).bind fun k st1 => .ok (!k) st1
theorem pwd_and1 (h : PTd X W a t) : PWd X W (.BoolOp .And [a] pos) t := pw_and1 h
theorem pwd_or1 (h : PTd X W a t) : PWd X W (.BoolOp .Or [a] pos) t := pw_or1 h
theorem pwd_and {rest : List Expr} (ha : PTd X W a t) (hb : PWd X W (.BoolOp .And (b :: rest) pos) u) : PWd X W (.BoolOp .And (a :: b :: rest) pos) (dAnd t u) :=
  PW.mono (pw_and ha hb) fun σ H Q ⟨ρ, ι, st, env, S, ve, p⟩ => ⟨ρ, ι, st, env, S, ve, Post.bind p fun k st1 ι1 H1 v s1 S1 rx p1 => by
    cases rx
    cases k with
    | true => exact iteT ⟨ρ, ι1, st1, env, S1, ve.step s1, p1⟩
    | false => exact iteF (p1.ok S1 rfl)⟩
theorem pwd_or {rest : List Expr} (ha : PTd X W a t) (hb : PWd X W (.BoolOp .Or (b :: rest) pos) u) : PWd X W (.BoolOp .Or (a :: b :: rest) pos) (dOr t u) :=
  PW.mono (pw_or ha hb) fun σ H Q ⟨ρ, ι, st, env, S, ve, p⟩ => ⟨ρ, ι, st, env, S, ve, Post.bind p fun k st1 ι1 H1 v s1 S1 rx p1 => by
    cases rx
    cases k with
    | true => exact iteT (p1.ok S1 rfl)
    | false => exact iteF ⟨ρ, ι1, st1, env, S1, ve.step s1, p1⟩⟩
theorem ptd_w {t : DT} (h : PWd X W e t) : PTd X W e t := PW.pt h
theorem ptd_not (ha : PTd X W a t) : PTd X W (.UnaryOp .Not a pos) (dNot t) :=
  PT.mono (pt_not ha) fun σ H Q ⟨ρ, ι, st, env, S, ve, p⟩ => ⟨ρ, ι, st, env, S, ve, Post.bind p fun k st1 ι1 H1 v s1 S1 rx p1 => by
    cases rx
    exact p1.ok S1 rfl⟩
def dIf (t : DT) (da db : DE) : DE := fun env st => (t env st).bind fun k st1 => if k = true then da env st1 else db env st1
theorem pd_if (hc : PTd X W c t) (ha : PEd X W a da) (hb : PEd X W b db) : PEd X W (.IfExp c a b pos) (dIf t da db) :=
  PE.mono (pe_ifExp hc ha hb) fun σ H Q ⟨ρ, ι, st, env, S, ve, p⟩ => ⟨ρ, ι, st, env, S, ve, Post.bind p fun k st1 ι1 H1 v s1 S1 rx p1 => by
    cases rx
    cases k with
    | true => exact iteT ⟨ρ, ι1, st1, env, S1, ve.step s1, p1⟩
    | false => exact iteF ⟨ρ, ι1, st1, env, S1, ve.step s1, p1⟩⟩
/-- as values: all but the last are flags -/
def dAndV (da db : DE) : DE := fun env st => (da env st).bind fun x st1 => match x with
  | .bl true => db env st1
  | .bl false => .ok (.bl false) st1
  | _ => .bad
def dOrV (da db : DE) : DE := fun env st => (da env st).bind fun x st1 => match x with
  | .bl true => .ok (.bl true) st1
  | .bl false => db env st1
  | _ => .bad
def dNotV (da : DE) : DE := fun env st => (da env st).bind fun x st1 => match x with
  | .bl k => .ok (.bl (!k)) st1
  | _ => .bad
theorem pd_one {op} (h : PEd X W a da) : PEd X W (.BoolOp op [a] pos) da := pe_one h
theorem pd_and {rest : List Expr} (ha : PEd X W a da) (hb : PEd X W (.BoolOp .And (b :: rest) pos) db) : PEd X W (.BoolOp .And (a :: b :: rest) pos) (dAndV da db) :=
  PE.mono (pe_and ha hb) fun σ H Q ⟨ρ, ι, st, env, S, ve, p⟩ => ⟨ρ, ι, st, env, S, ve, Post.bind p fun x st1 ι1 H1 v s1 S1 rx p1 => by
    cases x <;> (try exact p1.elim)
    rename_i k
    cases rx
    cases k with
    | true => exact ⟨_, rfl, iteT ⟨ρ, ι1, st1, env, S1, ve.step s1, p1⟩⟩
    | false => exact ⟨_, rfl, iteF (p1.ok S1 rfl)⟩⟩
theorem pd_or {rest : List Expr} (ha : PEd X W a da) (hb : PEd X W (.BoolOp .Or (b :: rest) pos) db) : PEd X W (.BoolOp .Or (a :: b :: rest) pos) (dOrV da db) :=
  PE.mono (pe_or ha hb) fun σ H Q ⟨ρ, ι, st, env, S, ve, p⟩ => ⟨ρ, ι, st, env, S, ve, Post.bind p fun x st1 ι1 H1 v s1 S1 rx p1 => by
    cases x <;> (try exact p1.elim)
    rename_i k
    cases rx
    cases k with
    | true => exact ⟨_, rfl, iteT (p1.ok S1 rfl)⟩
    | false => exact ⟨_, rfl, iteF ⟨ρ, ι1, st1, env, S1, ve.step s1, p1⟩⟩⟩
theorem pd_not (ha : PEd X W a da) : PEd X W (.UnaryOp .Not a pos) (dNotV da) :=
  PE.mono (pe_not ha) fun σ H Q ⟨ρ, ι, st, env, S, ve, p⟩ => ⟨ρ, ι, st, env, S, ve, Post.bind p fun x st1 ι1 H1 v s1 S1 rx p1 => by
    cases x <;> (try exact p1.elim)
    cases rx
    exact ⟨_, rfl, p1.ok S1 rfl⟩⟩

/-! ### calls by values -/
abbrev FC := List D → Sto → Res D
def RC (K : PySem.W.Frag) (mg : Str → Option Value) (r : List V → Hp → VK → Prop) (f : FC) : Prop :=
  ∀ {ρ ι H st xs vs W σ} {Q : VK}, Sim ⟨K, mg, ρ⟩ H ι st → VRs ⟨K, mg, ρ⟩ H ι xs vs → Post ⟨K, mg, ρ⟩ relV W σ ι H (f xs st) Q → r vs H Q
/-- .. whose answer is a new list -/
abbrev FL := List D → Sto → Res (List D)
def RCL (K : PySem.W.Frag) (mg : Str → Option Value) (r : List V → Hp → VK → Prop) (f : FL) : Prop :=
  ∀ {ρ ι H st xs vs W σ} {Q : VK}, Sim ⟨K, mg, ρ⟩ H ι st → VRs ⟨K, mg, ρ⟩ H ι xs vs → Post ⟨K, mg, ρ⟩ relL W σ ι H (f xs st) Q → r vs H Q
def dCall (f : FC) (ds : DA) : DE := fun env st => (ds env st).bind fun xs st1 => f xs st1
def dCallL (f : FL) (ds : DA) : DA := fun env st => (ds env st).bind fun xs st1 => f xs st1
variable {x id T : Str} {p : Pos} {r : List V → Hp → VK → Prop} {f : FC} {fl : FL}
theorem pd_callB {id : String} (hc : CallR X (.builtin id) r) (hr : RC X.K X.mg r f) (hg : Gl X x) (hm : X.mg x = none) (hv : bootBuiltins x = some (.builtin id)) (ha : PAd X W (e :: es) ds) (hn : x ≠ "__name__" := by decide) (hdb : (x == ("__debug__" : Str)) = false := by decide)
    (he : starEach (e :: es) X.env = (false, eval e X.env) :: starEach es X.env := by rfl) (hpl : (backTo pos (starEach es X.env)).any (·.1) = false := by rfl) : PEd X W (.Call (.Name x p) (e :: es) [] pos) (dCall f ds) :=
  PE.mono (pe_callB hc hg hm hv ha hn hdb he hpl) fun σ H Q ⟨ρ, ι, st, env, S, ve, p⟩ => ⟨ρ, ι, st, env, S, ve, Post.bind p fun xs st1 ι1 H1 vs s1 S1 rx p1 => hr S1 rx p1⟩
theorem pd_callTy {T : String} (hc : CallR X (.type T) r) (hr : RC X.K X.mg r f) (hg : Gl X x) (hm : X.mg x = none) (hv : bootBuiltins x = some (.type T)) (ha : PAd X W (e :: es) ds) (hn : x ≠ "__name__" := by decide) (hdb : (x == ("__debug__" : Str)) = false := by decide)
    (he : starEach (e :: es) X.env = (false, eval e X.env) :: starEach es X.env := by rfl) (hpl : (backTo pos (starEach es X.env)).any (·.1) = false := by rfl) : PEd X W (.Call (.Name x p) (e :: es) [] pos) (dCall f ds) :=
  PE.mono (pe_callTy hc hg hm hv ha hn hdb he hpl) fun σ H Q ⟨ρ, ι, st, env, S, ve, p⟩ => ⟨ρ, ι, st, env, S, ve, Post.bind p fun xs st1 ι1 H1 vs s1 S1 rx p1 => hr S1 rx p1⟩
theorem pld_callB {id : String} (hc : CallR X (.builtin id) r) (hr : RCL X.K X.mg r fl) (hg : Gl X x) (hm : X.mg x = none) (hv : bootBuiltins x = some (.builtin id)) (ha : PAd X W (e :: es) ds) (hn : x ≠ "__name__" := by decide) (hdb : (x == ("__debug__" : Str)) = false := by decide)
    (he : starEach (e :: es) X.env = (false, eval e X.env) :: starEach es X.env := by rfl) (hpl : (backTo pos (starEach es X.env)).any (·.1) = false := by rfl) : PLd X W (.Call (.Name x p) (e :: es) [] pos) (dCallL fl ds) :=
  PE.mono (pe_callB hc hg hm hv ha hn hdb he hpl) fun σ H Q ⟨ρ, ι, st, env, S, ve, p⟩ => ⟨ρ, ι, st, env, S, ve, Post.bind p fun xs st1 ι1 H1 vs s1 S1 rx p1 => hr S1 rx p1⟩
theorem pld_callTy {T : String} (hc : CallR X (.type T) r) (hr : RCL X.K X.mg r fl) (hg : Gl X x) (hm : X.mg x = none) (hv : bootBuiltins x = some (.type T)) (ha : PAd X W (e :: es) ds) (hn : x ≠ "__name__" := by decide) (hdb : (x == ("__debug__" : Str)) = false := by decide)
    (he : starEach (e :: es) X.env = (false, eval e X.env) :: starEach es X.env := by rfl) (hpl : (backTo pos (starEach es X.env)).any (·.1) = false := by rfl) : PLd X W (.Call (.Name x p) (e :: es) [] pos) (dCallL fl ds) :=
  PE.mono (pe_callTy hc hg hm hv ha hn hdb he hpl) fun σ H Q ⟨ρ, ι, st, env, S, ve, p⟩ => ⟨ρ, ι, st, env, S, ve, Post.bind p fun xs st1 ι1 H1 vs s1 S1 rx p1 => hr S1 rx p1⟩
end
/-! ### calls of own defs -/
/-- what a def promises: its answer is m of its arguments -/
def spD (K : PySem.W.Frag) (mg : Str → Option Value) (m : M) (n : Nat) : Sp := fun vs H Q E => vs.length = n ∧ ∃ ρ ι st ds, Sim ⟨K, mg, ρ⟩ H ι st ∧ VRs ⟨K, mg, ρ⟩ H ι ds vs ∧
  Post ⟨K, mg, ρ⟩ relV (fun c d _ H => E c d H) [] ι H (m ds st) Q
/-- an error of a callee reaches what is wished here -/
def Lets (X : Cx) (W : WX) : Prop := ∀ σ, PassesAt (L2.CX X.prog X.w) X σ (WE W σ)
theorem lets_of {X : Cx} {W : WX} (tk : Takes X W) : Lets X W := passAt tk
def W0 : WX := fun _ _ _ _ => False
theorem lets0 {X : Cx} : Lets X W0 := fun σ pins H s e s' I h => by
  obtain ⟨_, _, _, _, _, _, _, _, _, _, _, _, z⟩ := h
  exact z.elim
def dOwn (m : M) (n : Nat) (ds : DA) : DE := fun env st => (ds env st).bind fun xs st1 => if xs.length = n then m xs st1 else .bad
section
variable {X : Cx} {W : WX} {e : Expr} {es : List Expr} {ds : DA} {pos p : Pos} {k : Nat} {f : Addr} {fd : FuncData} {ps : List Str} {m : M} {n : Nat} {x : Str}
theorem Post.wish {B : Bs} {W : WX} {σ : L2.St} {ι : List Addr} {H : Hp} {r : Res D} {Q : VK} (h : Post B relV W σ ι H r Q) : Post B relV (fun c d _ H => WE W σ c d H) [] ι H r Q := by
  cases r <;> exact h
theorem pd_own (F : FnOk X.prog X.w X.K X.mg X.base (L2.CX X.prog X.w) k f fd ps (spD X.K X.mg m n)) (hr : Room k X.A) (hg : Gl X x) (hm : X.mg x = some (.ref f)) (hk : PySem.W.keepIn X.K (.ref f) = true) (hb : Binds X.K fd ps []) (hx : Lets X W)
    (ha : PAd X W (e :: es) ds) (hdb : (x == ("__debug__" : Str)) = false := by decide) (he : starEach (e :: es) X.env = (false, eval e X.env) :: starEach es X.env := by rfl) (hpl : (backTo pos (starEach es X.env)).any (·.1) = false := by rfl) :
    PEd X W (.Call (.Name x p) (e :: es) [] pos) (dOwn m n ds) :=
  PE.mono (pe_callS (E := fun σ => WE W σ) F hr hg hm hk hb hx ha hdb he hpl) fun σ H Q ⟨ρ, ι, st, env, S, ve, p⟩ => ⟨ρ, ι, st, env, S, ve, Post.bind p fun xs st1 ι1 H1 vs s1 S1 rx p1 => by
    have rx : VRs ⟨X.K, X.mg, ρ⟩ H1 ι1 xs vs := rx
    by_cases hl : xs.length = n
    · simp only [hl, if_true] at p1
      exact ⟨by rw [← rx.length, hl], ρ, ι1, st1, xs, S1, rx, Post.wish p1⟩
    · simp only [hl, if_false] at p1; exact p1.elim⟩
end
end DD

/-! DD5: statements, defs. -/
namespace DD
open PySem L2 PyProof.Rows

def PostS (B : Bs) (W : WX) (E : Ends) (σ : L2.St) (ι : List Addr) (H : Hp) (r : ResS) : Prop := match r with
  | .nx env' st' => ∀ ι' H' σ', Step ι H ι' H' → Sim B H' ι' st' → VEnv B H' ι' env' σ' → E.nx σ' H'
  | .bk env' st' => ∀ ι' H' σ', Step ι H ι' H' → Sim B H' ι' st' → VEnv B H' ι' env' σ' → E.bk σ' H'
  | .ct env' st' => ∀ ι' H' σ', Step ι H ι' H' → Sim B H' ι' st' → VEnv B H' ι' env' σ' → E.ct σ' H'
  | .rt x st' => ∀ ι' H' v, Step ι H ι' H' → Sim B H' ι' st' → VR B H' ι' x v → E.rt v H'
  | .exc x env' st' => ∀ ι' H' σ' cls dd, Step ι H ι' H' → Sim B H' ι' st' → VEnv B H' ι' env' σ' → ExcR B H' ι' x cls dd → W cls dd σ' H'
  | .bad => False
def tSd (K : PySem.W.Frag) (mg : Str → Option Value) (W : WX) (d : DS) : TS := fun E σ H =>
  ∃ ρ ι st env, Sim ⟨K, mg, ρ⟩ H ι st ∧ VEnv ⟨K, mg, ρ⟩ H ι env σ ∧ PostS ⟨K, mg, ρ⟩ W E σ ι H (d env st)
def PSd (X : Cx) (W : WX) (s : Stmt) (d : DS) : Prop := PS X s (tSd X.K X.mg W d)
def PSsd (X : Cx) (W : WX) (s : List Stmt) (d : DS) : Prop := PSs X s (tSd X.K X.mg W d)
theorem PS.mono {X : Cx} {s : Stmt} {t t' : TS} (h : PS X s t) (k : ∀ D σ H, t' D σ H → t D σ H) : PS X s t' := ⟨fun p s σ H D I q => h.run p s σ H D I (k D σ H q)⟩
theorem PSs.mono {X : Cx} {s : List Stmt} {t t' : TS} (h : PSs X s t) (k : ∀ D σ H, t' D σ H → t D σ H) : PSs X s t' := ⟨fun p s σ H D I q => h.run p s σ H D I (k D σ H q)⟩
section
variable {B : Bs} {W : WX} {E : Ends} {σ σ' : L2.St} {ι ι' : List Addr} {H H' : Hp} {env : Env}
theorem PostS.step (s : Step ι H ι' H') {r : ResS} (h : PostS B W E σ ι H r) : PostS B W E σ' ι' H' r := by
  cases r with
  | nx e st => exact fun ι2 H2 σ2 s2 => h ι2 H2 σ2 (s.trans s2)
  | bk e st => exact fun ι2 H2 σ2 s2 => h ι2 H2 σ2 (s.trans s2)
  | ct e st => exact fun ι2 H2 σ2 s2 => h ι2 H2 σ2 (s.trans s2)
  | rt x st => exact fun ι2 H2 v s2 => h ι2 H2 v (s.trans s2)
  | exc x e st => exact fun ι2 H2 σ2 c d s2 => h ι2 H2 σ2 c d (s.trans s2)
  | bad => exact h
/-- an expression, then a statement -/
def Res.bindS {α : Type} (r : Res α) (env : Env) (f : α → Sto → ResS) : ResS := match r with
  | .ok a st => f a st
  | .exc x st => .exc x env st
  | .bad => .bad
@[simp] theorem Res.bindS_ok {α : Type} (a : α) (st : Sto) (env : Env) (f : α → Sto → ResS) : (Res.ok a st).bindS env f = f a st := rfl
@[simp] theorem Res.bindS_exc {α : Type} (x : Xc) (st : Sto) (env : Env) (f : α → Sto → ResS) : (Res.exc x st : Res α).bindS env f = .exc x env st := rfl
@[simp] theorem Res.bindS_bad {α : Type} (env : Env) (f : α → Sto → ResS) : (Res.bad : Res α).bindS env f = .bad := rfl
theorem PostS.bind {α β : Type} {R : Rel α β} {r : Res α} {f : α → Sto → ResS} {G : β → Hp → Prop} (ve : VEnv B H ι env σ) (h : PostS B W E σ ι H (r.bindS env f))
    (hk : ∀ a st1 ι1 H1 b, Step ι H ι1 H1 → Sim B H1 ι1 st1 → R.r B H ι H1 ι1 st1 a b → PostS B W E σ ι1 H1 (f a st1) → G b H1) : Post B R W σ ι H r G := by
  cases r with
  | ok a st' => exact fun ι1 H1 b s S q => hk a st' ι1 H1 b s S q (PostS.step s h)
  | exc x st' => exact fun ι1 H1 c d s S q => h ι1 H1 σ c d s S (ve.step s) q
  | bad => exact h
end
section
variable {X : Cx} {W : WX} {s : Stmt} {rest : List Stmt} {d d1 d2 : DS} {e c : Expr} {da : DE} {t : DT} {pos : Pos}
def dNext : DS := fun env st => .nx env st
def dSeq (d1 d2 : DS) : DS := fun env st => match d1 env st with
  | .nx env1 st1 => d2 env1 st1
  | r => r
theorem pssd_nil : PSsd X W [] dNext := PSs.mono pss_nil fun D σ H ⟨ρ, ι, st, env, S, ve, p⟩ => p ι H σ (Step.refl _ _) S ve
theorem pssd_one (h : PSd X W s d) : PSsd X W [s] d := pss_one h
theorem pssd_cons (h1 : PSd X W s d1) (h2 : PSsd X W rest d2) : PSsd X W (s :: rest) (dSeq d1 d2) := PSs.mono (pss_cons h1 h2) fun E σ H ⟨ρ, ι, st, env, S, ve, p⟩ => by
  refine ⟨ρ, ι, st, env, S, ve, ?_⟩
  unfold dSeq at p
  cases q : d1 env st with
  | nx env1 st1 =>
    simp only [q] at p
    exact fun ι1 H1 σ1 s1 S1 ve1 => ⟨ρ, ι1, st1, env1, S1, ve1, PostS.step s1 p⟩
  | rt x st1 => simp only [q] at p; exact p
  | bk e st1 => simp only [q] at p; exact p
  | ct e st1 => simp only [q] at p; exact p
  | exc x e st1 => simp only [q] at p; exact p
  | bad => simp only [q] at p; exact p
theorem psd_pass : PSd X W (.Pass pos) dNext := PS.mono ps_pass fun D σ H ⟨ρ, ι, st, env, S, ve, p⟩ => p ι H σ (Step.refl _ _) S ve
def dBreak : DS := fun env st => .bk env st
def dCont : DS := fun env st => .ct env st
theorem psd_break : PSd X W (.Break pos) dBreak := PS.mono ps_break fun D σ H ⟨ρ, ι, st, env, S, ve, p⟩ => p ι H σ (Step.refl _ _) S ve
theorem psd_cont : PSd X W (.Continue pos) dCont := PS.mono ps_continue fun D σ H ⟨ρ, ι, st, env, S, ve, p⟩ => p ι H σ (Step.refl _ _) S ve
def dExpr (da : DE) : DS := fun env st => (da env st).bindS env fun _ st1 => .nx env st1
theorem psd_expr (he : PEd X W e da) (hs : swapsWith e none pos.line X.env = pure false := by rfl) : PSd X W (.Expr e pos) (dExpr da) := PS.mono (ps_expr he hs) fun E σ H ⟨ρ, ι, st, env, S, ve, p⟩ =>
  ⟨ρ, ι, st, env, S, ve, PostS.bind ve p fun x st1 ι1 H1 v s1 S1 rx p1 => p1 ι1 H1 σ (Step.refl _ _) S1 (ve.step s1)⟩
def dRet (da : DE) : DS := fun env st => (da env st).bindS env fun x st1 => .rt x st1
theorem psd_ret (he : PEd X W e da) : PSd X W (.Return (some e) pos) (dRet da) := PS.mono (ps_ret he) fun E σ H ⟨ρ, ι, st, env, S, ve, p⟩ =>
  ⟨ρ, ι, st, env, S, ve, PostS.bind ve p fun x st1 ι1 H1 v s1 S1 rx p1 => p1 ι1 H1 v (Step.refl _ _) S1 rx⟩
def dRetN : DS := fun _ st => .rt .non st
theorem psd_retN : PSd X W (.Return none pos) dRetN := PS.mono ps_retN fun E σ H ⟨ρ, ι, st, env, S, ve, p⟩ => p ι H .non (Step.refl _ _) S rfl
def dIfS (t : DT) (d1 d2 : DS) : DS := fun env st => (t env st).bindS env fun k st1 => if k = true then d1 env st1 else d2 env st1
theorem psd_if {a b : List Stmt} (hc : PTd X W c t) (ha : PSsd X W a d1) (hb : PSsd X W b d2) : PSd X W (.If c a b pos) (dIfS t d1 d2) := PS.mono (ps_if hc ha hb) fun E σ H ⟨ρ, ι, st, env, S, ve, p⟩ =>
  ⟨ρ, ι, st, env, S, ve, PostS.bind ve p fun k st1 ι1 H1 v s1 S1 rx p1 => by
    cases rx
    cases k with
    | true => exact iteT ⟨ρ, ι1, st1, env, S1, ve.step s1, p1⟩
    | false => exact iteF ⟨ρ, ι1, st1, env, S1, ve.step s1, p1⟩⟩
def dSet (i : Nat) (da : DE) : DS := fun env st => (da env st).bindS env fun x st1 => .nx (env.set i (some x)) st1
theorem psd_set {i : Nat} {x : Str} {pos' : Pos} (hN : X.N.Nodup) (hi : X.N[i]? = some x) (hx : Loc X.env.scope x) (he : PEd X W e da) (hs : swapsWith e (some (.Name x pos')) pos.line X.env = pure false := by rfl) (hf : X.fn x = true ∨ X.env.scope.names.lookup x = some .local := by first | exact .inl rfl | exact .inr rfl) :
    PSd X W (.Assign [.Name x pos'] e pos) (dSet i da) := PS.mono (ps_set hN hi hx he hs hf) fun E σ H ⟨ρ, ι, st, env, S, ve, p⟩ =>
  ⟨ρ, ι, st, env, S, ve, PostS.bind ve p fun x st1 ι1 H1 v s1 S1 rx p1 => p1 ι1 H1 _ (Step.refl _ _) S1 ((ve.step s1).set rx)⟩
/-! ### targets -/
/-- a target: how the environment changes -/
abbrev DG := D → Env → Option Env
def Off (ix : List Nat) (σ σ' : L2.St) : Prop := σ'.length = σ.length ∧ ∀ j : Nat, j ∉ ix → σ'[j]? = σ[j]?
def GS (K : PySem.W.Frag) (mg : Str → Option Value) (G : TG) (ix : List Nat) (g : DG) : Prop := ∀ {ρ ι H st env σ x v env'} {Q : L2.St → Hp → Prop}, Sim ⟨K, mg, ρ⟩ H ι st → VEnv ⟨K, mg, ρ⟩ H ι env σ → VR ⟨K, mg, ρ⟩ H ι x v → g x env = some env' →
  (∀ σ', VEnv ⟨K, mg, ρ⟩ H ι env' σ' → Off ix σ σ' → Q σ' H) → G v σ H Q
def gdName (i : Nat) : DG := fun x env => some (env.set i (some x))
theorem gs_name {K mg} (i : Nat) : GS K mg (gName i) [i] (gdName i) :=
  fun S ve r e k => by cases e; exact k _ (ve.set r) ⟨by simp, fun j hj => by rw [List.getElem?_set_ne (fun z => hj (by simp [z]))]⟩
abbrev DGs := List D → Env → Option Env
def GSs (K : PySem.W.Frag) (mg : Str → Option Value) (G : TGs) (ix : List Nat) (g : DGs) : Prop := ∀ {ρ ι H st env σ xs vs env'} {Q : L2.St → Hp → Prop}, Sim ⟨K, mg, ρ⟩ H ι st → VEnv ⟨K, mg, ρ⟩ H ι env σ → VRs ⟨K, mg, ρ⟩ H ι xs vs → g xs env = some env' →
  (∀ σ', VEnv ⟨K, mg, ρ⟩ H ι env' σ' → Off ix σ σ' → Q σ' H) → G vs σ H Q
def gdNil : DGs := fun xs env => match xs with
  | [] => some env
  | _ => none
def gdCons (g : DG) (gs : DGs) : DGs := fun xs env => match xs with
  | x :: r => (g x env).bind fun env1 => gs r env1
  | _ => none
theorem gss_nil {K mg} : GSs K mg gNil [] gdNil := fun {ρ ι H st env σ xs vs env'} {Q} S ve r e k => by
  cases xs with
  | nil => cases r; cases e; exact ⟨rfl, k _ ve ⟨rfl, fun _ _ => rfl⟩⟩
  | cons x r => cases e
theorem gss_cons {K mg} {g : DG} {gs : DGs} {G : TG} {Gs : TGs} {ix ixs : List Nat} (h1 : GS K mg G ix g) (h2 : GSs K mg Gs ixs gs) : GSs K mg (gCons G Gs) (ix ++ ixs) (gdCons g gs) := fun {ρ ι H st env σ xs vs env'} {Q} S ve r e k => by
  cases xs with
  | nil => cases e
  | cons x xr =>
    obtain ⟨v, vr, rfl, h, t⟩ := r
    have e' : (g x env).bind (fun env1 => gs xr env1) = some env' := e
    cases q : g x env with
    | none => rw [q] at e'; cases e'
    | some env1 =>
      rw [q] at e'
      exact ⟨v, vr, rfl, h1 S ve h q fun σ' ve' o1 => h2 S ve' t e' fun σ2 ve2 o2 => k σ2 ve2 ⟨o2.1.trans o1.1, fun j hj => by
        rw [List.mem_append, not_or] at hj
        rw [o2.2 j hj.2, o1.2 j hj.1]⟩⟩
def gdTup (n : Nat) (gs : DGs) : DG := fun x env => match x with
  | .tup ds => if ds.length = n then gs ds env else none
  | _ => none
theorem gs_tup {K mg} {gs : DGs} {Gs : TGs} {ix : List Nat} (n : Nat) (h : GSs K mg Gs ix gs) : GS K mg (gTup K n Gs) ix (gdTup n gs) := fun {ρ ι H st env σ x v env'} {Q} S ve r e kk => by
  cases x <;> (try (cases e))
  rename_i ds
  obtain ⟨a, xs, rfl, h1, r1⟩ := r
  have e : (if ds.length = n then gs ds env else none) = some env' := e
  by_cases hl : ds.length = n
  · rw [if_pos hl] at e
    exact ⟨a, xs, rfl, h1.sq, by rw [← r1.length, hl], h S ve r1 e kk⟩
  · rw [if_neg hl] at e; cases e
def dAsg (da : DE) (g : DG) : DS := fun env st => (da env st).bindS env fun x st1 => match g x env with
  | some env1 => .nx env1 st1
  | none => .bad
theorem psd_asg {tg : Expr} {g : DG} {G : TG} {ix : List Nat} (he : PEd X W e da) (pg : PG X tg G) (k : GS X.K X.mg G ix g) (hs : swapsWithSole [tg] e pos.line X.env = pure false := by rfl) (hw : swappedStores [tg] e X.env = pure none := by rfl)
    (h1 : (assignEach [tg] X.env).map (·.2) = [assign tg X.env] := by rfl) : PSd X W (.Assign [tg] e pos) (dAsg da g) := by
  refine PS.mono (ps_asg he pg hs hw h1) fun E σ H ⟨ρ, ι, st, env, S, ve, p⟩ => ⟨ρ, ι, st, env, S, ve, PostS.bind ve p fun x st1 ι1 H1 v s1 S1 rx p1 => ?_⟩
  cases q : g x env with
  | none => simp only [q] at p1; exact p1.elim
  | some env1 =>
    simp only [q] at p1
    exact k S1 (ve.step s1) rx q fun σ' ve' _ => p1 ι1 H1 σ' (Step.refl _ _) S1 ve'
/-- name += int -/
def dAug (i : Nat) (f : Int → Int → Int) (da : DE) : DS := fun env st => match env[i]? with
  | some (some (.int a)) => (da env st).bindS env fun y st1 => match y with
    | .int b => .nx (env.set i (some (.int (f a b)))) st1
    | _ => .bad
  | _ => .bad
theorem psd_aug {i : Nat} {x : Str} {op : Operator} {f : Int → Int → Int} {pos' : Pos} (hN : X.N.Nodup) (hi : X.N[i]? = some x) (hx : Loc X.env.scope x) (he : PEd X W e da) (ho : PIp X op (ipI f)) (hf : X.fn x = true ∨ X.env.scope.names.lookup x = some .local := by first | exact .inl rfl | exact .inr rfl) :
    PSd X W (.AugAssign (.Name x pos') op e pos) (dAug i f da) := PS.mono (ps_aug hN hi hx he ho hf) fun E σ H ⟨ρ, ι, st, env, S, ve, p⟩ => by
  unfold dAug at p
  split at p
  · rename_i a q
    obtain ⟨v, h1, h2⟩ := ve.2 i _ q
    cases h2
    refine ⟨_, h1, ρ, ι, st, env, S, ve, PostS.bind ve p fun y st1 ι1 H1 v s1 S1 rx p1 => ?_⟩
    cases y <;> (try exact p1.elim)
    cases rx
    exact ⟨_, _, rfl, rfl, p1 ι1 H1 _ (Step.refl _ _) S1 (VEnv.set (d := .int _) (ve.step s1) rfl)⟩
  · exact p.elim
/-- xs[k] = e, a list of the store -/
def dSetItem (da dx dk : DE) : DS := fun env st => (da env st).bindS env fun x st1 => (dx env st1).bindS env fun o st2 => (dk env st2).bindS env fun i st3 => match o, i with
  | .ref n, .int k => match st3[n]? with
    | some (.lst ds) => match ixN ds.length k with
      | some j => .nx env (st3.set n (.lst (ds.set j x)))
      | none => .bad
    | _ => .bad
  | _, _ => .bad
theorem psd_setItem {o i : Expr} {dx dk : DE} {p' : Pos} (he : PEd X W e da) (ho : PEd X W o dx) (hi : PEd X W i dk) (hs : swapsWithSole [Expr.Subscript o i p'] e pos.line X.env = pure false := by rfl) (hw : swappedStores [Expr.Subscript o i p'] e X.env = pure none := by rfl)
    (h1 : (assignEach [Expr.Subscript o i p'] X.env).map (·.2) = [assign (Expr.Subscript o i p') X.env] := by rfl)
    (ha : ∀ v, assign (.Subscript o i p') X.env v = (do
      let ov ← holding [v] (eval o X.env)
      let iv ← holding [v, ov] (eval i X.env)
      standAt p'
      holding [v, ov, iv] (setItem ov iv v)
      release [v, ov, iv] []) := by intro _; rfl) : PSd X W (.Assign [.Subscript o i p'] e pos) (dSetItem da dx dk) :=
  PS.mono (ps_asg he (pg_sub ho hi set_list ha) hs hw h1) fun E σ H ⟨ρ, ι, st, env, S, ve, p⟩ => ⟨ρ, ι, st, env, S, ve, PostS.bind ve p fun x st1 ι1 H1 v s1 S1 rx p1 =>
    ⟨ρ, ι1, st1, env, S1, ve.step s1, PostS.bind (ve.step s1) p1 fun o st2 ι2 H2 w s2 S2 ro p2 => ⟨ρ, ι2, st2, env, S2, (ve.step s1).step s2, PostS.bind ((ve.step s1).step s2) p2 fun i st3 ι3 H3 z s3 S3 ri p3 => by
      cases o <;> cases i <;> (try exact p3.elim)
      cases ri
      obtain ⟨a, ha, rfl⟩ := VR.step s3 ro
      simp only [] at p3
      split at p3
      · rename_i ds q
        obtain ⟨xs, h1, r1⟩ := S3.look q ha
        split at p3
        · rename_i j ej
          refine ⟨a, xs, _, j, rfl, rfl, h1, by rw [← r1.length]; exact ej, ?_⟩
          have sw : Step ι3 H3 ι3 (upd H3 a (.lst (xs.set j v))) := Step.write ha
          exact p3 ι3 _ σ sw (S3.write ha ⟨_, upd_same, (r1.set ((VR.step s2 rx).step s3) j).step sw⟩) ((((ve.step s1).step s2).step s3).step sw)
        · exact p3.elim
      · exact p3.elim⟩⟩⟩
end

/-! ### a def -/
def mOf (d : DS) (N : Nat) : M := fun ds st => match d (ds.map some ++ List.replicate (N - ds.length) none) st with
  | .nx _ st' => .ok .non st'
  | .rt x st' => .ok x st'
  | .exc x _ st' => .exc x st'
  | _ => .bad
section
variable {P : Program} {w : World} {K : PySem.W.Frag} {mg : Str → Option Value} {base : Heap}
theorem fn_d {x qual : Str} {st : Stmt} {f : Addr} {fd : FuncData} {N ps : List Str} {k : Nat} {d : DS} (F : Fun K x qual st f fd) (S : FnScope N ps (defScope st))
    (body : ∀ (cdv : Value) (A : Around) (outer : List PySem.Env) (s : Shared) (H : Hp) (E : XK), Room k (A.deeper (envOfC qual (defScope st) s.heap.objs.size f cdv)) →
      Takes (cxOf (L2.CX P w) P w K mg base N qual (defScope st) f cdv A outer s H E) (fun c dd _ H => E c dd H) → Lets (cxOf (L2.CX P w) P w K mg base N qual (defScope st) f cdv A outer s H E) (fun c dd _ H => E c dd H) →
      PSsd (cxOf (L2.CX P w) P w K mg base N qual (defScope st) f cdv A outer s H E) (fun c dd _ H => E c dd H) (defBody st) d) : FnOk P w K mg base (L2.CX P w) (k + 1) f fd ps (spD K mg (mOf d N.length) ps.length) := by
  refine F.okX S (fun vs H Q E h => h.1) (fun cdv A outer s H vs Q E hr h => ?_)
  have tk : Takes (cxOf (L2.CX P w) P w K mg base N qual (defScope st) f cdv A outer s H E) (fun c dd _ H => E c dd H) := takes_of rfl rfl rfl rfl
  refine ⟨_, body cdv A outer s H E hr tk (lets_of tk), ?_⟩
  obtain ⟨hl, ρ, ι, st0, ds, S0, r, p⟩ := h
  refine ⟨ρ, ι, st0, _, S0, VEnv.start N r, ?_⟩
  unfold mOf at p
  cases q : d (ds.map some ++ List.replicate (N.length - ds.length) none) st0 with
  | nx env1 st1 => simp only [q] at p; exact fun ι1 H1 σ1 s1 S1 _ => p ι1 H1 .non s1 S1 rfl
  | rt x st1 => simp only [q] at p; exact fun ι1 H1 v s1 S1 rx => p ι1 H1 v s1 S1 rx
  | exc x e st1 => simp only [q] at p; exact fun ι1 H1 σ1 c dd s1 S1 _ ex => p ι1 H1 c dd s1 S1 ex
  | bk e st1 => simp only [q] at p; exact p.elim
  | ct e st1 => simp only [q] at p; exact p.elim
  | bad => simp only [q] at p; exact p.elim
end
end DD

/-! DD6: what is walked, for, while, comprehensions. -/
namespace DD
open PySem L2 PyProof.Rows

/-! ### the same under other reserved addresses -/
def Fine (H : Hp) (ρ ρ' : List Addr) : Prop := ∀ a ∈ ρ', a ∈ ρ ∨ H a = none
theorem Fine.refl (H : Hp) (ρ : List Addr) : Fine H ρ ρ := fun _ h => .inl h
theorem Fine.no {H : Hp} {ρ ρ' : List Addr} (f : Fine H ρ ρ') {a : Addr} {o : HO} (e : H a = some o) (h : a ∉ ρ) : a ∉ ρ' := fun z => by
  rcases f a z with z | z
  · exact h z
  · rw [e] at z; cases z
section
variable {K : PySem.W.Frag} {mg : Str → Option Value} {ρ ρ' ι ι' : List Addr} {H H' : Hp}
theorem ScL.fine {a xs} (f : Fine H ρ ρ') (h : ScL ⟨K, mg, ρ⟩ H ι a xs) : ScL ⟨K, mg, ρ'⟩ H ι a xs := by
  rcases h with ⟨r, m, n⟩ | h
  · refine .inl ⟨r, m, ?_⟩
    rcases id r with r | ⟨_, r⟩ <;> exact f.no r n
  · exact .inr h
theorem FzT.fine {a xs} (f : Fine H ρ ρ') (h : FzT ⟨K, mg, ρ⟩ H ι a xs) : FzT ⟨K, mg, ρ'⟩ H ι a xs := by
  rcases h with ⟨r, m, n⟩ | h
  · refine .inl ⟨r, m, ?_⟩
    rcases id r with r | ⟨_, r⟩ <;> exact f.no r n
  · exact .inr h
mutual
theorem VR.fine (f : Fine H ρ ρ') : ∀ {d : D} {v : V}, VR ⟨K, mg, ρ⟩ H ι d v → VR ⟨K, mg, ρ'⟩ H ι d v
  | .non, _, h => h
  | .bl _, _, h => h
  | .int _, _, h => h
  | .str _, _, h => h
  | .ty _, _, h => h
  | .ref _, _, h => h
  | .tup _, _, ⟨a, xs, e, h, r⟩ => ⟨a, xs, e, h.fine f, VRs.fine f r⟩
  | .sc _, _, ⟨a, xs, e, h, r⟩ => ⟨a, xs, e, h.fine f, VRs.fine f r⟩
  | .fz _, _, ⟨a, xs, e, h, m, r⟩ => ⟨a, xs, e, h, ⟨m.1, f.no h m.2⟩, VRs.fine f r⟩
  | .fd _ _, _, ⟨a, fs, xs, e, h, m, e2, l, r⟩ => ⟨a, fs, xs, e, h, ⟨m.1, f.no h m.2⟩, e2, l, VRs.fine f r⟩
  | .obj _ _ _, _, ⟨a, C, dx, fs, xs, e, c, h, m, e2, l, r⟩ => ⟨a, C, dx, fs, xs, e, c, h, ⟨m.1, f.no h m.2⟩, e2, l, VRs.fine f r⟩
theorem VRs.fine (f : Fine H ρ ρ') : ∀ {ds : List D} {vs : List V}, VRs ⟨K, mg, ρ⟩ H ι ds vs → VRs ⟨K, mg, ρ'⟩ H ι ds vs
  | [], _, h => h
  | _ :: _, _, ⟨x, r, e, h, t⟩ => ⟨x, r, e, VR.fine f h, VRs.fine f t⟩
end
theorem VEnv.fine {env σ} (f : Fine H ρ ρ') (h : VEnv ⟨K, mg, ρ⟩ H ι env σ) : VEnv ⟨K, mg, ρ'⟩ H ι env σ :=
  ⟨h.1, fun i d e => let ⟨v, a, b⟩ := h.2 i d e; ⟨v, a, b.fine f⟩⟩
/-- what is set aside changes -/
theorem Step.scr {p : Addr} {o : HO} (s : Step ι H ι' H') (n : H p = none) : Step ι H ι' (upd H' p o) :=
  ⟨s.pre, fun a u m e => by rw [upd_ne (ne_of_none e n)]; exact s.rest a u m e⟩
end
section
variable {B : Bs} {ι : List Addr} {H : Hp} {st : Sto} {p : Addr} {o : HO}
theorem ScL.scr {a xs} (h : ScL (B.more p) H ι a xs) : ScL (B.more p) (upd H p o) ι a xs := by
  rcases h with ⟨r, m, n⟩ | h
  · have ne : a ≠ p := fun z => n (by rw [z]; exact List.mem_cons_self)
    refine .inl ⟨?_, m, n⟩
    rcases r with r | ⟨u, r⟩
    · exact .inl (by rw [upd_ne ne]; exact r)
    · exact .inr ⟨u, by rw [upd_ne ne]; exact r⟩
  · exact .inr h
theorem FzT.scr {a xs} (h : FzT (B.more p) H ι a xs) : FzT (B.more p) (upd H p o) ι a xs := by
  rcases h with ⟨r, m, n⟩ | h
  · have ne : a ≠ p := fun z => n (by rw [z]; exact List.mem_cons_self)
    refine .inl ⟨?_, m, n⟩
    rcases r with r | ⟨u, r⟩
    · exact .inl (by rw [upd_ne ne]; exact r)
    · exact .inr ⟨u, by rw [upd_ne ne]; exact r⟩
  · exact .inr h
theorem nep {a : Addr} (n : a ∉ (B.more p).ρ) : a ≠ p := fun z => n (by rw [z]; exact List.mem_cons_self)
mutual
theorem VR.scr : ∀ {d : D} {v : V}, VR (B.more p) H ι d v → VR (B.more p) (upd H p o) ι d v
  | .non, _, h => h
  | .bl _, _, h => h
  | .int _, _, h => h
  | .str _, _, h => h
  | .ty _, _, h => h
  | .ref _, _, h => h
  | .tup _, _, ⟨a, xs, e, h, r⟩ => ⟨a, xs, e, h.scr, VRs.scr r⟩
  | .sc _, _, ⟨a, xs, e, h, r⟩ => ⟨a, xs, e, h.scr, VRs.scr r⟩
  | .fz _, _, ⟨a, xs, e, h, m, r⟩ => ⟨a, xs, e, by rw [upd_ne (nep m.2)]; exact h, m, VRs.scr r⟩
  | .fd _ _, _, ⟨a, fs, xs, e, h, m, e2, l, r⟩ => ⟨a, fs, xs, e, by rw [upd_ne (nep m.2)]; exact h, m, e2, l, VRs.scr r⟩
  | .obj _ _ _, _, ⟨a, C, dx, fs, xs, e, c, h, m, e2, l, r⟩ => ⟨a, C, dx, fs, xs, e, c, by rw [upd_ne (nep m.2)]; exact h, m, e2, l, VRs.scr r⟩
theorem VRs.scr : ∀ {ds : List D} {vs : List V}, VRs (B.more p) H ι ds vs → VRs (B.more p) (upd H p o) ι ds vs
  | [], _, h => h
  | _ :: _, _, ⟨x, r, e, h, t⟩ => ⟨x, r, e, VR.scr h, VRs.scr t⟩
end
theorem Sim.scr (S : Sim (B.more p) H ι st) : Sim (B.more p) (upd H p o) ι st := by
  refine ⟨S.len, S.nd, fun n ob e => ?_, fun b hb => ?_⟩
  · obtain ⟨b, hb, q⟩ := S.ob n ob e
    have nb : b ≠ p := fun z => (S.rs p List.mem_cons_self).2 (by rw [← z]; exact List.mem_of_getElem? hb)
    exact ⟨b, hb, q.stays (fun u z => by rw [upd_ne nb]; exact z) fun ds xs r => r.scr⟩
  · by_cases hp : b = p
    · subst hp; exact ⟨⟨o, upd_same⟩, (S.rs b hb).2⟩
    · exact ⟨by rw [upd_ne hp]; exact (S.rs b hb).1, (S.rs b hb).2⟩
end

/-! ### what is walked -/
structure ItOk (B : Bs) (J : It) (ι1 : List Addr) (H1 : Hp) (keep : Sto → Bool) (ds : List D) : Prop where
  go : ∀ ρ' (i : Nat) ι' H' st', Fine H1 B.ρ ρ' → Step ι1 H1 ι' H' → Sim ⟨B.K, B.mg, ρ'⟩ H' ι' st' → keep st' = true → i < ds.length → J.go i H'
  yld : ∀ ρ' (i : Nat) d ι' H' st' v H'', Fine H1 B.ρ ρ' → Step ι1 H1 ι' H' → Sim ⟨B.K, B.mg, ρ'⟩ H' ι' st' → keep st' = true → ds[i]? = some d → J.yld i H' v H'' → Step ι' H' ι' H'' ∧ Sim ⟨B.K, B.mg, ρ'⟩ H'' ι' st' ∧ VR ⟨B.K, B.mg, ρ'⟩ H'' ι' d v
  stop : ∀ ρ' (i : Nat) ι' H' st', Fine H1 B.ρ ρ' → Step ι1 H1 ι' H' → Sim ⟨B.K, B.mg, ρ'⟩ H' ι' st' → keep st' = true → ds.length ≤ i → J.stop i H'
abbrev DI := Env → Sto → Res (List D × (Sto → Bool))
/-- an iterator over the items that stand there now; what was said of it is told from the heap where it is made -/
def relI : Rel (List D × (Sto → Bool)) It := ⟨fun B _ _ H ι st a J => ItOk B J ι H a.2 a.1 ∧ a.2 st = true, fun _ h => h⟩
def PId (X : Cx) (W : WX) (tg it : Expr) (di : DI) : Prop := PI X tg it (tG X.K X.mg relI W di)
theorem PI.mono {X : Cx} {tg it : Expr} {w w' : TI} (h : PI X tg it w) (k : ∀ σ H R, w' σ H R → w σ H R) : PI X tg it w' := ⟨fun p s σ H R I q => h.run p s σ H R I (k σ H R q)⟩
def yes : Sto → Bool := fun _ => true
section
variable {X : Cx} {W : WX} {tg e : Expr} {es : List Expr} {da : DE} {ds : DA} {pos p : Pos}
/-- over a list or tuple -/
def dItems (da : DE) : DI := fun env st => (da env st).bind fun x st1 => match x with
  | .fz ds => .ok (ds, yes) st1
  | .sc ds => .ok (ds, yes) st1
  | _ => .bad
def dItemsT (da : DE) : DI := fun env st => (da env st).bind fun x st1 => match x with
  | .tup ds => .ok (ds, yes) st1
  | _ => .bad
theorem itl_ok {B : Bs} {ι1 : List Addr} {H1 : Hp} {a : Addr} {xs : List V} {ds : List D} (h : ScL B H1 ι1 a xs ∨ (H1 a = some (.lst xs) ∧ a ∉ ι1 ∧ a ∉ B.ρ)) (r : VRs B H1 ι1 ds xs) : ItOk B (Itl B.K a) ι1 H1 yes ds := by
  have key : ∀ ι' H', Step ι1 H1 ι' H' → SqL B.K H' a xs := fun ι' H' s => by
    rcases h with h | ⟨h, m, _⟩
    · exact (h.step s).sq
    · exact SqL.of (s.rest _ _ m h)
  have l := r.length
  refine ⟨fun ρ' i ι' H' st' f s S k hi => ?_, fun ρ' i d ι' H' st' v H'' f s S k hd y => ?_, fun ρ' i ι' H' st' f s S k hi => ⟨xs, key ι' H' s, by omega⟩⟩
  · obtain ⟨v, hv, _⟩ := r.get (List.getElem?_eq_getElem hi)
    exact ⟨xs, v, key ι' H' s, hv⟩
  · obtain ⟨e, y⟩ := y
    subst e
    obtain ⟨w, hw, vr⟩ := r.get hd
    have : v = w := Option.some.inj ((y xs (key ι' _ s)).symm.trans hw)
    subst this
    exact ⟨Step.refl _ _, S, (vr.fine f).step s⟩
theorem pid_list (ha : PEd X W e da) : PId X W tg e (dItems da) := PI.mono (pi_list ha) fun σ H R ⟨ρ, ι, st, env, S, ve, p⟩ => ⟨ρ, ι, st, env, S, ve, Post.bind p fun x st1 ι1 H1 v s1 S1 rx p1 => by
  cases x <;> (try exact p1.elim)
  · obtain ⟨a, xs, rfl, h, m, r⟩ := rx
    exact ⟨a, rfl, ⟨xs, SqL.of h⟩, p1.ok S1 ⟨itl_ok (B := ⟨X.K, X.mg, ρ⟩) (.inr ⟨h, m⟩) r, rfl⟩⟩
  · obtain ⟨a, xs, rfl, h, r⟩ := rx
    exact ⟨a, rfl, ⟨xs, h.sq⟩, p1.ok S1 ⟨itl_ok (B := ⟨X.K, X.mg, ρ⟩) (.inl h) r, rfl⟩⟩⟩
theorem itt_ok {B : Bs} {ι1 : List Addr} {H1 : Hp} {a : Addr} {xs : List V} {ds : List D} (h : FzT B H1 ι1 a xs) (r : VRs B H1 ι1 ds xs) : ItOk B (Itt B.K a) ι1 H1 yes ds := by
  have key : ∀ ι' H', Step ι1 H1 ι' H' → SqT B.K H' a xs := fun ι' H' s => (h.step s).sq
  have l := r.length
  refine ⟨fun ρ' i ι' H' st' f s S k hi => ?_, fun ρ' i d ι' H' st' v H'' f s S k hd y => ?_, fun ρ' i ι' H' st' f s S k hi => ⟨xs, key ι' H' s, by omega⟩⟩
  · obtain ⟨v, hv, _⟩ := r.get (List.getElem?_eq_getElem hi)
    exact ⟨xs, v, key ι' H' s, hv⟩
  · obtain ⟨e, y⟩ := y
    subst e
    obtain ⟨w, hw, vr⟩ := r.get hd
    have : v = w := Option.some.inj ((y xs (key ι' _ s)).symm.trans hw)
    subst this
    exact ⟨Step.refl _ _, S, (vr.fine f).step s⟩
theorem pid_tup (ha : PEd X W e da) : PId X W tg e (dItemsT da) := PI.mono (pi_tup ha) fun σ H R ⟨ρ, ι, st, env, S, ve, p⟩ => ⟨ρ, ι, st, env, S, ve, Post.bind p fun x st1 ι1 H1 v s1 S1 rx p1 => by
  cases x <;> (try exact p1.elim)
  obtain ⟨a, xs, rfl, h, r⟩ := rx
  exact ⟨a, rfl, ⟨xs, h.sq⟩, p1.ok S1 ⟨itt_ok (B := ⟨X.K, X.mg, ρ⟩) h r, rfl⟩⟩⟩
/-- the signs of a text -/
def signs (x : Str) : List D := x.cps.toList.map fun c => .str ⟨#[c]⟩
def dSigns (da : DE) : DI := fun env st => (da env st).bind fun x st1 => match x with
  | .str x => .ok (signs x, yes) st1
  | _ => .bad
theorem its_ok {B : Bs} {ι1 : List Addr} {H1 : Hp} {x : Str} : ItOk B (Its x) ι1 H1 yes (signs x) := by
  refine ⟨fun ρ' i ι' H' st' f s S k hi => ?_, fun ρ' i d ι' H' st' v H'' f s S k hd y => ?_, fun ρ' i ι' H' st' f s S k hi => ?_⟩
  · show i < x.cps.size
    simpa [signs] using hi
  · obtain ⟨e, c, hc, rfl⟩ := y
    subst e
    have : d = .str ⟨#[c]⟩ := by
      unfold signs at hd
      rw [List.getElem?_map] at hd
      rw [Array.getElem?_toList, hc] at hd
      cases hd; rfl
    subst this
    exact ⟨Step.refl _ _, S, rfl⟩
  · show x.cps.size ≤ i
    simpa [signs] using hi
theorem pid_str (ha : PEd X W e da) : PId X W tg e (dSigns da) := PI.mono (pi_str ha) fun σ H R ⟨ρ, ι, st, env, S, ve, p⟩ => ⟨ρ, ι, st, env, S, ve, Post.bind p fun x st1 ι1 H1 v s1 S1 rx p1 => by
  cases x <;> (try exact p1.elim)
  cases rx
  exact ⟨_, rfl, p1.ok S1 ⟨its_ok, rfl⟩⟩⟩
/-- range -/
def intsD (lo : Int) (n : Nat) : List D := (List.range n).map fun i => .int (lo + (i : Nat))
/-- sealed: the kernel is not to reckon with 2 ^ 62 -/
theorem x_rg62 : ∃ f : Int → Bool, f = fun j => decide (-(2 ^ 62) ≤ j ∧ j < 2 ^ 62) := ⟨_, rfl⟩
noncomputable def rg62 : Int → Bool := x_rg62.choose
theorem rg62_of {j : Int} (h : rg62 j = true) : -(2 ^ 62) ≤ j ∧ j < 2 ^ 62 := by
  have e : rg62 = fun j => decide (-(2 ^ 62) ≤ j ∧ j < 2 ^ 62) := x_rg62.choose_spec
  rw [e] at h; exact of_decide_eq_true h
theorem rg62_to {j : Int} (h : -(2 ^ 62) ≤ j ∧ j < 2 ^ 62) : rg62 j = true := by
  have e : rg62 = fun j => decide (-(2 ^ 62) ≤ j ∧ j < 2 ^ 62) := x_rg62.choose_spec
  rw [e]; exact decide_eq_true h
noncomputable def dRange1 (ds : DA) : DI := fun env st => (ds env st).bind fun xs st1 => match xs with
  | [.int j] => if rg62 j = true then .ok (intsD 0 j.toNat, yes) st1 else .bad
  | _ => .bad
noncomputable def dRange2 (ds : DA) : DI := fun env st => (ds env st).bind fun xs st1 => match xs with
  | [.int i, .int j] => if rg62 i = true ∧ rg62 j = true then .ok (intsD i (j - i).toNat, yes) st1 else .bad
  | _ => .bad
theorem itr_ok {B : Bs} {ι1 : List Addr} {H1 : Hp} {lo : Int} {n : Nat} : ItOk B (Itr lo n) ι1 H1 yes (intsD lo n) := by
  refine ⟨fun ρ' i ι' H' st' f s S k hi => ?_, fun ρ' i d ι' H' st' v H'' f s S k hd y => ?_, fun ρ' i ι' H' st' f s S k hi => ?_⟩
  · show i < n
    simpa [intsD] using hi
  · obtain ⟨e, rfl⟩ := y
    subst e
    have : d = .int (lo + (i : Nat)) := by
      unfold intsD at hd
      rw [List.getElem?_map] at hd
      have hi : i < n := by
        have := (List.getElem?_eq_some_iff (l := List.map (fun i => D.int (lo + (i : Nat))) (List.range n))).mp (by rw [List.getElem?_map]; exact hd)
        obtain ⟨h, _⟩ := this
        simpa using h
      rw [List.getElem?_range hi] at hd
      cases hd; rfl
    subst this
    exact ⟨Step.refl _ _, S, rfl⟩
  · show n ≤ i
    simpa [intsD] using hi
theorem vr1 {B H ι} {d : D} {vs : List V} (h : VRs B H ι [d] vs) : ∃ v, vs = [v] ∧ VR B H ι d v := by
  obtain ⟨x, r, rfl, h, t⟩ := h
  cases t
  exact ⟨x, rfl, h⟩
theorem vr2 {B H ι} {d e : D} {vs : List V} (h : VRs B H ι [d, e] vs) : ∃ v w, vs = [v, w] ∧ VR B H ι d v ∧ VR B H ι e w := by
  obtain ⟨x, r, rfl, h, t⟩ := h
  obtain ⟨w, rfl, k⟩ := vr1 t
  exact ⟨x, w, rfl, h, k⟩
theorem pid_range1 {a : Expr} (hg : Gl X "range") (hm : X.mg "range" = none) (ha : PAd X W [a] ds) (hs : starEach [a] X.env = [(false, eval a X.env)] := by rfl) : PId X W tg (.Call (.Name "range" p) [a] [] pos) (dRange1 ds) :=
  PI.mono (pi_range1 hg hm ha hs) fun σ H R ⟨ρ, ι, st, env, S, ve, p⟩ => ⟨ρ, ι, st, env, S, ve, Post.bind p fun xs st1 ι1 H1 v s1 S1 rx p1 => by
    split at p1
    · rename_i j
      split at p1
      · rename_i hb
        obtain ⟨v, rfl, h⟩ := vr1 rx
        cases h
        exact ⟨j, rfl, (rg62_of hb).1, (rg62_of hb).2, p1.ok S1 ⟨itr_ok, rfl⟩⟩
      · exact p1.elim
    · exact p1.elim⟩
theorem pid_range2 {a b : Expr} (hg : Gl X "range") (hm : X.mg "range" = none) (ha : PAd X W [a, b] ds) (hs : starEach [a, b] X.env = [(false, eval a X.env), (false, eval b X.env)] := by rfl) (hs2 : starEach [b] X.env = [(false, eval b X.env)] := by rfl) : PId X W tg (.Call (.Name "range" p) [a, b] [] pos) (dRange2 ds) :=
  PI.mono (pi_range2 hg hm ha hs hs2) fun σ H R ⟨ρ, ι, st, env, S, ve, p⟩ => ⟨ρ, ι, st, env, S, ve, Post.bind p fun xs st1 ι1 H1 v s1 S1 rx p1 => by
    split at p1
    · rename_i i j
      split at p1
      · rename_i hb
        obtain ⟨v, w, rfl, h, k⟩ := vr2 rx
        cases h
        cases k
        exact ⟨i, j, rfl, ⟨(rg62_of hb.1).1, (rg62_of hb.1).2, (rg62_of hb.2).1, (rg62_of hb.2).2⟩, p1.ok S1 ⟨itr_ok, rfl⟩⟩
      · exact p1.elim
    · exact p1.elim⟩
end

/-! ### for -/
def loop (g : DG) (d : DS) (keep : Sto → Bool) : List D → Env → Sto → ResS
  | [], env, st => if keep st = true then .nx env st else .bad
  | x :: r, env, st => if keep st = true then (match g x env with
    | none => .bad
    | some env1 => match d env1 st with
      | .nx env2 st2 => loop g d keep r env2 st2
      | .ct env2 st2 => loop g d keep r env2 st2
      | .bk env2 st2 => .nx env2 st2
      | res => res) else .bad
def dFor (di : DI) (g : DG) (d : DS) : DS := fun env st => (di env st).bindS env fun a st1 => loop g d a.2 a.1 env st1
theorem psd_for {X : Cx} {W : WX} {tg iter : Expr} {body : List Stmt} {di : DI} {g : DG} {G : TG} {ix : List Nat} {d : DS} {pos : Pos} (hp : PassesOwn (model X.prog X.w) X.A X.env X.xe) (hc : X.calm = true) (hi : PId X W tg iter di) (hg : PG X tg G) (gs : GS X.K X.mg G ix g) (hb : PSsd X W body d)
    (hs : ∀ x, foldedSetIterable iter X.env x = pure x := by intro _; rfl) : PSd X W (.For tg iter body [] pos) (dFor di g d) := by
  refine PS.mono (ps_for hp hc hi hg hb hs) fun E σ H ⟨ρ, ι, st, env, S, ve, p⟩ => ⟨ρ, ι, st, env, S, ve, PostS.bind ve p fun a st1 ι1 H1 J s1 S1 rx p1 => ?_⟩
  obtain ⟨ds, keep⟩ := a
  obtain ⟨io, k0⟩ := rx
  refine ⟨fun i m σ' H' => i + m = ds.length ∧ ∃ ι' st' env', Step ι1 H1 ι' H' ∧ Sim ⟨X.K, X.mg, ρ⟩ H' ι' st' ∧ VEnv ⟨X.K, X.mg, ρ⟩ H' ι' env' σ' ∧ PostS ⟨X.K, X.mg, ρ⟩ W E σ' ι' H' (loop g d keep (ds.drop i) env' st'),
    ⟨ds.length, by omega, ι1, st1, env, Step.refl _ _, S1, ve.step s1, p1⟩, ?_⟩
  rintro i m σ' H' ⟨em, ι', st', env', s', S', ve', p'⟩
  by_cases hi : i < ds.length
  · rw [List.drop_eq_getElem_cons hi] at p'
    unfold loop at p'
    by_cases hk : keep st' = true
    · simp only [hk, if_true] at p'
      refine .inr ⟨io.go ρ i ι' H' st' (Fine.refl _ _) s' S' hk hi, fun σ2 H2 => ∃ ι2 st2 env2, Step ι1 H1 ι2 H2 ∧ Sim ⟨X.K, X.mg, ρ⟩ H2 ι2 st2 ∧ VEnv ⟨X.K, X.mg, ρ⟩ H2 ι2 env2 σ2 ∧ PostS ⟨X.K, X.mg, ρ⟩ W E σ2 ι2 H2 (loop g d keep (ds.drop (i + 1)) env2 st2),
        fun σ2 H2 ⟨ι2, st2, env2, s2, S2, ve2, p2⟩ => ⟨m - 1, by omega, by omega, ι2, st2, env2, s2, S2, ve2, p2⟩, fun x H'' hy => ?_⟩
      obtain ⟨s3, S3, vr⟩ := io.yld ρ i ds[i] ι' H' st' x H'' (Fine.refl _ _) s' S' hk (List.getElem?_eq_getElem hi) hy
      have S3 : Sim ⟨X.K, X.mg, ρ⟩ H'' ι' st' := S3
      cases q : g ds[i] env' with
      | none => rw [q] at p'; exact p'.elim
      | some env1 =>
        rw [q] at p'
        simp only [] at p'
        refine gs S3 (ve'.step s3) vr q fun σ4 ve4 _ => ⟨ρ, ι', st', env1, S3, ve4, ?_⟩
        have s4 := s'.trans s3
        have p' := PostS.step (σ' := σ4) s3 p'
        cases q2 : d env1 st' with
        | nx e2 st2 =>
          rw [q2] at p'
          exact fun ι5 H5 σ5 s5 S5 ve5 => ⟨ι5, st2, e2, s4.trans s5, S5, ve5, PostS.step s5 p'⟩
        | ct e2 st2 =>
          rw [q2] at p'
          exact fun ι5 H5 σ5 s5 S5 ve5 => ⟨ι5, st2, e2, s4.trans s5, S5, ve5, PostS.step s5 p'⟩
        | bk e2 st2 => rw [q2] at p'; exact p'
        | rt y st2 => rw [q2] at p'; exact p'
        | exc y e2 st2 => rw [q2] at p'; exact p'
        | bad => rw [q2] at p'; exact p'
    · simp only [hk, if_false] at p'; exact p'.elim
  · have e : ds.drop i = [] := List.drop_eq_nil_of_le (by omega)
    rw [e] at p'
    unfold loop at p'
    by_cases hk : keep st' = true
    · simp only [hk, if_true] at p'
      exact .inl ⟨io.stop ρ i ι' H' st' (Fine.refl _ _) s' S' hk (Nat.le_of_not_lt hi), p' ι' H' σ' (Step.refl _ _) S' ve'⟩
    · simp only [hk, if_false] at p'; exact p'.elim
end DD

/-! DD7: comprehensions, while. -/
namespace DD
open PySem L2 PyProof.Rows

theorem wipe_get {σ : L2.St} : ∀ {vs : List Nat} {j : Nat}, (wipe σ vs)[j]? = if j ∈ vs then (if j < σ.length then some none else none) else σ[j]?
  | [], j => by simp [wipe]
  | v :: vs, j => by
    unfold wipe
    by_cases h : v = j
    · subst h
      simp only [List.mem_cons_self, if_true]
      by_cases hl : v < σ.length
      · rw [List.getElem?_set_self (by rw [wipe_length]; exact hl), if_pos hl]
      · rw [List.getElem?_eq_none (by rw [List.length_set, wipe_length]; omega), if_neg hl]
    · rw [List.getElem?_set_ne h, wipe_get]
      have : j ∈ v :: vs ↔ j ∈ vs := by simp [show ¬ j = v from fun z => h z.symm]
      by_cases hm : j ∈ vs
      · rw [if_pos hm, if_pos (this.mpr hm)]
      · rw [if_neg hm, if_neg (fun z => hm (this.mp z))]
theorem wipe_off {σ σ' : L2.St} {vs ix : List Nat} (o : Off ix (wipe σ vs) σ') (h : ∀ j ∈ ix, j ∈ vs) : wipe σ' vs = wipe σ vs := by
  apply List.ext_getElem?
  intro j
  rw [wipe_get, wipe_get]
  have hl : σ'.length = σ.length := by rw [o.1, wipe_length]
  by_cases hm : j ∈ vs
  · rw [if_pos hm, if_pos hm, hl]
  · rw [if_neg hm, if_neg hm, o.2 j (fun z => hm (h j z)), wipe_get, if_neg hm]
def wipeE (vs : List Nat) (env : Env) : Env := vs.foldr (fun i e => e.set i none) env
/-- the turns of a comprehension -/
def lcLoop (g : DG) (t : DT) (de : DE) (keep : Sto → Bool) (env : Env) : List D → Sto → Res (List D)
  | [], st => if keep st = true then .ok [] st else .bad
  | x :: r, st => if keep st = true then (match g x env with
    | none => .bad
    | some env1 => match t env1 st with
      | .ok true st1 => match de env1 st1 with
        | .ok y st2 => (lcLoop g t de keep env r st2).bind fun ys st3 => .ok (y :: ys) st3
        | _ => .bad
      | .ok false st1 => lcLoop g t de keep env r st1
      | _ => .bad) else .bad
def dLc (di : DI) (g : DG) (t : DT) (de : DE) (vs : List Nat) : DA := fun env st => (di env st).bind fun a st1 => if a.1.length ≤ bigLine then lcLoop g t de a.2 (wipeE vs env) a.1 st1 else .bad
def dYes : DT := fun _ st => .ok true st
theorem Post.ok_id {α β : Type} {B : Bs} {R : Rel α β} {W : WX} {σ ι H Q} {r : Res α} (h : Post B R W σ ι H r Q) : Post B R W σ ι H (r.bind fun a st => .ok a st) Q := by
  cases r <;> exact h
theorem bind_assoc {α β γ : Type} (r : Res α) (f : α → Sto → Res β) (g : β → Sto → Res γ) : (r.bind f).bind g = r.bind fun a st => (f a st).bind g := by cases r <;> rfl
theorem lc_read {K : PySem.W.Frag} {mg : Str → Option Value} {W : WX} {g : DG} {G : TG} {ix vs : List Nat} {t : DT} {de : DE} {di : DI} (gs : GS K mg G ix g) (hix : ∀ j ∈ ix, j ∈ vs) {σ : L2.St} {H : Hp} {Q : VK} (h : tG K mg relL W (dLc di g t de vs) σ H Q) :
    tLc (tG K mg relI W di) G (tG K mg relB W0 t) (tG K mg relV W0 de) vs σ H Q := by
  obtain ⟨ρ, ι, st, env, S, ve, p⟩ := h
  refine ⟨ρ, ι, st, env, S, ve, Post.bind0 p fun a st1 ι1 H1 J s1 S1 rx p1 => ?_⟩
  obtain ⟨ds, keep⟩ := a
  obtain ⟨io, k0⟩ := rx
  intro Dd hD
  by_cases hz : ds.length ≤ bigLine
  case neg => simp only [hz, if_false] at p1; exact p1.elim
  simp only [hz, if_true] at p1
  have m1 : Dd ∉ ι1 := S1.fresh hD
  have hρ : Dd ∉ ρ := S1.fr hD
  have fine : Fine H1 ρ (Dd :: ρ) := fun a ha => by
    rcases List.mem_cons.mp ha with z | z
    · subst z; exact .inr hD
    · exact .inl z
  have hD0 : H Dd = none ∧ Dd ∉ ι := by
    have m0 : Dd ∉ ι := fun z => m1 (s1.mem z)
    refine ⟨?_, m0⟩
    cases q : H Dd with
    | none => rfl
    | some o => rw [s1.rest _ o m0 q] at hD; cases hD
  refine ⟨fun i m H' => i + m = ds.length ∧ ∃ ι' st' acc vs', Step ι1 H1 ι' H' ∧ Sim ((⟨K, mg, ρ⟩ : Bs).more Dd) H' ι' st' ∧ H' Dd = some (.lst vs') ∧ VRs ((⟨K, mg, ρ⟩ : Bs).more Dd) H' ι' acc vs' ∧ acc.length ≤ i ∧
      Post ⟨K, mg, ρ⟩ relL W σ ι H ((lcLoop g t de keep (wipeE vs env) (ds.drop i) st').bind fun ys st => .ok (acc ++ ys) st) Q,
    ⟨ds.length, by omega, ι1, st1, [], [], Step.new S1 hD, S1.reserve hD, upd_same, rfl, Nat.le_refl _, Post.ok_id p1⟩, ?_⟩
  rintro i m H' ⟨em, ι', st', acc, vs', s', S', hl, ra, la, p'⟩
  have ve0 : VEnv ((⟨K, mg, ρ⟩ : Bs).more Dd) H' ι' (wipeE vs env) (wipe σ vs) := VEnv.wipe (VEnv.step s' (VEnv.fine (K := K) (mg := mg) fine (ve.step s1)))
  by_cases hi : i < ds.length
  · rw [List.drop_eq_getElem_cons hi] at p'
    unfold lcLoop at p'
    by_cases hk : keep st' = true
    case neg => simp only [hk, if_false] at p'; exact p'.elim
    simp only [hk, if_true] at p'
    refine .inr ⟨io.go (Dd :: ρ) i ι' H' st' fine s' S' hk hi, fun H2 => ∃ ι2 st2 acc2 vs2, Step ι1 H1 ι2 H2 ∧ Sim ((⟨K, mg, ρ⟩ : Bs).more Dd) H2 ι2 st2 ∧ H2 Dd = some (.lst vs2) ∧ VRs ((⟨K, mg, ρ⟩ : Bs).more Dd) H2 ι2 acc2 vs2 ∧ acc2.length ≤ i + 1 ∧
      Post ⟨K, mg, ρ⟩ relL W σ ι H ((lcLoop g t de keep (wipeE vs env) (ds.drop (i + 1)) st2).bind fun ys st => .ok (acc2 ++ ys) st) Q,
      fun H2 ⟨ι2, st2, acc2, vs2, s2, S2, h2, r2, l2, p2⟩ => ⟨m - 1, by omega, by omega, ι2, st2, acc2, vs2, s2, S2, h2, r2, l2, p2⟩, fun x H'' hy => ?_⟩
    obtain ⟨s3, S3, vr⟩ := io.yld (Dd :: ρ) i ds[i] ι' H' st' x H'' fine s' S' hk (List.getElem?_eq_getElem hi) hy
    have S3 : Sim ⟨K, mg, Dd :: ρ⟩ H'' ι' st' := S3
    have mD : Dd ∉ ι' := (S'.rs Dd List.mem_cons_self).2
    have hl3 : H'' Dd = some (.lst vs') := s3.rest _ _ mD hl
    cases q : g ds[i] (wipeE vs env) with
    | none => rw [q] at p'; exact p'.elim
    | some env1 =>
      rw [q] at p'
      simp only [] at p'
      refine gs S3 (ve0.step s3) vr q fun σ4 ve4 off => ⟨wipe_off off hix, Dd :: ρ, ι', st', env1, S3, ve4, ?_⟩
      cases q2 : t env1 st' with
      | bad => rw [q2] at p'; exact p'.elim
      | exc y st2 => rw [q2] at p'; exact p'.elim
      | ok b st2 =>
        rw [q2] at p'
        intro ι5 H5 b' s5 S5 eb
        cases eb
        have s15 := (s'.trans s3).trans s5
        cases b with
        | false =>
          refine iteF ⟨ι5, st2, acc, vs', s15, S5, s5.rest _ _ mD hl3, (ra.step s3).step s5, by omega, p'⟩
        | true =>
          refine iteT ⟨Dd :: ρ, ι5, st2, env1, S5, ve4.step s5, ?_⟩
          simp only [] at p'
          cases q3 : de env1 st2 with
          | bad => rw [q3] at p'; exact p'.elim
          | exc y st3 => rw [q3] at p'; exact p'.elim
          | ok y st3 =>
            rw [q3] at p'
            intro ι6 H6 v6 s6 S6 r6
            have m5 : Dd ∉ ι5 := (S5.rs Dd List.mem_cons_self).2
            have hl6 : H6 Dd = some (.lst vs') := s6.rest _ _ m5 (s5.rest _ _ mD hl3)
            have ra6 := ((ra.step s3).step s5).step s6
            have lv := ra6.length
            have S6 : Sim ((⟨K, mg, ρ⟩ : Bs).more Dd) H6 ι6 st3 := S6
            refine ⟨vs', hl6, Nat.lt_of_le_of_lt (by omega : vs'.length ≤ ds.length) (big_lt hz), ι6, st3, acc ++ [y], vs' ++ [v6], (s15.trans s6).scr hD, S6.scr, upd_same, (ra6.append (VRs.one (B := (⟨K, mg, ρ⟩ : Bs).more Dd) r6)).scr, by simp; omega, ?_⟩
            simp only [bind_assoc, Res.bind_ok] at p'
            simpa only [List.append_assoc, List.singleton_append] using p'
  · have e : ds.drop i = [] := List.drop_eq_nil_of_le (by omega)
    rw [e] at p'
    unfold lcLoop at p'
    by_cases hk : keep st' = true
    case neg => simp only [hk, if_false] at p'; exact p'.elim
    simp only [hk, if_true, Res.bind_ok, List.append_nil] at p'
    refine .inl ⟨io.stop (Dd :: ρ) i ι' H' st' fine s' S' hk (Nat.le_of_not_lt hi), ?_⟩
    exact p' ι' H' (.ref Dd) (s1.trans s') S'.less ⟨Dd, vs', rfl, hl, hD0.1, hD0.2, hρ, ra, S'⟩
section
variable {X : Cx} {W : WX} {elt tg iter : Expr} {ifs : List Expr} {scope : Scope} {own : List (Str × Nat)} {pos spos : Pos} {g : DG} {G : TG} {ix : List Nat} {t : DT} {de : DE} {di : DI}
def PTsd (X : Cx) (W : WX) (ifs : List Expr) (t : DT) : Prop := PTs X ifs (tG X.K X.mg relB W t)
theorem ptsd_nil {X : Cx} {W : WX} : PTsd X W [] dYes := ⟨fun pins s σ H Q I ⟨ρ, ι, st, env, S, ve, p⟩ => pts_nil.run pins s σ H Q I (p.ok S rfl)⟩
theorem ptsd_one {X : Cx} {W : WX} {c : Expr} {t : DT} (h : PTd X W c t) : PTsd X W [c] t := pts_one h
theorem pld_lc0 (hc : X.calm = true) (hN : X.N.Nodup) (hi : PId X W tg iter di) (ok : BlkOk X.N X.env.scope scope own) (gs : GS X.K X.mg G ix g) (hix : ∀ j ∈ ix, j ∈ own.map (·.2))
    (hg : ∀ (s : Shared) (H : Hp) (C : Addr) (cl : List (Str × Addr)) (fp : List Addr), PG (X.blk s H scope (compEnvC scope cl C X.env) fp) tg G) (ht : ∀ (s : Shared) (H : Hp) (C : Addr) (cl : List (Str × Addr)) (fp : List Addr), PTsd (X.blk s H scope (compEnvC scope cl C X.env) fp) W0 ifs t)
    (he : ∀ (s : Shared) (H : Hp) (C : Addr) (cl : List (Str × Addr)) (fp : List Addr), PEd (X.blk s H scope (compEnvC scope cl C X.env) fp) W0 elt de) (hs : ∀ x, foldedSetIterable iter X.env x = pure x := by intro _; rfl) :
    PLd X W (.ListComp elt [⟨tg, iter, ifs, 0⟩] scope pos) (dLc di g t de (own.map (·.2))) :=
  PE.mono (pe_lc (tt := tG X.K X.mg relB W0 t) (te := tG X.K X.mg relV W0 de) hc hN hi ok hg ht he hs) fun _ _ _ h => lc_read gs hix h
theorem pld_lc {ixs : List Nat} (hc : X.calm = true) (hN : X.N.Nodup) (hi : PId X W tg iter di) (ok : BlkOk X.N X.env.scope scope own) (gs : GS X.K X.mg G ix g) (hix : ∀ j ∈ ix, j ∈ own.map (·.2))
    (hg : ∀ (s : Shared) (H : Hp) (C : Addr) (cl : List (Str × Addr)) (fp : List Addr), PG (X.blk s H scope (compEnvC scope cl C X.env) fp) tg G) (ht : ∀ (s : Shared) (H : Hp) (C : Addr) (cl : List (Str × Addr)) (fp : List Addr), PTsd (X.blk s H scope (compEnvC scope cl C X.env) fp) W0 ifs t)
    (he : ∀ (s : Shared) (H : Hp) (C : Addr) (cl : List (Str × Addr)) (fp : List Addr), PEd (X.blk s H scope (compEnvC scope cl C X.env) fp) W0 elt de) (hox : own.map (·.2) = ixs := by rfl) (hs : ∀ x, foldedSetIterable iter X.env x = pure x := by intro _; rfl) :
    PLd X W (.ListComp elt [⟨tg, iter, ifs, 0⟩] scope pos) (dLc di g t de ixs) := by subst hox; exact pld_lc0 hc hN hi ok gs hix hg ht he hs
/-- y = [..]: by value, or into the store -/
theorem psd_setLcFz0 {i : Nat} {y : Str} {py : Pos} (hy : X.N[i]? = some y) (hyl : X.env.scope.names.lookup y = some .local) (hsw : swapsWith (.ListComp elt [⟨tg, iter, ifs, 0⟩] scope pos) (some (.Name y py)) spos.line X.env = pure true)
    (hc : X.calm = true) (hN : X.N.Nodup) (hi : PId X W tg iter di) (ok : BlkOk X.N X.env.scope scope own) (gs : GS X.K X.mg G ix g) (hix : ∀ j ∈ ix, j ∈ own.map (·.2))
    (hg : ∀ (s : Shared) (H : Hp) (C : Addr) (cl : List (Str × Addr)) (fp : List Addr), PG (X.blk s H scope (compEnvC scope cl C X.env) fp) tg G) (ht : ∀ (s : Shared) (H : Hp) (C : Addr) (cl : List (Str × Addr)) (fp : List Addr), PTsd (X.blk s H scope (compEnvC scope cl C X.env) fp) W0 ifs t)
    (he : ∀ (s : Shared) (H : Hp) (C : Addr) (cl : List (Str × Addr)) (fp : List Addr), PEd (X.blk s H scope (compEnvC scope cl C X.env) fp) W0 elt de) (hs : ∀ x, foldedSetIterable iter X.env x = pure x := by intro _; rfl) :
    PSd X W (.Assign [.Name y py] (.ListComp elt [⟨tg, iter, ifs, 0⟩] scope pos) spos) (dSet i (dFz (dLc di g t de (own.map (·.2))))) :=
  PS.mono (ps_setLc (i := i) (tt := tG X.K X.mg relB W0 t) (te := tG X.K X.mg relV W0 de) hc hN hy hyl hsw hi ok hg ht he hs) fun E σ H ⟨ρ, ι, st, env, S, ve, p⟩ => lc_read gs hix ⟨ρ, ι, st, env, S, ve, by
    have p : PostS ⟨X.K, X.mg, ρ⟩ W E σ ι H ((dFz (dLc di g t de (own.map (·.2))) env st).bindS env fun x st1 => .nx (env.set i (some x)) st1) := p
    unfold dFz at p
    cases q : dLc di g t de (own.map (·.2)) env st with
    | bad => rw [q] at p; exact p.elim
    | exc x st1 => rw [q] at p; exact fun ι1 H1 c d s S1 ex => p ι1 H1 σ c d s S1 (ve.step s) ex
    | ok xs st1 =>
      rw [q] at p
      intro ι1 H1 v s S1 rx
      obtain ⟨a, ys, rfl, h1, h2, m, m', r, S2⟩ := rx
      exact p ι1 H1 _ s S1 (VEnv.set (d := .fz xs) (ve.step s) ⟨a, ys, rfl, h1, ⟨(S2.rs a List.mem_cons_self).2, m'⟩, r.less.1⟩)⟩
theorem psd_setLcFz {ixs : List Nat} {i : Nat} {y : Str} {py : Pos} (hy : X.N[i]? = some y) (hyl : X.env.scope.names.lookup y = some .local) (hsw : swapsWith (.ListComp elt [⟨tg, iter, ifs, 0⟩] scope pos) (some (.Name y py)) spos.line X.env = pure true)
    (hc : X.calm = true) (hN : X.N.Nodup) (hi : PId X W tg iter di) (ok : BlkOk X.N X.env.scope scope own) (gs : GS X.K X.mg G ix g) (hix : ∀ j ∈ ix, j ∈ own.map (·.2))
    (hg : ∀ (s : Shared) (H : Hp) (C : Addr) (cl : List (Str × Addr)) (fp : List Addr), PG (X.blk s H scope (compEnvC scope cl C X.env) fp) tg G) (ht : ∀ (s : Shared) (H : Hp) (C : Addr) (cl : List (Str × Addr)) (fp : List Addr), PTsd (X.blk s H scope (compEnvC scope cl C X.env) fp) W0 ifs t)
    (he : ∀ (s : Shared) (H : Hp) (C : Addr) (cl : List (Str × Addr)) (fp : List Addr), PEd (X.blk s H scope (compEnvC scope cl C X.env) fp) W0 elt de) (hox : own.map (·.2) = ixs := by rfl) (hs : ∀ x, foldedSetIterable iter X.env x = pure x := by intro _; rfl) :
    PSd X W (.Assign [.Name y py] (.ListComp elt [⟨tg, iter, ifs, 0⟩] scope pos) spos) (dSet i (dFz (dLc di g t de ixs))) := by subst hox; exact psd_setLcFz0 hy hyl hsw hc hN hi ok gs hix hg ht he hs
theorem psd_setLcNew0 {i : Nat} {y : Str} {py : Pos} (hy : X.N[i]? = some y) (hyl : X.env.scope.names.lookup y = some .local) (hsw : swapsWith (.ListComp elt [⟨tg, iter, ifs, 0⟩] scope pos) (some (.Name y py)) spos.line X.env = pure true)
    (hc : X.calm = true) (hN : X.N.Nodup) (hi : PId X W tg iter di) (ok : BlkOk X.N X.env.scope scope own) (gs : GS X.K X.mg G ix g) (hix : ∀ j ∈ ix, j ∈ own.map (·.2))
    (hg : ∀ (s : Shared) (H : Hp) (C : Addr) (cl : List (Str × Addr)) (fp : List Addr), PG (X.blk s H scope (compEnvC scope cl C X.env) fp) tg G) (ht : ∀ (s : Shared) (H : Hp) (C : Addr) (cl : List (Str × Addr)) (fp : List Addr), PTsd (X.blk s H scope (compEnvC scope cl C X.env) fp) W0 ifs t)
    (he : ∀ (s : Shared) (H : Hp) (C : Addr) (cl : List (Str × Addr)) (fp : List Addr), PEd (X.blk s H scope (compEnvC scope cl C X.env) fp) W0 elt de) (hs : ∀ x, foldedSetIterable iter X.env x = pure x := by intro _; rfl) :
    PSd X W (.Assign [.Name y py] (.ListComp elt [⟨tg, iter, ifs, 0⟩] scope pos) spos) (dSet i (dNew (dLc di g t de (own.map (·.2))))) :=
  PS.mono (ps_setLc (i := i) (tt := tG X.K X.mg relB W0 t) (te := tG X.K X.mg relV W0 de) hc hN hy hyl hsw hi ok hg ht he hs) fun E σ H ⟨ρ, ι, st, env, S, ve, p⟩ => lc_read gs hix ⟨ρ, ι, st, env, S, ve, by
    have p : PostS ⟨X.K, X.mg, ρ⟩ W E σ ι H ((dNew (dLc di g t de (own.map (·.2))) env st).bindS env fun x st1 => .nx (env.set i (some x)) st1) := p
    unfold dNew at p
    cases q : dLc di g t de (own.map (·.2)) env st with
    | bad => rw [q] at p; exact p.elim
    | exc x st1 => rw [q] at p; exact fun ι1 H1 c d s S1 ex => p ι1 H1 σ c d s S1 (ve.step s) ex
    | ok xs st1 =>
      rw [q] at p
      intro ι1 H1 v s S1 rx
      obtain ⟨a, ys, rfl, h1, h2, m, m', r, S2⟩ := rx
      obtain ⟨more, e1, f1⟩ := id s.pre
      have sT : Step ι H (ι1 ++ [a]) H1 := ⟨⟨more ++ [a], by rw [e1, List.append_assoc], fun b hb => by
        rcases List.mem_append.mp hb with z | z
        · exact f1 b z
        · have : b = a := by simpa using z
          subst this
          exact ⟨h2, m⟩⟩, s.rest⟩
      exact p (ι1 ++ [a]) H1 _ sT (S2.take m' h1 r) (VEnv.set (d := .ref st1.length) (ve.step sT) ⟨a, by rw [← S1.len, List.getElem?_append_right (by omega)]; simp, rfl⟩)⟩
theorem psd_setLcNew {ixs : List Nat} {i : Nat} {y : Str} {py : Pos} (hy : X.N[i]? = some y) (hyl : X.env.scope.names.lookup y = some .local) (hsw : swapsWith (.ListComp elt [⟨tg, iter, ifs, 0⟩] scope pos) (some (.Name y py)) spos.line X.env = pure true)
    (hc : X.calm = true) (hN : X.N.Nodup) (hi : PId X W tg iter di) (ok : BlkOk X.N X.env.scope scope own) (gs : GS X.K X.mg G ix g) (hix : ∀ j ∈ ix, j ∈ own.map (·.2))
    (hg : ∀ (s : Shared) (H : Hp) (C : Addr) (cl : List (Str × Addr)) (fp : List Addr), PG (X.blk s H scope (compEnvC scope cl C X.env) fp) tg G) (ht : ∀ (s : Shared) (H : Hp) (C : Addr) (cl : List (Str × Addr)) (fp : List Addr), PTsd (X.blk s H scope (compEnvC scope cl C X.env) fp) W0 ifs t)
    (he : ∀ (s : Shared) (H : Hp) (C : Addr) (cl : List (Str × Addr)) (fp : List Addr), PEd (X.blk s H scope (compEnvC scope cl C X.env) fp) W0 elt de) (hox : own.map (·.2) = ixs := by rfl) (hs : ∀ x, foldedSetIterable iter X.env x = pure x := by intro _; rfl) :
    PSd X W (.Assign [.Name y py] (.ListComp elt [⟨tg, iter, ifs, 0⟩] scope pos) spos) (dSet i (dNew (dLc di g t de ixs))) := by subst hox; exact psd_setLcNew0 hy hyl hsw hc hN hi ok gs hix hg ht he hs
/-- while: at most so many turns -/
def whileN (t : DT) (d : DS) : Nat → Env → Sto → ResS
  | 0, _, _ => .bad
  | n + 1, env, st => (t env st).bindS env fun k st1 => if k = true then (match d env st1 with
    | .nx env2 st2 => whileN t d n env2 st2
    | .ct env2 st2 => whileN t d n env2 st2
    | .bk env2 st2 => .nx env2 st2
    | r => r) else .nx env st1
theorem psd_while (n : Nat) {c : Expr} {body : List Stmt} {d : DS} (hp : PassesOwn (model X.prog X.w) X.A X.env X.xe) (hc : PTd X W c t) (hb : PSsd X W body d) : PSd X W (.While c body [] pos) (whileN t d n) :=
  PS.mono (ps_while hp hc hb) fun E σ H ⟨ρ, ι, st, env, S, ve, p⟩ => by
    refine ⟨fun m σ' H' => ∃ ι' st' env', Step ι H ι' H' ∧ Sim ⟨X.K, X.mg, ρ⟩ H' ι' st' ∧ VEnv ⟨X.K, X.mg, ρ⟩ H' ι' env' σ' ∧ PostS ⟨X.K, X.mg, ρ⟩ W E σ' ι' H' (whileN t d m env' st'), ⟨n, ι, st, env, Step.refl _ _, S, ve, p⟩, ?_⟩
    rintro m σ' H' ⟨ι', st', env', s', S', ve', p'⟩
    cases m with
    | zero => exact p'.elim
    | succ m =>
      refine ⟨ρ, ι', st', env', S', ve', PostS.bind ve' p' fun k st1 ι1 H1 v s1 S1 rx p1 => ?_⟩
      cases rx
      cases k with
      | false => exact iteF (p1 ι1 H1 σ' (Step.refl _ _) S1 (ve'.step s1))
      | true =>
        refine iteT ⟨fun σ2 H2 => ∃ ι2 st2 env2, Step ι H ι2 H2 ∧ Sim ⟨X.K, X.mg, ρ⟩ H2 ι2 st2 ∧ VEnv ⟨X.K, X.mg, ρ⟩ H2 ι2 env2 σ2 ∧ PostS ⟨X.K, X.mg, ρ⟩ W E σ2 ι2 H2 (whileN t d m env2 st2), fun σ2 H2 h => ⟨m, by omega, h⟩, ρ, ι1, st1, env', S1, ve'.step s1, ?_⟩
        simp only [if_true] at p1
        have s4 := s'.trans s1
        cases q2 : d env' st1 with
        | nx e2 st2 =>
          rw [q2] at p1
          exact fun ι5 H5 σ5 s5 S5 ve5 => ⟨ι5, st2, e2, s4.trans s5, S5, ve5, PostS.step s5 p1⟩
        | ct e2 st2 =>
          rw [q2] at p1
          exact fun ι5 H5 σ5 s5 S5 ve5 => ⟨ι5, st2, e2, s4.trans s5, S5, ve5, PostS.step s5 p1⟩
        | bk e2 st2 => rw [q2] at p1; exact p1
        | rt y st2 => rw [q2] at p1; exact p1
        | exc y e2 st2 => rw [q2] at p1; exact p1
        | bad => rw [q2] at p1; exact p1
end
end DD

/-! DD8: built-ins, methods, slices, fields, objects made, == of data. -/
namespace DD
open PySem L2 PyProof.Rows

section
variable {K : PySem.W.Frag} {mg : Str → Option Value}
/-! ### len -/
def lenD : D → Sto → Option Nat
  | .str x, _ => if x.length ≤ bigLine then some x.length else none
  | .tup ds, _ => some ds.length
  | .fz ds, _ => some ds.length
  | .sc ds, _ => some ds.length
  | .ref n, st => match st[n]? with
    | some (.lst ds) => some ds.length
    | _ => none
  | _, _ => none
def fLen : FC := fun xs st => match xs with
  | [x] => match lenD x st with
    | some n => .ok (.int n) st
    | none => .bad
  | _ => .bad
theorem rc_len : RC K mg (fun xs H Q => ∃ x n, xs = [x] ∧ LenV K x H n ∧ Q (.int n) H) fLen := by
  intro ρ ι H st xs vs W σ Q S r p
  unfold fLen at p
  split at p
  · rename_i x
    obtain ⟨v, rfl, h⟩ := vr1 r
    split at p
    · rename_i n e
      refine ⟨v, n, rfl, ?_, p.ok S rfl⟩
      cases x with
      | str x =>
        cases h
        simp only [lenD] at e
        split at e
        · rename_i hl; cases e; exact ⟨big_le hl, rfl⟩
        · cases e
      | tup ds => obtain ⟨a, ys, rfl, h1, r1⟩ := h; cases e; exact .inr ⟨ys, h1.sq, r1.length⟩
      | fz ds => obtain ⟨a, ys, rfl, h1, n1, r1⟩ := h; cases e; exact .inl ⟨ys, SqL.of h1, r1.length⟩
      | sc ds => obtain ⟨a, ys, rfl, h1, r1⟩ := h; cases e; exact .inl ⟨ys, h1.sq, r1.length⟩
      | ref m =>
        obtain ⟨a, ha, rfl⟩ := h
        simp only [lenD] at e
        split at e
        · rename_i ds q
          cases e
          obtain ⟨ys, h1, r1⟩ := S.look q ha
          exact .inl ⟨ys, SqL.of h1, r1.length⟩
        · cases e
      | _ => cases e
    · exact p.elim
  · exact p.elim
/-! ### isinstance of a built-in type -/
def tyName : D → Sto → Option String
  | .non, _ => some "NoneType"
  | .bl _, _ => some "bool"
  | .int _, _ => some "int"
  | .str _, _ => some "str"
  | .tup _, _ => some "tuple"
  | .fz _, _ => some "list"
  | .sc _, _ => some "list"
  | .fd _ _, _ => some "dict"
  | .ref n, st => match st[n]? with
    | some (.lst _) => some "list"
    | some (.dct _ _) => some "dict"
    | _ => none
  | _, _ => none
theorem tyX_of {B : Bs} {H ι st} {d : D} {v : V} {T : String} (S : Sim B H ι st) (r : VR B H ι d v) (h : tyName d st = some T) : TyX B.K H v (.type T) := by
  cases d with
  | non => cases r; cases h; exact .base .non
  | bl _ => cases r; cases h; exact .base (.bl _)
  | int _ => cases r; cases h; exact .base (.int _)
  | str _ => cases r; cases h; exact .base (.str _)
  | tup ds =>
    obtain ⟨a, xs, rfl, h1, r1⟩ := r
    cases h
    rcases h1 with ⟨h1 | ⟨o, h1⟩, _⟩ | ⟨o, its, n, k, c, _⟩
    · exact .base (.tup h1)
    · exact .fTuple h1
    · exact .kTuple k c
  | fz ds => obtain ⟨a, xs, rfl, h1, n1, r1⟩ := r; cases h; exact .base (.lst h1)
  | sc ds =>
    obtain ⟨a, xs, rfl, h1, r1⟩ := r
    cases h
    rcases h1 with ⟨h1 | ⟨o, h1⟩, _⟩ | ⟨o, its, n, k, c, _⟩
    · exact .base (.lst h1)
    · exact .base (.frz h1)
    · exact .kList k c
  | fd ks ds => obtain ⟨a, kvs, xs, rfl, h1, n1, e, l, r1⟩ := r; cases h; exact .base (.dK h1)
  | ref n =>
    obtain ⟨a, ha, rfl⟩ := r
    simp only [tyName] at h
    split at h
    · rename_i ds e; cases h; obtain ⟨xs, h1, r1⟩ := S.look e ha; exact .base (.lst h1)
    · rename_i ks ds e; cases h; obtain ⟨kvs, xs, h1, _⟩ := S.look e ha; exact .base (.dK h1)
    · cases h
  | _ => cases h
def fIsi : FC := fun xs st => match xs with
  | [x, .ty T] => match tyName x st with
    | some n => match kitB n T with
      | some b => .ok (.bl b) st
      | none => .bad
    | none => .bad
  | _ => .bad
theorem rc_isi : RC K mg (rIsi K) fIsi := by
  intro ρ ι H st xs vs W σ Q S r p
  unfold fIsi at p
  split at p
  · rename_i x T
    obtain ⟨v, w, rfl, h, k⟩ := vr2 r
    cases k
    split at p
    · rename_i n e
      split at p
      · rename_i b eb
        exact ⟨v, .ty T, .type n, .type T, b, rfl, .ty T, tyX_of S h e, kit_ty eb, p.ok S rfl⟩
      · exact p.elim
    · exact p.elim
  · exact p.elim
/-! ### all, any -/
def blsOf : List D → Option (List Bool)
  | [] => some []
  | .bl b :: r => (blsOf r).map (b :: ·)
  | _ => none
theorem bls_of {B H ι} : ∀ {ds : List D} {bs : List Bool} {vs : List V}, blsOf ds = some bs → VRs B H ι ds vs → vs = bs.map V.bl
  | [], bs, vs, e, r => by cases e; cases r; rfl
  | d :: ds, bs, vs, e, ⟨x, t, e1, h, r⟩ => by
    subst e1
    cases d <;> (try (cases e))
    rename_i b
    cases h
    have e' : (blsOf ds).map (b :: ·) = some bs := e
    cases q : blsOf ds with
    | none => rw [q] at e'; cases e'
    | some cs => rw [q] at e'; cases e'; rw [bls_of q r]; rfl
def fAll : FC := fun xs st => match xs with
  | [.fz ds] => match blsOf ds with
    | some bs => .ok (.bl (bs.all id)) st
    | none => .bad
  | _ => .bad
def fAny : FC := fun xs st => match xs with
  | [.fz ds] => match blsOf ds with
    | some bs => .ok (.bl (bs.any id)) st
    | none => .bad
  | _ => .bad
theorem rc_all : RC K mg (rAll K) fAll := by
  intro ρ ι H st xs vs W σ Q S r p
  unfold fAll at p
  split at p
  · rename_i ds
    obtain ⟨v, rfl, a, ys, rfl, h1, n1, r1⟩ := vr1 r
    split at p
    · rename_i bs e
      have := bls_of e r1
      subst this
      exact ⟨a, bs, rfl, SqL.of h1, p.ok S rfl⟩
    · exact p.elim
  · exact p.elim
theorem rc_any : RC K mg (rAny K) fAny := by
  intro ρ ι H st xs vs W σ Q S r p
  unfold fAny at p
  split at p
  · rename_i ds
    obtain ⟨v, rfl, a, ys, rfl, h1, n1, r1⟩ := vr1 r
    split at p
    · rename_i bs e
      have := bls_of e r1
      subst this
      exact ⟨a, bs, rfl, SqL.of h1, p.ok S rfl⟩
    · exact p.elim
  · exact p.elim
/-! ### tuple(..), list(..) -/
def fTuple : FC := fun xs st => match xs with
  | [.fz ds] => .ok (.tup ds) st
  | [.sc ds] => .ok (.tup ds) st
  | [.tup ds] => .ok (.tup ds) st
  | [.ref n] => match st[n]? with
    | some (.lst ds) => .ok (.tup ds) st
    | _ => .bad
  | _ => .bad
def rTuple (K : PySem.W.Frag) : List V → Hp → VK → Prop := fun xs H Q => ∃ p ys, xs = [.ref p] ∧ ((SqL K H p ys ∧ ∀ l, H l = none → Q (.ref l) (upd H l (.tup ys))) ∨ (SqT K H p ys ∧ Q (.ref p) H))
theorem new_tup {B : Bs} {H ι st W σ Q} {ds : List D} {ys : List V} (S : Sim B H ι st) (r : VRs B H ι ds ys) (p : Post B relV W σ ι H (.ok (.tup ds) st) Q) : ∀ l, H l = none → Q (.ref l) (upd H l (.tup ys)) := fun l hl =>
  p.ok' (Step.new S hl) (S.new hl) ⟨l, ys, rfl, .inl ⟨.inl upd_same, S.fresh hl, S.fr hl⟩, r.step (Step.new S hl)⟩
theorem rc_tuple : RC K mg (rTuple K) fTuple := by
  intro ρ ι H st xs vs W σ Q S r p
  unfold fTuple at p
  split at p
  · obtain ⟨v, rfl, a, ys, rfl, h1, n1, r1⟩ := vr1 r
    exact ⟨a, ys, rfl, .inl ⟨SqL.of h1, new_tup S r1 p⟩⟩
  · obtain ⟨v, rfl, a, ys, rfl, h1, r1⟩ := vr1 r
    exact ⟨a, ys, rfl, .inl ⟨h1.sq, new_tup S r1 p⟩⟩
  · obtain ⟨v, rfl, h⟩ := vr1 r
    obtain ⟨a, ys, rfl, h1, r1⟩ := id h
    exact ⟨a, ys, rfl, .inr ⟨h1.sq, p.ok S h⟩⟩
  · obtain ⟨v, rfl, a, ha, rfl⟩ := vr1 r
    split at p
    · rename_i n ds e
      obtain ⟨ys, h1, r1⟩ := S.look e ha
      exact ⟨a, ys, rfl, .inl ⟨SqL.of h1, new_tup S r1 p⟩⟩
    · exact p.elim
  · exact p.elim
def itemsD : D → Sto → Option (List D)
  | .fz ds, _ => some ds
  | .sc ds, _ => some ds
  | .tup ds, _ => some ds
  | .ref n, st => match st[n]? with
    | some (.lst ds) => some ds
    | _ => none
  | _, _ => none
theorem items_of {B : Bs} {H ι st} {d : D} {v : V} {ds : List D} (S : Sim B H ι st) (r : VR B H ι d v) (h : itemsD d st = some ds) : ∃ a ys, v = .ref a ∧ (SqL B.K H a ys ∨ SqT B.K H a ys) ∧ VRs B H ι ds ys := by
  cases d with
  | fz ds => obtain ⟨a, ys, rfl, h1, n1, r1⟩ := r; cases h; exact ⟨a, ys, rfl, .inl (SqL.of h1), r1⟩
  | sc ds => obtain ⟨a, ys, rfl, h1, r1⟩ := r; cases h; exact ⟨a, ys, rfl, .inl h1.sq, r1⟩
  | tup ds => obtain ⟨a, ys, rfl, h1, r1⟩ := r; cases h; exact ⟨a, ys, rfl, .inr h1.sq, r1⟩
  | ref n =>
    obtain ⟨a, ha, rfl⟩ := r
    simp only [itemsD] at h
    split at h
    · rename_i ds e
      cases h
      obtain ⟨ys, h1, r1⟩ := S.look e ha
      exact ⟨a, ys, rfl, .inl (SqL.of h1), r1⟩
    · cases h
  | _ => cases h
theorem new_lst {B : Bs} {H ι st W σ Q} {ds : List D} {ys : List V} (S : Sim B H ι st) (r : VRs B H ι ds ys) (p : Post B relL W σ ι H (.ok ds st) Q) : ∀ l, H l = none → Q (.ref l) (upd H l (.lst ys)) := fun l hl =>
  p.ok' (Step.new S hl) (S.new hl) ⟨l, ys, rfl, upd_same, hl, S.fresh hl, S.fr hl, (r.more hl).step (Step.new S hl), S.reserve hl⟩
def fList : FL := fun xs st => match xs with
  | [x] => match itemsD x st with
    | some ds => .ok ds st
    | none => .bad
  | _ => .bad
theorem rcl_list : RCL K mg (fun xs H Q => ∃ p ys, xs = [.ref p] ∧ (SqL K H p ys ∨ SqT K H p ys) ∧ ∀ l, H l = none → Q (.ref l) (upd H l (.lst ys))) fList := by
  intro ρ ι H st xs vs W σ Q S r p
  unfold fList at p
  split at p
  · rename_i x
    obtain ⟨v, rfl, h⟩ := vr1 r
    split at p
    · rename_i ds e
      obtain ⟨a, ys, rfl, hs, r1⟩ := items_of S h e
      exact ⟨a, ys, rfl, hs, new_lst S r1 p⟩
    · exact p.elim
  · exact p.elim
/-! ### int, abs -/
def fInt : FC := fun xs st => match xs with
  | [.int i] => .ok (.int i) st
  | [.bl k] => .ok (.int (if k then 1 else 0)) st
  | _ => .bad
theorem rc_int : RC K mg (fun xs H Q => (∃ i, xs = [.int i] ∧ Q (.int i) H) ∨ ∃ k, xs = [.bl k] ∧ Q (.int (if k then 1 else 0)) H) fInt := by
  intro ρ ι H st xs vs W σ Q S r p
  unfold fInt at p
  split at p
  · obtain ⟨v, rfl, h⟩ := vr1 r; cases h; exact .inl ⟨_, rfl, p.ok S rfl⟩
  · obtain ⟨v, rfl, h⟩ := vr1 r; cases h; exact .inr ⟨_, rfl, p.ok S rfl⟩
  · exact p.elim
def fAbs : FC := fun xs st => match xs with
  | [.int i] => .ok (.int (if i < 0 then -i else i)) st
  | _ => .bad
theorem rc_abs : RC K mg (fun xs H Q => ∃ i, xs = [.int i] ∧ Q (.int (if i < 0 then -i else i)) H) fAbs := by
  intro ρ ι H st xs vs W σ Q S r p
  unfold fAbs at p
  split at p
  · obtain ⟨v, rfl, h⟩ := vr1 r; cases h; exact ⟨_, rfl, p.ok S rfl⟩
  · exact p.elim
end

/-! ### methods of built-in values -/
section
variable {X : Cx} {W : WX} {o e : Expr} {es : List Expr} {dx : DE} {ds : DA} {apos cpos : Pos} {T id : String} {name : Str} {r : V → List V → Hp → VK → Prop}
abbrev FM := D → List D → Sto → Res D
/-- a method by values: that the value is of the type is told, too -/
def RM (K : PySem.W.Frag) (mg : Str → Option Value) (T : String) (r : V → List V → Hp → VK → Prop) (f : FM) (ok : D → Sto → Bool) : Prop :=
  (∀ {ρ ι H st x v}, Sim ⟨K, mg, ρ⟩ H ι st → VR ⟨K, mg, ρ⟩ H ι x v → ok x st = true → tyV K T v H) ∧
  ∀ {ρ ι H st x v xs vs W σ} {Q : VK}, Sim ⟨K, mg, ρ⟩ H ι st → VR ⟨K, mg, ρ⟩ H ι x v → VRs ⟨K, mg, ρ⟩ H ι xs vs → Post ⟨K, mg, ρ⟩ relV W σ ι H (f x xs st) Q → r v vs H Q
def dMeth (ok : D → Sto → Bool) (f : FM) (dx : DE) (ds : DA) : DE := fun env st => (dx env st).bind fun x st1 => if ok x st1 = true then (ds env st1).bind fun xs st2 => f x xs st2 else .bad
theorem pd_bm {f : FM} {ok : D → Sto → Bool} (pa : PlainAttrs T) (slot : Slot T name id) (hty : typeOf (.builtin id) = pure (.type "method_descriptor")) (hm : MtR X id r) (hr : RM X.K X.mg T r f ok) (ho : PEd X W o dx) (ha : PAd X W (e :: es) ds)
    (hbase : attributeBase o name X.env (eval o X.env) = eval o X.env := by rfl)
    (hfew : ((backTo cpos (starEach (e :: es) X.env)).all (fun x => !x.1) && (backToKw cpos (keywordEach [] X.env)).all (fun x => x.1.isSome)
      && decide ((e :: es).length + ([] : List Keyword).length + (if ([] : List Keyword).isEmpty then 0 else 1) < 30)) = true := by rfl)
    (hline : (apos.endLine == cpos.line) = true := by rfl) (hs : starEach (e :: es) X.env = (false, eval e X.env) :: starEach es X.env := by rfl) (hplain : (backTo cpos (starEach es X.env)).any (·.1) = false := by rfl) :
    PEd X W (.Call (.Attribute o name apos) (e :: es) [] cpos) (dMeth ok f dx ds) :=
  PE.mono (pe_bm pa slot hty hm ho ha hbase hfew hline hs hplain) fun σ H Q ⟨ρ, ι, st, env, S, ve, p⟩ => ⟨ρ, ι, st, env, S, ve, Post.bind p fun x st1 ι1 H1 v s1 S1 rx p1 => by
    by_cases hk : ok x st1 = true
    · simp only [hk, if_true] at p1
      exact ⟨hr.1 S1 rx hk, ρ, ι1, st1, env, S1, ve.step s1, Post.bind p1 fun xs st2 ι2 H2 vs s2 S2 rxs p2 => hr.2 S2 (VR.step s2 rx) rxs p2⟩
    · simp only [hk, if_false] at p1; exact p1.elim⟩
theorem pd_bm0 {f : FM} {ok : D → Sto → Bool} (pa : PlainAttrs T) (slot : Slot T name id) (hty : typeOf (.builtin id) = pure (.type "method_descriptor")) (hm : MtR X id r) (hr : RM X.K X.mg T r f ok) (ho : PEd X W o dx)
    (hbase : attributeBase o name X.env (eval o X.env) = eval o X.env := by rfl) (hline : (apos.endLine == cpos.line) = true := by rfl) : PEd X W (.Call (.Attribute o name apos) [] [] cpos) (dMeth ok f dx dNil) :=
  PE.mono (pe_bm0 pa slot hty hm ho hbase hline) fun σ H Q ⟨ρ, ι, st, env, S, ve, p⟩ => ⟨ρ, ι, st, env, S, ve, Post.bind p fun x st1 ι1 H1 v s1 S1 rx p1 => by
    by_cases hk : ok x st1 = true
    · simp only [hk, if_true] at p1
      exact ⟨hr.1 S1 rx hk, hr.2 (xs := []) (vs := []) S1 rx rfl p1⟩
    · simp only [hk, if_false] at p1; exact p1.elim⟩
def isStr : D → Sto → Bool
  | .str _, _ => true
  | _, _ => false
theorem isStr_ty {K : PySem.W.Frag} {mg ρ ι H st} {x : D} {v : V} (S : Sim ⟨K, mg, ρ⟩ H ι st) (r : VR ⟨K, mg, ρ⟩ H ι x v) (h : isStr x st = true) : tyV K "str" v H := by
  cases x <;> (try (cases h))
  cases r
  rfl
def isLst : D → Sto → Bool
  | .ref n, st => match st[n]? with
    | some (.lst _) => true
    | _ => false
  | _, _ => false
theorem isLst_ty {K : PySem.W.Frag} {mg ρ ι H st} {x : D} {v : V} (S : Sim ⟨K, mg, ρ⟩ H ι st) (r : VR ⟨K, mg, ρ⟩ H ι x v) (h : isLst x st = true) : tyV K "list" v H := by
  cases x <;> (try (cases h))
  obtain ⟨a, ha, rfl⟩ := r
  simp only [isLst] at h
  split at h
  · rename_i n ds e
    obtain ⟨ys, h1, r1⟩ := S.look e ha
    exact .inl ⟨rfl, ys, SqL.of h1⟩
  · cases h
/-- xs.append(x) -/
def fAppend : FM := fun x xs st => match x, xs with
  | .ref n, [y] => match st[n]? with
    | some (.lst ds) => if ds.length ≤ bigLine then .ok .non (st.set n (.lst (ds ++ [y]))) else .bad
    | _ => .bad
  | _, _ => .bad
theorem rm_append : RM X.K X.mg "list" rAppend fAppend isLst := ⟨fun S r h => isLst_ty S r h, fun {ρ ι H st x v xs vs W σ} {Q} S r rs p => by
  unfold fAppend at p
  split at p
  · rename_i n y
    obtain ⟨a, ha, rfl⟩ := r
    obtain ⟨w, rfl, hw⟩ := vr1 rs
    split at p
    · rename_i ds e
      obtain ⟨ys, h1, r1⟩ := S.look e ha
      split at p
      · rename_i hl
        have s := Step.write ha (H := H) (o := .lst (ys ++ [w]))
        exact ⟨a, ys, w, rfl, rfl, h1, by rw [← r1.length]; exact big_lt hl, p.ok' s (S.write ha ⟨_, upd_same, (r1.append (VRs.one hw)).step s⟩) rfl⟩
      · exact p.elim
    · exact p.elim
  · exact p.elim⟩
def fClear : FM := fun x xs st => match x, xs with
  | .ref n, [] => match st[n]? with
    | some (.lst _) => .ok .non (st.set n (.lst []))
    | _ => .bad
  | _, _ => .bad
theorem rm_clear : RM X.K X.mg "list" rClear fClear isLst := ⟨fun S r h => isLst_ty S r h, fun {ρ ι H st x v xs vs W σ} {Q} S r rs p => by
  unfold fClear at p
  split at p
  · rename_i n
    obtain ⟨a, ha, rfl⟩ := r
    cases rs
    split at p
    · rename_i ds e
      obtain ⟨ys, h1, r1⟩ := S.look e ha
      have s := Step.write ha (H := H) (o := .lst [])
      exact ⟨a, ys, rfl, rfl, h1, p.ok' s (S.write ha ⟨[], upd_same, rfl⟩) rfl⟩
    · exact p.elim
  · exact p.elim⟩
/-- xs.extend(ys), ys another list -/
def fExtend : FM := fun x xs st => match x, xs with
  | .ref n, [.fz es] => match st[n]? with
    | some (.lst ds) => if ds.length + es.length ≤ bigLine then .ok .non (st.set n (.lst (ds ++ es))) else .bad
    | _ => .bad
  | _, _ => .bad
theorem rm_extend : RM X.K X.mg "list" rExtend fExtend isLst := ⟨fun S r h => isLst_ty S r h, fun {ρ ι H st x v xs vs W σ} {Q} S r rs p => by
  unfold fExtend at p
  split at p
  · rename_i n es
    obtain ⟨a, ha, rfl⟩ := r
    obtain ⟨w, rfl, b, zs, rfl, h2, m2, r2⟩ := vr1 rs
    split at p
    · rename_i ds e
      obtain ⟨ys, h1, r1⟩ := S.look e ha
      split at p
      · rename_i hl
        have s := Step.write ha (H := H) (o := .lst (ys ++ zs))
        exact ⟨a, b, ys, zs, rfl, rfl, h1, h2, by rw [← r1.length, ← r2.length]; exact big_le hl, p.ok' s (S.write ha ⟨_, upd_same, (r1.append r2).step s⟩) rfl⟩
      · exact p.elim
    · exact p.elim
  · exact p.elim⟩
/-- sep.join(xs) -/
def strsOf : List D → Option (List Str)
  | [] => some []
  | .str b :: r => (strsOf r).map (b :: ·)
  | _ => none
theorem strs_of {B H ι} : ∀ {ds : List D} {bs : List Str} {vs : List V}, strsOf ds = some bs → VRs B H ι ds vs → vs = bs.map V.str
  | [], bs, vs, e, r => by cases e; cases r; rfl
  | d :: ds, bs, vs, e, ⟨x, t, e1, h, r⟩ => by
    subst e1
    cases d <;> (try (cases e))
    rename_i b
    cases h
    have e' : (strsOf ds).map (b :: ·) = some bs := e
    cases q : strsOf ds with
    | none => rw [q] at e'; cases e'
    | some cs => rw [q] at e'; cases e'; rw [strs_of q r]; rfl
def fJoin : FM := fun x xs st => match x, xs with
  | .str a, [y] => match itemsD y st with
    | some ds => match strsOf ds with
      | some ys => if (ys.map (·.length)).sum + ys.length * a.length ≤ bigLine then .ok (.str (Txt.join a ys)) st else .bad
      | none => .bad
    | none => .bad
  | _, _ => .bad
theorem rm_join : RM X.K X.mg "str" (fun x xs H Q => ∃ a p, ∃ ys : List Str, x = .str a ∧ xs = [.ref p] ∧ (SqL X.K H p (ys.map V.str) ∨ SqT X.K H p (ys.map V.str)) ∧ (ys.map (·.length)).sum + ys.length * a.length ≤ 16777216 ∧ Q (.str (Txt.join a ys)) H) fJoin isStr :=
  ⟨fun S r h => isStr_ty S r h, fun {ρ ι H st x v xs vs W σ} {Q} S r rs p => by
  unfold fJoin at p
  split at p
  · rename_i a y
    cases r
    obtain ⟨w, rfl, hw⟩ := vr1 rs
    split at p
    · rename_i ds e
      obtain ⟨q, zs, rfl, hs, r1⟩ := items_of S hw e
      split at p
      · rename_i ys e2
        have := strs_of e2 r1
        subst this
        split at p
        · rename_i hl
          exact ⟨a, q, ys, rfl, rfl, hs, Nat.le_trans hl (by decide), p.ok S rfl⟩
        · exact p.elim
      · exact p.elim
    · exact p.elim
  · exact p.elim⟩
def fFind : FM := fun x xs st => match x, xs with
  | .str a, [.str b] => .ok (.int (Txt.find a b)) st
  | _, _ => .bad
theorem rm_find : RM X.K X.mg "str" (fun x xs H Q => ∃ a b, x = .str a ∧ xs = [.str b] ∧ Q (.int (Txt.find a b)) H) fFind isStr :=
  ⟨fun S r h => isStr_ty S r h, fun {ρ ι H st x v xs vs W σ} {Q} S r rs p => by
  unfold fFind at p
  split at p
  · cases r
    obtain ⟨w, rfl, hw⟩ := vr1 rs
    cases hw
    exact ⟨_, _, rfl, rfl, p.ok S rfl⟩
  · exact p.elim⟩
def fUpper : FM := fun x xs st => match x, xs with
  | .str a, [] => if a.length ≤ bigLine then .ok (.str (Txt.upper a)) st else .bad
  | _, _ => .bad
theorem rm_upper : RM X.K X.mg "str" (fun x xs H Q => ∃ a, x = .str a ∧ xs = [] ∧ a.length ≤ 5592405 ∧ Q (.str (Txt.upper a)) H) fUpper isStr :=
  ⟨fun S r h => isStr_ty S r h, fun {ρ ι H st x v xs vs W σ} {Q} S r rs p => by
  unfold fUpper at p
  split at p
  · cases r
    cases rs
    split at p
    · rename_i hl; exact ⟨_, rfl, rfl, Nat.le_trans hl (by decide), p.ok S rfl⟩
    · exact p.elim
  · exact p.elim⟩
end
end DD

/-! DD9: slices, fields, objects made, == of data. -/
namespace DD
open PySem L2 PyProof.Rows

/-! ### slices -/
def relO : Rel (Option Int) (Option Int) := ⟨fun _ _ _ _ _ _ d v => v = d, fun _ h => h⟩
abbrev DO := Env → Sto → Res (Option Int)
def POd (X : Cx) (W : WX) (e : Option Expr) (d : DO) : Prop := PO X e (tG X.K X.mg relO W d)
theorem PO.mono {X : Cx} {e : Option Expr} {t t' : TO} (h : PO X e t) (k : ∀ σ H Q, t' σ H Q → t σ H Q) : PO X e t' := ⟨fun p s σ H Q I q => h.run p s σ H Q I (k σ H Q q)⟩
def dNoPart : DO := fun _ st => .ok none st
def dPart (da : DE) : DO := fun env st => (da env st).bind fun x st1 => match x with
  | .int i => .ok (some i) st1
  | _ => .bad
section
variable {X : Cx} {W : WX} {e : Expr} {lo hi : Option Expr} {da : DE} {dl dh : DO} {pos p2 : Pos}
theorem pod_none : POd X W none dNoPart := PO.mono po_none fun σ H Q ⟨ρ, ι, st, env, S, ve, p⟩ => p.ok S rfl
theorem pod_some (h : PEd X W e da) : POd X W (some e) (dPart da) := PO.mono (po_some h) fun σ H Q ⟨ρ, ι, st, env, S, ve, p⟩ => ⟨ρ, ι, st, env, S, ve, Post.bind p fun x st1 ι1 H1 v s1 S1 rx p1 => by
  cases x <;> (try exact p1.elim)
  cases rx
  exact ⟨_, rfl, p1.ok S1 rfl⟩⟩
def cutL {α : Type} (xs : List α) (lo hi : Option Int) : List α := (xs.drop (HT.sIx xs.length 0 lo)).take (HT.sIx xs.length xs.length hi - HT.sIx xs.length 0 lo)
def fSl (x : D) (lo hi : Option Int) (st : Sto) : Res D := match x with
  | .str z => if z.length ≤ bigLine then .ok (.str (cutS z lo hi)) st else .bad
  | .tup ds => .ok (.tup (cutL ds lo hi)) st
  | .fz ds => .ok (.fz (cutL ds lo hi)) st
  | .sc ds => .ok (.fz (cutL ds lo hi)) st
  | .ref n => match st[n]? with
    | some (.lst ds) => .ok (.fz (cutL ds lo hi)) st
    | _ => .bad
  | _ => .bad
theorem cut_vr {B H ι} {ds : List D} {vs : List V} {lo hi : Option Int} (r : VRs B H ι ds vs) : VRs B H ι (cutL ds lo hi) (cutV vs lo hi) := by
  unfold cutL cutV
  rw [r.length]
  exact (r.drop _).take _
def rSl3 (K : PySem.W.Frag) : V → Option Int → Option Int → Hp → VK → Prop := fun x lo hi H Q => rSlS x lo hi H Q ∨ (rSlA K x lo hi H Q ∨ rSlL K x lo hi H Q)
def dSl (da : DE) (dl dh : DO) : DE := fun env st => (da env st).bind fun x st1 => (dl env st1).bind fun l st2 => (dh env st2).bind fun u st3 => fSl x l u st3
theorem cut_whole {ds : List D} {lo hi : Option Int} (h : HT.sIx ds.length 0 lo = 0 ∧ HT.sIx ds.length ds.length hi = ds.length) : cutL ds lo hi = ds := by
  unfold cutL
  rw [h.1, h.2, List.drop_zero, Nat.sub_zero, List.take_length]
theorem new_fz {B : Bs} {H ι st W σ Q} {ds : List D} {ys : List V} (S : Sim B H ι st) (r : VRs B H ι ds ys) (p : Post B relV W σ ι H (.ok (.fz ds) st) Q) : ∀ l, H l = none → Q (.ref l) (upd H l (.lst ys)) := fun l hl =>
  p.ok' (Step.new S hl) (S.new hl) ⟨l, ys, rfl, upd_same, ⟨S.fresh hl, S.fr hl⟩, r.step (Step.new S hl)⟩
theorem pd_slice (he : PEd X W e da) (hl : POd X W lo dl) (hu : POd X W hi dh) : PEd X W (.Subscript e (.Slice lo hi none p2) pos) (dSl da dl dh) :=
  PE.mono (pe_slice (SlR.or sl_str (SlR.or sl_tupA sl_list)) he hl hu) fun σ H Q ⟨ρ, ι, st, env, S, ve, p⟩ =>
    ⟨ρ, ι, st, env, S, ve, Post.bind p fun x st1 ι1 H1 v s1 S1 rx p1 => ⟨ρ, ι1, st1, env, S1, ve.step s1, Post.bind p1 fun l st2 ι2 H2 l' s2 S2 rl p2 => ⟨ρ, ι2, st2, env, S2, (ve.step s1).step s2, Post.bind p2 fun u st3 ι3 H3 u' s3 S3 ru p3 => by
      cases rl
      cases ru
      have rx3 : VR ⟨X.K, X.mg, ρ⟩ H3 ι3 x v := (VR.step s2 rx).step s3
      cases x with
      | str z =>
        cases rx3
        simp only [fSl] at p3
        split at p3
        · rename_i hz; exact .inl ⟨z, rfl, big_le hz, p3.ok S3 rfl⟩
        · exact p3.elim
      | tup ds =>
        obtain ⟨a, xs, rfl, h1, r1⟩ := id rx3
        simp only [fSl] at p3
        have hl := r1.length
        refine .inr (.inl ⟨a, xs, rfl, h1.sq, fun hw => ?_, fun hw q hq => ?_⟩)
        · rw [← hl] at hw
          rw [cut_whole hw] at p3
          exact p3.ok S3 rx3
        · exact new_tup S3 (cut_vr r1) p3 q hq
      | fz ds =>
        obtain ⟨a, xs, rfl, h1, m, r1⟩ := id rx3
        exact .inr (.inr ⟨a, xs, rfl, SqL.of h1, new_fz S3 (cut_vr r1) p3⟩)
      | sc ds =>
        obtain ⟨a, xs, rfl, h1, r1⟩ := id rx3
        exact .inr (.inr ⟨a, xs, rfl, h1.sq, new_fz S3 (cut_vr r1) p3⟩)
      | ref n =>
        obtain ⟨a, ha, rfl⟩ := id rx3
        simp only [fSl] at p3
        split at p3
        · rename_i ds q
          obtain ⟨xs, h1, r1⟩ := S3.look q ha
          exact .inr (.inr ⟨a, xs, rfl, SqL.of h1, new_fz S3 (cut_vr r1) p3⟩)
        · exact p3.elim
      | _ => exact p3.elim⟩⟩⟩
end

/-! ### fields -/
/-- what is known of the classes with these names, for a field -/
def FldOk (K : PySem.W.Frag) (mg : Str → Option Value) (cs : List Str) (f : Str) : Prop := ∀ c ∈ cs, ∀ C, mg c = some (.ref C) → Cls K C ∧ NoAttr K C f
def fFld (cs : List Str) (f : Str) : F1 := fun x st => match x with
  | .obj c ns ds => if c ∈ cs then (match (ns.zip ds).lookup f with
    | some d => .ok d st
    | none => .bad) else .bad
  | .ref n => match st[n]? with
    | some (.ins c ns ds) => if c ∈ cs then (match (ns.zip ds).lookup f with
      | some d => .ok d st
      | none => .bad) else .bad
    | _ => .bad
  | _ => .bad
theorem lookup_vr {B H ι} {f : Str} {d : D} : ∀ {ns : List Str} {ds : List D} {xs : List V}, VRs B H ι ds xs → (ns.zip ds).lookup f = some d → ∃ v, (ns.zip xs).lookup f = some v ∧ VR B H ι d v
  | [], _, _, _, e => by simp at e
  | _ :: _, [], _, _, e => by simp at e
  | n :: ns, d' :: ds, _, ⟨x, r, e1, h, t⟩, e => by
    subst e1
    simp only [List.zip_cons_cons, List.lookup_cons] at e ⊢
    cases q : f == n with
    | true => rw [q] at e; cases e; exact ⟨x, rfl, h⟩
    | false => rw [q] at e; exact lookup_vr t e
section
variable {X : Cx} {W : WX} {e o : Expr} {es : List Expr} {da dv : DE} {ds : DA} {pos pos' p : Pos} {f : Str}
theorem pd_fld {cs : List Str} (hf : FldOk X.K X.mg cs f) (he : PEd X W e da) (hb : attributeBase e f X.env (eval e X.env) = eval e X.env := by rfl) : PEd X W (.Attribute e f pos) (dUn (fFld cs f) da) :=
  PE.mono (pe_fld he hb) fun σ H Q ⟨ρ, ι, st, env, S, ve, p⟩ => ⟨ρ, ι, st, env, S, ve, Post.bind p fun x st1 ι1 H1 v s1 S1 rx p1 => by
    unfold fFld at p1
    split at p1
    · rename_i c ns ds
      obtain ⟨a, C, dx, fs, xs, rfl, hC, h1, m, e1, l, r1⟩ := rx
      split at p1
      · rename_i hc
        split at p1
        · rename_i d q
          obtain ⟨v, h2, r2⟩ := lookup_vr r1 q
          obtain ⟨k1, k2⟩ := hf c hc C hC
          exact ⟨a, C, dx, fs, v, rfl, h1, k1, k2, by rw [e1]; exact h2, p1.ok S1 r2⟩
        · exact p1.elim
      · exact p1.elim
    · rename_i n
      obtain ⟨a, ha, rfl⟩ := rx
      split at p1
      · rename_i c ns ds q0
        obtain ⟨C, dx, fs, xs, hC, h1, e1, l, r1⟩ := S1.look q0 ha
        split at p1
        · rename_i hc
          split at p1
          · rename_i d q
            obtain ⟨v, h2, r2⟩ := lookup_vr r1 q
            obtain ⟨k1, k2⟩ := hf c hc C hC
            exact ⟨a, C, dx, fs, v, rfl, h1, k1, k2, by rw [e1]; exact h2, p1.ok S1 r2⟩
          · exact p1.elim
        · exact p1.elim
      · exact p1.elim
    · exact p1.elim⟩
/-- o.f = e, an object of the store -/
def putD (f : Str) (d : D) : List Str → List D → List Str × List D
  | n :: ns, x :: xs => if n = f then (n :: ns, d :: xs) else let r := putD f d ns xs; (n :: r.1, x :: r.2)
  | _, _ => ([f], [d])
theorem put_vr {B H ι} {d : D} {v : V} (hd : VR B H ι d v) : ∀ {ns : List Str} {ds : List D} {xs : List V}, ns.length = xs.length → VRs B H ι ds xs → ∃ ys, putF f v (ns.zip xs) = (putD f d ns ds).1.zip ys ∧ (putD f d ns ds).1.length = ys.length ∧ VRs B H ι (putD f d ns ds).2 ys
  | [], ds, xs, l, r => by
    have hx : xs = [] := List.length_eq_zero_iff.mp l.symm
    subst hx
    have : ds = [] := List.length_eq_zero_iff.mp r.length
    subst this
    exact ⟨[v], rfl, rfl, VRs.one hd⟩
  | n :: ns, [], xs, l, r => by
    cases r
    simp at l
  | n :: ns, x :: ds, _, l, ⟨y, r, e1, h, t⟩ => by
    subst e1
    simp only [List.length_cons, Nat.add_right_cancel_iff] at l
    by_cases hn : n = f
    · subst hn
      refine ⟨v :: r, ?_, ?_, ?_⟩
      · simp [putD, putF]
      · simp [putD, l]
      · simp only [putD, if_true]; exact ⟨v, r, rfl, hd, t⟩
    · obtain ⟨ys, e2, l2, r2⟩ := put_vr hd l t
      refine ⟨y :: ys, ?_, ?_, ?_⟩
      · simp only [putD, if_neg hn, List.zip_cons_cons, putF, e2]
      · simp only [putD, if_neg hn, List.length_cons, l2]
      · simp only [putD, if_neg hn]; exact ⟨y, ys, rfl, h, r2⟩
def dSetFld (cs : List Str) (f : Str) (dv da : DE) : DS := fun env st => (dv env st).bindS env fun y st1 => (da env st1).bindS env fun x st2 => match x with
  | .ref n => match st2[n]? with
    | some (.ins c ns ds) => if c ∈ cs ∧ ns.length ≤ 900 then .nx env (st2.set n (.ins c (putD f y ns ds).1 (putD f y ns ds).2)) else .bad
    | _ => .bad
  | _ => .bad
theorem psd_setFld {cs : List Str} {value : Expr} (hf : FldOk X.K X.mg cs f) (ho : PEd X W o da) (hv : PEd X W value dv) (hs : swapsWith value (some (.Attribute o f pos')) pos.line X.env = pure false := by rfl) : PSd X W (.Assign [.Attribute o f pos'] value pos) (dSetFld cs f dv da) :=
  PS.mono (ps_fld ho hv hs) fun E σ H ⟨ρ, ι, st, env, S, ve, p⟩ => ⟨ρ, ι, st, env, S, ve, PostS.bind ve p fun y st1 ι1 H1 v s1 S1 ry p1 => ⟨ρ, ι1, st1, env, S1, ve.step s1, PostS.bind (ve.step s1) p1 fun x st2 ι2 H2 w s2 S2 rx p2 => by
    split at p2
    · rename_i n
      obtain ⟨a, ha, rfl⟩ := rx
      split at p2
      · rename_i c ns ds q
        obtain ⟨C, dx, fs, xs, hC, h1, e1, l, r1⟩ := S2.look q ha
        split at p2
        · rename_i hc
          obtain ⟨k1, k2⟩ := hf c hc.1 C hC
          refine ⟨a, C, dx, fs, rfl, h1, k1, k2, ?_, ?_⟩
          · rw [e1, List.length_zip, ← l, Nat.min_self]; omega
          · obtain ⟨ys, e2, l2, r2⟩ := put_vr (f := f) (VR.step s2 ry) l r1
            have sw : Step ι2 H2 ι2 (upd H2 a (.ins C dx (putF f v fs))) := Step.write ha
            exact p2 ι2 _ σ sw (S2.write ha ⟨C, dx, putF f v fs, ys, hC, upd_same, by rw [e1]; exact e2, l2, r2.step sw⟩) (((ve.step s1).step s2).step sw)
        · exact p2.elim
      · exact p2.elim
    · exact p2.elim⟩⟩
end

/-! ### objects made -/
mutual
/-- all places of the store that it names are below n -/
def below (n : Nat) : D → Bool
  | .ref m => decide (m < n)
  | .tup ds => belows n ds
  | .fz ds => belows n ds
  | .sc ds => belows n ds
  | .fd _ ds => belows n ds
  | .obj _ _ ds => belows n ds
  | _ => true
def belows (n : Nat) : List D → Bool
  | [] => true
  | d :: ds => below n d && belows n ds
end
def belowO (n : Nat) : O → Bool
  | .lst ds => belows n ds
  | .ins _ _ ds => belows n ds
  | .dct _ ds => belows n ds
theorem notin_of {ι : List Addr} {x a : Addr} (h : a ∉ ι ++ [x]) : a ∉ ι := fun z => h (List.mem_append_left _ z)
mutual
theorem VR.cut {B H} {ι : List Addr} {x : Addr} : ∀ {d : D} {v : V}, below ι.length d = true → VR B H (ι ++ [x]) d v → VR B H ι d v
  | .non, _, _, h => h
  | .bl _, _, _, h => h
  | .int _, _, _, h => h
  | .str _, _, _, h => h
  | .ty _, _, _, h => h
  | .ref m, _, b, ⟨a, h, e⟩ => ⟨a, by rw [List.getElem?_append_left (of_decide_eq_true b)] at h; exact h, e⟩
  | .tup _, _, b, ⟨a, xs, e, h, r⟩ => ⟨a, xs, e, h.elim (fun z => .inl ⟨z.1, notin_of z.2.1, z.2.2⟩) .inr, VRs.cut b r⟩
  | .sc _, _, b, ⟨a, xs, e, h, r⟩ => ⟨a, xs, e, h.elim (fun z => .inl ⟨z.1, notin_of z.2.1, z.2.2⟩) .inr, VRs.cut b r⟩
  | .fz _, _, b, ⟨a, xs, e, h, m, r⟩ => ⟨a, xs, e, h, ⟨notin_of m.1, m.2⟩, VRs.cut b r⟩
  | .fd _ _, _, b, ⟨a, fs, xs, e, h, m, e2, l, r⟩ => ⟨a, fs, xs, e, h, ⟨notin_of m.1, m.2⟩, e2, l, VRs.cut b r⟩
  | .obj _ _ _, _, b, ⟨a, C, dx, fs, xs, e, c, h, m, e2, l, r⟩ => ⟨a, C, dx, fs, xs, e, c, h, ⟨notin_of m.1, m.2⟩, e2, l, VRs.cut b r⟩
theorem VRs.cut {B H} {ι : List Addr} {x : Addr} : ∀ {ds : List D} {vs : List V}, belows ι.length ds = true → VRs B H (ι ++ [x]) ds vs → VRs B H ι ds vs
  | [], _, _, h => h
  | _ :: _, _, b, ⟨y, r, e, h, t⟩ => by
    have b' := Bool.and_eq_true_iff.mp b
    exact ⟨y, r, e, VR.cut b'.1 h, VRs.cut b'.2 t⟩
end
theorem Sim.cut {B H} {ι : List Addr} {x : Addr} {st : Sto} {o : O} (hb : st.all (belowO ι.length) = true) (S : Sim B H (ι ++ [x]) (st ++ [o])) : Sim B H ι st := by
  have hl : ι.length = st.length := by have := S.len; simp at this; exact this
  refine ⟨hl, (List.nodup_append.mp S.nd).1, fun n ob e => ?_, fun a ha => ⟨(S.rs a ha).1, notin_of (S.rs a ha).2⟩⟩
  have hn : n < st.length := (List.getElem?_eq_some_iff.mp e).1
  obtain ⟨a, h, q⟩ := S.ob n ob (by rw [List.getElem?_append_left hn]; exact e)
  rw [List.getElem?_append_left (by omega)] at h
  have b := List.all_eq_true.mp hb ob (List.mem_of_getElem? e)
  refine ⟨a, h, ?_⟩
  cases ob with
  | lst ds => obtain ⟨xs, h, r⟩ := q; exact ⟨xs, h, r.cut b⟩
  | ins c ns ds => obtain ⟨C, dx, fs, xs, c, h, e, l, r⟩ := q; exact ⟨C, dx, fs, xs, c, h, e, l, r.cut b⟩
  | dct ks ds => obtain ⟨kvs, xs, h, e, l, r⟩ := q; exact ⟨kvs, xs, h, e, l, r.cut b⟩
theorem take_last {st2 : Sto} {n : Nat} {o : O} (h : st2.length = n + 1) (e : st2[n]? = some o) : st2 = st2.take n ++ [o] := by
  have h1 : n < st2.length := by omega
  have := List.take_append_drop n st2
  rw [List.drop_eq_getElem_cons h1, List.drop_eq_nil_of_le (by omega)] at this
  rw [List.getElem?_eq_getElem h1] at e
  cases e
  exact this.symm
/-- C(..): made in the store, given out by value -/
def dMake (c : Str) (m : M) (n : Nat) (ds : DA) : DE := fun env st => (ds env st).bind fun xs st1 => if xs.length + 1 = n then (match m (.ref st1.length :: xs) (st1 ++ [.ins c [] []]) with
  | .ok .non st2 => (match st2[st1.length]? with
    | some (.ins c' ns ds) => if c' = c ∧ st2.length = st1.length + 1 ∧ belows st1.length ds = true ∧ (st2.take st1.length).all (belowO st1.length) = true then .ok (.obj c ns ds) (st2.take st1.length) else .bad
    | _ => .bad)
  | .exc (k, none) st2 => (match st2[st1.length]? with
    | some o => if st2.length = st1.length + 1 ∧ (st2.take st1.length).all (belowO st1.length) = true then .exc (k, none) (st2.take st1.length) else .bad
    | _ => .bad)
  | .exc (k, some (f, d)) st2 => (match st2[st1.length]? with
    | some o => if st2.length = st1.length + 1 ∧ below st1.length d = true ∧ (st2.take st1.length).all (belowO st1.length) = true then .exc (k, some (f, d)) (st2.take st1.length) else .bad
    | _ => .bad)
  | _ => .bad) else .bad
section
variable {X : Cx} {W : WX} {e : Expr} {es : List Expr} {ds : DA} {pos p : Pos} {CX : CXT} {k : Nat} {f C : Addr} {fd : FuncData} {ps : List Str} {sp : Sp} {x : Str} {E : L2.St → XK} {t : TA}
theorem run_makeS {pins : List (Addr × Obj)} {σ : L2.St} {H : Hp} {s : Shared} {Q : VK} {us : List Value} {vs : List V} (M : Mk X.K C f) (F : FnOk X.prog X.w X.K X.mg X.base CX k f fd ps sp) (hr : Room (k + 1) X.A) (hb : Binds X.K fd ps [])
    (hx : PassesAt CX X σ (E σ)) (I : Inv X pins σ H s) (r : Vals vs us)
    (h : ∀ x dx, H x = none → H dx = none → dx ≠ x → sp (.ref x :: vs) (upd (upd H dx (.own x)) x (.ins C dx [])) (fun v H2 => v = .non ∧ Q (.ref x) H2) (E σ)) :
    wpAny (model X.prog X.w) X.A (call (.ref C) us) (EP X pins σ Q) X.xe s := by
  have hq := h (s.heap.objs.size + 1) s.heap.objs.size (I.hok.fresh (Nat.le_succ _)) (I.hok.fresh (Nat.le_refl _)) (Nat.ne_of_lt (Nat.lt_succ_self _))
  have I2 := Inv.made (C := C) I
  have r2 : Vals (V.ref (s.heap.objs.size + 1) :: vs) (Value.ref (s.heap.objs.size + 1) :: us) := .cons rfl r
  have hl : (Value.ref (s.heap.objs.size + 1) :: us).length = ps.length := by
    have e := r2.length
    rw [F.len _ _ _ _ hq] at e
    exact e.symm
  have b := hb _ (Value.ref (s.heap.objs.size + 1) :: us) I2.kIn (by rw [List.append_nil]; exact hl)
  rw [List.append_nil] at b
  refine wpAny_call (make_map (f := f) I.kIn M.makes M.init (beq_iff_eq.mp M.fn) (codeAny_mono (F.run _ X.stack _ _ ⟨Value.ref (s.heap.objs.size + 1) :: us, []⟩ (Value.ref (s.heap.objs.size + 1) :: us) _ _ (E σ) (hr.make C us [])
    (I2.env0.make C us []) b r2 hq) fun r s' hq' => ?_))
  cases r with
  | error e => exact hx pins _ _ e s' I2 hq'
  | ok fl =>
    cases fl with
    | ret u =>
      obtain ⟨v, H', I3, rv, ev, q3⟩ := I2.after hq'
      subst ev
      exact ⟨rv, ⟨V.ref (s.heap.objs.size + 1), H', I3, rfl, q3⟩⟩
    | next => exact False.elim hq'
    | brk => exact False.elim hq'
    | cont => exact False.elim hq'
def tMakeS (C : Addr) (sp : Sp) (E : L2.St → XK) (t : TA) : TE := fun σ H Q => t σ H fun vs H1 => ∀ x dx, H1 x = none → H1 dx = none → dx ≠ x → sp (.ref x :: vs) (upd (upd H1 dx (.own x)) x (.ins C dx [])) (fun v H2 => v = .non ∧ Q (.ref x) H2) (E σ)
theorem pe_makeS (M : Mk X.K C f) (F : FnOk X.prog X.w X.K X.mg X.base CX k f fd ps sp) (hr : Room (k + 1) X.A) (hg : Gl X x) (hm : X.mg x = some (.ref C)) (hb : Binds X.K fd ps []) (hx : ∀ σ, PassesAt CX X σ (E σ))
    (ha : PA X (e :: es) t) (hdb : (x == ("__debug__" : Str)) = false := by decide) (he : starEach (e :: es) X.env = (false, eval e X.env) :: starEach es X.env := by rfl) (hpl : (backTo pos (starEach es X.env)).any (·.1) = false := by rfl) :
    PE X (.Call (.Name x p) (e :: es) [] pos) (tMakeS C sp E t) := by
  refine ⟨fun pins s σ H Q I h => ?_⟩
  refine wpAny_Call_Name_kw (ld_glob I hg hm ?_ hdb)
  refine PySem.W.callWith_K (h₀ := X.base) I.ok.mod.kin M.kp (thn (ha.run pos pins s σ H _ I h) fun us s1 ⟨vs, H1, I1, r, q⟩ => ⟨I1.kIn, ?_⟩) he hpl
  exact run_makeS M F hr hb (hx σ) I1 r q
theorem pd_make {m : M} {n : Nat} (M : Mk X.K C f) (F : FnOk X.prog X.w X.K X.mg X.base (L2.CX X.prog X.w) k f fd ps (spD X.K X.mg m n)) (hr : Room (k + 1) X.A) (hg : Gl X x) (hm : X.mg x = some (.ref C)) (hb : Binds X.K fd ps []) (hx : Lets X W)
    (ha : PAd X W (e :: es) ds) (hdb : (x == ("__debug__" : Str)) = false := by decide) (he : starEach (e :: es) X.env = (false, eval e X.env) :: starEach es X.env := by rfl) (hpl : (backTo pos (starEach es X.env)).any (·.1) = false := by rfl) :
    PEd X W (.Call (.Name x p) (e :: es) [] pos) (dMake x m n ds) :=
  PE.mono (pe_makeS (E := fun σ => WE W σ) M F hr hg hm hb hx ha hdb he hpl) fun σ H Q ⟨ρ, ι, st, env, S, ve, p⟩ => ⟨ρ, ι, st, env, S, ve, Post.bind p fun xs st1 ι1 H1 vs s1 S1 rx p1 => by
    have rx : VRs ⟨X.K, X.mg, ρ⟩ H1 ι1 xs vs := rx
    intro y dx hy hdx hne
    by_cases hn : xs.length + 1 = n
    case neg => simp only [hn, if_false] at p1; exact p1.elim
    simp only [hn, if_true] at p1
    have sd : Step ι1 H1 ι1 (upd H1 dx (.own y)) := Step.new S1 hdx
    have Sd : Sim ⟨X.K, X.mg, ρ⟩ (upd H1 dx (.own y)) ι1 st1 := S1.new hdx
    have hy' : (upd H1 dx (.own y)) y = none := by rw [upd_ne (Ne.symm hne)]; exact hy
    have sa : Step ι1 (upd H1 dx (.own y)) (ι1 ++ [y]) (upd (upd H1 dx (.own y)) y (.ins C dx [])) := Step.alloc Sd hy'
    have Sa : Sim ⟨X.K, X.mg, ρ⟩ (upd (upd H1 dx (.own y)) y (.ins C dx [])) (ι1 ++ [y]) (st1 ++ [.ins x [] []]) := Sd.alloc hy' ⟨C, dx, [], [], hm, upd_same, rfl, rfl, rfl⟩
    have ra : VRs ⟨X.K, X.mg, ρ⟩ (upd (upd H1 dx (.own y)) y (.ins C dx [])) (ι1 ++ [y]) (.ref st1.length :: xs) (.ref y :: vs) := ⟨_, _, rfl, ⟨y, by rw [← S1.len, List.getElem?_append_right (by omega)]; simp, rfl⟩, (rx.step sd).step sa⟩
    refine ⟨by rw [List.length_cons, ← rx.length, hn], ρ, ι1 ++ [y], st1 ++ [.ins x [] []], .ref st1.length :: xs, Sa, ra, ?_⟩
    have s0 : Step ι1 H1 (ι1 ++ [y]) (upd (upd H1 dx (.own y)) y (.ins C dx [])) := sd.trans sa
    have back : ∀ {ι2 H2}, Step (ι1 ++ [y]) (upd (upd H1 dx (.own y)) y (.ins C dx [])) ι2 H2 → ι2.length = st1.length + 1 → ι2 = ι1 ++ [y] ∧ Step ι1 H1 ι1 H2 := fun {ι2 H2} s hl => by
      obtain ⟨more, e, _⟩ := s.pre
      have : more = [] := by
        rw [e] at hl
        simp only [List.length_append, List.length_singleton, S1.len] at hl
        exact List.length_eq_zero_iff.mp (by omega)
      subst this
      rw [List.append_nil] at e
      exact ⟨e, ⟨[], by simp, by simp⟩, (s0.trans s).rest⟩
    cases q : m (.ref st1.length :: xs) (st1 ++ [.ins x [] []]) with
    | bad => simp only [q] at p1; exact p1.elim
    | ok d st2 =>
      simp only [q] at p1
      cases d <;> (try exact p1.elim)
      intro ι2 H2 v s2 S2 rv
      cases rv
      refine ⟨rfl, ?_⟩
      simp only [] at p1
      split at p1
      · rename_i c' ns ds q2
        split at p1
        · rename_i hc
          obtain ⟨rfl, e2, hb1, hb2⟩ := hc
          obtain ⟨e3, s3⟩ := back s2 (by rw [S2.len]; exact e2)
          subst e3
          have ha : (ι1 ++ [y])[st1.length]? = some y := by rw [← S1.len, List.getElem?_append_right (by omega)]; simp
          obtain ⟨C2, dx2, fs2, ys, hC2, h2, e4, l2, r2⟩ := S2.look q2 ha
          rw [take_last e2 q2] at S2
          rw [← S1.len] at hb1 hb2
          rw [← S1.len] at S2 p1
          refine p1.ok' s3 (S2.cut hb2) ⟨y, C2, dx2, fs2, ys, rfl, hC2, h2, ⟨S1.fresh hy, S1.fr hy⟩, e4, l2, r2.cut hb1⟩
        · exact p1.elim
      · exact p1.elim
    | exc ex st2 =>
      simp only [q] at p1
      obtain ⟨kk, o⟩ := ex
      intro ι2 H2 c dd s2 S2 rex
      cases o with
      | none =>
        simp only [] at p1
        split at p1
        · rename_i ob q2
          split at p1
          · rename_i hc
            obtain ⟨e2, hb2⟩ := hc
            obtain ⟨e3, s3⟩ := back s2 (by rw [S2.len]; exact e2)
            subst e3
            rw [take_last e2 q2] at S2
            rw [← S1.len] at hb2 S2 p1
            exact p1 ι1 H2 c dd s3 (S2.cut hb2) rex
          · exact p1.elim
        · exact p1.elim
      | some fd =>
        obtain ⟨ff, d⟩ := fd
        simp only [] at p1
        split at p1
        · rename_i ob q2
          split at p1
          · rename_i hc
            obtain ⟨e2, hb1, hb2⟩ := hc
            obtain ⟨e3, s3⟩ := back s2 (by rw [S2.len]; exact e2)
            subst e3
            rw [take_last e2 q2] at S2
            rw [← S1.len] at hb1 hb2 S2 p1
            obtain ⟨C2, c1, c2, pp, vv, c3, c4, c5⟩ := rex
            exact p1 ι1 H2 c dd s3 (S2.cut hb2) ⟨C2, c1, c2, pp, vv, c3, c4, c5.cut hb1⟩
          · exact p1.elim
        · exact p1.elim⟩
end
end DD

/-! DD10: zip of lists, tuples and texts in any mix. -/
namespace DD
open PySem L2 PyProof.Rows

inductive Sq where
  | L (a : Addr) (xs : List V)
  | T (a : Addr) (xs : List V)
  | S (x : Str)
namespace Sq
def holds (K : PySem.W.Frag) (H : Hp) : Sq → Prop
  | L a xs => SqL K H a xs
  | T a xs => SqT K H a xs
  | S _ => True
def ads : Sq → List Addr
  | L a _ => [a]
  | T a _ => [a]
  | S _ => []
def n : Sq → Nat
  | L _ xs => xs.length
  | T _ xs => xs.length
  | S x => x.cps.size
def at' : Sq → Nat → Option V
  | L _ xs, i => xs[i]?
  | T _ xs, i => xs[i]?
  | S x, i => x.cps[i]?.map fun c => .str ⟨#[c]⟩
def is : Sq → V → Prop
  | L a _, v => v = .ref a
  | T a _, v => v = .ref a
  | S x, v => v = .str x
def st (it : Addr) (t : Tok) (i : Nat) (h : Heap) : Sq → Prop
  | L a _ => h.IsListIter it a i
  | T a _ => h.IsTupleIter it a i
  | S x => h.IsStrIter it (strIterType x) x t i
theorem st_at {it : Addr} {t : Tok} {i : Nat} {h h' : Heap} {q : Sq} (x : q.st it t i h) (k : ∀ o, h.get? it = some o → h'.get? it = some o) : q.st it t i h' := by
  cases q with
  | L a xs => exact Heap.IsListIter.at x k
  | T a xs => exact Heap.IsTupleIter.at x k
  | S y => obtain ⟨o, e, r⟩ := x; exact ⟨o, k o e, r⟩
theorem st_obj {it : Addr} {t : Tok} {i : Nat} {h : Heap} {q : Sq} (x : q.st it t i h) : ∃ o, h.get? it = some o ∧ ∀ v, o.data ≠ .cell v := by
  cases q with
  | L a xs => obtain ⟨o, e, _, d⟩ := x; exact ⟨o, e, fun v z => by rw [d] at z; cases z⟩
  | T a xs => obtain ⟨o, e, _, d⟩ := x; exact ⟨o, e, fun v z => by rw [d] at z; cases z⟩
  | S y => obtain ⟨o, e, _, d⟩ := x; exact ⟨o, e, fun v z => by rw [d] at z; cases z⟩
variable {X : Cx} {pins : List (Addr × Obj)} {σ : L2.St} {H : Hp} {s : Shared}
theorem pack {it : Addr} {t : Tok} (q : Sq) (hc : X.calm = true) (I : Inv X pins σ H s) (h : q.holds X.K H) (hne : ∀ a ∈ q.ads, a ≠ it) : ∃ (P : Nat → Value → Prop) (St : Nat → Heap → Prop), Draws X.prog X.w X.A.in1 it (it :: q.ads) q.n P St ∧
    (∀ i, q.st it t i s.heap → St i s.heap) ∧ (∀ i h', St i h' → q.st it t i h') ∧ (∀ i u, P i u → ∃ x, q.at' i = some x ∧ RelV x u) := by
  have hh : X.A.in1.handled = none := I.ok.hd hc
  cases q with
  | L a xs =>
    obtain ⟨its, r, p, hz⟩ := I.list h
    have D := Draws.list (prog := X.prog) (w := X.w) hh it a (hne a (by simp [ads])) its.toArray
    rw [show its.toArray.size = (Sq.L a xs).n by rw [List.size_toArray]; exact r.length.symm] at D
    refine ⟨_, _, D, fun i x => ⟨x, p.isList⟩, fun i h' x => x.1, fun i u hu => ?_⟩
    have hi : i < its.length := by
      have := (Array.getElem?_eq_some_iff.mp hu).1
      simpa using this
    have hx : i < xs.length := by rw [r.length]; exact hi
    obtain ⟨w, e1, e2⟩ := r.get (List.getElem?_eq_getElem hx)
    have : w = u := by
      have hu' : its[i]? = some u := by simpa using hu
      exact Option.some.inj (e1.symm.trans hu')
    subst this
    exact ⟨_, List.getElem?_eq_getElem hx, e2⟩
  | T a xs =>
    obtain ⟨its, r, p, hz⟩ := I.tuple h
    have D := Draws.tuple (prog := X.prog) (w := X.w) hh it a (hne a (by simp [ads])) its.toArray
    rw [show its.toArray.size = (Sq.T a xs).n by rw [List.size_toArray]; exact r.length.symm] at D
    refine ⟨_, _, D, fun i x => ⟨x, p⟩, fun i h' x => x.1, fun i u hu => ?_⟩
    have hi : i < its.length := by
      have := (Array.getElem?_eq_some_iff.mp hu).1
      simpa using this
    have hx : i < xs.length := by rw [r.length]; exact hi
    obtain ⟨w, e1, e2⟩ := r.get (List.getElem?_eq_getElem hx)
    have : w = u := by
      have hu' : its[i]? = some u := by simpa using hu
      exact Option.some.inj (e1.symm.trans hu')
    subst this
    exact ⟨_, List.getElem?_eq_getElem hx, e2⟩
  | S x =>
    refine ⟨_, _, Draws.text hh it x t, fun i x => x, fun i h' x => x, fun i u hu => ?_⟩
    obtain ⟨c, tk, e1, rfl⟩ := hu
    exact ⟨.str ⟨#[c]⟩, by show x.cps[i]?.map _ = _; rw [e1]; rfl, ⟨tk, rfl⟩⟩
end Sq
def Itz2 (K : PySem.W.Frag) (q1 q2 : Sq) : It :=
  ⟨fun i H => q1.holds K H ∧ q2.holds K H ∧ i < q1.n ∧ i < q2.n, fun i H v H' => ∃ T x y, v = .ref T ∧ H T = none ∧ H' = upd H T (.tup [x, y]) ∧ q1.at' i = some x ∧ q2.at' i = some y,
    fun i H => q1.holds K H ∧ q2.holds K H ∧ (q1.n ≤ i ∨ q2.n ≤ i)⟩
theorem turn_zip2 {P : Program} {w : World} {K : PySem.W.Frag} {elts : List Expr} {kk : Nat} {tpos : Pos} {q1 q2 : Sq} {z TI TO i1 i2 : Addr} {t1 t2 : Tok} (D : ZipSep2 z TI TO i1 i2 (i1 :: q1.ads) (i2 :: q2.ads)) (n1 : ∀ a ∈ q1.ads, a ≠ i1) (n2 : ∀ a ∈ q2.ads, a ≠ i2) :
    Turn P w K (.Tuple elts kk tpos) (Itz2 K q1 q2) [z, TI, TO, i1, i2] z (fun i h => IsZip h z TI TO .none ∧ IsTupOf2 h TI (.ref i1) (.ref i2) ∧ (∃ x y, IsTupOf2 h TO x y) ∧ q1.st i1 t1 i h ∧ q2.st i2 t2 i h ∧ i ≤ q1.n ∧ i ≤ q2.n) where
  mem := by simp
  obj := fun i h st c hc => by
    obtain ⟨hz, hTI, ⟨x, y, hTO⟩, h1, h2, _⟩ := st
    have e' : c = z ∨ c = TI ∨ c = TO ∨ c = i1 ∨ c = i2 := by simpa using hc
    rcases e' with q | q | q | q | q
    · rw [q]; exact ⟨_, hz, fun v q => nomatch q⟩
    · rw [q]; exact ⟨_, hTI, fun v q => nomatch q⟩
    · rw [q]; exact ⟨_, hTO, fun v q => nomatch q⟩
    · rw [q]; exact Sq.st_obj h1
    · rw [q]; exact Sq.st_obj h2
  keep := fun i h h' st k => by
    obtain ⟨hz, hTI, ⟨x, y, hTO⟩, h1, h2, b1, b2⟩ := st
    exact ⟨k z (by simp) _ hz, k TI (by simp) _ hTI, ⟨x, y, k TO (by simp) _ hTO⟩, Sq.st_at h1 fun o q => k i1 (by simp) o q, Sq.st_at h2 fun o q => k i2 (by simp) o q, b1, b2⟩
  item := by
    intro X hP hw hK hc i pins s σ H E I hf st hg
    subst hP hw hK
    obtain ⟨hz, hTI, ⟨x0, y0, hTO⟩, h1, h2, b1, b2⟩ := st
    obtain ⟨g1, g2, l1, l2⟩ := hg
    obtain ⟨P1, St1, D1, in1, out1, ok1⟩ := Sq.pack (t := t1) q1 hc I g1 n1
    obtain ⟨P2, St2, D2, in2, out2, ok2⟩ := Sq.pack (t := t2) q2 hc I g2 n2
    have hzl : z < s.heap.objs.size := Heap.lt_size hz
    refine wpAny_pyNext_zipD2_item D D1 D2 hz hTI hTO (in1 i h1) (in2 i h2) l1 l2 fun u1 u2 h' tk p1 p2 z' TO' h1' h2' hT hsz hk => ?_
    obtain ⟨x, e1, r1⟩ := ok1 i u1 p1
    obtain ⟨y, e2, r2⟩ := ok2 i u2 p2
    refine ⟨_, rfl, wpAny_letOwnedTupleGo_zip (s := { s with heap := h', toks := tk }) z' fun h'' z'' sb => ?_⟩
    have hT2 : h''.get? s.heap.objs.size = some { cls := .type "tuple", data := .seq #[u1, u2] } := (sb.2 _ (Nat.ne_of_gt hzl)).trans hT
    have new : ObjOk X.prog X.w (upd H s.heap.objs.size (.tup [x, y])) h'' s.heap.objs.size (.tup [x, y]) :=
      ⟨by show 2 ≤ sizeLine; decide, [u1, u2], .cons r1 (.cons r2 .nil), ⟨_, hT2, rfl, _, rfl⟩⟩
    have I1 : Inv X pins σ (upd H s.heap.objs.size (.tup [x, y])) { s with heap := h'', toks := tk } :=
      I.turnedNew (t' := tk) (ch := [z, TI, TO, i1, i2]) (fun c o hb q => (sb.2 c (fun q' => hb (by simp [q']))).trans (hk c o (fun q' => hb (by simp [q'])) (fun q' => hb (by simp [q'])) (fun q' => hb (by simp [q'])) (fun q' => hb (by simp [q'])) q)) hf (Nat.le_refl _) new
    have ni1 : i1 ≠ z := fun e => D.zf1 (by rw [← e]; exact List.mem_cons_self)
    have ni2 : i2 ≠ z := fun e => D.zf2 (by rw [← e]; exact List.mem_cons_self)
    refine ⟨.ref s.heap.objs.size, _, I1, rfl, ⟨_, x, y, rfl, I.hok.fresh (Nat.le_refl _), rfl, e1, e2⟩, ⟨z'', ?_, ⟨u1, u2, ?_⟩, ?_, ?_, l1, l2⟩, fun c hcm => ?_⟩
    · exact (sb.2 _ D.TIz).trans (hk _ _ D.TIz D.TITO D.TIi1 D.TIi2 hTI)
    · exact (sb.2 _ D.TOz).trans TO'
    · exact Sq.st_at (out1 _ _ h1') fun o q => (sb.2 _ ni1).trans q
    · exact Sq.st_at (out2 _ _ h2') fun o q => (sb.2 _ ni2).trans q
    · have hlt : c < s.heap.objs.size := by
        have e' : c = z ∨ c = TI ∨ c = TO ∨ c = i1 ∨ c = i2 := by simpa using hcm
        rcases e' with q | q | q | q | q
        · rw [q]; exact hzl
        · rw [q]; exact Heap.lt_size hTI
        · rw [q]; exact Heap.lt_size hTO
        · rw [q]; obtain ⟨_, e1, _⟩ := Sq.st_obj h1; exact Heap.lt_size e1
        · rw [q]; obtain ⟨_, e2, _⟩ := Sq.st_obj h2; exact Heap.lt_size e2
      rw [upd_ne (Nat.ne_of_lt hlt)]
      exact (hf c hcm).1
  done := by
    intro X hP hw hK hc i pins s σ H E I hf st hg
    subst hP hw hK
    obtain ⟨hz, hTI, ⟨x0, y0, hTO⟩, h1, h2, b1, b2⟩ := st
    obtain ⟨g1, g2, hend⟩ := hg
    obtain ⟨P1, St1, D1, in1, out1, ok1⟩ := Sq.pack (t := t1) q1 hc I g1 n1
    obtain ⟨P2, St2, D2, in2, out2, ok2⟩ := Sq.pack (t := t2) q2 hc I g2 n2
    exact wpAny_pyNext_zipD2_end D D1 D2 hz hTI hTO (in1 i h1) (in2 i h2) b1 b2 (by omega) fun h' tk hk => ⟨rfl, I.turnedL (t' := tk) (ch := [z, TI, TO, i1, i2]) (fun c o hb q =>
      hk c o (fun q' => hb (by simp [q'])) (fun q' => hb (by simp [q'])) (fun q' => hb (by simp [q'])) (fun q' => hb (by simp [q'])) q) hf⟩
  self := fun A i s Q E st h => wpAny_pyIter_zip st.1 h
/-! ### the rule -/
section
variable {X : Cx} {W : WX} {e e2 : Expr} {p pos tpos : Pos} {elts : List Expr} {kk : Nat} {ta : TA} {ds : DA}
def iZip2 (K : PySem.W.Frag) (ta : TA) : TI := fun σ H R => ta σ H fun vs H1 => ∃ (v1 v2 : V) (q1 q2 : Sq), vs = [v1, v2] ∧ q1.is v1 ∧ q2.is v2 ∧ q1.holds K H1 ∧ q2.holds K H1 ∧ R (Itz2 K q1 q2) H1
/-- how an iterator over it begins -/
theorem Sq.begins {pins : List (Addr × Obj)} {σ : L2.St} {H : Hp} {s : Shared} (q : Sq) (I : Inv X pins σ H s) (h : q.holds X.K H) {v : V} {u : Value} (hv : q.is v) (r : RelV v u) :
    ∃ (o : Obj) (Hh : Heap → Prop) (t : Tok), Begins u o Hh ∧ Hh s.heap ∧ (∀ it h', h'.get? it = some o → q.st it t 0 h') ∧ ∀ a ∈ q.ads, a < s.heap.objs.size := by
  cases q with
  | L a xs =>
    cases (show v = .ref a from hv)
    cases r
    obtain ⟨its, r, p, hz⟩ := I.list h
    exact ⟨_, _, 0, begins_list a its.toArray, p.isList, fun it h' e => ⟨_, e, rfl, rfl⟩, fun b hb => by
      have : b = a := by simpa [Sq.ads] using hb
      rw [this]; exact p.lt⟩
  | T a xs =>
    cases (show v = .ref a from hv)
    cases r
    obtain ⟨its, r, p, hz⟩ := I.tuple h
    exact ⟨_, _, 0, begins_tuple a its.toArray, p, fun it h' e => ⟨_, e, rfl, rfl⟩, fun b hb => by
      have : b = a := by simpa [Sq.ads] using hb
      rw [this]; exact p.lt⟩
  | S x =>
    cases (show v = .str x from hv)
    obtain ⟨t, rfl⟩ := r
    exact ⟨_, _, t, begins_text x t, trivial, fun it h' e => ⟨_, e, rfl, rfl⟩, fun b hb => by cases hb⟩
theorem pi_zip2 (hg : Gl X "zip") (hm : X.mg "zip" = none) (ha : PA X [e, e2] ta)
    (hs : starEach [e, e2] X.env = (false, eval e X.env) :: starEach [e2] X.env := by rfl) (hpl : (backTo pos (starEach [e2] X.env)).any (·.1) = false := by rfl) :
    PI X (.Tuple elts kk tpos) (.Call (.Name "zip" p) [e, e2] [] pos) (iZip2 X.K ta) := by
  refine ⟨fun pins s σ H R I h => ?_⟩
  refine Call_ (ld_blt I hg hm PyProof.Rows.boot_zip (PyProof.Rows.callWith_type1 (thn (ha.run pos pins s σ H _ I h) fun us s1 ⟨vs, H1, I1, r1, q1⟩ => ?_) hs hpl))
  obtain ⟨v1, v2, s1', s2', ev, i1, i2, g1, g2, q⟩ := q1
  subst ev
  cases r1 with
  | cons r rr =>
    cases rr with
    | cons r' rr =>
      cases rr
      obtain ⟨o1, Hh1, t1, B1, b1, st1, a1⟩ := Sq.begins s1' I1 g1 i1 r
      obtain ⟨o2, Hh2, t2, B2, b2, st2, a2⟩ := Sq.begins s2' I1 g2 i2 r'
      refine zip_begins2 B1 B2 b1 b2 fun h' hz hTI hTO e1 e2 hsz hk => wpAny_pyIter_zip hz ?_
      have I2 : Inv X pins σ H1 { s1 with heap := h' } := I1.kept (t' := s1.toks) hk
      refine ⟨s1.heap.objs.size + 4, [s1.heap.objs.size + 4, s1.heap.objs.size + 2, s1.heap.objs.size + 3, s1.heap.objs.size, s1.heap.objs.size + 1], _, _, H1, rfl, I2,
        turn_zip2 (t1 := t1) (t2 := t2) (zip_sep2 a1 a2) (fun a ha => Nat.ne_of_lt (a1 a ha)) (fun a ha => Nat.ne_of_lt (Nat.lt_succ_of_lt (a2 a ha))), ⟨hz, hTI, ⟨_, _, hTO⟩, st1 _ _ e1, st2 _ _ e2, Nat.zero_le _, Nat.zero_le _⟩, fun c hcm => ?_, q⟩
      have e' : c = s1.heap.objs.size + 4 ∨ c = s1.heap.objs.size + 2 ∨ c = s1.heap.objs.size + 3 ∨ c = s1.heap.objs.size ∨ c = s1.heap.objs.size + 1 := by simpa using hcm
      have hle : s1.heap.objs.size ≤ c := by
        rcases e' with z | z | z | z | z
        · rw [z]; exact Nat.le_add_right _ _
        · rw [z]; exact Nat.le_add_right _ _
        · rw [z]; exact Nat.le_add_right _ _
        · rw [z]; exact Nat.le_refl _
        · rw [z]; exact Nat.le_add_right _ _
      exact I1.fpOk hle (I1.hok.fresh hle)
/-- what zip goes over -/
def seqD : D → Option (List D)
  | .fz ds => some ds
  | .sc ds => some ds
  | .tup ds => some ds
  | .str x => some (signs x)
  | _ => none
def pairsD : List D → List D → List D
  | x :: xs, y :: ys => .tup [x, y] :: pairsD xs ys
  | _, _ => []
theorem pairs_length : ∀ (xs ys : List D), (pairsD xs ys).length = min xs.length ys.length
  | [], _ => by simp [pairsD]
  | _ :: _, [] => by simp [pairsD]
  | _ :: xs, _ :: ys => by simp [pairsD, pairs_length xs ys]
theorem pairs_get : ∀ {xs ys : List D} {i : Nat} {d : D}, (pairsD xs ys)[i]? = some d → ∃ x y, xs[i]? = some x ∧ ys[i]? = some y ∧ d = .tup [x, y]
  | [], _, _, _, e => by simp [pairsD] at e
  | _ :: _, [], _, _, e => by simp [pairsD] at e
  | x :: xs, y :: ys, 0, d, e => by simp [pairsD] at e; exact ⟨x, y, rfl, rfl, e.symm⟩
  | x :: xs, y :: ys, i + 1, d, e => by
    simp only [pairsD, List.getElem?_cons_succ] at e
    obtain ⟨a, b, h1, h2, h3⟩ := pairs_get e
    exact ⟨a, b, by simpa using h1, by simpa using h2, h3⟩
def dZip (ds : DA) : DI := fun env st => (ds env st).bind fun xs st1 => match xs with
  | [x, y] => match seqD x, seqD y with
    | some as, some bs => .ok (pairsD as bs, yes) st1
    | _, _ => .bad
  | _ => .bad
/-- the source of a thing by value, good for all time -/
theorem sq_of_seq {B : Bs} {H : Hp} {ι : List Addr} {d : D} {v : V} {ds : List D} (r : VR B H ι d v) (h : seqD d = some ds) : ∃ q : Sq, q.is v ∧ q.n = ds.length ∧ (∀ ι' H', Step ι H ι' H' → q.holds B.K H') ∧
    (∀ i d', ds[i]? = some d' → ∃ x, q.at' i = some x ∧ VR B H ι d' x) := by
  cases d with
  | str x =>
    cases r; cases h
    refine ⟨.S x, rfl, by simp [Sq.n, signs], fun _ _ _ => trivial, fun i d' e => ?_⟩
    unfold signs at e
    rw [List.getElem?_map, Array.getElem?_toList] at e
    cases q : x.cps[i]? with
    | none => rw [q] at e; cases e
    | some c => rw [q] at e; cases e; exact ⟨.str ⟨#[c]⟩, by show x.cps[i]?.map _ = _; rw [q]; rfl, rfl⟩
  | tup es =>
    obtain ⟨a, xs, rfl, h1, r1⟩ := r; cases h
    exact ⟨.T a xs, rfl, r1.length.symm, fun _ _ s => (h1.step s).sq, fun i d' e => r1.get e⟩
  | fz es =>
    obtain ⟨a, xs, rfl, h1, m, r1⟩ := r; cases h
    exact ⟨.L a xs, rfl, r1.length.symm, fun _ _ s => SqL.of (s.rest _ _ m.1 h1), fun i d' e => r1.get e⟩
  | sc es =>
    obtain ⟨a, xs, rfl, h1, r1⟩ := r; cases h
    exact ⟨.L a xs, rfl, r1.length.symm, fun _ _ s => (h1.step s).sq, fun i d' e => r1.get e⟩
  | _ => cases h
theorem pid_zip (hg : Gl X "zip") (hm : X.mg "zip" = none) (ha : PAd X W [e, e2] ds)
    (hs : starEach [e, e2] X.env = (false, eval e X.env) :: starEach [e2] X.env := by rfl) (hpl : (backTo pos (starEach [e2] X.env)).any (·.1) = false := by rfl) :
    PId X W (.Tuple elts kk tpos) (.Call (.Name "zip" p) [e, e2] [] pos) (dZip ds) :=
  PI.mono (pi_zip2 hg hm ha hs hpl) fun σ H R ⟨ρ, ι, st, env, S, ve, p⟩ => ⟨ρ, ι, st, env, S, ve, Post.bind p fun xs st1 ι1 H1 vs s1 S1 rx p1 => by
    split at p1
    · rename_i x y
      obtain ⟨v, w, rfl, h1, h2⟩ := vr2 rx
      split at p1
      · rename_i as bs e1 e2
        obtain ⟨q1, is1, l1, g1, k1⟩ := sq_of_seq h1 e1
        obtain ⟨q2, is2, l2, g2, k2⟩ := sq_of_seq h2 e2
        refine ⟨v, w, q1, q2, rfl, is1, is2, g1 _ _ (Step.refl _ _), g2 _ _ (Step.refl _ _), p1.ok S1 ⟨?_, rfl⟩⟩
        refine ⟨fun ρ' i ι' H' st' f s S k hi => ?_, fun ρ' i d ι' H' st' v H'' f s S k hd hy => ?_, fun ρ' i ι' H' st' f s S k hi => ?_⟩
        · have hi : i < (pairsD as bs).length := hi
          rw [pairs_length] at hi
          exact ⟨g1 _ _ s, g2 _ _ s, by omega, by omega⟩
        · obtain ⟨T, a, b, rfl, hT, rfl, ha, hb⟩ := hy
          obtain ⟨d1, d2, c1, c2, rfl⟩ := pairs_get hd
          obtain ⟨a', ea, ra⟩ := k1 i d1 c1
          obtain ⟨b', eb, rb⟩ := k2 i d2 c2
          rw [ha] at ea; cases ea
          rw [hb] at eb; cases eb
          have sn : Step ι' H' ι' (upd H' T (.tup [a, b])) := Step.new S hT
          exact ⟨sn, S.new hT, T, [a, b], rfl, .inl ⟨.inl upd_same, S.fresh hT, S.fr hT⟩, ⟨a, [b], rfl, ((ra.fine f).step s).step sn, b, [], rfl, ((rb.fine f).step s).step sn, rfl⟩⟩
        · have hi : (pairsD as bs).length ≤ i := hi
          rw [pairs_length] at hi
          exact ⟨g1 _ _ s, g2 _ _ s, by omega⟩
      · exact p1.elim
    · exact p1.elim⟩
end
end DD

/-! DD11: == of data; text methods that may fail; statements never reached. -/
namespace DD
open PySem L2 PyProof.Rows

mutual
/-- a thing as data, without the store -/
def toPy0 : D → Option PyData
  | .non => some .none
  | .bl b => some (.bool b)
  | .int i => some (.int i)
  | .str x => some (.str x)
  | .tup ds => (toPys0 ds).map .tuple
  | .fz ds => (toPys0 ds).map .list
  | .sc ds => (toPys0 ds).map .list
  | _ => none
def toPys0 : List D → Option (List PyData)
  | [] => some []
  | d :: ds => match toPy0 d, toPys0 ds with
    | some x, some xs => some (x :: xs)
    | _, _ => none
end
mutual
def toPy (st : Sto) : D → Option PyData
  | .non => some .none
  | .bl b => some (.bool b)
  | .int i => some (.int i)
  | .str x => some (.str x)
  | .tup ds => (toPys st ds).map .tuple
  | .fz ds => (toPys st ds).map .list
  | .sc ds => (toPys st ds).map .list
  | .ref n => match st[n]? with
    | some (.lst ds) => (toPys0 ds).map .list
    | _ => none
  | _ => none
def toPys (st : Sto) : List D → Option (List PyData)
  | [] => some []
  | d :: ds => match toPy st d, toPys st ds with
    | some x, some xs => some (x :: xs)
    | _, _ => none
end
section
variable {B : Bs} {H : Hp} {ι : List Addr} {st : Sto}
mutual
theorem dp0 : ∀ {d : D} {v : V} {p : PyData}, VR B H ι d v → toPy0 d = some p → Dp B.K H v p
  | .non, _, _, h, e => by cases h; cases e; exact .non
  | .bl _, _, _, h, e => by cases h; cases e; exact .bl _
  | .int _, _, _, h, e => by cases h; cases e; exact .int _
  | .str _, _, _, h, e => by cases h; cases e; exact .str _
  | .tup ds, _, _, ⟨a, xs, e1, h, r⟩, e => by
    subst e1
    simp only [toPy0, Option.map_eq_some_iff] at e
    obtain ⟨ps, e2, rfl⟩ := e
    exact .tup h.sq (dps0 r e2)
  | .fz ds, _, _, ⟨a, xs, e1, h, m, r⟩, e => by
    subst e1
    simp only [toPy0, Option.map_eq_some_iff] at e
    obtain ⟨ps, e2, rfl⟩ := e
    exact .lst (SqL.of h) (dps0 r e2)
  | .sc ds, _, _, ⟨a, xs, e1, h, r⟩, e => by
    subst e1
    simp only [toPy0, Option.map_eq_some_iff] at e
    obtain ⟨ps, e2, rfl⟩ := e
    exact .lst h.sq (dps0 r e2)
theorem dps0 : ∀ {ds : List D} {vs : List V} {ps : List PyData}, VRs B H ι ds vs → toPys0 ds = some ps → DpAll B.K H vs ps
  | [], _, _, h, e => by cases h; cases e; exact .nil
  | d :: ds, _, _, ⟨x, r, e1, h, t⟩, e => by
    subst e1
    simp only [toPys0] at e
    split at e
    · rename_i y ys q1 q2
      cases e
      exact .cons (dp0 h q1) (dps0 t q2)
    · cases e
end
mutual
theorem dp (S : Sim B H ι st) : ∀ {d : D} {v : V} {p : PyData}, VR B H ι d v → toPy st d = some p → Dp B.K H v p
  | .non, _, _, h, e => by cases h; cases e; exact .non
  | .bl _, _, _, h, e => by cases h; cases e; exact .bl _
  | .int _, _, _, h, e => by cases h; cases e; exact .int _
  | .str _, _, _, h, e => by cases h; cases e; exact .str _
  | .tup ds, _, _, ⟨a, xs, e1, h, r⟩, e => by
    subst e1
    simp only [toPy, Option.map_eq_some_iff] at e
    obtain ⟨ps, e2, rfl⟩ := e
    exact .tup h.sq (dps S r e2)
  | .fz ds, _, _, ⟨a, xs, e1, h, m, r⟩, e => by
    subst e1
    simp only [toPy, Option.map_eq_some_iff] at e
    obtain ⟨ps, e2, rfl⟩ := e
    exact .lst (SqL.of h) (dps S r e2)
  | .sc ds, _, _, ⟨a, xs, e1, h, r⟩, e => by
    subst e1
    simp only [toPy, Option.map_eq_some_iff] at e
    obtain ⟨ps, e2, rfl⟩ := e
    exact .lst h.sq (dps S r e2)
  | .ref n, _, _, ⟨a, ha, e1⟩, e => by
    subst e1
    simp only [toPy] at e
    split at e
    · rename_i ds q
      simp only [Option.map_eq_some_iff] at e
      obtain ⟨ps, e2, rfl⟩ := e
      obtain ⟨xs, h, r⟩ := S.look q ha
      exact .lst (SqL.of h) (dps0 r e2)
    · cases e
theorem dps (S : Sim B H ι st) : ∀ {ds : List D} {vs : List V} {ps : List PyData}, VRs B H ι ds vs → toPys st ds = some ps → DpAll B.K H vs ps
  | [], _, _, h, e => by cases h; cases e; exact .nil
  | d :: ds, _, _, ⟨x, r, e1, h, t⟩, e => by
    subst e1
    simp only [toPys] at e
    split at e
    · rename_i y ys q1 q2
      cases e
      exact .cons (dp S h q1) (dps S t q2)
    · cases e
end
end
section
variable {K : PySem.W.Frag} {mg : Str → Option Value}
def fEq (neg : Bool) : F2 := fun x y st => match toPy st x, toPy st y with
  | some p, some q => if SeqAt.shaped p = true ∧ SeqAt.shaped q = true then .ok (.bl (if neg then !PyData.eqv p q else PyData.eqv p q)) st else .bad
  | _, _ => .bad
theorem rd_eq : RD K mg (rEqD K) (fEq false) := by
  intro ρ ι H st x y v u W σ Q S rx ry p
  unfold fEq at p
  split at p
  · rename_i a b e1 e2
    split at p
    · rename_i h
      exact ⟨a, b, dp S rx e1, dp S ry e2, h.1, h.2, p.ok S rfl⟩
    · exact p.elim
  · exact p.elim
theorem rd_ne : RD K mg (rNeD K) (fEq true) := by
  intro ρ ι H st x y v u W σ Q S rx ry p
  unfold fEq at p
  split at p
  · rename_i a b e1 e2
    split at p
    · rename_i h
      exact ⟨a, b, dp S rx e1, dp S ry e2, h.1, h.2, p.ok S rfl⟩
    · exact p.elim
  · exact p.elim
end
/-! ### a statement that is never reached -/
def dNever : DS := fun _ _ => .bad
theorem psd_never {X : Cx} {W : WX} {s : Stmt} : PSd X W s dNever := ⟨fun p s σ H D I ⟨ρ, ι, st, env, S, ve, q⟩ => q.elim⟩
/-! ### s.index(t), t is in it -/
section
variable {X : Cx} {W : WX} {o e : Expr} {dx : DE} {ds : DA} {apos cpos : Pos}
def fIndex : FM := fun x xs st => match x, xs with
  | .str a, [.str b] => match Txt.index0 a b with
    | some k => .ok (.int (k : Nat)) st
    | none => .bad
  | _, _ => .bad
theorem pd_index (hc : X.calm = true) (tk : Takes X W) (ho : PEd X W o dx) (ha : PAd X W [e] ds)
    (hbase : attributeBase o "index" X.env (eval o X.env) = eval o X.env := by rfl)
    (hfew : ((backTo cpos (starEach [e] X.env)).all (fun x => !x.1) && (backToKw cpos (keywordEach [] X.env)).all (fun x => x.1.isSome)
      && decide ([e].length + ([] : List Keyword).length + (if ([] : List Keyword).isEmpty then 0 else 1) < 30)) = true := by rfl)
    (hline : (apos.endLine == cpos.line) = true := by rfl) (hs : starEach [e] X.env = (false, eval e X.env) :: starEach [] X.env := by rfl) (hplain : (backTo cpos (starEach [] X.env)).any (·.1) = false := by rfl) :
    PEd X W (.Call (.Attribute o "index" apos) [e] [] cpos) (dMeth isStr fIndex dx ds) :=
  PE.mono (pe_bmS PySem.F.plainAttrs_str PySem.F.slot_str_index PySem.F.type_str_index (mt_indexX hc tk) ho ha hbase hfew hline hs hplain) fun σ H Q ⟨ρ, ι, st, env, S, ve, p⟩ => ⟨ρ, ι, st, env, S, ve, Post.bind p fun x st1 ι1 H1 v s1 S1 rx p1 => by
    by_cases hk : isStr x st1 = true
    · simp only [hk, if_true] at p1
      refine ⟨isStr_ty S1 rx hk, ρ, ι1, st1, env, S1, ve.step s1, Post.bind p1 fun xs st2 ι2 H2 vs s2 S2 rxs p2 => ?_⟩
      unfold fIndex at p2
      split at p2
      · rename_i a b
        cases rx
        obtain ⟨w, rfl, hw⟩ := vr1 rxs
        cases hw
        split at p2
        · rename_i k ek
          exact ⟨a, b, rfl, rfl, fun k' e' => by rw [ek] at e'; cases e'; exact p2.ok S2 rfl, fun e' => by rw [ek] at e'; cases e'⟩
        · exact p2.elim
      · exact p2.elim
    · simp only [hk, if_false] at p1; exact p1.elim⟩
end
end DD

/-! DD12: the end: a law that gives True for each list of integers. -/
namespace DD
open PySem L2 PyProof.Rows
def spLaw (K : PySem.W.Frag) : Sp := fun vs H Q _ => ∃ a, ∃ ns : List Int, vs = [.ref a] ∧ SqL K H a (ns.map V.int) ∧ ns.length ≤ 63 ∧ ∀ H', Q (.bl true) H'
theorem vrs_ints {B : Bs} {H : Hp} {ι : List Addr} : ∀ ns : List Int, VRs B H ι (ns.map D.int) (ns.map V.int)
  | [] => rfl
  | n :: r => ⟨_, _, rfl, rfl, vrs_ints r⟩
theorem law_imp {K : PySem.W.Frag} {mg : Str → Option Value} {m : M} (ok : ∀ ns : List Int, ns.length ≤ 63 → ∃ st', m [.sc (ns.map .int)] [] = .ok (.bl true) st') {vs : List V} {H : Hp} {Q : VK} {E : XK} (h : spLaw K vs H Q E) : spD K mg m 1 vs H Q E := by
  obtain ⟨a, ns, rfl, hs, hl, hq⟩ := h
  refine ⟨rfl, [], [], [], [.sc (ns.map .int)], ⟨rfl, List.nodup_nil, fun n o e => by simp at e, fun a ha => by simp at ha⟩, ⟨_, _, rfl, ⟨a, _, rfl, hs.elim (fun x => .inl ⟨x, by simp, by simp⟩) .inr, vrs_ints ns⟩, rfl⟩, ?_⟩
  obtain ⟨st', e⟩ := ok ns hl
  rw [e]
  intro ι1 H1 v s S q
  cases (show v = V.bl true from q)
  exact hq H1
theorem noExc {P : Program} {w : World} {H : Hp} {s : Shared} {e : Value} {s' : Shared} (h : L2.CX P w [] H s (fun _ _ _ => False) e s') : False := by
  obtain ⟨_, _, _, _, _, _, _, _, _, _, _, _, z⟩ := h
  exact z.elim
theorem walk_ofD {l : PySem.W.OpenLaw} {k : Nat} {q : Program} {loose : List Str} {XP : (Str → Option Value) → Heap → Prop} {YP : World → Heap → Prop} {d : DefRec} {K : Params → PySem.W.Frag}
    (hn : l.most = some 63) (hdf : d.params.defaults = []) (hr : Room k callerA)
    (hY : ∀ (w : World) (h : Heap), YP w h → (K w.params).In h)
    (F : ∀ (w : World) (mg : Str → Option Value) (fa : Addr) (h : Heap), (K w.params).In h → h.Ns mainGlobals mg → mg d.name = some (.ref fa) →
      ∃ fd : FuncData, (∀ (s : Shared) (u : Value), BindsTo s fd ⟨[u], []⟩ [("script", u)]) ∧
        ∀ base : Heap, (K w.params).In base → base.Ns mainGlobals mg → FnOk l.prog w (K w.params) mg base (L2.CX l.prog w) k fa fd ["script"] (spLaw (K w.params))) :
    PySem.W.WalkO q loose XP YP l.row.toRowW d [] (fun f vs => PySem.call f vs) :=
  walk_of (l := l) (n := 63) (k := k) (x := "script") (CX := fun w => L2.CX l.prog w) (sp := fun w => spLaw (K w.params)) hn (by decide) hdf hr hY F (fun w H a ns hl _ hS => ⟨a, ns, rfl, hS, hl, fun _ => rfl⟩) (fun w _ s e s' h => noExc h)
end DD

/-! DD13: equations to run what a def means. -/
namespace DD
open PySem L2 PyProof.Rows
section
variable {da db dc : DE} {t u : DT} {ds : DA} {d1 d2 : DS} {env : Env} {st : Sto} {f g : F2} {i : Nat}
def ResS.andS (r : ResS) (d : DS) : ResS := match r with
  | .nx env1 st1 => d env1 st1
  | r => r
@[simp] theorem andS_nx {d : DS} : (ResS.nx env st).andS d = d env st := rfl
@[simp] theorem andS_rt {x : D} {d : DS} : (ResS.rt x st).andS d = .rt x st := rfl
@[simp] theorem andS_bk {d : DS} : (ResS.bk env st).andS d = .bk env st := rfl
@[simp] theorem andS_ct {d : DS} : (ResS.ct env st).andS d = .ct env st := rfl
@[simp] theorem andS_exc {x : Xc} {d : DS} : (ResS.exc x env st).andS d = .exc x env st := rfl
@[simp] theorem andS_bad {d : DS} : (ResS.bad).andS d = .bad := rfl
def ResS.fin (r : ResS) : Res D := match r with
  | .nx _ st' => .ok .non st'
  | .rt x st' => .ok x st'
  | .exc x _ st' => .exc x st'
  | _ => .bad
@[simp] theorem fin_nx : (ResS.nx env st).fin = .ok .non st := rfl
@[simp] theorem fin_rt {x : D} : (ResS.rt x st).fin = .ok x st := rfl
@[simp] theorem fin_exc {x : Xc} : (ResS.exc x env st).fin = .exc x st := rfl
@[simp] theorem fin_bad : (ResS.bad).fin = .bad := rfl
theorem mOf_e {d : DS} {N : Nat} {ds : List D} : mOf d N ds st = (d (ds.map some ++ List.replicate (N - ds.length) none) st).fin := by
  unfold mOf ResS.fin; cases d (ds.map some ++ List.replicate (N - ds.length) none) st <;> rfl
@[simp] theorem dSeq_e : dSeq d1 d2 env st = (d1 env st).andS d2 := rfl
@[simp] theorem dNext_e : dNext env st = .nx env st := rfl
@[simp] theorem dBreak_e : dBreak env st = .bk env st := rfl
@[simp] theorem dCont_e : dCont env st = .ct env st := rfl
@[simp] theorem dExpr_e : dExpr da env st = (da env st).bindS env fun _ st1 => .nx env st1 := rfl
@[simp] theorem dRet_e : dRet da env st = (da env st).bindS env fun x st1 => .rt x st1 := rfl
@[simp] theorem dRetN_e : dRetN env st = .rt .non st := rfl
@[simp] theorem dIfS_e : dIfS t d1 d2 env st = (t env st).bindS env fun k st1 => if k = true then d1 env st1 else d2 env st1 := rfl
@[simp] theorem dSet_e : dSet i da env st = (da env st).bindS env fun x st1 => .nx (env.set i (some x)) st1 := rfl
def gdRes (o : Option Env) (st : Sto) : ResS := match o with
  | some env1 => .nx env1 st
  | none => .bad
@[simp] theorem gdRes_some : gdRes (some env) st = .nx env st := rfl
@[simp] theorem dAsg_e {g : DG} : dAsg da g env st = (da env st).bindS env fun x st1 => gdRes (g x env) st1 := rfl
@[simp] theorem gdName_e {x : D} : gdName i x env = some (env.set i (some x)) := rfl
@[simp] theorem gdTup_e {n : Nat} {gs : DGs} {ds : List D} : gdTup n gs (.tup ds) env = if ds.length = n then gs ds env else none := rfl
@[simp] theorem gdNil_e : gdNil [] env = some env := rfl
@[simp] theorem gdCons_e {g : DG} {gs : DGs} {x : D} {r : List D} : gdCons g gs (x :: r) env = (g x env).bind fun env1 => gs r env1 := rfl
def opR (o : Option (Option D)) (st : Sto) : Res D := match o with
  | some (some d) => .ok d st
  | _ => .bad
@[simp] theorem opR_some {d : D} : opR (some (some d)) st = .ok d st := rfl
@[simp] theorem dVar_e : dVar i env st = opR env[i]? st := rfl
@[simp] theorem dC_e {d : D} : dC d env st = .ok d st := rfl
@[simp] theorem dBin_e : dBin f da db env st = (da env st).bind fun x st1 => (db env st1).bind fun y st2 => f x y st2 := rfl
@[simp] theorem dUn_e {f : F1} : dUn f da env st = (da env st).bind fun x st1 => f x st1 := rfl
@[simp] theorem dNil_e : dNil env st = .ok [] st := rfl
@[simp] theorem dCons_e : dCons da ds env st = (da env st).bind fun x st1 => (ds env st1).bind fun xs st2 => .ok (x :: xs) st2 := rfl
@[simp] theorem dTup_e : dTup ds env st = (ds env st).bind fun xs st1 => if xs.length ≤ bigLine then .ok (.tup xs) st1 else .bad := rfl
@[simp] theorem dLst_e : dLst ds env st = (ds env st).bind fun xs st1 => if xs.length ≤ bigLine then .ok xs st1 else .bad := rfl
@[simp] theorem dFz_e : dFz ds env st = (ds env st).bind fun xs st1 => .ok (.fz xs) st1 := rfl
@[simp] theorem dNew_e : dNew ds env st = (ds env st).bind fun xs st1 => .ok (.ref st1.length) (st1 ++ [.lst xs]) := rfl
def tstR (x : D) (st : Sto) : Res Bool := match x with
  | .bl k => .ok k st
  | _ => .bad
@[simp] theorem tstR_bl {k : Bool} : tstR (.bl k) st = .ok k st := rfl
@[simp] theorem dTst_e : dTst da env st = (da env st).bind tstR := rfl
def truR (o : Option Bool) (st : Sto) : Res Bool := match o with
  | some k => .ok k st
  | none => .bad
@[simp] theorem truR_some {k : Bool} : truR (some k) st = .ok k st := rfl
@[simp] theorem dTru_e : dTru da env st = (da env st).bind fun x st1 => truR (tru x st1) st1 := rfl
@[simp] theorem tru_bl {k : Bool} : tru (.bl k) st = some k := rfl
@[simp] theorem dAnd_e : dAnd t u env st = (t env st).bind fun k st1 => if k = true then u env st1 else .ok false st1 := rfl
@[simp] theorem dOr_e : dOr t u env st = (t env st).bind fun k st1 => if k = true then .ok true st1 else u env st1 := rfl
@[simp] theorem dNot_e : dNot t env st = (t env st).bind fun k st1 => .ok (!k) st1 := rfl
@[simp] theorem dIf_e : dIf t da db env st = (t env st).bind fun k st1 => if k = true then da env st1 else db env st1 := rfl
def andR (x : D) (r : Res D) (st : Sto) : Res D := match x with
  | .bl true => r
  | .bl false => .ok (.bl false) st
  | _ => .bad
@[simp] theorem andR_bl {k : Bool} {r : Res D} : andR (.bl k) r st = if k = true then r else .ok (.bl false) st := by cases k <;> rfl
@[simp] theorem dAndV_e : dAndV da db env st = (da env st).bind fun x st1 => andR x (db env st1) st1 := rfl
def orR (x : D) (r : Res D) (st : Sto) : Res D := match x with
  | .bl true => .ok (.bl true) st
  | .bl false => r
  | _ => .bad
@[simp] theorem orR_bl {k : Bool} {r : Res D} : orR (.bl k) r st = if k = true then .ok (.bl true) st else r := by cases k <;> rfl
@[simp] theorem dOrV_e : dOrV da db env st = (da env st).bind fun x st1 => orR x (db env st1) st1 := rfl
def notR (x : D) (st : Sto) : Res D := match x with
  | .bl k => .ok (.bl (!k)) st
  | _ => .bad
@[simp] theorem notR_bl {k : Bool} : notR (.bl k) st = .ok (.bl (!k)) st := rfl
@[simp] theorem dNotV_e : dNotV da env st = (da env st).bind notR := rfl
@[simp] theorem dChain_e : dChain f g da db dc env st = (da env st).bind fun x st1 => (db env st1).bind fun y st2 => (f x y st2).bind fun z st3 => andR z ((dc env st3).bind fun w st4 => g y w st4) st3 := rfl
@[simp] theorem dCall_e {f : FC} : dCall f ds env st = (ds env st).bind fun xs st1 => f xs st1 := rfl
@[simp] theorem dOwn_e {m : M} {n : Nat} : dOwn m n ds env st = (ds env st).bind fun xs st1 => if xs.length = n then m xs st1 else .bad := rfl
@[simp] theorem dMeth_e {ok : D → Sto → Bool} {f : FM} : dMeth ok f da ds env st = (da env st).bind fun x st1 => if ok x st1 = true then (ds env st1).bind fun xs st2 => f x xs st2 else .bad := rfl
@[simp] theorem dSl_e {dl dh : DO} : dSl da dl dh env st = (da env st).bind fun x st1 => (dl env st1).bind fun l st2 => (dh env st2).bind fun u st3 => fSl x l u st3 := rfl
@[simp] theorem dNoPart_e : dNoPart env st = .ok none st := rfl
def partR (x : D) (st : Sto) : Res (Option Int) := match x with
  | .int i => .ok (some i) st
  | _ => .bad
@[simp] theorem partR_int {i : Int} : partR (.int i) st = .ok (some i) st := rfl
@[simp] theorem dPart_e : dPart da env st = (da env st).bind partR := rfl
/-! ### operators -/
@[simp] theorem fAdd_int {a b : Int} : fAdd (.int a) (.int b) st = .ok (.int (a + b)) st := rfl
@[simp] theorem fAdd_str {a b : Str} : fAdd (.str a) (.str b) st = if a.length + b.length ≤ bigLine then .ok (.str (a ++ b)) st else .bad := rfl
@[simp] theorem fAdd_tup {a b : List D} : fAdd (.tup a) (.tup b) st = if a.length + b.length ≤ bigLine then .ok (.tup (a ++ b)) st else .bad := rfl
@[simp] theorem fI_int {C : Int → Int → Bool} {g : Int → Int → D} {a b : Int} : fI C g (.int a) (.int b) st = if C a b = true then .ok (g a b) st else .bad := rfl
@[simp] theorem fSub_int {a b : Int} : fSub (.int a) (.int b) st = .ok (.int (a - b)) st := rfl
@[simp] theorem fMul_int {a b : Int} : fMul (.int a) (.int b) st = if cMul a b = true then .ok (.int (a * b)) st else .bad := rfl
@[simp] theorem fMod_int {a b : Int} : fMod (.int a) (.int b) st = if 0 < b then .ok (.int (a % b)) st else .bad := by
  simp [fMod]
@[simp] theorem fDiv_int {a b : Int} : fDiv (.int a) (.int b) st = if cDiv b = true then .ok (.int (a / b)) st else .bad := rfl
@[simp] theorem cDiv_16 : cDiv 16 = true := cDiv_to (by omega)
@[simp] theorem cDiv_1009 : cDiv 1009 = true := cDiv_to (by omega)
@[simp] theorem cDiv_2003 : cDiv 2003 = true := cDiv_to (by omega)
@[simp] theorem fLe_int {a b : Int} : fLe (.int a) (.int b) st = .ok (.bl (decide (a ≤ b))) st := rfl
@[simp] theorem fGt_int {a b : Int} : fGt (.int a) (.int b) st = .ok (.bl (decide (b < a))) st := rfl
@[simp] theorem fGe_int {a b : Int} : fGe (.int a) (.int b) st = .ok (.bl (decide (b ≤ a))) st := rfl
@[simp] theorem fLtS_int {a b : Int} : fLtS (.int a) (.int b) st = .ok (.bl (decide (a < b))) st := rfl
@[simp] theorem fLtS_str {a b : Str} : fLtS (.str a) (.str b) st = .ok (.bl (decide (a.cps.toList < b.cps.toList))) st := rfl
@[simp] theorem fPow_18 : fPow (.int 10) (.int 18) st = .ok (.int 1000000000000000000) st := by
  have : (10 : Int) ^ (18 : Int).toNat = 1000000000000000000 := by decide
  simp [fPow, this]
def ofO (o : Option D) (st : Sto) : Res D := match o with
  | some d => .ok d st
  | none => .bad
@[simp] theorem ofO_some {d : D} : ofO (some d) st = .ok d st := rfl
@[simp] theorem fIx_tup {xs : List D} {i : Int} : fIx (.tup xs) (.int i) st = ofO (L2.atI xs i) st := by simp only [fIx]; cases L2.atI xs i <;> rfl
@[simp] theorem fIx_fz {xs : List D} {i : Int} : fIx (.fz xs) (.int i) st = ofO (L2.atI xs i) st := by simp only [fIx]; cases L2.atI xs i <;> rfl
@[simp] theorem fIx_sc {xs : List D} {i : Int} : fIx (.sc xs) (.int i) st = ofO (L2.atI xs i) st := by simp only [fIx]; cases L2.atI xs i <;> rfl
def lstO (o : Option O) (k : List D → Res D) : Res D := match o with
  | some (.lst ds) => k ds
  | _ => .bad
@[simp] theorem lstO_some {ds : List D} {k : List D → Res D} : lstO (some (.lst ds)) k = k ds := rfl
@[simp] theorem fIx_ref {n : Nat} {i : Int} : fIx (.ref n) (.int i) st = lstO st[n]? fun ds => ofO (L2.atI ds i) st := by
  simp only [fIx, lstO]; cases st[n]? with
  | none => rfl
  | some o => cases o <;> rfl
@[simp] theorem atI_nat {α : Type} {xs : List α} {n : Nat} : L2.atI xs (n : Int) = xs[n]? := by
  unfold L2.atI L2.ixN
  by_cases h : n < xs.length
  · simp [h]
  · simp [h, List.getElem?_eq_none (Nat.le_of_not_lt h)]
@[simp] theorem atI_lit {α : Type} {xs : List α} {n : Nat} : L2.atI xs (no_index (OfNat.ofNat n : Int)) = xs[(OfNat.ofNat n : Nat)]? := atI_nat (n := n)
@[simp] theorem atI_0 {α : Type} {xs : List α} : L2.atI xs 0 = xs[0]? := atI_nat (n := 0)
@[simp] theorem atI_1 {α : Type} {xs : List α} : L2.atI xs 1 = xs[1]? := atI_nat (n := 1)
def setR (o : Option O) (k : Int) (x : D) (n : Nat) (env : Env) (st : Sto) : ResS := match o with
  | some (.lst ds) => match L2.ixN ds.length k with
    | some j => .nx env (st.set n (.lst (ds.set j x)))
    | none => .bad
  | _ => .bad
theorem setR_nat {ds : List D} {j : Nat} {x : D} {n : Nat} (h : j < ds.length) : setR (some (.lst ds)) (j : Int) x n env st = .nx env (st.set n (.lst (ds.set j x))) := by
  simp [setR, L2.ixN, h]
@[simp] theorem setR_lit {ds : List D} {j : Nat} {x : D} {n : Nat} : setR (some (.lst ds)) (no_index (OfNat.ofNat j : Int)) x n env st = if (OfNat.ofNat j : Nat) < ds.length then .nx env (st.set n (.lst (ds.set (OfNat.ofNat j : Nat) x))) else .bad := by
  show setR (some (.lst ds)) (j : Int) x n env st = if j < ds.length then .nx env (st.set n (.lst (ds.set j x))) else .bad
  by_cases h : j < ds.length
  · rw [setR_nat h, if_pos h]
  · simp [setR, L2.ixN, h]
def setItR (o i : D) (x : D) (env : Env) (st : Sto) : ResS := match o, i with
  | .ref n, .int k => setR st[n]? k x n env st
  | _, _ => .bad
@[simp] theorem setItR_ref {n : Nat} {k : Int} {x : D} : setItR (.ref n) (.int k) x env st = setR st[n]? k x n env st := rfl
@[simp] theorem dSetItem_e : dSetItem da db dc env st = (da env st).bindS env fun x st1 => (db env st1).bindS env fun o st2 => (dc env st2).bindS env fun i st3 => setItR o i x env st3 := rfl
/-! ### calls -/
@[simp] theorem fLen_fz {xs : List D} : fLen [.fz xs] st = .ok (.int xs.length) st := rfl
@[simp] theorem fLen_sc {xs : List D} : fLen [.sc xs] st = .ok (.int xs.length) st := rfl
@[simp] theorem fLen_tup {xs : List D} : fLen [.tup xs] st = .ok (.int xs.length) st := rfl
theorem fLen_str {x : Str} (h : x.length ≤ bigLine) : fLen [.str x] st = .ok (.int x.length) st := by simp [fLen, lenD, h]
@[simp] theorem fInt_int {a : Int} : fInt [.int a] st = .ok (.int a) st := rfl
@[simp] theorem fAbs_int {a : Int} : fAbs [.int a] st = .ok (.int (if a < 0 then -a else a)) st := rfl
@[simp] theorem fTuple_fz {xs : List D} : fTuple [.fz xs] st = .ok (.tup xs) st := rfl
@[simp] theorem fTuple_sc {xs : List D} : fTuple [.sc xs] st = .ok (.tup xs) st := rfl
@[simp] theorem fTuple_tup {xs : List D} : fTuple [.tup xs] st = .ok (.tup xs) st := rfl
theorem fTuple_ref {n : Nat} {xs : List D} (h : st[n]? = some (.lst xs)) : fTuple [.ref n] st = .ok (.tup xs) st := by simp [fTuple, h]
/-! ### equality -/
theorem shaped_int {a : Int} : SeqAt.shaped (.int a) = true := by simp [SeqAt.shaped, PyData.canLay0, PyData.depth]
@[simp] theorem fEq_int {neg : Bool} {a b : Int} : fEq neg (.int a) (.int b) st = .ok (.bl (if neg then !decide (a = b) else decide (a = b))) st := by
  have h : (a == b) = decide (a = b) := by by_cases q : a = b <;> simp [q]
  simp [fEq, toPy, shaped_int, PyData.eqv, h]
@[simp] theorem fEq_tup2 {neg : Bool} {a b a' b' : Int} : fEq neg (.tup [.int a, .int b]) (.tup [.int a', .int b']) st = .ok (.bl (if neg then !decide (a = a' ∧ b = b') else decide (a = a' ∧ b = b'))) st := by
  have h : (PyData.eqv (.tuple [.int a, .int b]) (.tuple [.int a', .int b'])) = decide (a = a' ∧ b = b') := by
    simp only [PyData.eqv, PyData.eqvAll]
    by_cases q : a = a' <;> by_cases q' : b = b' <;> simp [q, q']
  have k (a b : Int) : SeqAt.shaped (.tuple [.int a, .int b]) = true := by simp [SeqAt.shaped, PyData.canLay0, PyData.canLayAll0, PyData.depth, PyData.depthAll]
  simp [fEq, toPy, toPys, k, h]
end
/-! ### the drawing -/
structure Hand where
  cells : List Int
  pos : Nat
  big : Int
  seed : Int
  turns : Int
def Hand.ds (h : Hand) : List D := [.fz (h.cells.map .int), .int (h.pos : Int), .int h.big, .int h.seed, .int h.turns]
noncomputable def dDraw1 : DS := (dIfS (dAnd (dTst (dBin (fEq false) (dBin fIx (dVar 0) (dC (.int 2))) (dC (.int 0)))) (dTst (dBin fLtS (dBin fIx (dVar 0) (dC (.int 1))) (dCall fLen (dCons (dBin fIx (dVar 0) (dC (.int 0))) dNil))))) (dSeq (dSet 2 (dBin fIx (dBin fIx (dVar 0) (dC (.int 0))) (dBin fIx (dVar 0) (dC (.int 1)))))
    (dSeq (dSetItem (dBin fAdd (dBin fIx (dVar 0) (dC (.int 1))) (dC (.int 1))) (dVar 0) (dC (.int 1)))
    (dSeq (dSetItem (dBin fMod (dCall fInt (dCons (dBin fAdd (dBin fAdd (dBin fMul (dBin fIx (dVar 0) (dC (.int 3))) (dC (.int 69621))) (dVar 2)) (dC (.int 11))) dNil)) (dC (.int 2147483629))) (dVar 0) (dC (.int 3)))
    (dIfS (dTst (dBin fGe (dVar 2) (dBin fPow (dC (.int 10)) (dC (.int 18))))) (dSetItem (dVar 2) (dVar 0) (dC (.int 2))) dNext)))) dNext)
noncomputable def dDraw2 : DS := (dSeq (dIfS (dTst (dBin fGt (dBin fIx (dVar 0) (dC (.int 2))) (dC (.int 0)))) (dSeq (dSet 3 (dBin fMod (dCall fInt (dCons (dBin fIx (dVar 0) (dC (.int 2))) dNil)) (dVar 1)))
    (dSeq (dSetItem (dBin fDiv (dBin fIx (dVar 0) (dC (.int 2))) (dVar 1)) (dVar 0) (dC (.int 2)))
    (dRet (dVar 3)))) dNext)
    (dSeq (dSetItem (dBin fAdd (dBin fIx (dVar 0) (dC (.int 4))) (dC (.int 1))) (dVar 0) (dC (.int 4)))
    (dSeq (dSet 4 (dBin fMod (dCall fInt (dCons (dBin fMul (dCall fInt (dCons (dBin fAdd (dBin fIx (dVar 0) (dC (.int 3))) (dBin fMul (dC (.int 7919)) (dBin fIx (dVar 0) (dC (.int 4))))) dNil)) (dC (.int 48271))) dNil)) (dC (.int 2147483647))))
    (dSeq (dSet 4 (dBin fMod (dCall fInt (dCons (dBin fMul (dVar 4) (dBin fAdd (dBin fDiv (dVar 4) (dC (.int 1009))) (dC (.int 69621)))) dNil)) (dC (.int 2147483647))))
    (dSeq (dSet 4 (dBin fMod (dCall fInt (dCons (dBin fMul (dVar 4) (dBin fAdd (dBin fDiv (dVar 4) (dC (.int 2003))) (dC (.int 40692)))) dNil)) (dC (.int 2147483399))))
    (dRet (dBin fMod (dCall fInt (dCons (dBin fDiv (dVar 4) (dC (.int 16))) dNil)) (dVar 1))))))))
noncomputable def dDraw : DS := dSeq dDraw1 dDraw2
theorem cMul_small {a b : Int} (h : -(2 ^ 64) < b ∧ b < 2 ^ 64) : cMul a b = true := by
  simp only [cMul_e, cMul0, Bool.or_eq_true, Bool.and_eq_true, decide_eq_true_eq]; exact .inr h
theorem cMul_small' {a b : Int} (h : -(2 ^ 64) < a ∧ a < 2 ^ 64) : cMul a b = true := by
  simp only [cMul_e, cMul0, Bool.or_eq_true, Bool.and_eq_true, decide_eq_true_eq]; exact .inl h
end DD

/-! DD14: the drawing, and what is told of lists. -/
namespace DD
open PySem L2 PyProof.Rows
theorem cMul_mod1 {x y : Int} : cMul (x % 2147483647) y = true := cMul_small' (by omega)
theorem cMul_mod2 {x y : Int} : cMul (x % 2147483399) y = true := cMul_small' (by omega)
theorem cMul_const1 {x : Int} : cMul x 69621 = true := cMul_small (by omega)
theorem cMul_const2 {x : Int} : cMul 7919 x = true := cMul_small' (by omega)
theorem cMul_const3 {x : Int} : cMul x 48271 = true := cMul_small (by omega)
theorem draw2 {st : Sto} {n : Nat} {h : Hand} {many : Int} {e2 : Option D} (hs : st[n]? = some (.lst h.ds)) (h1 : 0 < many) (h2 : many < 1073741824) :
    ∃ (h' : Hand) (d : Int), 0 ≤ d ∧ d < many ∧ (dDraw2 [some (.ref n), some (.int many), e2, none, none] st).fin = .ok (.int d) (st.set n (.lst h'.ds)) := by
  have hn : n < st.length := (List.getElem?_eq_some_iff.mp hs).1
  have hself : ∀ x : O, (st.set n x)[n]? = some x := fun x => by rw [List.getElem?_set_self hn]
  obtain ⟨cells, pos, big, seed, turns⟩ := h
  by_cases hb : 0 < big
  · refine ⟨⟨cells, pos, big / many, seed, turns⟩, big % many, Int.emod_nonneg _ (by omega), Int.emod_lt_of_pos _ h1, ?_⟩
    simp [dDraw2, hs, Hand.ds, hself, hb, h1, cDiv_to ⟨h1, h2⟩]
  · have : ∃ v : Int, (dDraw2 [some (.ref n), some (.int many), e2, none, none] st).fin = .ok (.int (v % many)) (st.set n (.lst (Hand.mk cells pos big seed (turns + 1)).ds)) := by
      simp [dDraw2, hs, Hand.ds, hself, hb, h1, h2, cMul_mod1, cMul_mod2, cMul_const1, cMul_const2, cMul_const3]
      exact ⟨_, rfl⟩
    obtain ⟨v, e⟩ := this
    exact ⟨_, _, Int.emod_nonneg _ (by omega), Int.emod_lt_of_pos _ h1, e⟩
theorem set_id {st : Sto} {n : Nat} {o : O} (hs : st[n]? = some o) : st.set n o = st := by
  obtain ⟨hn, e⟩ := List.getElem?_eq_some_iff.mp hs
  rw [← e]; exact List.set_getElem_self hn
theorem draw1 {st : Sto} {n : Nat} {h : Hand} {many : Int} (hs : st[n]? = some (.lst h.ds)) :
    ∃ (h' : Hand) (e2 : Option D), dDraw1 [some (.ref n), some (.int many), none, none, none] st = .nx [some (.ref n), some (.int many), e2, none, none] (st.set n (.lst h'.ds)) := by
  have hn : n < st.length := (List.getElem?_eq_some_iff.mp hs).1
  have hself : ∀ x : O, (st.set n x)[n]? = some x := fun x => by rw [List.getElem?_set_self hn]
  have hid := set_id hs
  obtain ⟨cells, pos, big, seed, turns⟩ := h
  by_cases hc : big = 0 ∧ pos < cells.length
  · by_cases hz : 1000000000000000000 ≤ cells[pos]
    · exact ⟨⟨cells, pos + 1, cells[pos], (seed * 69621 + cells[pos] + 11) % 2147483629, turns⟩, some (.int cells[pos]), by simp [dDraw1, hs, Hand.ds, hc, hself, cMul_const1, hz]⟩
    · exact ⟨⟨cells, pos + 1, 0, (seed * 69621 + cells[pos] + 11) % 2147483629, turns⟩, some (.int cells[pos]), by simp [dDraw1, hs, Hand.ds, hc, hself, cMul_const1, hz]⟩
  · refine ⟨⟨cells, pos, big, seed, turns⟩, none, ?_⟩
    rw [hid]
    by_cases hb : big = 0
    · have : ¬ pos < cells.length := fun h => hc ⟨hb, h⟩
      simp [dDraw1, hs, Hand.ds, hb, this]
    · simp [dDraw1, hs, Hand.ds, hb]
theorem draw_spec {st : Sto} {n : Nat} {h : Hand} {many : Int} (hs : st[n]? = some (.lst h.ds)) (h1 : 0 < many) (h2 : many < 1073741824) :
    ∃ (h' : Hand) (d : Int), 0 ≤ d ∧ d < many ∧ mOf dDraw 5 [.ref n, .int many] st = .ok (.int d) (st.set n (.lst h'.ds)) := by
  have hn : n < st.length := (List.getElem?_eq_some_iff.mp hs).1
  obtain ⟨h', e2, e⟩ := draw1 (many := many) hs
  obtain ⟨h3, d, d0, dm, e3⟩ := draw2 (e2 := e2) (st := st.set n (.lst h'.ds)) (n := n) (h := h') (by rw [List.getElem?_set_self hn]) h1 h2
  refine ⟨h3, d, d0, dm, ?_⟩
  rw [mOf_e, dDraw, dSeq_e]
  show ((dDraw1 [some (.ref n), some (.int many), none, none, none] st).andS dDraw2).fin = _
  rw [e, andS_nx, e3, List.set_set]
end DD

/-! DD15: loops and lists of the data side. -/
namespace DD
open PySem L2 PyProof.Rows
/-! ### what is gone over -/
section
variable {da : DE} {ds : DA} {env : Env} {st : Sto}
def itR (x : D) (st : Sto) : Res (List D × (Sto → Bool)) := match x with
  | .fz ds => .ok (ds, yes) st
  | .sc ds => .ok (ds, yes) st
  | _ => .bad
def ittR (x : D) (st : Sto) : Res (List D × (Sto → Bool)) := match x with
  | .tup ds => .ok (ds, yes) st
  | _ => .bad
def itsR (x : D) (st : Sto) : Res (List D × (Sto → Bool)) := match x with
  | .str x => .ok (signs x, yes) st
  | _ => .bad
noncomputable def rgR (xs : List D) (st : Sto) : Res (List D × (Sto → Bool)) := match xs with
  | [.int j] => if rg62 j = true then .ok (intsD 0 j.toNat, yes) st else .bad
  | _ => .bad
def zpR (xs : List D) (st : Sto) : Res (List D × (Sto → Bool)) := match xs with
  | [x, y] => match seqD x, seqD y with
    | some as, some bs => .ok (pairsD as bs, yes) st
    | _, _ => .bad
  | _ => .bad
@[simp] theorem dItems_e : dItems da env st = (da env st).bind itR := rfl
@[simp] theorem dItemsT_e : dItemsT da env st = (da env st).bind ittR := rfl
@[simp] theorem dSigns_e : dSigns da env st = (da env st).bind itsR := rfl
@[simp] theorem dRange1_e : dRange1 ds env st = (ds env st).bind rgR := rfl
@[simp] theorem dZip_e : dZip ds env st = (ds env st).bind zpR := rfl
@[simp] theorem itR_fz {xs : List D} : itR (.fz xs) st = .ok (xs, yes) st := rfl
@[simp] theorem itR_sc {xs : List D} : itR (.sc xs) st = .ok (xs, yes) st := rfl
@[simp] theorem ittR_tup {xs : List D} : ittR (.tup xs) st = .ok (xs, yes) st := rfl
@[simp] theorem itsR_str {x : Str} : itsR (.str x) st = .ok (signs x, yes) st := rfl
theorem rgR_ok {j : Int} {n : Nat} (e : j = n) (h : n < 1000000) : rgR [.int j] st = .ok (intsD 0 n, yes) st := by
  subst e
  have h1 : rg62 (n : Int) = true := rg62_to (by omega)
  unfold rgR
  simp only [h1, if_true, Int.toNat_natCast]
@[simp] theorem zpR_st {x y : Str} : zpR [.str x, .str y] st = .ok (pairsD (signs x) (signs y), yes) st := rfl
@[simp] theorem zpR_stt {x : Str} {ys : List D} : zpR [.str x, .tup ys] st = .ok (pairsD (signs x) ys, yes) st := rfl
@[simp] theorem dFor_e {di : DI} {g : DG} {d : DS} : dFor di g d env st = (di env st).bindS env fun a st1 => loop g d a.2 a.1 env st1 := rfl
@[simp] theorem dLc_e {di : DI} {g : DG} {t : DT} {de : DE} {vs : List Nat} : dLc di g t de vs env st = (di env st).bind fun a st1 => if a.1.length ≤ bigLine then lcLoop g t de a.2 (wipeE vs env) a.1 st1 else .bad := rfl
theorem intsD_length {lo : Int} {n : Nat} : (intsD lo n).length = n := by simp [intsD]
theorem intsD_get {lo : Int} {n i : Nat} {x : D} (h : (intsD lo n)[i]? = some x) : i < n ∧ x = .int (lo + (i : Nat)) := by
  simp only [intsD, List.getElem?_map, Option.map_eq_some_iff] at h
  obtain ⟨a, h1, rfl⟩ := h
  have h2 := List.getElem?_eq_some_iff.mp h1
  obtain ⟨h3, h4⟩ := h2
  simp at h3 h4
  exact ⟨h3, by rw [h4]⟩
theorem intsD_mem {n : Nat} {x : D} (h : x ∈ intsD 0 n) : ∃ i : Nat, i < n ∧ x = .int (i : Int) := by
  obtain ⟨i, hi⟩ := List.mem_iff_getElem?.mp h
  obtain ⟨h1, h2⟩ := intsD_get hi
  exact ⟨i, h1, by simpa using h2⟩
end
section
variable {g : DG} {de : DE} {env : Env} {d : DS}
theorem lc_map {st : Sto} {f : D → D} : ∀ xs : List D, (∀ x ∈ xs, ∃ env1, g x env = some env1 ∧ de env1 st = .ok (f x) st) → lcLoop g dYes de yes env xs st = .ok (xs.map f) st
  | [], _ => rfl
  | x :: r, h => by
    obtain ⟨env1, h1, h2⟩ := h x List.mem_cons_self
    have ih := lc_map r fun y hy => h y (List.mem_cons_of_mem _ hy)
    unfold lcLoop
    simp only [yes, if_true, h1, dYes, h2]
    rw [ih]; rfl
theorem lc_inv {I : Sto → Prop} {P : D → Prop} : ∀ (xs : List D) (st : Sto), I st → (∀ x ∈ xs, ∀ st, I st → ∃ env1 y st', g x env = some env1 ∧ de env1 st = .ok y st' ∧ I st' ∧ P y) →
    ∃ ys st', lcLoop g dYes de yes env xs st = .ok ys st' ∧ I st' ∧ ys.length = xs.length ∧ ∀ y ∈ ys, P y
  | [], st, i, _ => ⟨[], st, rfl, i, rfl, fun _ h => by cases h⟩
  | x :: r, st, i, h => by
    obtain ⟨env1, y, st1, h1, h2, i1, p1⟩ := h x List.mem_cons_self st i
    obtain ⟨ys, st2, e, i2, l, p2⟩ := lc_inv r st1 i1 fun z hz => h z (List.mem_cons_of_mem _ hz)
    refine ⟨y :: ys, st2, ?_, i2, by simp [l], fun z hz => ?_⟩
    · unfold lcLoop
      simp only [yes, if_true, h1, dYes, h2]
      rw [e]; rfl
    · rcases List.mem_cons.mp hz with z1 | z1
      · rw [z1]; exact p1
      · exact p2 z z1
theorem for_inv {I : Nat → Env → Sto → Prop} : ∀ (xs : List D) (k : Nat) (env : Env) (st : Sto), I k env st →
    (∀ i x env st, xs[i]? = some x → I (k + i) env st → ∃ env1 env2 st2, g x env = some env1 ∧ (d env1 st = .nx env2 st2 ∨ d env1 st = .ct env2 st2) ∧ I (k + i + 1) env2 st2) →
    ∃ env' st', loop g d yes xs env st = .nx env' st' ∧ I (k + xs.length) env' st'
  | [], k, env, st, i, _ => ⟨env, st, rfl, i⟩
  | x :: r, k, env, st, i, h => by
    obtain ⟨env1, env2, st2, h1, h2, i2⟩ := h 0 x env st rfl i
    obtain ⟨env3, st3, e, i3⟩ := for_inv r (k + 1) env2 st2 i2 fun j y env st hy hi => by
      have := h (j + 1) y env st (by simpa using hy) (by rw [show k + (j + 1) = k + 1 + j by omega]; exact hi)
      rw [show k + (j + 1) = k + 1 + j by omega] at this
      exact this
    refine ⟨env3, st3, ?_, by rw [List.length_cons, show k + (r.length + 1) = k + 1 + r.length by omega]; exact i3⟩
    unfold loop
    simp only [yes, if_true, h1]
    rcases h2 with h2 | h2 <;> simp only [h2, e]
end
theorem list_of {α : Type} {f : α → D} {Q : α → Prop} : ∀ ys : List D, (∀ y ∈ ys, ∃ a, y = f a ∧ Q a) → ∃ as : List α, ys = as.map f ∧ ∀ a ∈ as, Q a
  | [], _ => ⟨[], rfl, fun _ h => by cases h⟩
  | y :: r, h => by
    obtain ⟨a, e, q⟩ := h y List.mem_cons_self
    obtain ⟨as, e2, q2⟩ := list_of (f := f) (Q := Q) r fun z hz => h z (List.mem_cons_of_mem _ hz)
    refine ⟨a :: as, by rw [e, e2]; rfl, fun b hb => ?_⟩
    rcases List.mem_cons.mp hb with z | z
    · rw [z]; exact q
    · exact q2 b z
theorem bls_true : ∀ ys : List D, (∀ y ∈ ys, y = .bl true) → ∃ bs, blsOf ys = some bs ∧ bs.all id = true
  | [], _ => ⟨[], rfl, rfl⟩
  | y :: r, h => by
    obtain ⟨bs, e1, e2⟩ := bls_true r fun z hz => h z (List.mem_cons_of_mem _ hz)
    rw [h y List.mem_cons_self]
    exact ⟨true :: bs, by simp [blsOf, e1], by rw [List.all_cons, e2]; rfl⟩
theorem all_true {ys : List D} {st : Sto} (h : ∀ y ∈ ys, y = .bl true) : fAll [.fz ys] st = .ok (.bl true) st := by
  obtain ⟨bs, e1, e2⟩ := bls_true ys h
  simp only [fAll, e1, e2]
theorem lc_all {g : DG} {de : DE} {env : Env} {st : Sto} (xs : List D) (h : ∀ x ∈ xs, ∃ env1, g x env = some env1 ∧ de env1 st = .ok (.bl true) st) :
    ∃ ys, lcLoop g dYes de yes env xs st = .ok ys st ∧ fAll [.fz ys] st = .ok (.bl true) st := by
  refine ⟨_, lc_map (f := fun _ => .bl true) xs h, all_true fun y hy => ?_⟩
  obtain ⟨_, _, e⟩ := List.mem_map.mp hy
  exact e.symm
/-! ### the hand in the store -/
def HG (n : Nat) (st : Sto) : Prop := ∃ h : Hand, st[n]? = some (.lst h.ds)
def Dr (n : Nat) (st st' : Sto) : Prop := ∃ h : Hand, st' = st.set n (.lst h.ds)
section
variable {n : Nat} {st st' st2 : Sto}
theorem Dr.refl (h : HG n st) : Dr n st st := by obtain ⟨h, e⟩ := h; exact ⟨h, (set_id e).symm⟩
theorem Dr.trans (a : Dr n st st') (b : Dr n st' st2) : Dr n st st2 := by
  obtain ⟨h, rfl⟩ := a
  obtain ⟨h2, rfl⟩ := b
  exact ⟨h2, by rw [List.set_set]⟩
theorem Dr.hg (h : HG n st) (d : Dr n st st') : HG n st' := by
  obtain ⟨h, e⟩ := h
  obtain ⟨h2, rfl⟩ := d
  exact ⟨h2, by rw [List.getElem?_set_self (List.getElem?_eq_some_iff.mp e).1]⟩
theorem Dr.get {m : Nat} (d : Dr n st st') (hm : m ≠ n) : st'[m]? = st[m]? := by
  obtain ⟨h2, rfl⟩ := d
  rw [List.getElem?_set_ne (Ne.symm hm)]
theorem Dr.len (d : Dr n st st') : st'.length = st.length := by
  obtain ⟨h2, rfl⟩ := d
  simp
theorem HG.lt (h : HG n st) : n < st.length := by obtain ⟨h, e⟩ := h; exact (List.getElem?_eq_some_iff.mp e).1
theorem draw_ok {many : Int} (hg : HG n st) (h1 : 0 < many) (h2 : many < 1073741824) : ∃ (d : Nat) (st' : Sto), (d : Int) < many ∧ mOf dDraw 5 [.ref n, .int many] st = .ok (.int d) st' ∧ Dr n st st' := by
  obtain ⟨h, e⟩ := hg
  obtain ⟨h', d, d0, dm, e2⟩ := draw_spec e h1 h2
  exact ⟨d.toNat, _, by omega, by rw [e2, Int.toNat_of_nonneg d0], h', rfl⟩
end
/-! ### nothing in the store names a place -/
def NoRefO (o : O) : Prop := ∀ n, belowO n o = true
def NoRef (st : Sto) : Prop := ∀ o ∈ st, NoRefO o
theorem belows_ints {n : Nat} : ∀ xs : List Int, belows n (xs.map .int) = true
  | [] => rfl
  | _ :: r => by rw [List.map_cons]; unfold belows; rw [belows_ints r]; simp [below]
theorem noRef_hand (h : Hand) : NoRefO (.lst h.ds) := fun n => by
  simp [belowO, Hand.ds, belows, below, belows_ints]
theorem NoRef.set {st : Sto} {n : Nat} {o : O} (h : NoRef st) (ho : NoRefO o) : NoRef (st.set n o) := fun x hx => by
  rcases List.mem_or_eq_of_mem_set hx with z | z
  · exact h x z
  · rw [z]; exact ho
theorem NoRef.dr {st st' : Sto} {n : Nat} (h : NoRef st) (d : Dr n st st') : NoRef st' := by
  obtain ⟨h2, rfl⟩ := d
  exact h.set (noRef_hand h2)
theorem NoRef.app {st : Sto} {o : O} (h : NoRef st) (ho : NoRefO o) : NoRef (st ++ [o]) := fun x hx => by
  rcases List.mem_append.mp hx with z | z
  · exact h x z
  · rw [List.mem_singleton.mp z]; exact ho
/-! ### texts -/
theorem ix_of {x : Str} {c : Nat} (h : c ∈ x.cps.toList) : ∃ i : Nat, i < x.length ∧ Txt.index0 x ⟨#[c]⟩ = some i ∧ Txt.find x ⟨#[c]⟩ = (i : Int) := by
  have h1 := PyProof.Rows.empty_one x c
  cases q : PySem.Builtin.Str.occurrences x ⟨#[c]⟩ 0 x.length 1 with
  | nil => rw [q] at h1; simp [h] at h1
  | cons i r =>
    refine ⟨i, ?_, ?_, ?_⟩
    · have := (PySem.StrLaws.occ_spec x ⟨#[c]⟩ 0 x.length 1 i (by rw [q]; exact List.mem_cons_self)).1
      have : i + 1 ≤ x.length := this
      omega
    · simp [Txt.index0, q]
    · simp [Txt.find, q]
end DD

/-! DD16: machines as data. -/
namespace DD
open PySem L2 PyProof.Rows
section
variable {st : Sto}
@[simp] theorem fSl_sc {xs : List D} {lo hi : Option Int} : fSl (.sc xs) lo hi st = .ok (.fz (cutL xs lo hi)) st := rfl
@[simp] theorem fSl_fz {xs : List D} {lo hi : Option Int} : fSl (.fz xs) lo hi st = .ok (.fz (cutL xs lo hi)) st := rfl
@[simp] theorem fSl_tup {xs : List D} {lo hi : Option Int} : fSl (.tup xs) lo hi st = .ok (.tup (cutL xs lo hi)) st := rfl
theorem cut_map {α β : Type} (f : α → β) (xs : List α) (lo hi : Option Int) : cutL (xs.map f) lo hi = (cutL xs lo hi).map f := by
  simp [cutL, List.map_take, List.map_drop]
theorem cut_len {α : Type} (xs : List α) (lo hi : Option Int) : (cutL xs lo hi).length ≤ xs.length := by
  simp only [cutL, List.length_take, List.length_drop]; omega
/-- a text of these signs -/
def tx (cs : List Nat) : Str := ⟨cs.toArray⟩
@[simp] theorem tx_list {cs : List Nat} : (tx cs).cps.toList = cs := rfl
@[simp] theorem tx_length {cs : List Nat} : (tx cs).length = cs.length := rfl
@[simp] theorem tx_append {as bs : List Nat} : tx as ++ tx bs = tx (as ++ bs) := by
  show Str.mk (as.toArray ++ bs.toArray) = Str.mk (as ++ bs).toArray
  simp
@[simp] theorem signs_tx {cs : List Nat} : signs (tx cs) = cs.map fun c => .str (tx [c]) := rfl
theorem tx_nil : (Str.ofString "" : Str) = tx [] := by decide +kernel
theorem tx_letters : (Str.ofString "abcdefghijklmnopqrstuvwxyz" : Str) = tx (List.range' 97 26) := by decide +kernel
theorem fIx_str {z : Str} {i : Nat} {c : Nat} (hl : z.length ≤ bigLine) (h : z.cps.toList[i]? = some c) : fIx (.str z) (.int (i : Int)) st = .ok (.str (tx [c])) st := by
  simp only [fIx]
  have : L2.atI z.cps.toList (i : Int) = some c := by rw [atI_nat]; exact h
  simp only [this, hl, if_true]; rfl
theorem fSl_str_from {cs : List Nat} {i : Nat} (h : cs.length ≤ bigLine) : fSl (.str (tx cs)) (some (i : Int)) none st = .ok (.str (tx (cs.drop i))) st := by
  have hl : (tx cs).length ≤ bigLine := h
  simp only [fSl, hl, if_true]
  congr 2
  show Str.mk ((((tx cs).cps.toList.drop (HT.sIx (tx cs).length 0 (some (i : Int)))).take (HT.sIx (tx cs).length (tx cs).length none - HT.sIx (tx cs).length 0 (some (i : Int))))).toArray = tx (cs.drop i)
  rw [HT.sIx_nat, HT.sIx_none, tx_list, tx_length]
  unfold tx
  congr 2
  by_cases hi : i ≤ cs.length
  · rw [Nat.min_eq_left hi, List.take_of_length_le (by simp)]
  · rw [Nat.min_eq_right (by omega), List.drop_eq_nil_of_le (Nat.le_refl _), List.drop_eq_nil_of_le (by omega), List.take_nil]
@[simp] theorem fIsi_int_int {a : Int} : fIsi [.int a, .ty "int"] st = .ok (.bl true) st := by
  simp [fIsi, tyName, show kitB "int" "int" = some true by decide +kernel]
@[simp] theorem fIsi_int_bool {a : Int} : fIsi [.int a, .ty "bool"] st = .ok (.bl false) st := by
  simp [fIsi, tyName, show kitB "int" "bool" = some false by decide +kernel]
@[simp] theorem fIsi_tup_tup {a : List D} : fIsi [.tup a, .ty "tuple"] st = .ok (.bl true) st := by
  simp [fIsi, tyName, show kitB "tuple" "tuple" = some true by decide +kernel]
@[simp] theorem fIsi_str_str {a : Str} : fIsi [.str a, .ty "str"] st = .ok (.bl true) st := by
  simp [fIsi, tyName, show kitB "str" "str" = some true by decide +kernel]
@[simp] theorem fIn_sign {c : Nat} {z : Str} {neg : Bool} : fIn neg (.str (tx [c])) (.str z) st = .ok (.bl (if neg then !decide (c ∈ z.cps.toList) else decide (c ∈ z.cps.toList))) st := rfl
theorem strOk_tx {cs : List Nat} (h : ∀ c ∈ cs, c < 0x110000) : PyData.strOk (tx cs) = true := by
  simp only [PyData.strOk, tx]
  simpa using h
theorem shaped_str {a : Str} (h : PyData.strOk a = true) : SeqAt.shaped (.str a) = true := by simp [SeqAt.shaped, PyData.canLay0, PyData.depth, h]
theorem fEq_str {neg : Bool} {a b : Str} (ha : PyData.strOk a = true) (hb : PyData.strOk b = true) : fEq neg (.str a) (.str b) st = .ok (.bl (if neg then !decide (a = b) else decide (a = b))) st := by
  have h : (a == b) = decide (a = b) := by by_cases q : a = b <;> simp [q]
  simp [fEq, toPy, shaped_str ha, shaped_str hb, PyData.eqv, h]
end
/-! ### join of signs -/
theorem strs_signs : ∀ cs : List Nat, strsOf (cs.map fun c => D.str (tx [c])) = some (cs.map fun c => tx [c])
  | [] => rfl
  | c :: r => by
    show (strsOf (r.map fun c => D.str (tx [c]))).map (tx [c] :: ·) = _
    rw [strs_signs r]; rfl
theorem sum_ones : ∀ cs : List Nat, ((cs.map fun c => tx [c]).map (·.length)).sum = cs.length
  | [] => rfl
  | c :: r => by
    have := sum_ones r
    simp only [List.map_cons, List.sum_cons, List.length_cons, this]
    show 1 + r.length = r.length + 1
    omega
theorem join_signs : ∀ cs : List Nat, Str.join (tx []) (cs.map fun c => tx [c]) = tx cs
  | [] => rfl
  | [c] => rfl
  | c :: d :: r => by
    have ih := join_signs (d :: r)
    show tx [c] ++ tx [] ++ Str.join (tx []) ((d :: r).map fun c => tx [c]) = _
    rw [ih, tx_append, tx_append]; rfl
theorem fJoin_signs {st : Sto} {cs : List Nat} (h : cs.length ≤ bigLine) : fJoin (.str (tx [])) [.fz (cs.map fun c => D.str (tx [c]))] st = .ok (.str (tx cs)) st := by
  have e : Txt.join (tx []) (cs.map fun c => tx [c]) = tx cs := by
    rw [← join_signs cs]
    exact TL.join_eq _ _
  have z : (tx []).length = 0 := rfl
  simp only [fJoin, itemsD, strs_signs, sum_ones, e, z, Nat.mul_zero, Nat.add_zero, h, if_true]
/-! ### loops that stand in a goal -/
section
variable {g : DG} {d : DS} {de : DE} {xs : List D} {env : Env} {st : Sto}
theorem for_use {r : ResS} (I : Nat → Env → Sto → Prop) (h : loop g d yes xs env st = r) (h0 : I 0 env st)
    (hs : ∀ i x env st, xs[i]? = some x → I i env st → ∃ env1 env2 st2, g x env = some env1 ∧ (d env1 st = .nx env2 st2 ∨ d env1 st = .ct env2 st2) ∧ I (i + 1) env2 st2) :
    ∃ env' st', r = .nx env' st' ∧ I xs.length env' st' := by
  obtain ⟨env', st', e, i⟩ := for_inv (g := g) (d := d) (I := I) xs 0 env st h0 fun i x env st hx hi => by
    rw [Nat.zero_add] at hi ⊢
    exact hs i x env st hx hi
  rw [Nat.zero_add] at i
  exact ⟨env', st', by rw [← h, e], i⟩
theorem lc_use {r : Res (List D)} (I : Sto → Prop) (P : D → Prop) (h : lcLoop g dYes de yes env xs st = r) (h0 : I st)
    (hs : ∀ x ∈ xs, ∀ st, I st → ∃ env1 y st', g x env = some env1 ∧ de env1 st = .ok y st' ∧ I st' ∧ P y) :
    ∃ ys st', r = .ok ys st' ∧ I st' ∧ ys.length = xs.length ∧ ∀ y ∈ ys, P y := by
  obtain ⟨ys, st', e, i⟩ := lc_inv (I := I) (P := P) xs st h0 hs
  exact ⟨ys, st', by rw [← h, e], i⟩
theorem lcm_use {r : Res (List D)} (f : D → D) (h : lcLoop g dYes de yes env xs st = r) (hs : ∀ x ∈ xs, ∃ env1, g x env = some env1 ∧ de env1 st = .ok (f x) st) : r = .ok (xs.map f) st := by
  rw [← h]; exact lc_map xs hs
theorem lca_use {r : Res (List D)} (h : lcLoop g dYes de yes env xs st = r) (hs : ∀ x ∈ xs, ∃ env1, g x env = some env1 ∧ de env1 st = .ok (.bl true) st) : ∃ ys, r = .ok ys st ∧ fAll [.fz ys] st = .ok (.bl true) st := by
  obtain ⟨ys, e, h2⟩ := lc_all xs hs
  exact ⟨ys, by rw [← h, e], h2⟩
end
theorem ints_get {n i : Nat} {x : D} (h : (intsD 0 n)[i]? = some x) : i < n ∧ x = .int (i : Int) := by
  obtain ⟨h1, h2⟩ := intsD_get h
  exact ⟨h1, by simpa using h2⟩
/-! ### machines -/
structure Mach where
  rows : List Nat
  ans : Nat
  mv : List (List (List (Nat × Nat)))
def RowsOk (cs : List Nat) : Prop := cs.Pairwise (· < ·) ∧ (∀ c ∈ cs, 97 ≤ c ∧ c < 123) ∧ 1 ≤ cs.length ∧ cs.length ≤ 4
structure MachOk (w : Mach) : Prop where
  rows : RowsOk w.rows
  ans1 : 1 ≤ w.ans
  ans3 : w.ans ≤ 3
  mv1 : 1 ≤ w.mv.length
  mv12 : w.mv.length ≤ 12
  it : ∀ it ∈ w.mv, it.length = w.rows.length ∧ ∀ ps ∈ it, ps.length = w.ans ∧ ∀ p ∈ ps, 1 ≤ p.1 ∧ p.1 ≤ 99 ∧ p.2 < w.mv.length
def pD (p : Nat × Nat) : D := .tup [.int (p.1 : Int), .int (p.2 : Int)]
def psD (ps : List (Nat × Nat)) : D := .tup (ps.map pD)
def itD (it : List (List (Nat × Nat))) : D := .tup (it.map psD)
def mvD (mv : List (List (List (Nat × Nat)))) : D := .tup (mv.map itD)
def aD (a : Nat) : D := .int (a : Int)
def runD (ch as : List Nat) : D := .tup [.str (tx ch), .tup (as.map aD)]
def Mach.wD (w : Mach) : D := .tup [.str (tx w.rows), .int (w.ans : Int), mvD w.mv]
end DD

/-! DD17: own errors raised without arguments; try with several except clauses. -/
namespace DD
open PySem L2 PyProof.Rows
/-- X(), X an own exception class without own __init__ -/
theorem pmk_own0 {X : Cx} {pos : Pos} {C : Addr} {bmB : List Value} {B newId initId : String} {x : Str} {p : Pos} (F : ExcBaseFacts B newId initId bmB) (q : PySem.W.excIn X.K C bmB newId = true) (gC : X.mg x = some (.ref C))
    (kC : PySem.W.keepIn X.K (.ref C) = true) (r : Raises X (.ref C)) (hg : Gl X x) (hdb : (x == ("__debug__" : Str)) = false := by decide) :
    PMk X (.Call (.Name x p) [] [] pos) (fun _ H Q => Q (.ref C) none H) := by
  intro pins s σ H Q I h
  refine wpAny_Call_Name_kw (ld_glob I hg gC ?_ hdb)
  refine PySem.W.callWith_K0 (first := []) I.kIn kC ?_
  show wpAny _ _ (call (.ref C) []) _ _ _
  obtain ⟨bm, N, nm, qn, bs, hdct, sn, sub, ab, col, dd, k0, k1, k2, k3, k5, mN, hC, hN, hni, T⟩ := exc_obj I.kIn q
  refine wpAny_call_exc_subT F T hC hN hni (fun h' e hm => ?_) (Nat.zero_le _)
  exact mk_of I hm r h (I.hok.gone hm.new)
/-- what is written of an own error class without __init__ -/
structure ExcCls (K : PySem.W.Frag) (C : Addr) : Prop where
  q : PySem.W.excIn K C [.type "ValueError", .type "Exception", .type "BaseException", .type "object"] "ValueError.__new__" = true
  kC : PySem.W.keepIn K (.ref C) = true
  exC : PySem.W.subIn K (.ref C) (.type "BaseException") = some true
  tyC : PySem.W.typeIn K (.ref C) = some (.type "type")
/-- an except clause's class, from what is read of it -/
theorem exm_mk {K : PySem.W.Frag} {C D : Addr} {b : Bool} (h1 : PySem.W.subIn K (.ref D) (.type "BaseException") = some true) (h2 : PySem.W.isClsIn K D = true) (h3 : PySem.W.typeIn K (.ref D) = some (.type "type")) (h4 : PySem.W.subIn K (.ref C) (.ref D) = some b) :
    PySem.W.exmOne K (.ref C) (.ref D) = some b := by
  unfold PySem.W.exmOne
  have h2 : (PySem.W.clsIn K D).isSome = true := h2
  simp [h1, h2, h3, h4, PySem.W.kitCls]
/-- raise X() -/
def dRaise0 (c : Str) : DS := fun env st => .exc (c, none) env st
theorem psd_raise0 {X : Cx} {W : WX} {C : Addr} {x : Str} {p pos pos' : Pos} (hc : X.calm = true) (tk : Takes X W) (hE : ExcCls X.K C) (gC : X.mg x = some (.ref C)) (hg : Gl X x) (hdb : (x == ("__debug__" : Str)) = false := by decide) :
    PSd X W (.Raise (some (.Call (.Name x p) [] [] pos')) none pos) (dRaise0 x) :=
  PS.mono (ps_raise hc tk (pmk_own0 F.excBase_ValueError hE.q gC hE.kC (raises_own hE.exC hE.tyC) hg hdb)) fun D σ H ⟨ρ, ι, st, env, S, ve, p⟩ =>
    p ι H σ (.ref C) none (Step.refl _ _) S ve ⟨C, rfl, gC, rfl⟩
/-! ### try -/
def SubOk (K : PySem.W.Frag) (mg : Str → Option Value) (sub : Str → Str → Option Bool) : Prop :=
  ∀ x c b, sub x c = some b → ∀ C D, mg x = some (.ref C) → mg c = some (.ref D) → PySem.W.exmOne K (.ref C) (.ref D) = some b
theorem lookup_mem {α β : Type} [BEq α] [LawfulBEq α] {a : α} {b : β} : ∀ {l : List (α × β)}, l.lookup a = some b → (a, b) ∈ l
  | [], h => by simp at h
  | (x, y) :: r, h => by
    rw [List.lookup_cons] at h
    cases q : a == x with
    | true => rw [q] at h; cases h; rw [eq_of_beq q]; exact List.mem_cons_self
    | false => rw [q] at h; exact List.mem_cons_of_mem _ (lookup_mem h)
theorem subOk_of {K : PySem.W.Frag} {mg : Str → Option Value} {l : List ((Str × Str) × Bool)} (h : ∀ e ∈ l, ∀ C D, mg e.1.1 = some (.ref C) → mg e.1.2 = some (.ref D) → PySem.W.exmOne K (.ref C) (.ref D) = some e.2) : SubOk K mg fun x c => l.lookup (x, c) :=
  fun x c b hb C D h1 h2 => h ((x, c), b) (lookup_mem hb) C D h1 h2
def noExcR (r : ResS) : ResS := match r with
  | .exc _ _ _ => .bad
  | r => r
def hdR (sub : Str → Str → Option Bool) (x : Xc) (env : Env) (st : Sto) : List (Str × DS) → ResS
  | [] => .exc x env st
  | (c, d) :: r => match sub x.1 c with
    | some true => noExcR (d env st)
    | some false => hdR sub x env st r
    | none => .bad
def dTry (sub : Str → Str → Option Bool) (d : DS) (hs : List (Str × DS)) : DS := fun env st => match d env st with
  | .exc x env1 st1 => hdR sub x env1 st1 hs
  | r => r
inductive HdD (X : Cx) : List ExceptHandler → List (Str × DS) → Prop
  | nil : HdD X [] []
  | cons {x : Str} {C : Addr} {b₀ : Stmt} {suite : List Stmt} {np pos' : Pos} {hds : List ExceptHandler} {hs : List (Str × DS)} {dd : DS} (hm : X.mg x = some (.ref C)) (hc : Names X x (.ref C))
      (hsu : ∀ (a : Addr) (oe : Obj) (cls : Value) (d : Option Addr) (pn : List (Addr × Obj)), Zc cls d oe → (∃ vs, oe.data = .fields vs) → PSsd (X.suite a ((a, oe) :: pn)) W0 (b₀ :: suite) dd) (r : HdD X hds hs) :
      HdD X (.ExceptHandler (some (.Name x np)) none (b₀ :: suite) pos' :: hds) ((x, dd) :: hs)
theorem PostS.noExc {B : Bs} {W : WX} {E : Ends} {σ : L2.St} {ι : List Addr} {H : Hp} {r : ResS} (h : PostS B W E σ ι H (noExcR r)) : PostS B W0 E σ ι H r := by
  cases r with
  | exc x e st => exact h.elim
  | nx e st => exact h
  | bk e st => exact h
  | ct e st => exact h
  | rt x st => exact h
  | bad => exact h
theorem hd_list {X : Cx} {W : WX} {sub : Str → Str → Option Bool} (hsub : SubOk X.K X.mg sub) {hds : List ExceptHandler} {hs : List (Str × DS)} (h : HdD X hds hs) :
    ∃ l, HdsOk X hds l ∧ ∀ (D : Ends) (ρ ι : List Addr) (st : Sto) (env : Env) (σ : L2.St) (H : Hp) (x : Xc) (cls : Value) (dd : Option Addr), Sim ⟨X.K, X.mg, ρ⟩ H ι st → VEnv ⟨X.K, X.mg, ρ⟩ H ι env σ → ExcR ⟨X.K, X.mg, ρ⟩ H ι x cls dd →
      PostS ⟨X.K, X.mg, ρ⟩ W D σ ι H (hdR sub x env st hs) → wMany X.K W D l cls dd σ H := by
  induction h with
  | nil => exact ⟨[], .nil, fun D ρ ι st env σ H x cls dd S ve ex p => p ι H σ cls dd (Step.refl _ _) S ve ex⟩
  | @cons x C b₀ suite np pos' hds hs d hm hc hsu r ih =>
    obtain ⟨l, hl, k⟩ := ih
    refine ⟨(.ref C, fun _ _ _ => tSd X.K X.mg W0 d) :: l, .cons hc hsu hl, fun D ρ ι st env σ H y cls dd S ve ex p => ?_⟩
    obtain ⟨Cy, rfl, hy, hd⟩ := id ex
    unfold hdR at p
    cases q : sub y.1 x with
    | none => rw [q] at p; exact p.elim
    | some b =>
      rw [q] at p
      refine ⟨b, hsub _ _ _ q _ _ hy hm, fun hb a _ => ?_, fun hb => ?_⟩
      · subst hb
        exact ⟨ρ, ι, st, env, S, ve, PostS.noExc p⟩
      · subst hb
        exact k D ρ ι st env σ H y _ dd S ve ex p
theorem psd_try {X : Cx} {W : WX} {sub : Str → Str → Option Bool} {body : List Stmt} {h₀ : ExceptHandler} {hds : List ExceptHandler} {hs : List (Str × DS)} {d : DS} {pos : Pos} (hst : X.stack = X.env :: X.outer) (hf : X.env.frame = some X.env.locals) (tk : Takes X W) (hsub : SubOk X.K X.mg sub)
    (hb : ∀ (W' : WX) (pn : List (Addr × Obj)) (xe : Value → Shared → Prop), Takes (X.tr pn xe) W' → PassesOwn (model X.prog X.w) X.A X.env xe → PSsd (X.tr pn xe) W' body d) (hh : HdD X (h₀ :: hds) hs) :
    PSd X W (.Try body (h₀ :: hds) [] [] pos) (dTry sub d hs) := by
  obtain ⟨l, hl, k⟩ := hd_list (W := W) hsub hh
  refine PS.mono (ps_try_many (tb := fun W' => tSd X.K X.mg W' d) hst hf tk hb hl) fun D σ H ⟨ρ, ι, st, env, S, ve, p⟩ => ⟨ρ, ι, st, env, S, ve, ?_⟩
  unfold dTry at p
  cases q : d env st with
  | exc x env1 st1 =>
    rw [q] at p
    exact fun ι1 H1 σ1 cls dd s1 S1 ve1 ex => k D ρ ι1 st1 env1 σ1 H1 x cls dd S1 ve1 ex (PostS.step s1 p)
  | nx e st1 => rw [q] at p; exact p
  | bk e st1 => rw [q] at p; exact p
  | ct e st1 => rw [q] at p; exact p
  | rt x st1 => rw [q] at p; exact p
  | bad => rw [q] at p; exact p
end DD

/-! DD18: comprehensions with two fors. -/
namespace DD
open PySem L2 PyProof.Rows
def midLine : Nat := 1000
def lcLoop2 (g : DG) (t : DT) (di1 : DI) (g1 : DG) (t1 : DT) (de : DE) (vs1 : List Nat) (keep : Sto → Bool) (env : Env) : List D → Sto → Res (List D)
  | [], st => if keep st = true then .ok [] st else .bad
  | x :: r, st => if keep st = true then (match g x env with
    | none => .bad
    | some env1 => match t env1 st with
      | .ok true st1 => match di1 env1 st1 with
        | .ok a st2 => if a.1.length ≤ midLine then (lcLoop g1 t1 de a.2 (wipeE vs1 env1) a.1 st2).bind fun ys st3 => (lcLoop2 g t di1 g1 t1 de vs1 keep env r st3).bind fun zs st4 => .ok (ys ++ zs) st4 else .bad
        | _ => .bad
      | .ok false st1 => lcLoop2 g t di1 g1 t1 de vs1 keep env r st1
      | _ => .bad) else .bad
def dLc2 (di : DI) (g : DG) (t : DT) (di1 : DI) (g1 : DG) (t1 : DT) (de : DE) (vs vs1 : List Nat) : DA := fun env st => (di env st).bind fun a st1 => if a.1.length ≤ midLine then lcLoop2 g t di1 g1 t1 de vs1 a.2 (wipeE vs env) a.1 st1 else .bad
theorem mid_lt {i j n : Nat} (h : i < 1000) (h2 : j < 1000) (h3 : n ≤ i * 1000 + j) : n < sizeLine := by rw [sizeLine_eq]; omega
theorem Res.bind_id {α : Type} (r : Res α) : (r.bind fun a st => .ok a st) = r := by cases r <;> rfl
/-! ### an iterator inside another comprehension: what is set aside may change -/
structure ItW (B : Bs) (p : Addr) (J : It) (keep : Sto → Bool) (ds : List D) (Ok : List Addr → Hp → Prop) : Prop where
  st : ∀ ι H ι' H', Ok ι H → Step ι H ι' H' → Ok ι' H'
  sc : ∀ ι H o, Ok ι H → Ok ι (upd H p o)
  go : ∀ i ι H st, Ok ι H → Sim (B.more p) H ι st → keep st = true → i < ds.length → J.go i H
  yld : ∀ i d ι H st v H', Ok ι H → Sim (B.more p) H ι st → keep st = true → ds[i]? = some d → J.yld i H v H' → Step ι H ι H' ∧ Sim (B.more p) H' ι st ∧ VR (B.more p) H' ι d v
  stop : ∀ i ι H st, Ok ι H → Sim (B.more p) H ι st → keep st = true → ds.length ≤ i → J.stop i H
def relIw : Rel (List D × (Sto → Bool)) It := ⟨fun B _ _ H ι st a J => a.2 st = true ∧ ∀ B0 p, B = Bs.more B0 p → ∃ Ok, ItW B0 p J a.2 a.1 Ok ∧ Ok ι H, fun _ h => h⟩
def PIdw (X : Cx) (W : WX) (tg it : Expr) (di : DI) : Prop := PI X tg it (tG X.K X.mg relIw W di)
theorem itlw {B : Bs} {p a : Addr} {xs : List V} {ds : List D} {ι : List Addr} {H : Hp} (h : ScL (B.more p) H ι a xs) (r : VRs (B.more p) H ι ds xs) : ∃ Ok, ItW B p (Itl B.K a) yes ds Ok ∧ Ok ι H := by
  have l := r.length
  refine ⟨fun ι H => ScL (B.more p) H ι a xs ∧ VRs (B.more p) H ι ds xs, ⟨fun ι H ι' H' k s => ⟨k.1.step s, k.2.step s⟩, fun ι H o k => ⟨k.1.scr, k.2.scr⟩, fun i ι H st k S kk hi => ?_, fun i d ι H st v H' k S kk hd y => ?_, fun i ι H st k S kk hi => ⟨xs, k.1.sq, by omega⟩⟩, h, r⟩
  · obtain ⟨v, hv, _⟩ := k.2.get (List.getElem?_eq_getElem hi)
    exact ⟨xs, v, k.1.sq, hv⟩
  · obtain ⟨e, y⟩ := y
    subst e
    obtain ⟨w, hw, vr⟩ := k.2.get hd
    have : v = w := Option.some.inj ((y xs k.1.sq).symm.trans hw)
    subst this
    exact ⟨Step.refl _ _, S, vr⟩
theorem ittw {B : Bs} {p a : Addr} {xs : List V} {ds : List D} {ι : List Addr} {H : Hp} (h : FzT (B.more p) H ι a xs) (r : VRs (B.more p) H ι ds xs) : ∃ Ok, ItW B p (Itt B.K a) yes ds Ok ∧ Ok ι H := by
  have l := r.length
  refine ⟨fun ι H => FzT (B.more p) H ι a xs ∧ VRs (B.more p) H ι ds xs, ⟨fun ι H ι' H' k s => ⟨k.1.step s, k.2.step s⟩, fun ι H o k => ⟨k.1.scr, k.2.scr⟩, fun i ι H st k S kk hi => ?_, fun i d ι H st v H' k S kk hd y => ?_, fun i ι H st k S kk hi => ⟨xs, k.1.sq, by omega⟩⟩, h, r⟩
  · obtain ⟨v, hv, _⟩ := k.2.get (List.getElem?_eq_getElem hi)
    exact ⟨xs, v, k.1.sq, hv⟩
  · obtain ⟨e, y⟩ := y
    subst e
    obtain ⟨w, hw, vr⟩ := k.2.get hd
    have : v = w := Option.some.inj ((y xs k.1.sq).symm.trans hw)
    subst this
    exact ⟨Step.refl _ _, S, vr⟩
/-- iterators that look at no heap -/
theorem itw_free {B : Bs} {p : Addr} {J : It} {ds : List D} {ι : List Addr} {H : Hp} (h : ∀ (B : Bs) (ι : List Addr) (H : Hp), ItOk B J ι H yes ds) : ∃ Ok, ItW B p J yes ds Ok ∧ Ok ι H :=
  ⟨fun _ _ => True, ⟨fun _ _ _ _ _ _ => trivial, fun _ _ _ _ => trivial, fun i ι H st _ S kk hi => (h (B.more p) ι H).go (p :: B.ρ) i ι H st (Fine.refl _ _) (Step.refl _ _) S kk hi,
    fun i d ι H st v H' _ S kk hd y => (h (B.more p) ι H).yld (p :: B.ρ) i d ι H st v H' (Fine.refl _ _) (Step.refl _ _) S kk hd y, fun i ι H st _ S kk hi => (h (B.more p) ι H).stop (p :: B.ρ) i ι H st (Fine.refl _ _) (Step.refl _ _) S kk hi⟩, trivial⟩
section
variable {X : Cx} {W : WX} {tg e : Expr} {da : DE} {ds : DA} {pos p : Pos}
theorem pidw_list (ha : PEd X W e da) : PIdw X W tg e (dItems da) := PI.mono (pi_list ha) fun σ H R ⟨ρ, ι, st, env, S, ve, p⟩ => ⟨ρ, ι, st, env, S, ve, Post.bind p fun x st1 ι1 H1 v s1 S1 rx p1 => by
  cases x <;> (try exact p1.elim)
  · obtain ⟨a, xs, rfl, h, m, r⟩ := rx
    exact ⟨a, rfl, ⟨xs, SqL.of h⟩, p1.ok S1 ⟨rfl, fun B0 p e => by
      have hK : X.K = B0.K := congrArg Bs.K e
      rw [hK]; rw [e] at r m; exact itlw (.inl ⟨.inl h, m.1, m.2⟩) r⟩⟩
  · obtain ⟨a, xs, rfl, h, r⟩ := rx
    exact ⟨a, rfl, ⟨xs, h.sq⟩, p1.ok S1 ⟨rfl, fun B0 p e => by
      have hK : X.K = B0.K := congrArg Bs.K e
      rw [hK]; rw [e] at r h; exact itlw h r⟩⟩⟩
theorem pidw_tup (ha : PEd X W e da) : PIdw X W tg e (dItemsT da) := PI.mono (pi_tup ha) fun σ H R ⟨ρ, ι, st, env, S, ve, p⟩ => ⟨ρ, ι, st, env, S, ve, Post.bind p fun x st1 ι1 H1 v s1 S1 rx p1 => by
  cases x <;> (try exact p1.elim)
  obtain ⟨a, xs, rfl, h, r⟩ := rx
  exact ⟨a, rfl, ⟨xs, h.sq⟩, p1.ok S1 ⟨rfl, fun B0 p e => by
      have hK : X.K = B0.K := congrArg Bs.K e
      rw [hK]; rw [e] at r h; exact ittw h r⟩⟩⟩
theorem pidw_str (ha : PEd X W e da) : PIdw X W tg e (dSigns da) := PI.mono (pi_str ha) fun σ H R ⟨ρ, ι, st, env, S, ve, p⟩ => ⟨ρ, ι, st, env, S, ve, Post.bind p fun x st1 ι1 H1 v s1 S1 rx p1 => by
  cases x <;> (try exact p1.elim)
  cases rx
  exact ⟨_, rfl, p1.ok S1 ⟨rfl, fun B0 p e => itw_free fun _ _ _ => its_ok⟩⟩⟩
theorem pidw_range1 {a : Expr} (hg : Gl X "range") (hm : X.mg "range" = none) (ha : PAd X W [a] ds) (hs : starEach [a] X.env = [(false, eval a X.env)] := by rfl) : PIdw X W tg (.Call (.Name "range" p) [a] [] pos) (dRange1 ds) :=
  PI.mono (pi_range1 hg hm ha hs) fun σ H R ⟨ρ, ι, st, env, S, ve, p⟩ => ⟨ρ, ι, st, env, S, ve, Post.bind p fun xs st1 ι1 H1 v s1 S1 rx p1 => by
    split at p1
    · rename_i j
      split at p1
      · rename_i hb
        obtain ⟨v, rfl, h⟩ := vr1 rx
        cases h
        exact ⟨j, rfl, (rg62_of hb).1, (rg62_of hb).2, p1.ok S1 ⟨rfl, fun B0 p e => itw_free fun _ _ _ => itr_ok⟩⟩
      · exact p1.elim
    · exact p1.elim⟩
end
theorem VEnv.scr {K : PySem.W.Frag} {mg : Str → Option Value} {ρ : List Addr} {p : Addr} {H : Hp} {ι : List Addr} {env : Env} {σ : L2.St} {o : HO} (h : VEnv ⟨K, mg, p :: ρ⟩ H ι env σ) : VEnv ⟨K, mg, p :: ρ⟩ (upd H p o) ι env σ :=
  ⟨h.1, fun i d e => let ⟨v, a, b⟩ := h.2 i d e; ⟨v, a, VR.scr (B := ⟨K, mg, ρ⟩) b⟩⟩
theorem lc2_read {K : PySem.W.Frag} {mg : Str → Option Value} {W : WX} {g g1 : DG} {G G1 : TG} {ix ix1 vs vs1 : List Nat} {t t1 : DT} {de : DE} {di di1 : DI} (gs : GS K mg G ix g) (hix : ∀ j ∈ ix, j ∈ vs) (gs1 : GS K mg G1 ix1 g1) (hix1 : ∀ j ∈ ix1, j ∈ vs1)
    {σ : L2.St} {H : Hp} {Q : VK} (h : tG K mg relL W (dLc2 di g t di1 g1 t1 de vs vs1) σ H Q) :
    tLc2 (tG K mg relI W di) G (tG K mg relB W0 t) (tG K mg relIw W0 di1) G1 (tG K mg relB W0 t1) (tG K mg relV W0 de) vs vs1 σ H Q := by
  obtain ⟨ρ, ι, st, env, S, ve, p⟩ := h
  refine ⟨ρ, ι, st, env, S, ve, Post.bind0 p fun a st1 ι1 H1 J s1 S1 rx p1 => ?_⟩
  obtain ⟨ds, keep⟩ := a
  obtain ⟨io, k0⟩ := rx
  intro Dd hD
  by_cases hz : ds.length ≤ midLine
  case neg => simp only [hz, if_false] at p1; exact p1.elim
  simp only [hz, if_true] at p1
  have hz' : ds.length ≤ 1000 := hz
  have m1 : Dd ∉ ι1 := S1.fresh hD
  have hρ : Dd ∉ ρ := S1.fr hD
  have fine : Fine H1 ρ (Dd :: ρ) := fun a ha => by
    rcases List.mem_cons.mp ha with z | z
    · subst z; exact .inr hD
    · exact .inl z
  have hD0 : H Dd = none ∧ Dd ∉ ι := by
    have m0 : Dd ∉ ι := fun z => m1 (s1.mem z)
    refine ⟨?_, m0⟩
    cases q : H Dd with
    | none => rfl
    | some o => rw [s1.rest _ o m0 q] at hD; cases hD
  refine ⟨fun i m H' => i + m = ds.length ∧ ∃ ι' st' acc vs', Step ι1 H1 ι' H' ∧ Sim ((⟨K, mg, ρ⟩ : Bs).more Dd) H' ι' st' ∧ H' Dd = some (.lst vs') ∧ VRs ((⟨K, mg, ρ⟩ : Bs).more Dd) H' ι' acc vs' ∧ acc.length ≤ i * 1000 ∧
      Post ⟨K, mg, ρ⟩ relL W σ ι H ((lcLoop2 g t di1 g1 t1 de vs1 keep (wipeE vs env) (ds.drop i) st').bind fun ys st => .ok (acc ++ ys) st) Q,
    ⟨ds.length, by omega, ι1, st1, [], [], Step.new S1 hD, S1.reserve hD, upd_same, rfl, Nat.zero_le _, Post.ok_id p1⟩, ?_⟩
  rintro i m H' ⟨em, ι', st', acc, vs', s', S', hl, ra, la, p'⟩
  have ve0 : VEnv ((⟨K, mg, ρ⟩ : Bs).more Dd) H' ι' (wipeE vs env) (wipe σ vs) := VEnv.wipe (VEnv.step s' (VEnv.fine (K := K) (mg := mg) fine (ve.step s1)))
  by_cases hi : i < ds.length
  · rw [List.drop_eq_getElem_cons hi] at p'
    unfold lcLoop2 at p'
    by_cases hk : keep st' = true
    case neg => simp only [hk, if_false] at p'; exact p'.elim
    simp only [hk, if_true] at p'
    refine .inr ⟨io.go (Dd :: ρ) i ι' H' st' fine s' S' hk hi, fun H2 => ∃ ι2 st2 acc2 vs2, Step ι1 H1 ι2 H2 ∧ Sim ((⟨K, mg, ρ⟩ : Bs).more Dd) H2 ι2 st2 ∧ H2 Dd = some (.lst vs2) ∧ VRs ((⟨K, mg, ρ⟩ : Bs).more Dd) H2 ι2 acc2 vs2 ∧ acc2.length ≤ (i + 1) * 1000 ∧
      Post ⟨K, mg, ρ⟩ relL W σ ι H ((lcLoop2 g t di1 g1 t1 de vs1 keep (wipeE vs env) (ds.drop (i + 1)) st2).bind fun ys st => .ok (acc2 ++ ys) st) Q,
      fun H2 ⟨ι2, st2, acc2, vs2, s2, S2, h2, r2, l2, p2⟩ => ⟨m - 1, by omega, by omega, ι2, st2, acc2, vs2, s2, S2, h2, r2, l2, p2⟩, fun x H'' hy => ?_⟩
    obtain ⟨s3, S3, vr⟩ := io.yld (Dd :: ρ) i ds[i] ι' H' st' x H'' fine s' S' hk (List.getElem?_eq_getElem hi) hy
    have S3 : Sim ⟨K, mg, Dd :: ρ⟩ H'' ι' st' := S3
    have mD : Dd ∉ ι' := (S'.rs Dd List.mem_cons_self).2
    have hl3 : H'' Dd = some (.lst vs') := s3.rest _ _ mD hl
    cases q : g ds[i] (wipeE vs env) with
    | none => rw [q] at p'; exact p'.elim
    | some env1 =>
      rw [q] at p'
      simp only [] at p'
      refine gs S3 (ve0.step s3) vr q fun σ4 ve4 off => ⟨wipe_off off hix, Dd :: ρ, ι', st', env1, S3, ve4, ?_⟩
      cases q2 : t env1 st' with
      | bad => rw [q2] at p'; exact p'.elim
      | exc y st2 => rw [q2] at p'; exact p'.elim
      | ok b st2 =>
        rw [q2] at p'
        intro ι5 H5 b' s5 S5 eb
        cases eb
        have s15 := (s'.trans s3).trans s5
        cases b with
        | false =>
          exact iteF ⟨ι5, st2, acc, vs', s15, S5, s5.rest _ _ mD hl3, (ra.step s3).step s5, by omega, p'⟩
        | true =>
          refine iteT ⟨Dd :: ρ, ι5, st2, env1, S5, ve4.step s5, ?_⟩
          simp only [] at p'
          cases q3 : di1 env1 st2 with
          | bad => rw [q3] at p'; exact p'.elim
          | exc y st3 => rw [q3] at p'; exact p'.elim
          | ok a st3 =>
            rw [q3] at p'
            obtain ⟨ds1, keep1⟩ := a
            intro ι6 H6 J1 s6 S6 rx1
            obtain ⟨k1, io1⟩ := rx1
            obtain ⟨Ok, iw, ok6⟩ := io1 ⟨K, mg, ρ⟩ Dd rfl
            simp only [] at p'
            by_cases hz1 : ds1.length ≤ midLine
            case neg => simp only [hz1, if_false] at p'; exact p'.elim
            simp only [hz1, if_true] at p'
            have hz1' : ds1.length ≤ 1000 := hz1
            have m5 : Dd ∉ ι5 := (S5.rs Dd List.mem_cons_self).2
            have S6 : Sim ⟨K, mg, Dd :: ρ⟩ H6 ι6 st3 := S6
            have hl6 : H6 Dd = some (.lst vs') := s6.rest _ _ m5 (s5.rest _ _ mD hl3)
            have ra6 := ((ra.step s3).step s5).step s6
            have s16 := s15.trans s6
            have ve6 : VEnv ⟨K, mg, Dd :: ρ⟩ H6 ι6 env1 σ4 := (ve4.step s5).step s6
            refine ⟨fun j k H' => j + k = ds1.length ∧ ∃ ι' st' acc vs', (Ok ι' H' ∧ VEnv ⟨K, mg, Dd :: ρ⟩ H' ι' env1 σ4) ∧ Step ι1 H1 ι' H' ∧ Sim ⟨K, mg, Dd :: ρ⟩ H' ι' st' ∧ H' Dd = some (.lst vs') ∧ VRs ((⟨K, mg, ρ⟩ : Bs).more Dd) H' ι' acc vs' ∧ acc.length ≤ i * 1000 + j ∧
                Post ⟨K, mg, ρ⟩ relL W σ ι H ((lcLoop g1 t1 de keep1 (wipeE vs1 env1) (ds1.drop j) st').bind fun ys st3 => (lcLoop2 g t di1 g1 t1 de vs1 keep (wipeE vs env) (ds.drop (i + 1)) st3).bind fun zs st4 => .ok (acc ++ (ys ++ zs)) st4) Q,
              ⟨ds1.length, by omega, ι6, st3, acc, vs', ⟨ok6, ve6⟩, s16, S6, hl6, ra6, by omega, by simpa only [bind_assoc, Res.bind_ok, List.drop_zero] using p'⟩, ?_⟩
            rintro j k H7 ⟨ek, ι7, st7, acc7, vs7, ⟨ok7, vv7⟩, s17, S7, hl7, ra7, la7, p7⟩
            have ve7 : VEnv ⟨K, mg, Dd :: ρ⟩ H7 ι7 (wipeE vs1 env1) (wipe σ4 vs1) := VEnv.wipe vv7
            by_cases hj : j < ds1.length
            · rw [List.drop_eq_getElem_cons hj] at p7
              unfold lcLoop at p7
              by_cases hk1 : keep1 st7 = true
              case neg => simp only [hk1, if_false] at p7; exact p7.elim
              simp only [hk1, if_true] at p7
              refine .inr ⟨iw.go j ι7 H7 st7 ok7 S7 hk1 hj, fun H2 => ∃ ι2 st2 acc2 vs2, (Ok ι2 H2 ∧ VEnv ⟨K, mg, Dd :: ρ⟩ H2 ι2 env1 σ4) ∧ Step ι1 H1 ι2 H2 ∧ Sim ⟨K, mg, Dd :: ρ⟩ H2 ι2 st2 ∧ H2 Dd = some (.lst vs2) ∧ VRs ((⟨K, mg, ρ⟩ : Bs).more Dd) H2 ι2 acc2 vs2 ∧ acc2.length ≤ i * 1000 + (j + 1) ∧
                Post ⟨K, mg, ρ⟩ relL W σ ι H ((lcLoop g1 t1 de keep1 (wipeE vs1 env1) (ds1.drop (j + 1)) st2).bind fun ys st3 => (lcLoop2 g t di1 g1 t1 de vs1 keep (wipeE vs env) (ds.drop (i + 1)) st3).bind fun zs st4 => .ok (acc2 ++ (ys ++ zs)) st4) Q,
                fun H2 ⟨ι2, st2, acc2, vs2, s2, s2', S2, h2, r2, l2, p2⟩ => ⟨k - 1, by omega, by omega, ι2, st2, acc2, vs2, s2, s2', S2, h2, r2, l2, p2⟩, fun x8 H8 hy8 => ?_⟩
              obtain ⟨s8, S8, vr8⟩ := iw.yld j ds1[j] ι7 H7 st7 x8 H8 ok7 S7 hk1 (List.getElem?_eq_getElem hj) hy8
              have S8 : Sim ⟨K, mg, Dd :: ρ⟩ H8 ι7 st7 := S8
              have mD7 : Dd ∉ ι7 := (S7.rs Dd List.mem_cons_self).2
              have hl8 : H8 Dd = some (.lst vs7) := s8.rest _ _ mD7 hl7
              cases q8 : g1 ds1[j] (wipeE vs1 env1) with
              | none => rw [q8] at p7; exact p7.elim
              | some env8 =>
                rw [q8] at p7
                simp only [] at p7
                refine gs1 S8 (ve7.step s8) vr8 q8 fun σ9 ve9 off9 => ⟨wipe_off off9 hix1, Dd :: ρ, ι7, st7, env8, S8, ve9, ?_⟩
                cases q9 : t1 env8 st7 with
                | bad => rw [q9] at p7; exact p7.elim
                | exc y st2 => rw [q9] at p7; exact p7.elim
                | ok b st9 =>
                  rw [q9] at p7
                  intro ι9 H9 b9 s9 S9 eb9
                  cases eb9
                  have ok9 := iw.st _ _ _ _ (iw.st _ _ _ _ ok7 s8) s9
                  have vv9 : VEnv ⟨K, mg, Dd :: ρ⟩ H9 ι9 env1 σ4 := (vv7.step s8).step s9
                  have s19 := (s17.trans s8).trans s9
                  cases b with
                  | false => exact iteF ⟨ι9, st9, acc7, vs7, ⟨ok9, vv9⟩, s19, S9, s9.rest _ _ mD7 hl8, (ra7.step s8).step s9, by omega, p7⟩
                  | true =>
                    refine iteT ⟨Dd :: ρ, ι9, st9, env8, S9, ve9.step s9, ?_⟩
                    simp only [] at p7
                    cases q10 : de env8 st9 with
                    | bad => rw [q10] at p7; exact p7.elim
                    | exc y st3 => rw [q10] at p7; exact p7.elim
                    | ok y st10 =>
                      rw [q10] at p7
                      intro ι10 H10 v10 s10 S10 r10
                      have m9 : Dd ∉ ι9 := (S9.rs Dd List.mem_cons_self).2
                      have hl10 : H10 Dd = some (.lst vs7) := s10.rest _ _ m9 (s9.rest _ _ mD7 hl8)
                      have ra10 := ((ra7.step s8).step s9).step s10
                      have lv := ra10.length
                      have S10 : Sim ((⟨K, mg, ρ⟩ : Bs).more Dd) H10 ι10 st10 := S10
                      refine ⟨vs7, hl10, mid_lt (i := i) (j := j) (by omega) (by omega) (by omega), ι10, st10, acc7 ++ [y], vs7 ++ [v10], ⟨iw.sc _ _ _ (iw.st _ _ _ _ ok9 s10), VEnv.scr (vv9.step s10)⟩, (s19.trans s10).scr hD, S10.scr, upd_same, (ra10.append (VRs.one (B := (⟨K, mg, ρ⟩ : Bs).more Dd) r10)).scr, by simp; omega, ?_⟩
                      · simp only [bind_assoc, Res.bind_ok] at p7
                        simpa only [List.append_assoc, List.singleton_append, List.cons_append, List.nil_append] using p7
            · have e : ds1.drop j = [] := List.drop_eq_nil_of_le (by omega)
              rw [e] at p7
              unfold lcLoop at p7
              by_cases hk1 : keep1 st7 = true
              case neg => simp only [hk1, if_false] at p7; exact p7.elim
              simp only [hk1, if_true, Res.bind_ok, List.nil_append] at p7
              exact .inl ⟨iw.stop j ι7 H7 st7 ok7 S7 hk1 (Nat.le_of_not_lt hj), ι7, st7, acc7, vs7, s17, S7, hl7, ra7, by omega, p7⟩
  · have e : ds.drop i = [] := List.drop_eq_nil_of_le (by omega)
    rw [e] at p'
    unfold lcLoop2 at p'
    by_cases hk : keep st' = true
    case neg => simp only [hk, if_false] at p'; exact p'.elim
    simp only [hk, if_true, Res.bind_ok, List.append_nil] at p'
    refine .inl ⟨io.stop (Dd :: ρ) i ι' H' st' fine s' S' hk (Nat.le_of_not_lt hi), ?_⟩
    exact p' ι' H' (.ref Dd) (s1.trans s') S'.less ⟨Dd, vs', rfl, hl, hD0.1, hD0.2, hρ, ra, S'⟩
section
variable {X : Cx} {W : WX} {elt tg iter tg1 iter1 : Expr} {ifs ifs1 : List Expr} {scope : Scope} {own : List (Str × Nat)} {pos spos : Pos} {g g1 : DG} {G G1 : TG} {ix ix1 vs1 ixs : List Nat} {t t1 : DT} {de : DE} {di di1 : DI}
theorem pld_lc2 (hc : X.calm = true) (hN : X.N.Nodup) (hi : PId X W tg iter di) (ok : BlkOk X.N X.env.scope scope own) (hv : ∀ i ∈ vs1, i ∈ own.map (·.2)) (gs : GS X.K X.mg G ix g) (hix : ∀ j ∈ ix, j ∈ own.map (·.2)) (gs1 : GS X.K X.mg G1 ix1 g1) (hix1 : ∀ j ∈ ix1, j ∈ vs1)
    (hg : ∀ (s : Shared) (H : Hp) (C : Addr) (cl : List (Str × Addr)) (fp : List Addr), PG (X.blk s H scope (compEnvC scope cl C X.env) fp) tg G) (ht : ∀ (s : Shared) (H : Hp) (C : Addr) (cl : List (Str × Addr)) (fp : List Addr), PTsd (X.blk s H scope (compEnvC scope cl C X.env) fp) W0 ifs t)
    (hi1 : ∀ (s : Shared) (H : Hp) (C : Addr) (cl : List (Str × Addr)) (fp : List Addr), PIdw (X.blk s H scope (compEnvC scope cl C X.env) fp) W0 tg1 iter1 di1)
    (hg1 : ∀ (s : Shared) (H : Hp) (C : Addr) (cl : List (Str × Addr)) (fp : List Addr), PG (X.blk s H scope (compEnvC scope cl C X.env) fp) tg1 G1) (ht1 : ∀ (s : Shared) (H : Hp) (C : Addr) (cl : List (Str × Addr)) (fp : List Addr), PTsd (X.blk s H scope (compEnvC scope cl C X.env) fp) W0 ifs1 t1)
    (he : ∀ (s : Shared) (H : Hp) (C : Addr) (cl : List (Str × Addr)) (fp : List Addr), PEd (X.blk s H scope (compEnvC scope cl C X.env) fp) W0 elt de) (hox : own.map (·.2) = ixs := by rfl) (hs : ∀ x, foldedSetIterable iter X.env x = pure x := by intro _; rfl) (hs1 : ∀ env x, foldedSetIterable iter1 env x = pure x := by intro _ _; rfl) :
    PLd X W (.ListComp elt [⟨tg, iter, ifs, 0⟩, ⟨tg1, iter1, ifs1, 0⟩] scope pos) (dLc2 di g t di1 g1 t1 de ixs vs1) := by
  subst hox
  exact PE.mono (pe_lc2 (wi := tG X.K X.mg relI W di) (wi1 := tG X.K X.mg relIw W0 di1) (tt := tG X.K X.mg relB W0 t) (tt1 := tG X.K X.mg relB W0 t1) (te := tG X.K X.mg relV W0 de) hc hN hi ok hv hg ht hi1 hg1 ht1 he hs hs1) fun _ _ _ h => lc2_read gs hix gs1 hix1 h
theorem psd_setLc2Fz0 {i : Nat} {y : Str} {py : Pos} (hy : X.N[i]? = some y) (hyl : X.env.scope.names.lookup y = some .local) (hsw : swapsWith (.ListComp elt [⟨tg, iter, ifs, 0⟩, ⟨tg1, iter1, ifs1, 0⟩] scope pos) (some (.Name y py)) spos.line X.env = pure true)
    (hc : X.calm = true) (hN : X.N.Nodup) (hi : PId X W tg iter di) (ok : BlkOk X.N X.env.scope scope own) (hv : ∀ i ∈ vs1, i ∈ own.map (·.2)) (gs : GS X.K X.mg G ix g) (hix : ∀ j ∈ ix, j ∈ own.map (·.2)) (gs1 : GS X.K X.mg G1 ix1 g1) (hix1 : ∀ j ∈ ix1, j ∈ vs1)
    (hg : ∀ (s : Shared) (H : Hp) (C : Addr) (cl : List (Str × Addr)) (fp : List Addr), PG (X.blk s H scope (compEnvC scope cl C X.env) fp) tg G) (ht : ∀ (s : Shared) (H : Hp) (C : Addr) (cl : List (Str × Addr)) (fp : List Addr), PTsd (X.blk s H scope (compEnvC scope cl C X.env) fp) W0 ifs t)
    (hi1 : ∀ (s : Shared) (H : Hp) (C : Addr) (cl : List (Str × Addr)) (fp : List Addr), PIdw (X.blk s H scope (compEnvC scope cl C X.env) fp) W0 tg1 iter1 di1)
    (hg1 : ∀ (s : Shared) (H : Hp) (C : Addr) (cl : List (Str × Addr)) (fp : List Addr), PG (X.blk s H scope (compEnvC scope cl C X.env) fp) tg1 G1) (ht1 : ∀ (s : Shared) (H : Hp) (C : Addr) (cl : List (Str × Addr)) (fp : List Addr), PTsd (X.blk s H scope (compEnvC scope cl C X.env) fp) W0 ifs1 t1)
    (he : ∀ (s : Shared) (H : Hp) (C : Addr) (cl : List (Str × Addr)) (fp : List Addr), PEd (X.blk s H scope (compEnvC scope cl C X.env) fp) W0 elt de) (hs : ∀ x, foldedSetIterable iter X.env x = pure x := by intro _; rfl) (hs1 : ∀ env x, foldedSetIterable iter1 env x = pure x := by intro _ _; rfl) :
    PSd X W (.Assign [.Name y py] (.ListComp elt [⟨tg, iter, ifs, 0⟩, ⟨tg1, iter1, ifs1, 0⟩] scope pos) spos) (dSet i (dFz (dLc2 di g t di1 g1 t1 de (own.map (·.2)) vs1))) :=
  PS.mono (ps_setLc2 (i := i) (wi := tG X.K X.mg relI W di) (wi1 := tG X.K X.mg relIw W0 di1) (tt := tG X.K X.mg relB W0 t) (tt1 := tG X.K X.mg relB W0 t1) (te := tG X.K X.mg relV W0 de) hc hN hy hyl hsw hi ok hv hg ht hi1 hg1 ht1 he hs hs1) fun E σ H ⟨ρ, ι, st, env, S, ve, p⟩ => lc2_read gs hix gs1 hix1 ⟨ρ, ι, st, env, S, ve, by
    have p : PostS ⟨X.K, X.mg, ρ⟩ W E σ ι H ((dFz (dLc2 di g t di1 g1 t1 de (own.map (·.2)) vs1) env st).bindS env fun x st1 => .nx (env.set i (some x)) st1) := p
    unfold dFz at p
    cases q : dLc2 di g t di1 g1 t1 de (own.map (·.2)) vs1 env st with
    | bad => rw [q] at p; exact p.elim
    | exc x st1 => rw [q] at p; exact fun ι1 H1 c d s S1 ex => p ι1 H1 σ c d s S1 (ve.step s) ex
    | ok xs st1 =>
      rw [q] at p
      intro ι1 H1 v s S1 rx
      obtain ⟨a, ys, rfl, h1, h2, m, m', r, S2⟩ := rx
      exact p ι1 H1 _ s S1 (VEnv.set (d := .fz xs) (ve.step s) ⟨a, ys, rfl, h1, ⟨(S2.rs a List.mem_cons_self).2, m'⟩, r.less.1⟩)⟩
theorem psd_setLc2Fz {i : Nat} {y : Str} {py : Pos} (hy : X.N[i]? = some y) (hyl : X.env.scope.names.lookup y = some .local) (hsw : swapsWith (.ListComp elt [⟨tg, iter, ifs, 0⟩, ⟨tg1, iter1, ifs1, 0⟩] scope pos) (some (.Name y py)) spos.line X.env = pure true)
    (hc : X.calm = true) (hN : X.N.Nodup) (hi : PId X W tg iter di) (ok : BlkOk X.N X.env.scope scope own) (hv : ∀ i ∈ vs1, i ∈ own.map (·.2)) (gs : GS X.K X.mg G ix g) (hix : ∀ j ∈ ix, j ∈ own.map (·.2)) (gs1 : GS X.K X.mg G1 ix1 g1) (hix1 : ∀ j ∈ ix1, j ∈ vs1)
    (hg : ∀ (s : Shared) (H : Hp) (C : Addr) (cl : List (Str × Addr)) (fp : List Addr), PG (X.blk s H scope (compEnvC scope cl C X.env) fp) tg G) (ht : ∀ (s : Shared) (H : Hp) (C : Addr) (cl : List (Str × Addr)) (fp : List Addr), PTsd (X.blk s H scope (compEnvC scope cl C X.env) fp) W0 ifs t)
    (hi1 : ∀ (s : Shared) (H : Hp) (C : Addr) (cl : List (Str × Addr)) (fp : List Addr), PIdw (X.blk s H scope (compEnvC scope cl C X.env) fp) W0 tg1 iter1 di1)
    (hg1 : ∀ (s : Shared) (H : Hp) (C : Addr) (cl : List (Str × Addr)) (fp : List Addr), PG (X.blk s H scope (compEnvC scope cl C X.env) fp) tg1 G1) (ht1 : ∀ (s : Shared) (H : Hp) (C : Addr) (cl : List (Str × Addr)) (fp : List Addr), PTsd (X.blk s H scope (compEnvC scope cl C X.env) fp) W0 ifs1 t1)
    (he : ∀ (s : Shared) (H : Hp) (C : Addr) (cl : List (Str × Addr)) (fp : List Addr), PEd (X.blk s H scope (compEnvC scope cl C X.env) fp) W0 elt de) (hox : own.map (·.2) = ixs := by rfl) (hs : ∀ x, foldedSetIterable iter X.env x = pure x := by intro _; rfl) (hs1 : ∀ env x, foldedSetIterable iter1 env x = pure x := by intro _ _; rfl) :
    PSd X W (.Assign [.Name y py] (.ListComp elt [⟨tg, iter, ifs, 0⟩, ⟨tg1, iter1, ifs1, 0⟩] scope pos) spos) (dSet i (dFz (dLc2 di g t di1 g1 t1 de ixs vs1))) := by
  subst hox
  exact psd_setLc2Fz0 hy hyl hsw hc hN hi ok hv gs hix gs1 hix1 hg ht hi1 hg1 ht1 he hs hs1
theorem psd_setLc2New0 {i : Nat} {y : Str} {py : Pos} (hy : X.N[i]? = some y) (hyl : X.env.scope.names.lookup y = some .local) (hsw : swapsWith (.ListComp elt [⟨tg, iter, ifs, 0⟩, ⟨tg1, iter1, ifs1, 0⟩] scope pos) (some (.Name y py)) spos.line X.env = pure true)
    (hc : X.calm = true) (hN : X.N.Nodup) (hi : PId X W tg iter di) (ok : BlkOk X.N X.env.scope scope own) (hv : ∀ i ∈ vs1, i ∈ own.map (·.2)) (gs : GS X.K X.mg G ix g) (hix : ∀ j ∈ ix, j ∈ own.map (·.2)) (gs1 : GS X.K X.mg G1 ix1 g1) (hix1 : ∀ j ∈ ix1, j ∈ vs1)
    (hg : ∀ (s : Shared) (H : Hp) (C : Addr) (cl : List (Str × Addr)) (fp : List Addr), PG (X.blk s H scope (compEnvC scope cl C X.env) fp) tg G) (ht : ∀ (s : Shared) (H : Hp) (C : Addr) (cl : List (Str × Addr)) (fp : List Addr), PTsd (X.blk s H scope (compEnvC scope cl C X.env) fp) W0 ifs t)
    (hi1 : ∀ (s : Shared) (H : Hp) (C : Addr) (cl : List (Str × Addr)) (fp : List Addr), PIdw (X.blk s H scope (compEnvC scope cl C X.env) fp) W0 tg1 iter1 di1)
    (hg1 : ∀ (s : Shared) (H : Hp) (C : Addr) (cl : List (Str × Addr)) (fp : List Addr), PG (X.blk s H scope (compEnvC scope cl C X.env) fp) tg1 G1) (ht1 : ∀ (s : Shared) (H : Hp) (C : Addr) (cl : List (Str × Addr)) (fp : List Addr), PTsd (X.blk s H scope (compEnvC scope cl C X.env) fp) W0 ifs1 t1)
    (he : ∀ (s : Shared) (H : Hp) (C : Addr) (cl : List (Str × Addr)) (fp : List Addr), PEd (X.blk s H scope (compEnvC scope cl C X.env) fp) W0 elt de) (hs : ∀ x, foldedSetIterable iter X.env x = pure x := by intro _; rfl) (hs1 : ∀ env x, foldedSetIterable iter1 env x = pure x := by intro _ _; rfl) :
    PSd X W (.Assign [.Name y py] (.ListComp elt [⟨tg, iter, ifs, 0⟩, ⟨tg1, iter1, ifs1, 0⟩] scope pos) spos) (dSet i (dNew (dLc2 di g t di1 g1 t1 de (own.map (·.2)) vs1))) :=
  PS.mono (ps_setLc2 (i := i) (wi := tG X.K X.mg relI W di) (wi1 := tG X.K X.mg relIw W0 di1) (tt := tG X.K X.mg relB W0 t) (tt1 := tG X.K X.mg relB W0 t1) (te := tG X.K X.mg relV W0 de) hc hN hy hyl hsw hi ok hv hg ht hi1 hg1 ht1 he hs hs1) fun E σ H ⟨ρ, ι, st, env, S, ve, p⟩ => lc2_read gs hix gs1 hix1 ⟨ρ, ι, st, env, S, ve, by
    have p : PostS ⟨X.K, X.mg, ρ⟩ W E σ ι H ((dNew (dLc2 di g t di1 g1 t1 de (own.map (·.2)) vs1) env st).bindS env fun x st1 => .nx (env.set i (some x)) st1) := p
    unfold dNew at p
    cases q : dLc2 di g t di1 g1 t1 de (own.map (·.2)) vs1 env st with
    | bad => rw [q] at p; exact p.elim
    | exc x st1 => rw [q] at p; exact fun ι1 H1 c d s S1 ex => p ι1 H1 σ c d s S1 (ve.step s) ex
    | ok xs st1 =>
      rw [q] at p
      intro ι1 H1 v s S1 rx
      obtain ⟨a, ys, rfl, h1, h2, m, m', r, S2⟩ := rx
      obtain ⟨more, e1, f1⟩ := id s.pre
      have sT : Step ι H (ι1 ++ [a]) H1 := ⟨⟨more ++ [a], by rw [e1, List.append_assoc], fun b hb => by
        rcases List.mem_append.mp hb with z | z
        · exact f1 b z
        · have : b = a := by simpa using z
          subst this
          exact ⟨h2, m⟩⟩, s.rest⟩
      exact p (ι1 ++ [a]) H1 _ sT (S2.take m' h1 r) (VEnv.set (d := .ref st1.length) (ve.step sT) ⟨a, by rw [← S1.len, List.getElem?_append_right (by omega)]; simp, rfl⟩)⟩
theorem psd_setLc2New {i : Nat} {y : Str} {py : Pos} (hy : X.N[i]? = some y) (hyl : X.env.scope.names.lookup y = some .local) (hsw : swapsWith (.ListComp elt [⟨tg, iter, ifs, 0⟩, ⟨tg1, iter1, ifs1, 0⟩] scope pos) (some (.Name y py)) spos.line X.env = pure true)
    (hc : X.calm = true) (hN : X.N.Nodup) (hi : PId X W tg iter di) (ok : BlkOk X.N X.env.scope scope own) (hv : ∀ i ∈ vs1, i ∈ own.map (·.2)) (gs : GS X.K X.mg G ix g) (hix : ∀ j ∈ ix, j ∈ own.map (·.2)) (gs1 : GS X.K X.mg G1 ix1 g1) (hix1 : ∀ j ∈ ix1, j ∈ vs1)
    (hg : ∀ (s : Shared) (H : Hp) (C : Addr) (cl : List (Str × Addr)) (fp : List Addr), PG (X.blk s H scope (compEnvC scope cl C X.env) fp) tg G) (ht : ∀ (s : Shared) (H : Hp) (C : Addr) (cl : List (Str × Addr)) (fp : List Addr), PTsd (X.blk s H scope (compEnvC scope cl C X.env) fp) W0 ifs t)
    (hi1 : ∀ (s : Shared) (H : Hp) (C : Addr) (cl : List (Str × Addr)) (fp : List Addr), PIdw (X.blk s H scope (compEnvC scope cl C X.env) fp) W0 tg1 iter1 di1)
    (hg1 : ∀ (s : Shared) (H : Hp) (C : Addr) (cl : List (Str × Addr)) (fp : List Addr), PG (X.blk s H scope (compEnvC scope cl C X.env) fp) tg1 G1) (ht1 : ∀ (s : Shared) (H : Hp) (C : Addr) (cl : List (Str × Addr)) (fp : List Addr), PTsd (X.blk s H scope (compEnvC scope cl C X.env) fp) W0 ifs1 t1)
    (he : ∀ (s : Shared) (H : Hp) (C : Addr) (cl : List (Str × Addr)) (fp : List Addr), PEd (X.blk s H scope (compEnvC scope cl C X.env) fp) W0 elt de) (hox : own.map (·.2) = ixs := by rfl) (hs : ∀ x, foldedSetIterable iter X.env x = pure x := by intro _; rfl) (hs1 : ∀ env x, foldedSetIterable iter1 env x = pure x := by intro _ _; rfl) :
    PSd X W (.Assign [.Name y py] (.ListComp elt [⟨tg, iter, ifs, 0⟩, ⟨tg1, iter1, ifs1, 0⟩] scope pos) spos) (dSet i (dNew (dLc2 di g t di1 g1 t1 de ixs vs1))) := by
  subst hox
  exact psd_setLc2New0 hy hyl hsw hc hN hi ok hv gs hix gs1 hix1 hg ht hi1 hg1 ht1 he hs hs1
end
end DD

/-! DD19: sorted of texts and of ints, any number of them. -/
namespace DD
open PySem L2 PyProof.Rows
theorem perm_sorted_eq {α : Type} {le : α → α → Prop} (anti : ∀ a b, le a b → le b a → a = b) : ∀ {l1 l2 : List α}, l1.Perm l2 → l1.Pairwise le → l2.Pairwise le → l1 = l2
  | [], l2, p, _, _ => p.nil_eq
  | a :: r1, [], p, _, _ => absurd p.length_eq (by simp)
  | a :: r1, b :: r2, p, h1, h2 => by
    have e : a = b := by
      have h1' := List.pairwise_cons.mp h1
      have h2' := List.pairwise_cons.mp h2
      rcases List.mem_cons.mp (p.mem_iff.mp List.mem_cons_self : a ∈ b :: r2) with z | z
      · exact z
      · rcases List.mem_cons.mp (p.mem_iff.mpr List.mem_cons_self : b ∈ a :: r1) with y | y
        · exact y.symm
        · exact anti a b (h1'.1 b y) (h2'.1 a z)
    subst e
    rw [perm_sorted_eq anti (List.Perm.cons_inv p) (List.pairwise_cons.mp h1).2 (List.pairwise_cons.mp h2).2]
def leS (a b : Str) : Prop := ¬ b.cps.toList < a.cps.toList
instance : DecidableRel leS := fun _ _ => inferInstanceAs (Decidable (¬ _))
theorem leS_anti (a b : Str) (h1 : leS a b) (h2 : leS b a) : a = b := by
  have e : a.cps.toList = b.cps.toList := List.le_antisymm (List.not_lt.mp h1) (List.not_lt.mp h2)
  cases a; cases b
  simp only [Str.mk.injEq]
  exact Array.toList_inj.mp e
theorem leS_trans (a b c : Str) (h1 : leS a b) (h2 : leS b c) : leS a c := List.not_lt.mpr (List.le_trans (List.not_lt.mp h1) (List.not_lt.mp h2))
theorem leS_total (a b : Str) : leS a b ∨ leS b a := by
  rcases List.le_total a.cps.toList b.cps.toList with h | h
  · exact .inl (List.not_lt.mpr h)
  · exact .inr (List.not_lt.mpr h)
def sortS (l : List Str) : List Str := l.mergeSort fun a b => decide (leS a b)
theorem sortS_perm (l : List Str) : (sortS l).Perm l := List.mergeSort_perm _ _
theorem sortS_sorted (l : List Str) : (sortS l).Pairwise leS := by
  have := List.pairwise_mergeSort (le := fun a b => decide (leS a b)) (fun a b c h1 h2 => decide_eq_true (leS_trans a b c (of_decide_eq_true h1) (of_decide_eq_true h2))) (fun a b => by
    rcases leS_total a b with h | h
    · simp [h]
    · simp [h]) l
  exact this.imp fun h => of_decide_eq_true h
theorem sortS_eq {l ys : List Str} (p : ys.Perm l) (h : ys.Pairwise leS) : ys = sortS l := perm_sorted_eq leS_anti (p.trans (sortS_perm l).symm) h (sortS_sorted l)
def sortI (l : List Int) : List Int := l.mergeSort fun a b => decide (a ≤ b)
theorem sortI_perm (l : List Int) : (sortI l).Perm l := List.mergeSort_perm _ _
theorem sortI_sorted (l : List Int) : (sortI l).Pairwise (· ≤ ·) := by
  have := List.pairwise_mergeSort (le := fun a b : Int => decide (a ≤ b)) (fun a b c h1 h2 => by simp at *; omega) (fun a b => by simp; omega) l
  exact this.imp fun h => of_decide_eq_true h
theorem sortI_eq {l ys : List Int} (p : ys.Perm l) (h : ys.Pairwise (· ≤ ·)) : ys = sortI l := perm_sorted_eq (fun a b h1 h2 => Int.le_antisymm h1 h2) (p.trans (sortI_perm l).symm) h (sortI_sorted l)
end DD
namespace SrtO
open PySem PyProof.Rows Srt
section
variable {prog : Program} {w : World} {A : Around} {E : Value → Shared → Prop} {s : Shared}
def sv : Value → PySem.Str
  | .str x _ => x
  | _ => ⟨#[]⟩
def ltSv (v u : Value) : Bool := decide ((sv v).cps.toList < (sv u).cps.toList)
theorem swo_str : Swo ltSv := by
  refine ⟨fun x y h => ?_, fun x y z h1 h2 => ?_⟩
  · exact decide_eq_false (List.lt_asymm (of_decide_eq_true (p := (sv x).cps.toList < (sv y).cps.toList) h))
  · exact decide_eq_false (List.not_lt.mpr (List.le_trans (List.not_lt.mp (of_decide_eq_false (p := (sv y).cps.toList < (sv x).cps.toList) h1)) (List.not_lt.mp (of_decide_eq_false (p := (sv z).cps.toList < (sv y).cps.toList) h2))))
theorem strs_mem : ∀ {vs : List Value} {ns : List PySem.Str}, StrsAre vs ns → ∀ v ∈ vs, ∃ i t, v = Value.str i t
  | _, _, .nil, v, h => absurd h (by simp)
  | _, _, .cons n t r, v, h => by
    rcases List.mem_cons.mp h with e | h
    · exact ⟨n, t, e⟩
    · exact strs_mem r v h
theorem strs_sv : ∀ {vs : List Value}, (∀ v ∈ vs, ∃ i t, v = Value.str i t) → StrsAre vs (vs.map sv)
  | [], _ => .nil
  | v :: vs, h => by
    obtain ⟨i, t, e⟩ := h v List.mem_cons_self
    subst e
    exact .cons i t (strs_sv fun u hu => h u (List.mem_cons_of_mem _ hu))
theorem sv_strs : ∀ {vs : List Value} {ns : List PySem.Str}, StrsAre vs ns → vs.map sv = ns
  | _, _, .nil => rfl
  | _, _, .cons n t r => congrArg (n :: ·) (sv_strs r)
theorem str_cmp {vs : List Value} {ns : List PySem.Str} (hI : StrsAre vs ns) : Cmp prog w A s oneType' (fun p => p.1 ∈ vs) (lt2 ltSv) := by
  intro p q hm hm'
  obtain ⟨a, t, e⟩ := strs_mem hI _ hm
  obtain ⟨b, u, e'⟩ := strs_mem hI _ hm'
  show wpAny (model prog w) A (keyLt' oneType' p.1 q.1) (fun r s' => s' = s ∧ r = ltSv p.1 q.1) (fun _ _ => False) s
  rw [e, e', keyLt'_oneType]
  exact oneLt_str ⟨rfl, rfl⟩
theorem strs_sortable {a : Addr} {vs : List Value} {ns : List PySem.Str} (hI : StrsAre vs ns) (h2 : 2 ≤ vs.length) : SortableO prog w A s a vs ltSv := by
  intro h' _
  refine ⟨oneType', fun Q E hq => ?_, str_cmp hI⟩
  match vs, hI, h2 with
  | v1 :: v2 :: rest, hI, _ =>
    rw [keyKind_strs hI]
    exact wpAny_pure hq
  | [], _, h => exact absurd h (by decide)
  | [v], _, h => exact absurd h (by simp)
theorem strs_out {vs out : List Value} {ns : List PySem.Str} (hI : StrsAre vs ns) (hs : Srtd ltSv out) (hb : Stb ltSv out vs) : StrsAre out (out.map sv) ∧ (out.map sv).Perm ns ∧ (out.map sv).Pairwise DD.leS := by
  refine ⟨strs_sv fun v hv => strs_mem hI v (hb.perm.mem_iff.mp hv), ?_, ?_⟩
  · have q := hb.perm.map sv
    rw [sv_strs hI] at q
    exact q
  · exact List.pairwise_map.mpr (hs.imp fun {x y} h => of_decide_eq_false (p := (sv y).cps.toList < (sv x).cps.toList) h)
end
end SrtO
namespace DD
open PySem L2 PyProof.Rows
def rSortedAny (K : PySem.W.Frag) : List V → Hp → VK → Prop := fun vs H Q => ∃ (a : Addr) (xs : List Str), vs = [V.ref a] ∧ SqL K H a (xs.map V.str) ∧
  ∀ p : Addr, H p = none → Q (.ref p) (upd H p (.lst ((sortS xs).map V.str)))
def rSortedAnyI (K : PySem.W.Frag) : List V → Hp → VK → Prop := fun vs H Q => ∃ (a : Addr) (xs : List Int), vs = [V.ref a] ∧ SqL K H a (xs.map V.int) ∧
  ∀ p : Addr, H p = none → Q (.ref p) (upd H p (.lst ((sortI xs).map V.int)))
section
variable {X : Cx}
theorem cr_sortedAnyS : CallR X (.builtin "sorted") (rSortedAny X.K) := by
  intro pins s σ H vs us Q I r h
  obtain ⟨a, ns, rfl, hs, q⟩ := h
  obtain ⟨its, rv, hl, hz⟩ := I.list hs
  rw [Vals.ref1 r]
  have hi := rv.strs
  refine SrtO.sorted_ord SrtO.swo_str hl.isList (by rw [← rv.length]; exact hz) (fun h2 h₁ a' _ _ => SrtO.strs_sortable hi h2) fun out h1 h2 => ?_
  obtain ⟨k1, k2, k3⟩ := SrtO.strs_out hi h1 h2
  obtain ⟨ep, he'⟩ := PyProof.Rows.sortedAll_at s.heap its out.toArray
  have hlen : ((out.map SrtO.sv).map V.str).length ≤ sizeLine := by
    rw [List.length_map, k2.length_eq]
    rw [List.length_map] at hz
    exact hz
  have e := sortS_eq k2 k3
  exact ⟨.ref _, upd H (s.heap.objs.size + 1) (.lst ((out.map SrtO.sv).map V.str)), I.laid (t' := s.toks) (fun _ _ => PyProof.Rows.sortedAll_old) (Nat.le_succ _) ⟨hlen, out, ep, vals_of_strs k1, he'⟩, rfl, by rw [e]; exact q _ (I.hok.fresh (Nat.le_succ _))⟩
theorem cr_sortedAny : CallR X (.builtin "sorted") (fun xs H Q => rSortedAny X.K xs H Q ∨ rSortedAnyI X.K xs H Q) := by
  intro pins s σ H vs us Q I r h
  rcases h with h | h
  · exact cr_sortedAnyS pins s σ H vs us Q I r h
  · obtain ⟨a, ns, e, hs, q⟩ := h
    exact cr_sortedI pins s σ H vs us Q I r ⟨a, ns, e, hs, fun ns' p k1 k2 hp => by rw [sortI_eq k1 k2]; exact q p hp⟩
end
def intsOf : List D → Option (List Int)
  | [] => some []
  | .int b :: r => (intsOf r).map (b :: ·)
  | _ => none
theorem ints_of {B H ι} : ∀ {ds : List D} {bs : List Int} {vs : List V}, intsOf ds = some bs → VRs B H ι ds vs → vs = bs.map V.int
  | [], bs, vs, e, r => by cases e; cases r; rfl
  | d :: ds, bs, vs, e, ⟨x, t, e1, h, r⟩ => by
    subst e1
    cases d <;> (try (cases e))
    rename_i b
    cases h
    have e' : (intsOf ds).map (b :: ·) = some bs := e
    cases q : intsOf ds with
    | none => rw [q] at e'; cases e'
    | some cs => rw [q] at e'; cases e'; rw [ints_of q r]; rfl
theorem vrs_strs {B : Bs} {H : Hp} {ι : List Addr} : ∀ ns : List Str, VRs B H ι (ns.map D.str) (ns.map V.str)
  | [] => rfl
  | n :: r => ⟨_, _, rfl, rfl, vrs_strs r⟩
def lstD : D → Sto → Option (List D)
  | .fz ds, _ => some ds
  | .sc ds, _ => some ds
  | .ref n, st => match st[n]? with
    | some (.lst ds) => some ds
    | _ => none
  | _, _ => none
theorem lst_of {B : Bs} {H ι st} {d : D} {v : V} {ds : List D} (S : Sim B H ι st) (r : VR B H ι d v) (h : lstD d st = some ds) : ∃ a ys, v = .ref a ∧ SqL B.K H a ys ∧ VRs B H ι ds ys := by
  cases d with
  | fz ds => obtain ⟨a, ys, rfl, h1, n1, r1⟩ := r; cases h; exact ⟨a, ys, rfl, SqL.of h1, r1⟩
  | sc ds => obtain ⟨a, ys, rfl, h1, r1⟩ := r; cases h; exact ⟨a, ys, rfl, h1.sq, r1⟩
  | ref n =>
    obtain ⟨a, ha, rfl⟩ := r
    simp only [lstD] at h
    split at h
    · rename_i ds e
      cases h
      obtain ⟨ys, h1, r1⟩ := S.look e ha
      exact ⟨a, ys, rfl, SqL.of h1, r1⟩
    · cases h
  | _ => cases h
def fSorted : FL := fun xs st => match xs with
  | [x] => match lstD x st with
    | some ds => match strsOf ds with
      | some ss => .ok ((sortS ss).map .str) st
      | none => match intsOf ds with
        | some ns => .ok ((sortI ns).map .int) st
        | none => .bad
    | none => .bad
  | _ => .bad
theorem rcl_sorted {K : PySem.W.Frag} {mg : Str → Option Value} : RCL K mg (fun xs H Q => rSortedAny K xs H Q ∨ rSortedAnyI K xs H Q) fSorted := by
  intro ρ ι H st xs vs W σ Q S r p
  unfold fSorted at p
  split at p
  · rename_i x
    obtain ⟨v, rfl, h⟩ := vr1 r
    split at p
    · rename_i ds e
      obtain ⟨a, ys, rfl, hs, r1⟩ := lst_of S h e
      split at p
      · rename_i ss e2
        have := strs_of e2 r1
        subst this
        exact .inl ⟨a, ss, rfl, hs, new_lst S (vrs_strs _) p⟩
      · split at p
        · rename_i ns e2
          have := ints_of e2 r1
          subst this
          exact .inr ⟨a, ns, rfl, hs, new_lst S (vrs_ints _) p⟩
        · exact p.elim
    · exact p.elim
  · exact p.elim
end DD

/-! DD20: dicts with ints and texts as keys, in the store; a list of the store gone over. -/
namespace DD
open PySem L2 PyProof.Rows
/-! ### a list of the store, gone over while it stays as it is -/
theorem x_keep (n : Nat) (ds : List D) : ∃ f : Sto → Bool, ∀ st, f st = true ↔ ∃ o, st[n]? = some o ∧ o = .lst ds := by
  classical
  exact ⟨fun st => decide (∃ o, st[n]? = some o ∧ o = .lst ds), fun st => by simp⟩
noncomputable def keepRef (n : Nat) (ds : List D) : Sto → Bool := (x_keep n ds).choose
theorem keepRef_iff {n : Nat} {ds : List D} {st : Sto} : keepRef n ds st = true ↔ st[n]? = some (.lst ds) := by
  rw [keepRef, (x_keep n ds).choose_spec st]
  exact ⟨fun ⟨o, h, e⟩ => by rw [h, e], fun h => ⟨_, h, rfl⟩⟩
theorem itl_ref {B : Bs} {ι1 : List Addr} {H1 : Hp} {a : Addr} {n : Nat} {ds : List D} (ha : ι1[n]? = some a) : ItOk B (Itl B.K a) ι1 H1 (keepRef n ds) ds := by
  have key : ∀ ρ' ι' H' st', Step ι1 H1 ι' H' → Sim ⟨B.K, B.mg, ρ'⟩ H' ι' st' → keepRef n ds st' = true → ∃ ys, H' a = some (.lst ys) ∧ VRs ⟨B.K, B.mg, ρ'⟩ H' ι' ds ys := fun ρ' ι' H' st' s S k => by
    obtain ⟨ys, h1, r1⟩ := S.look (keepRef_iff.mp k) (s.ix ha)
    exact ⟨ys, h1, r1⟩
  refine ⟨fun ρ' i ι' H' st' f s S k hi => ?_, fun ρ' i d ι' H' st' v H'' f s S k hd y => ?_, fun ρ' i ι' H' st' f s S k hi => ?_⟩
  · obtain ⟨ys, h1, r⟩ := key ρ' ι' H' st' s S k
    obtain ⟨v, hv, _⟩ := r.get (List.getElem?_eq_getElem hi)
    exact ⟨ys, v, SqL.of h1, hv⟩
  · obtain ⟨e, y⟩ := y
    subst e
    obtain ⟨ys, h1, r⟩ := key ρ' ι' _ st' s S k
    obtain ⟨w, hw, vr⟩ := r.get hd
    have : v = w := Option.some.inj ((y ys (SqL.of h1)).symm.trans hw)
    subst this
    exact ⟨Step.refl _ _, S, vr⟩
  · obtain ⟨ys, h1, r⟩ := key ρ' ι' H' st' s S k
    exact ⟨ys, SqL.of h1, by rw [← r.length]; exact hi⟩
noncomputable def dItemsR (da : DE) : DI := fun env st => (da env st).bind fun x st1 => match x with
  | .fz ds => .ok (ds, yes) st1
  | .sc ds => .ok (ds, yes) st1
  | .ref n => match st1[n]? with
    | some (.lst ds) => .ok (ds, keepRef n ds) st1
    | _ => .bad
  | _ => .bad
section
variable {X : Cx} {W : WX} {tg e : Expr} {da dx dk : DE} {pos p : Pos}
theorem pid_listR (ha : PEd X W e da) : PId X W tg e (dItemsR da) := PI.mono (pi_list ha) fun σ H R ⟨ρ, ι, st, env, S, ve, p⟩ => ⟨ρ, ι, st, env, S, ve, Post.bind p fun x st1 ι1 H1 v s1 S1 rx p1 => by
  cases x <;> (try exact p1.elim)
  · obtain ⟨a, xs, rfl, h, m, r⟩ := rx
    exact ⟨a, rfl, ⟨xs, SqL.of h⟩, p1.ok S1 ⟨itl_ok (B := ⟨X.K, X.mg, ρ⟩) (.inr ⟨h, m⟩) r, rfl⟩⟩
  · obtain ⟨a, xs, rfl, h, r⟩ := rx
    exact ⟨a, rfl, ⟨xs, h.sq⟩, p1.ok S1 ⟨itl_ok (B := ⟨X.K, X.mg, ρ⟩) (.inl h) r, rfl⟩⟩
  · rename_i n
    obtain ⟨a, ha', rfl⟩ := rx
    simp only [] at p1
    split at p1
    · rename_i ds q
      obtain ⟨ys, h1, r1⟩ := S1.look q ha'
      exact ⟨a, rfl, ⟨ys, SqL.of h1⟩, p1.ok S1 ⟨itl_ref (B := ⟨X.K, X.mg, ρ⟩) ha', keepRef_iff.mpr q⟩⟩
    · exact p1.elim⟩
/-! ### dicts -/
def dDictNew : DE := fun _ st => .ok (.ref st.length) (st ++ [.dct [] []])
theorem pd_dictNew : PEd X W (.Dict [] [] pos) dDictNew := PE.mono pe_dnewK fun σ H Q ⟨ρ, ι, st, env, S, ve, p⟩ => fun q hq =>
  p (ι ++ [q]) _ (.ref q) (Step.alloc S hq) (Sim.alloc S hq ⟨[], [], upd_same, rfl, rfl, rfl⟩) ⟨q, by rw [← S.len, List.getElem?_append_right (by omega)]; simp, rfl⟩
def keyD : D → Option Key
  | .int i => some (.inl i)
  | .str x => some (.inr x)
  | _ => none
theorem keyD_of {B H ι} {d : D} {v : V} {k : Key} (r : VR B H ι d v) (h : keyD d = some k) : v = kV k := by
  cases d <;> (try (cases h)) <;> (cases r; rfl)
def dK' (k : Key) : D := match k with
  | .inl i => .int i
  | .inr x => .str x
theorem vr_dK {B H ι} (k : Key) : VR B H ι (dK' k) (kV k) := by cases k <;> rfl
def repl {α β : Type} [DecidableEq α] (k : α) (d : β) : List α → List β → List β
  | k' :: ks, x :: xs => (if k' = k then d else x) :: repl k d ks xs
  | _, _ => []
def pkD (k : Key) (d : D) (ks : List Key) (ds : List D) : List Key × List D := if (ks.any fun k' => decide (k' = k)) = true then (ks, repl k d ks ds) else (ks ++ [k], ds ++ [d])
theorem repl_zip {α : Type} [DecidableEq α] (k : α) (v : V) : ∀ (ks : List α) (xs : List V), (ks.zip xs).map (fun kv => if kv.1 = k then (kv.1, v) else kv) = ks.zip (repl k v ks xs)
  | [], _ => rfl
  | _ :: _, [] => rfl
  | k' :: ks, x :: xs => by
    simp only [List.zip_cons_cons, List.map_cons, repl, repl_zip k v ks xs]
    by_cases h : k' = k <;> simp [h]
theorem any_zip {α : Type} [DecidableEq α] (k : α) : ∀ (ks : List α) (xs : List V), ks.length = xs.length → ((ks.zip xs).any fun kv => decide (kv.1 = k)) = ks.any fun k' => decide (k' = k)
  | [], _, _ => rfl
  | _ :: _, [], h => by simp at h
  | k' :: ks, x :: xs, h => by
    rw [List.zip_cons_cons, List.any_cons, List.any_cons, any_zip k ks xs (by simpa using h)]
theorem repl_len {α β : Type} [DecidableEq α] (k : α) (d : β) : ∀ (ks : List α) (xs : List β), ks.length = xs.length → (repl k d ks xs).length = xs.length
  | [], [], _ => rfl
  | [], _ :: _, h => by simp at h
  | _ :: _, [], h => by simp at h
  | _ :: ks, _ :: xs, h => by simp only [repl, List.length_cons, repl_len k d ks xs (by simpa using h)]
theorem repl_vr {B H ι} (k : Key) {d : D} {v : V} (hv : VR B H ι d v) : ∀ (ks : List Key) {ds : List D} {xs : List V}, VRs B H ι ds xs → VRs B H ι (repl k d ks ds) (repl k v ks xs)
  | [], _, _, _ => rfl
  | _ :: _, [], _, r => by cases r; rfl
  | k' :: ks, _ :: _, _, ⟨x, t, e, h, r⟩ => by
    subst e
    refine ⟨_, _, rfl, ?_, repl_vr k hv ks r⟩
    by_cases e : k' = k
    · simp only [e, if_true]; exact hv
    · simp only [e, if_false]; exact h
theorem pk_vr {B H ι} {k : Key} {d : D} {v : V} (hv : VR B H ι d v) {ks : List Key} {ds : List D} {xs : List V} (l : ks.length = xs.length) (r : VRs B H ι ds xs) :
    ∃ ys, putK (ks.zip xs) k v = (pkD k d ks ds).1.zip ys ∧ (pkD k d ks ds).1.length = ys.length ∧ VRs B H ι (pkD k d ks ds).2 ys := by
  unfold putK pkD
  rw [any_zip k ks xs l]
  by_cases h : (ks.any fun k' => decide (k' = k)) = true
  · refine ⟨repl k v ks xs, ?_, ?_, ?_⟩
    · simp only [h, if_true]; exact repl_zip k v ks xs
    · simp only [h, if_true]; rw [repl_len k v ks xs l]; exact l
    · simp only [h, if_true]; exact repl_vr k hv ks r
  · refine ⟨xs ++ [v], ?_, ?_, ?_⟩
    · rw [if_neg h, if_neg h, List.zip_append l]; rfl
    · rw [if_neg h]; simp [l]
    · rw [if_neg h]; exact r.append (VRs.one hv)
def setKeyR (o i x : D) (env : Env) (st : Sto) : ResS := match o, keyD i with
  | .ref n, some k => match st[n]? with
    | some (.dct ks ds) => if ks.length ≤ bigLine then .nx env (st.set n (.dct (pkD k x ks ds).1 (pkD k x ks ds).2)) else .bad
    | _ => .bad
  | _, _ => .bad
def dSetKey (da dx dk : DE) : DS := fun env st => (da env st).bindS env fun x st1 => (dx env st1).bindS env fun o st2 => (dk env st2).bindS env fun i st3 => setKeyR o i x env st3
theorem psd_setKey {o i : Expr} {p' : Pos} (hu : X.A.units + 1 < cLine) (he : PEd X W e da) (ho : PEd X W o dx) (hi : PEd X W i dk) (hs : swapsWithSole [Expr.Subscript o i p'] e pos.line X.env = pure false := by rfl) (hw : swappedStores [Expr.Subscript o i p'] e X.env = pure none := by rfl)
    (h1 : (assignEach [Expr.Subscript o i p'] X.env).map (·.2) = [assign (Expr.Subscript o i p') X.env] := by rfl)
    (ha : ∀ v, assign (.Subscript o i p') X.env v = (do
      let ov ← holding [v] (eval o X.env)
      let iv ← holding [v, ov] (eval i X.env)
      standAt p'
      holding [v, ov, iv] (setItem ov iv v)
      release [v, ov, iv] []) := by intro _; rfl) : PSd X W (.Assign [.Subscript o i p'] e pos) (dSetKey da dx dk) :=
  PS.mono (ps_asg he (pg_sub ho hi (set_dict hu) ha) hs hw h1) fun E σ H ⟨ρ, ι, st, env, S, ve, p⟩ => ⟨ρ, ι, st, env, S, ve, PostS.bind ve p fun x st1 ι1 H1 v s1 S1 rx p1 =>
    ⟨ρ, ι1, st1, env, S1, ve.step s1, PostS.bind (ve.step s1) p1 fun o st2 ι2 H2 w s2 S2 ro p2 => ⟨ρ, ι2, st2, env, S2, (ve.step s1).step s2, PostS.bind ((ve.step s1).step s2) p2 fun i st3 ι3 H3 z s3 S3 ri p3 => by
      unfold setKeyR at p3
      split at p3
      · rename_i n k ek
        obtain ⟨a, ha, rfl⟩ := VR.step s3 ro
        split at p3
        · rename_i ks ds q
          obtain ⟨kvs, xs, h1, e1, l, r1⟩ := S3.look q ha
          split at p3
          · rename_i hl
            have ez := keyD_of ri ek
            obtain ⟨ys, e2, l2, r2⟩ := pk_vr (k := k) ((VR.step s2 rx).step s3) l r1
            have sw : Step ι3 H3 ι3 (upd H3 a (.dK (putK kvs k v))) := Step.write ha
            refine ⟨a, _, rfl, ?_, p3 ι3 _ σ sw (S3.write ha ⟨putK kvs k v, ys, upd_same, by rw [e1]; exact e2, l2, r2.step sw⟩) ((((ve.step s1).step s2).step s3).step sw)⟩
            rw [ez]
            exact DPut.k h1 (by rw [e1, List.length_zip, ← l, Nat.min_self]; exact big_lt hl)
          · exact p3.elim
        · exact p3.elim
      · exact p3.elim⟩⟩⟩
/-- list(x), x a list, a tuple, or a dict: then its keys -/
def fListD : FL := fun xs st => match xs with
  | [.ref n] => match st[n]? with
    | some (.lst ds) => .ok ds st
    | some (.dct ks _) => .ok (ks.map dK') st
    | _ => .bad
  | [.fd ks _] => .ok (ks.map dK') st
  | xs => fList xs st
theorem vrs_keys {B : Bs} {H : Hp} {ι : List Addr} : ∀ (ks : List Key) (xs : List V), ks.length = xs.length → VRs B H ι (ks.map dK') ((ks.zip xs).map fun kv => kV kv.1)
  | [], _, _ => rfl
  | _ :: _, [], h => by simp at h
  | k :: ks, x :: xs, h => ⟨_, _, rfl, vr_dK k, vrs_keys ks xs (by simpa using h)⟩
def rListAny (K : PySem.W.Frag) : List V → Hp → VK → Prop := fun xs H Q => (∃ p ys, xs = [.ref p] ∧ (SqL K H p ys ∨ SqT K H p ys) ∧ ∀ l, H l = none → Q (.ref l) (upd H l (.lst ys))) ∨ rListD xs H Q
theorem cr_listAny (hc : X.calm = true) : CallR X (.type "list") (rListAny X.K) := by
  intro pins s σ H xs us Q I r h
  rcases h with h | h
  · exact call_list_of pins s σ H xs us Q I r h
  · exact call_list_dK hc pins s σ H xs us Q I r h
theorem rcl_listD {K : PySem.W.Frag} {mg : Str → Option Value} : RCL K mg (rListAny K) fListD := by
  intro ρ ι H st xs vs W σ Q S r p
  unfold fListD at p
  split at p
  · rename_i n
    obtain ⟨v, rfl, a, ha, rfl⟩ := vr1 r
    split at p
    · rename_i ds q
      obtain ⟨ys, h1, r1⟩ := S.look q ha
      exact .inl ⟨a, ys, rfl, .inl (SqL.of h1), new_lst S r1 p⟩
    · rename_i ks ds q
      obtain ⟨kvs, ys, h1, e1, l, r1⟩ := S.look q ha
      exact .inr ⟨a, kvs, rfl, h1, by rw [e1]; exact new_lst S (vrs_keys ks ys l) p⟩
    · exact p.elim
  · rename_i ks ds
    obtain ⟨v, rfl, a, kvs, ys, rfl, h1, n1, e1, l, r1⟩ := vr1 r
    exact .inr ⟨a, kvs, rfl, h1, by rw [e1]; exact new_lst S (vrs_keys ks ys l) p⟩
  · exact .inl (rcl_list S r p)
end
/-! ### dicts by value -/
section
variable {X : Cx} {W : WX} {pos : Pos} {k v : Expr} {dk dv : DE}
def dFd0 : DE := fun _ st => .ok (.fd [] []) st
theorem pd_fd0 : PEd X W (.Dict [] [] pos) dFd0 := PE.mono pe_dnewK fun σ H Q ⟨ρ, ι, st, env, S, ve, p⟩ => fun q hq =>
  p ι _ (.ref q) (Step.new S hq) (S.new hq) ⟨q, [], [], rfl, upd_same, ⟨S.fresh hq, S.fr hq⟩, rfl, rfl, rfl⟩
def dFd1 (dk dv : DE) : DE := fun env st => match dk env st with
  | .ok k st1 => match dv env st1 with
    | .ok v st2 => match keyD k with
      | some kk => .ok (.fd [kk] [v]) st2
      | none => .bad
    | _ => .bad
  | _ => .bad
theorem pd_fd1 (hk : PEd X W0 k dk) (hv : PEd X W0 v dv) : PEd X W (.Dict [some k] [v] pos) (dFd1 dk dv) :=
  PE.mono (pe_disp (pps_cons hk hv pps_nil) rfl rfl (by simp) (by simp)) fun σ H Q ⟨ρ, ι, st, env, S, ve, p⟩ => fun q hq => by
    have S0 : Sim ⟨X.K, X.mg, q :: ρ⟩ (upd H q (.dK [])) ι st := S.reserve hq
    have ve0 : VEnv ⟨X.K, X.mg, q :: ρ⟩ (upd H q (.dK [])) ι env σ := VEnv.step (Step.new S hq) (VEnv.more (B := ⟨X.K, X.mg, ρ⟩) ve hq)
    unfold dFd1 at p
    refine ⟨q :: ρ, ι, st, env, S0, ve0, ?_⟩
    cases e1 : dk env st with
    | bad => rw [e1] at p; exact p.elim
    | exc x st1 => rw [e1] at p; exact p.elim
    | ok kd st1 =>
      rw [e1] at p
      intro ι1 H1 x s1 S1 rx
      refine ⟨q :: ρ, ι1, st1, env, S1, ve0.step s1, ?_⟩
      simp only [] at p
      cases e2 : dv env st1 with
      | bad => rw [e2] at p; exact p.elim
      | exc x st1 => rw [e2] at p; exact p.elim
      | ok vd st2 =>
        rw [e2] at p
        intro ι2 H2 y s2 S2 ry
        simp only [] at p
        cases e3 : keyD kd with
        | none => rw [e3] at p; exact p.elim
        | some kk =>
          rw [e3] at p
          have ex := keyD_of rx e3
          have m2 : q ∉ ι2 := (S2.rs q List.mem_cons_self).2
          have m1 : q ∉ ι1 := (S1.rs q List.mem_cons_self).2
          have m0 : q ∉ ι := (S0.rs q List.mem_cons_self).2
          have h2 : H2 q = some (.dK []) := s2.rest _ _ m1 (s1.rest _ _ m0 upd_same)
          have S2' : Sim ((⟨X.K, X.mg, ρ⟩ : Bs).more q) H2 ι2 st2 := S2
          have ry' : VR ((⟨X.K, X.mg, ρ⟩ : Bs).more q) H2 ι2 vd y := ry
          refine ⟨h2, [(kk, y)], by rw [ex]; rfl, by simp, ?_⟩
          exact p ι2 _ (.ref q) ((((Step.new S hq).trans s1).trans s2).scr hq) (S2'.scr.less) ⟨q, [(kk, y)], [y], rfl, upd_same, ⟨m2, S.fr hq⟩, rfl, rfl, VRs.one (ry'.scr.less.1)⟩
end
end DD

/-! ### the text by places -/
namespace DD
open PySem L2 PyProof.Rows
def topS (i : Nat) : Stmt := PySem.Challenge.pw_stretchprices_k02_whole_runs_by_own_step.main.body.getD i (.Pass ⟨0, 0, 0, 0⟩)
abbrev s_law_hand : Stmt := topS 29
abbrev N_law_hand : List Str := ["script", "cells", "cell"]
theorem sc_law_hand : FnScope N_law_hand ["script"] (defScope s_law_hand) := ⟨rfl, rfl, rfl, by decide +kernel, rfl, by decide +kernel, by decide +kernel⟩
abbrev s_law_draw : Stmt := topS 30
abbrev N_law_draw : List Str := ["hand", "many", "cell", "digit", "number"]
theorem sc_law_draw : FnScope N_law_draw ["hand", "many"] (defScope s_law_draw) := ⟨rfl, rfl, rfl, by decide +kernel, rfl, by decide +kernel, by decide +kernel⟩
abbrev s_law_rows : Stmt := topS 31
abbrev N_law_rows : List Str := ["hand", "most", "many", "found", "rest", "turn", "at"]
theorem sc_law_rows : FnScope N_law_rows ["hand", "most"] (defScope s_law_rows) := ⟨rfl, rfl, rfl, by decide +kernel, rfl, by decide +kernel, by decide +kernel⟩
abbrev s_law_line : Stmt := topS 32
abbrev N_law_line : List Str := ["hand", "answers", "size", "top", "answer"]
theorem sc_law_line : FnScope N_law_line ["hand", "answers", "size", "top"] (defScope s_law_line) := ⟨rfl, rfl, rfl, by decide +kernel, rfl, by decide +kernel, by decide +kernel⟩
abbrev s_law_world : Stmt := topS 33
abbrev N_law_world : List Str := ["hand", "most", "size", "rows", "answers", "many", "top", "moves", "at", "row"]
theorem sc_law_world : FnScope N_law_world ["hand", "most", "size"] (defScope s_law_world) := ⟨rfl, rfl, rfl, by decide +kernel, rfl, by decide +kernel, by decide +kernel⟩
abbrev s_is_code : Stmt := topS 13
abbrev N_is_code : List Str := ["thing", "rows", "row"]
theorem sc_is_code : FnScope N_is_code ["thing", "rows"] (defScope s_is_code) := ⟨rfl, rfl, rfl, by decide +kernel, rfl, by decide +kernel, by decide +kernel⟩
abbrev s_is_letters : Stmt := topS 10
abbrev N_is_letters : List Str := ["thing", "letters", "at"]
theorem sc_is_letters : FnScope N_is_letters ["thing", "letters"] (defScope s_is_letters) := ⟨rfl, rfl, rfl, by decide +kernel, rfl, by decide +kernel, by decide +kernel⟩
abbrev s_is_rows : Stmt := topS 11
abbrev N_is_rows : List Str := ["thing"]
theorem sc_is_rows : FnScope N_is_rows ["thing"] (defScope s_is_rows) := ⟨rfl, rfl, rfl, by decide +kernel, rfl, by decide +kernel, by decide +kernel⟩
abbrev s_is_integer : Stmt := topS 7
abbrev N_is_integer : List Str := ["thing"]
theorem sc_is_integer : FnScope N_is_integer ["thing"] (defScope s_is_integer) := ⟨rfl, rfl, rfl, by decide +kernel, rfl, by decide +kernel, by decide +kernel⟩
abbrev s_is_between : Stmt := topS 8
abbrev N_is_between : List Str := ["thing", "least", "most"]
theorem sc_is_between : FnScope N_is_between ["thing", "least", "most"] (defScope s_is_between) := ⟨rfl, rfl, rfl, by decide +kernel, rfl, by decide +kernel, by decide +kernel⟩
abbrev s_is_answers : Stmt := topS 12
abbrev N_is_answers : List Str := ["thing"]
theorem sc_is_answers : FnScope N_is_answers ["thing"] (defScope s_is_answers) := ⟨rfl, rfl, rfl, by decide +kernel, rfl, by decide +kernel, by decide +kernel⟩
abbrev s_is_tuple : Stmt := topS 9
abbrev N_is_tuple : List Str := ["thing", "many"]
theorem sc_is_tuple : FnScope N_is_tuple ["thing", "many"] (defScope s_is_tuple) := ⟨rfl, rfl, rfl, by decide +kernel, rfl, by decide +kernel, by decide +kernel⟩
abbrev s_is_move : Stmt := topS 20
abbrev N_is_move : List Str := ["pair", "size"]
theorem sc_is_move : FnScope N_is_move ["pair", "size"] (defScope s_is_move) := ⟨rfl, rfl, rfl, by decide +kernel, rfl, by decide +kernel, by decide +kernel⟩
abbrev s_are_pairs : Stmt := topS 19
abbrev N_are_pairs : List Str := ["pairs", "answers", "size", "pair"]
theorem sc_are_pairs : FnScope N_are_pairs ["pairs", "answers", "size"] (defScope s_are_pairs) := ⟨rfl, rfl, rfl, by decide +kernel, rfl, by decide +kernel, by decide +kernel⟩
abbrev s_is_item : Stmt := topS 18
abbrev N_is_item : List Str := ["item", "rows", "answers", "size", "pairs"]
theorem sc_is_item : FnScope N_is_item ["item", "rows", "answers", "size"] (defScope s_is_item) := ⟨rfl, rfl, rfl, by decide +kernel, rfl, by decide +kernel, by decide +kernel⟩
abbrev s_are_moves : Stmt := topS 17
abbrev N_are_moves : List Str := ["moves", "rows", "answers", "item"]
theorem sc_are_moves : FnScope N_are_moves ["moves", "rows", "answers"] (defScope s_are_moves) := ⟨rfl, rfl, rfl, by decide +kernel, rfl, by decide +kernel, by decide +kernel⟩
abbrev s_Machine_init : Stmt := inClass (topS 16) 0
abbrev N_Machine_init : List Str := ["self", "rows", "answers", "moves"]
theorem sc_Machine_init : FnScope N_Machine_init ["self", "rows", "answers", "moves"] (defScope s_Machine_init) := ⟨rfl, rfl, rfl, by decide +kernel, rfl, by decide +kernel, by decide +kernel⟩
abbrev s_law_run : Stmt := topS 34
abbrev N_law_run : List Str := ["hand", "rows", "answers", "many", "code", "turn", "row"]
theorem sc_law_run : FnScope N_law_run ["hand", "rows", "answers", "many"] (defScope s_law_run) := ⟨rfl, rfl, rfl, by decide +kernel, rfl, by decide +kernel, by decide +kernel⟩
abbrev s_is_run : Stmt := topS 14
abbrev N_is_run : List Str := ["thing", "rows", "answers", "code", "told", "answer"]
theorem sc_is_run : FnScope N_is_run ["thing", "rows", "answers"] (defScope s_is_run) := ⟨rfl, rfl, rfl, by decide +kernel, rfl, by decide +kernel, by decide +kernel⟩
abbrev s_check_run : Stmt := topS 22
abbrev N_check_run : List Str := ["machine", "run"]
theorem sc_check_run : FnScope N_check_run ["machine", "run"] (defScope s_check_run) := ⟨rfl, rfl, rfl, by decide +kernel, rfl, by decide +kernel, by decide +kernel⟩
abbrev s_walked : Stmt := topS 21
abbrev N_walked : List Str := ["machine", "start", "run", "code", "told", "total", "here", "row", "answer", "spent"]
theorem sc_walked : FnScope N_walked ["machine", "start", "run"] (defScope s_walked) := ⟨rfl, rfl, rfl, by decide +kernel, rfl, by decide +kernel, by decide +kernel⟩
abbrev s_ticks : Stmt := topS 24
abbrev N_ticks : List Str := ["machine", "run"]
theorem sc_ticks : FnScope N_ticks ["machine", "run"] (defScope s_ticks) := ⟨rfl, rfl, rfl, by decide +kernel, rfl, by decide +kernel, by decide +kernel⟩
abbrev s_standing : Stmt := topS 25
abbrev N_standing : List Str := ["machine", "run"]
theorem sc_standing : FnScope N_standing ["machine", "run"] (defScope s_standing) := ⟨rfl, rfl, rfl, by decide +kernel, rfl, by decide +kernel, by decide +kernel⟩
abbrev s_law_led : Stmt := topS 35
abbrev N_law_led : List Str := ["world", "at", "run", "total", "row", "answer", "taken"]
theorem sc_law_led : FnScope N_law_led ["world", "at", "run"] (defScope s_law_led) := ⟨rfl, rfl, rfl, by decide +kernel, rfl, by decide +kernel, by decide +kernel⟩
abbrev s_check_standing : Stmt := topS 23
abbrev N_check_standing : List Str := ["machine", "thing"]
theorem sc_check_standing : FnScope N_check_standing ["machine", "thing"] (defScope s_check_standing) := ⟨rfl, rfl, rfl, by decide +kernel, rfl, by decide +kernel, by decide +kernel⟩
abbrev s_ticks_from : Stmt := topS 26
abbrev N_ticks_from : List Str := ["machine", "standing", "run"]
theorem sc_ticks_from : FnScope N_ticks_from ["machine", "standing", "run"] (defScope s_ticks_from) := ⟨rfl, rfl, rfl, by decide +kernel, rfl, by decide +kernel, by decide +kernel⟩
abbrev s_standing_from : Stmt := topS 27
abbrev N_standing_from : List Str := ["machine", "standing", "run"]
theorem sc_standing_from : FnScope N_standing_from ["machine", "standing", "run"] (defScope s_standing_from) := ⟨rfl, rfl, rfl, by decide +kernel, rfl, by decide +kernel, by decide +kernel⟩
abbrev s_law : Stmt := topS 36
abbrev N_law : List Str := ["script", "hand", "turn", "world", "machine", "first", "second", "both", "at", "told", "middle"]
theorem sc_law : FnScope N_law ["script"] (defScope s_law) := ⟨rfl, rfl, rfl, by decide +kernel, rfl, by decide +kernel, by decide +kernel⟩
def fldC_answers : List Str := ["Machine"]
def fldC_moves : List Str := ["Machine"]
def fldC_rows : List Str := ["Machine"]
def fldC_size : List Str := ["Machine"]
def subL : List ((Str × Str) × Bool) := []
def subT : Str → Str → Option Bool := fun x c => subL.lookup (x, c)
/-! ### what each def is -/
noncomputable def d_law_hand : DS := (dSeq (dSet 1 (dFz (dLc (dItems (dSl (dVar 0) dNoPart (dPart (dC (.int 63))))) (gdName 2) dYes (dCall fAbs (dCons (dCall fInt (dCons (dVar 2) dNil)) dNil)) [2])))
    (dRet (dNew (dLst (dCons (dVar 1) (dCons (dC (.int 0)) (dCons (dC (.int 0)) (dCons (dBin fAdd (dC (.int 1)) (dCall fLen (dCons (dVar 1) dNil))) (dCons (dC (.int 0)) dNil)))))))))
theorem x_law_hand : ∃ m : M, m = mOf d_law_hand 3 := ⟨_, rfl⟩
noncomputable def m_law_hand : M := x_law_hand.choose
theorem m_law_hand_e : m_law_hand = mOf d_law_hand 3 := x_law_hand.choose_spec
noncomputable def d_law_draw : DS := (dSeq (dIfS (dAnd (dTst (dBin (fEq false) (dBin fIx (dVar 0) (dC (.int 2))) (dC (.int 0)))) (dTst (dBin fLtS (dBin fIx (dVar 0) (dC (.int 1))) (dCall fLen (dCons (dBin fIx (dVar 0) (dC (.int 0))) dNil))))) (dSeq (dSet 2 (dBin fIx (dBin fIx (dVar 0) (dC (.int 0))) (dBin fIx (dVar 0) (dC (.int 1)))))
    (dSeq (dSetItem (dBin fAdd (dBin fIx (dVar 0) (dC (.int 1))) (dC (.int 1))) (dVar 0) (dC (.int 1)))
    (dSeq (dSetItem (dBin fMod (dCall fInt (dCons (dBin fAdd (dBin fAdd (dBin fMul (dBin fIx (dVar 0) (dC (.int 3))) (dC (.int 69621))) (dVar 2)) (dC (.int 11))) dNil)) (dC (.int 2147483629))) (dVar 0) (dC (.int 3)))
    (dIfS (dTst (dBin fGe (dVar 2) (dBin fPow (dC (.int 10)) (dC (.int 18))))) (dSetItem (dVar 2) (dVar 0) (dC (.int 2))) dNext)))) dNext)
    (dSeq (dIfS (dTst (dBin fGt (dBin fIx (dVar 0) (dC (.int 2))) (dC (.int 0)))) (dSeq (dSet 3 (dBin fMod (dCall fInt (dCons (dBin fIx (dVar 0) (dC (.int 2))) dNil)) (dVar 1)))
    (dSeq (dSetItem (dBin fDiv (dBin fIx (dVar 0) (dC (.int 2))) (dVar 1)) (dVar 0) (dC (.int 2)))
    (dRet (dVar 3)))) dNext)
    (dSeq (dSetItem (dBin fAdd (dBin fIx (dVar 0) (dC (.int 4))) (dC (.int 1))) (dVar 0) (dC (.int 4)))
    (dSeq (dSet 4 (dBin fMod (dCall fInt (dCons (dBin fMul (dCall fInt (dCons (dBin fAdd (dBin fIx (dVar 0) (dC (.int 3))) (dBin fMul (dC (.int 7919)) (dBin fIx (dVar 0) (dC (.int 4))))) dNil)) (dC (.int 48271))) dNil)) (dC (.int 2147483647))))
    (dSeq (dSet 4 (dBin fMod (dCall fInt (dCons (dBin fMul (dVar 4) (dBin fAdd (dBin fDiv (dVar 4) (dC (.int 1009))) (dC (.int 69621)))) dNil)) (dC (.int 2147483647))))
    (dSeq (dSet 4 (dBin fMod (dCall fInt (dCons (dBin fMul (dVar 4) (dBin fAdd (dBin fDiv (dVar 4) (dC (.int 2003))) (dC (.int 40692)))) dNil)) (dC (.int 2147483399))))
    (dRet (dBin fMod (dCall fInt (dCons (dBin fDiv (dVar 4) (dC (.int 16))) dNil)) (dVar 1)))))))))
theorem x_law_draw : ∃ m : M, m = mOf d_law_draw 5 := ⟨_, rfl⟩
noncomputable def m_law_draw : M := x_law_draw.choose
theorem m_law_draw_e : m_law_draw = mOf d_law_draw 5 := x_law_draw.choose_spec
noncomputable def d_law_rows : DS := (dSeq (dSet 2 (dBin fAdd (dC (.int 1)) (dOwn m_law_draw 2 (dCons (dVar 0) (dCons (dVar 1) dNil)))))
    (dSeq (dSet 3 (dC (.str "")))
    (dSeq (dSet 4 (dC (.str "abcdefghijklmnopqrstuvwxyz")))
    (dSeq (dFor (dRange1 (dCons (dVar 2) dNil)) (gdName 5) (dSeq (dSet 6 (dOwn m_law_draw 2 (dCons (dVar 0) (dCons (dBin fSub (dCall fLen (dCons (dVar 4) dNil)) (dBin fSub (dBin fSub (dVar 2) (dVar 5)) (dC (.int 1)))) dNil))))
    (dSeq (dSet 3 (dBin fAdd (dVar 3) (dBin fIx (dVar 4) (dVar 6))))
    (dSet 4 (dSl (dVar 4) (dPart (dBin fAdd (dVar 6) (dC (.int 1)))) dNoPart)))))
    (dRet (dVar 3))))))
theorem x_law_rows : ∃ m : M, m = mOf d_law_rows 7 := ⟨_, rfl⟩
noncomputable def m_law_rows : M := x_law_rows.choose
theorem m_law_rows_e : m_law_rows = mOf d_law_rows 7 := x_law_rows.choose_spec
noncomputable def d_law_line : DS := (dRet (dCall fTuple (dCons (dFz (dLc (dRange1 (dCons (dVar 1) dNil)) (gdName 4) dYes (dTup (dCons (dBin fAdd (dC (.int 1)) (dOwn m_law_draw 2 (dCons (dVar 0) (dCons (dVar 3) dNil)))) (dCons (dOwn m_law_draw 2 (dCons (dVar 0) (dCons (dVar 2) dNil))) dNil))) [4])) dNil)))
theorem x_law_line : ∃ m : M, m = mOf d_law_line 5 := ⟨_, rfl⟩
noncomputable def m_law_line : M := x_law_line.choose
theorem m_law_line_e : m_law_line = mOf d_law_line 5 := x_law_line.choose_spec
noncomputable def d_law_world : DS := (dSeq (dSet 3 (dOwn m_law_rows 2 (dCons (dVar 0) (dCons (dVar 1) dNil))))
    (dSeq (dSet 4 (dBin fIx (dFz (dLst (dCons (dC (.int 1)) (dCons (dC (.int 1)) (dCons (dC (.int 2)) (dCons (dC (.int 2)) (dCons (dC (.int 3)) dNil))))))) (dOwn m_law_draw 2 (dCons (dVar 0) (dCons (dC (.int 5)) dNil)))))
    (dSeq (dSet 5 (dBin fAdd (dC (.int 1)) (dOwn m_law_draw 2 (dCons (dVar 0) (dCons (dVar 2) dNil)))))
    (dSeq (dSet 6 (dBin fIx (dFz (dLst (dCons (dC (.int 1)) (dCons (dC (.int 2)) (dCons (dC (.int 3)) (dCons (dC (.int 9)) (dCons (dC (.int 99)) dNil))))))) (dOwn m_law_draw 2 (dCons (dVar 0) (dCons (dC (.int 5)) dNil)))))
    (dSeq (dSet 7 (dNew (dLst dNil)))
    (dSeq (dFor (dRange1 (dCons (dVar 5) dNil)) (gdName 8) (dExpr (dMeth isLst fAppend (dVar 7) (dCons (dCall fTuple (dCons (dFz (dLc (dSigns (dVar 3)) (gdName 9) dYes (dOwn m_law_line 4 (dCons (dVar 0) (dCons (dVar 4) (dCons (dVar 5) (dCons (dVar 6) dNil))))) [9])) dNil)) dNil))))
    (dRet (dTup (dCons (dVar 3) (dCons (dVar 4) (dCons (dCall fTuple (dCons (dVar 7) dNil)) dNil)))))))))))
theorem x_law_world : ∃ m : M, m = mOf d_law_world 10 := ⟨_, rfl⟩
noncomputable def m_law_world : M := x_law_world.choose
theorem m_law_world_e : m_law_world = mOf d_law_world 10 := x_law_world.choose_spec
noncomputable def d_is_code : DS := (dRet (dAndV (dCall fIsi (dCons (dVar 0) (dCons (dC (.ty "str")) dNil))) (dCall fAll (dCons (dFz (dLc (dSigns (dVar 0)) (gdName 2) dYes (dBin (fIn false) (dVar 2) (dVar 1)) [2])) dNil))))
theorem x_is_code : ∃ m : M, m = mOf d_is_code 3 := ⟨_, rfl⟩
noncomputable def m_is_code : M := x_is_code.choose
theorem m_is_code_e : m_is_code = mOf d_is_code 3 := x_is_code.choose_spec
noncomputable def d_is_letters : DS := (dSeq (dIfS (dOr (dNot (dTru (dOwn m_is_code 2 (dCons (dVar 0) (dCons (dVar 1) dNil))))) (dTst (dBin (fEq false) (dVar 0) (dC (.str ""))))) (dRet (dC (.bl false))) dNext)
    (dRet (dCall fAll (dCons (dFz (dLc (dRange1 (dCons (dBin fSub (dCall fLen (dCons (dVar 0) dNil)) (dC (.int 1))) dNil)) (gdName 2) dYes (dBin fLtS (dBin fIx (dVar 0) (dVar 2)) (dBin fIx (dVar 0) (dBin fAdd (dVar 2) (dC (.int 1))))) [2])) dNil))))
theorem x_is_letters : ∃ m : M, m = mOf d_is_letters 3 := ⟨_, rfl⟩
noncomputable def m_is_letters : M := x_is_letters.choose
theorem m_is_letters_e : m_is_letters = mOf d_is_letters 3 := x_is_letters.choose_spec
noncomputable def d_is_rows : DS := (dRet (dAndV (dOwn m_is_letters 2 (dCons (dVar 0) (dCons (dC (.str "abcdefghijklmnopqrstuvwxyz")) dNil))) (dBin fLe (dCall fLen (dCons (dVar 0) dNil)) (dC (.int 4)))))
theorem x_is_rows : ∃ m : M, m = mOf d_is_rows 1 := ⟨_, rfl⟩
noncomputable def m_is_rows : M := x_is_rows.choose
theorem m_is_rows_e : m_is_rows = mOf d_is_rows 1 := x_is_rows.choose_spec
noncomputable def d_is_integer : DS := (dRet (dAndV (dCall fIsi (dCons (dVar 0) (dCons (dC (.ty "int")) dNil))) (dNotV (dCall fIsi (dCons (dVar 0) (dCons (dC (.ty "bool")) dNil))))))
theorem x_is_integer : ∃ m : M, m = mOf d_is_integer 1 := ⟨_, rfl⟩
noncomputable def m_is_integer : M := x_is_integer.choose
theorem m_is_integer_e : m_is_integer = mOf d_is_integer 1 := x_is_integer.choose_spec
noncomputable def d_is_between : DS := (dRet (dAndV (dOwn m_is_integer 1 (dCons (dVar 0) dNil)) (dChain fLe fLe (dVar 1) (dVar 0) (dVar 2))))
theorem x_is_between : ∃ m : M, m = mOf d_is_between 3 := ⟨_, rfl⟩
noncomputable def m_is_between : M := x_is_between.choose
theorem m_is_between_e : m_is_between = mOf d_is_between 3 := x_is_between.choose_spec
noncomputable def d_is_answers : DS := (dRet (dOwn m_is_between 3 (dCons (dVar 0) (dCons (dC (.int 1)) (dCons (dC (.int 3)) dNil)))))
theorem x_is_answers : ∃ m : M, m = mOf d_is_answers 1 := ⟨_, rfl⟩
noncomputable def m_is_answers : M := x_is_answers.choose
theorem m_is_answers_e : m_is_answers = mOf d_is_answers 1 := x_is_answers.choose_spec
noncomputable def d_is_tuple : DS := (dRet (dAndV (dCall fIsi (dCons (dVar 0) (dCons (dC (.ty "tuple")) dNil))) (dBin (fEq false) (dCall fLen (dCons (dVar 0) dNil)) (dVar 1))))
theorem x_is_tuple : ∃ m : M, m = mOf d_is_tuple 2 := ⟨_, rfl⟩
noncomputable def m_is_tuple : M := x_is_tuple.choose
theorem m_is_tuple_e : m_is_tuple = mOf d_is_tuple 2 := x_is_tuple.choose_spec
noncomputable def d_is_move : DS := (dRet (dAndV (dOwn m_is_tuple 2 (dCons (dVar 0) (dCons (dC (.int 2)) dNil))) (dAndV (dOwn m_is_between 3 (dCons (dBin fIx (dVar 0) (dC (.int 0))) (dCons (dC (.int 1)) (dCons (dC (.int 99)) dNil)))) (dOwn m_is_between 3 (dCons (dBin fIx (dVar 0) (dC (.int 1))) (dCons (dC (.int 0)) (dCons (dBin fSub (dVar 1) (dC (.int 1))) dNil)))))))
theorem x_is_move : ∃ m : M, m = mOf d_is_move 2 := ⟨_, rfl⟩
noncomputable def m_is_move : M := x_is_move.choose
theorem m_is_move_e : m_is_move = mOf d_is_move 2 := x_is_move.choose_spec
noncomputable def d_are_pairs : DS := (dRet (dAndV (dOwn m_is_tuple 2 (dCons (dVar 0) (dCons (dVar 1) dNil))) (dCall fAll (dCons (dFz (dLc (dItemsT (dVar 0)) (gdName 3) dYes (dOwn m_is_move 2 (dCons (dVar 3) (dCons (dVar 2) dNil))) [3])) dNil))))
theorem x_are_pairs : ∃ m : M, m = mOf d_are_pairs 4 := ⟨_, rfl⟩
noncomputable def m_are_pairs : M := x_are_pairs.choose
theorem m_are_pairs_e : m_are_pairs = mOf d_are_pairs 4 := x_are_pairs.choose_spec
noncomputable def d_is_item : DS := (dRet (dAndV (dOwn m_is_tuple 2 (dCons (dVar 0) (dCons (dVar 1) dNil))) (dCall fAll (dCons (dFz (dLc (dItemsT (dVar 0)) (gdName 4) dYes (dOwn m_are_pairs 3 (dCons (dVar 4) (dCons (dVar 2) (dCons (dVar 3) dNil)))) [4])) dNil))))
theorem x_is_item : ∃ m : M, m = mOf d_is_item 5 := ⟨_, rfl⟩
noncomputable def m_is_item : M := x_is_item.choose
theorem m_is_item_e : m_is_item = mOf d_is_item 5 := x_is_item.choose_spec
noncomputable def d_are_moves : DS := (dSeq (dIfS (dOr (dNot (dTru (dCall fIsi (dCons (dVar 0) (dCons (dC (.ty "tuple")) dNil))))) (dNot (dTst (dChain fLe fLe (dC (.int 1)) (dCall fLen (dCons (dVar 0) dNil)) (dC (.int 12)))))) (dRet (dC (.bl false))) dNext)
    (dRet (dCall fAll (dCons (dFz (dLc (dItemsT (dVar 0)) (gdName 3) dYes (dOwn m_is_item 4 (dCons (dVar 3) (dCons (dCall fLen (dCons (dVar 1) dNil)) (dCons (dVar 2) (dCons (dCall fLen (dCons (dVar 0) dNil)) dNil))))) [3])) dNil))))
theorem x_are_moves : ∃ m : M, m = mOf d_are_moves 4 := ⟨_, rfl⟩
noncomputable def m_are_moves : M := x_are_moves.choose
theorem m_are_moves_e : m_are_moves = mOf d_are_moves 4 := x_are_moves.choose_spec
noncomputable def d_Machine_init : DS := (dSeq (dIfS (dNot (dTru (dOwn m_is_rows 1 (dCons (dVar 1) dNil)))) dNever dNext)
    (dSeq (dIfS (dNot (dTru (dOwn m_is_answers 1 (dCons (dVar 2) dNil)))) dNever dNext)
    (dSeq (dIfS (dNot (dTru (dOwn m_are_moves 3 (dCons (dVar 3) (dCons (dVar 1) (dCons (dVar 2) dNil)))))) dNever dNext)
    (dSeq (dSetFld fldC_rows "rows" (dVar 1) (dVar 0))
    (dSeq (dSetFld fldC_answers "answers" (dVar 2) (dVar 0))
    (dSeq (dSetFld fldC_moves "moves" (dVar 3) (dVar 0))
    (dSetFld fldC_size "size" (dCall fLen (dCons (dVar 3) dNil)) (dVar 0))))))))
theorem x_Machine_init : ∃ m : M, m = mOf d_Machine_init 4 := ⟨_, rfl⟩
noncomputable def m_Machine_init : M := x_Machine_init.choose
theorem m_Machine_init_e : m_Machine_init = mOf d_Machine_init 4 := x_Machine_init.choose_spec
noncomputable def d_law_run : DS := (dSeq (dSet 4 (dMeth isStr fJoin (dC (.str "")) (dCons (dFz (dLc (dRange1 (dCons (dVar 3) dNil)) (gdName 5) dYes (dBin fIx (dVar 1) (dOwn m_law_draw 2 (dCons (dVar 0) (dCons (dCall fLen (dCons (dVar 1) dNil)) dNil)))) [5])) dNil)))
    (dRet (dTup (dCons (dVar 4) (dCons (dCall fTuple (dCons (dFz (dLc (dSigns (dVar 4)) (gdName 6) dYes (dOwn m_law_draw 2 (dCons (dVar 0) (dCons (dVar 2) dNil))) [6])) dNil)) dNil)))))
theorem x_law_run : ∃ m : M, m = mOf d_law_run 7 := ⟨_, rfl⟩
noncomputable def m_law_run : M := x_law_run.choose
theorem m_law_run_e : m_law_run = mOf d_law_run 7 := x_law_run.choose_spec
noncomputable def d_is_run : DS := (dSeq (dIfS (dNot (dTru (dOwn m_is_tuple 2 (dCons (dVar 0) (dCons (dC (.int 2)) dNil))))) (dRet (dC (.bl false))) dNext)
    (dSeq (dAsg (dVar 0) (gdTup 2 (gdCons (gdName 3) (gdCons (gdName 4) gdNil))))
    (dSeq (dIfS (dOr (dNot (dTru (dOwn m_is_code 2 (dCons (dVar 3) (dCons (dVar 1) dNil))))) (dNot (dTru (dOwn m_is_tuple 2 (dCons (dVar 4) (dCons (dCall fLen (dCons (dVar 3) dNil)) dNil)))))) (dRet (dC (.bl false))) dNext)
    (dRet (dCall fAll (dCons (dFz (dLc (dItemsT (dVar 4)) (gdName 5) dYes (dOwn m_is_between 3 (dCons (dVar 5) (dCons (dC (.int 0)) (dCons (dBin fSub (dVar 2) (dC (.int 1))) dNil)))) [5])) dNil))))))
theorem x_is_run : ∃ m : M, m = mOf d_is_run 6 := ⟨_, rfl⟩
noncomputable def m_is_run : M := x_is_run.choose
theorem m_is_run_e : m_is_run = mOf d_is_run 6 := x_is_run.choose_spec
noncomputable def d_check_run : DS := (dIfS (dNot (dTru (dOwn m_is_run 3 (dCons (dVar 1) (dCons (dUn (fFld fldC_rows "rows") (dVar 0)) (dCons (dUn (fFld fldC_answers "answers") (dVar 0)) dNil)))))) dNever dNext)
theorem x_check_run : ∃ m : M, m = mOf d_check_run 2 := ⟨_, rfl⟩
noncomputable def m_check_run : M := x_check_run.choose
theorem m_check_run_e : m_check_run = mOf d_check_run 2 := x_check_run.choose_spec
noncomputable def d_walked : DS := (dSeq (dAsg (dVar 2) (gdTup 2 (gdCons (gdName 3) (gdCons (gdName 4) gdNil))))
    (dSeq (dSet 5 (dC (.int 0)))
    (dSeq (dSet 6 (dVar 1))
    (dSeq (dFor (dZip (dCons (dVar 3) (dCons (dVar 4) dNil))) (gdTup 2 (gdCons (gdName 7) (gdCons (gdName 8) gdNil))) (dSeq (dAsg (dBin fIx (dBin fIx (dBin fIx (dUn (fFld fldC_moves "moves") (dVar 0)) (dVar 6)) (dMeth isStr fIndex (dUn (fFld fldC_rows "rows") (dVar 0)) (dCons (dVar 7) dNil))) (dVar 8)) (gdTup 2 (gdCons (gdName 9) (gdCons (gdName 6) gdNil))))
    (dAug 5 (fun i j => i + j) (dVar 9))))
    (dRet (dTup (dCons (dVar 5) (dCons (dVar 6) dNil))))))))
theorem x_walked : ∃ m : M, m = mOf d_walked 10 := ⟨_, rfl⟩
noncomputable def m_walked : M := x_walked.choose
theorem m_walked_e : m_walked = mOf d_walked 10 := x_walked.choose_spec
noncomputable def d_ticks : DS := (dSeq (dExpr (dOwn m_check_run 2 (dCons (dVar 0) (dCons (dVar 1) dNil))))
    (dRet (dBin fIx (dOwn m_walked 3 (dCons (dVar 0) (dCons (dC (.int 0)) (dCons (dVar 1) dNil)))) (dC (.int 0)))))
theorem x_ticks : ∃ m : M, m = mOf d_ticks 2 := ⟨_, rfl⟩
noncomputable def m_ticks : M := x_ticks.choose
theorem m_ticks_e : m_ticks = mOf d_ticks 2 := x_ticks.choose_spec
noncomputable def d_standing : DS := (dSeq (dExpr (dOwn m_check_run 2 (dCons (dVar 0) (dCons (dVar 1) dNil))))
    (dRet (dBin fIx (dOwn m_walked 3 (dCons (dVar 0) (dCons (dC (.int 0)) (dCons (dVar 1) dNil)))) (dC (.int 1)))))
theorem x_standing : ∃ m : M, m = mOf d_standing 2 := ⟨_, rfl⟩
noncomputable def m_standing : M := x_standing.choose
theorem m_standing_e : m_standing = mOf d_standing 2 := x_standing.choose_spec
noncomputable def d_law_led : DS := (dSeq (dSet 3 (dC (.int 0)))
    (dSeq (dFor (dZip (dCons (dBin fIx (dVar 2) (dC (.int 0))) (dCons (dBin fIx (dVar 2) (dC (.int 1))) dNil))) (gdTup 2 (gdCons (gdName 4) (gdCons (gdName 5) gdNil))) (dSeq (dAsg (dBin fIx (dBin fIx (dBin fIx (dBin fIx (dVar 0) (dC (.int 2))) (dVar 1)) (dMeth isStr fFind (dBin fIx (dVar 0) (dC (.int 0))) (dCons (dVar 4) dNil))) (dVar 5)) (gdTup 2 (gdCons (gdName 6) (gdCons (gdName 1) gdNil))))
    (dSet 3 (dBin fAdd (dVar 3) (dVar 6)))))
    (dRet (dTup (dCons (dVar 3) (dCons (dVar 1) dNil))))))
theorem x_law_led : ∃ m : M, m = mOf d_law_led 7 := ⟨_, rfl⟩
noncomputable def m_law_led : M := x_law_led.choose
theorem m_law_led_e : m_law_led = mOf d_law_led 7 := x_law_led.choose_spec
noncomputable def d_check_standing : DS := (dIfS (dNot (dTru (dOwn m_is_between 3 (dCons (dVar 1) (dCons (dC (.int 0)) (dCons (dBin fSub (dUn (fFld fldC_size "size") (dVar 0)) (dC (.int 1))) dNil)))))) dNever dNext)
theorem x_check_standing : ∃ m : M, m = mOf d_check_standing 2 := ⟨_, rfl⟩
noncomputable def m_check_standing : M := x_check_standing.choose
theorem m_check_standing_e : m_check_standing = mOf d_check_standing 2 := x_check_standing.choose_spec
noncomputable def d_ticks_from : DS := (dSeq (dExpr (dOwn m_check_standing 2 (dCons (dVar 0) (dCons (dVar 1) dNil))))
    (dSeq (dExpr (dOwn m_check_run 2 (dCons (dVar 0) (dCons (dVar 2) dNil))))
    (dRet (dBin fIx (dOwn m_walked 3 (dCons (dVar 0) (dCons (dVar 1) (dCons (dVar 2) dNil)))) (dC (.int 0))))))
theorem x_ticks_from : ∃ m : M, m = mOf d_ticks_from 3 := ⟨_, rfl⟩
noncomputable def m_ticks_from : M := x_ticks_from.choose
theorem m_ticks_from_e : m_ticks_from = mOf d_ticks_from 3 := x_ticks_from.choose_spec
noncomputable def d_standing_from : DS := (dSeq (dExpr (dOwn m_check_standing 2 (dCons (dVar 0) (dCons (dVar 1) dNil))))
    (dSeq (dExpr (dOwn m_check_run 2 (dCons (dVar 0) (dCons (dVar 2) dNil))))
    (dRet (dBin fIx (dOwn m_walked 3 (dCons (dVar 0) (dCons (dVar 1) (dCons (dVar 2) dNil)))) (dC (.int 1))))))
theorem x_standing_from : ∃ m : M, m = mOf d_standing_from 3 := ⟨_, rfl⟩
noncomputable def m_standing_from : M := x_standing_from.choose
theorem m_standing_from_e : m_standing_from = mOf d_standing_from 3 := x_standing_from.choose_spec
noncomputable def d_law : DS := (dSeq (dSet 1 (dOwn m_law_hand 1 (dCons (dVar 0) dNil)))
    (dSeq (dFor (dRange1 (dCons (dC (.int 2)) dNil)) (gdName 2) (dSeq (dSet 3 (dOwn m_law_world 3 (dCons (dVar 1) (dCons (dC (.int 4)) (dCons (dBin fIx (dFz (dLst (dCons (dC (.int 4)) (dCons (dC (.int 12)) dNil)))) (dOwn m_law_draw 2 (dCons (dVar 1) (dCons (dC (.int 2)) dNil)))) dNil)))))
    (dSeq (dSet 4 (dMake "Machine" m_Machine_init 4 (dCons (dBin fIx (dVar 3) (dC (.int 0))) (dCons (dBin fIx (dVar 3) (dC (.int 1))) (dCons (dBin fIx (dVar 3) (dC (.int 2))) dNil)))))
    (dSeq (dSet 5 (dOwn m_law_run 4 (dCons (dVar 1) (dCons (dBin fIx (dVar 3) (dC (.int 0))) (dCons (dBin fIx (dVar 3) (dC (.int 1))) (dCons (dBin fIx (dFz (dLst (dCons (dC (.int 0)) (dCons (dC (.int 1)) (dCons (dC (.int 5)) (dCons (dC (.int 30)) dNil)))))) (dOwn m_law_draw 2 (dCons (dVar 1) (dCons (dC (.int 4)) dNil)))) dNil))))))
    (dSeq (dSet 6 (dOwn m_law_run 4 (dCons (dVar 1) (dCons (dBin fIx (dVar 3) (dC (.int 0))) (dCons (dBin fIx (dVar 3) (dC (.int 1))) (dCons (dOwn m_law_draw 2 (dCons (dVar 1) (dCons (dC (.int 12)) dNil))) dNil))))))
    (dSeq (dSet 7 (dTup (dCons (dBin fAdd (dBin fIx (dVar 5) (dC (.int 0))) (dBin fIx (dVar 6) (dC (.int 0)))) (dCons (dBin fAdd (dBin fIx (dVar 5) (dC (.int 1))) (dBin fIx (dVar 6) (dC (.int 1)))) dNil))))
    (dSeq (dIfS (dTst (dBin (fEq true) (dTup (dCons (dOwn m_ticks 2 (dCons (dVar 4) (dCons (dVar 5) dNil))) (dCons (dOwn m_standing 2 (dCons (dVar 4) (dCons (dVar 5) dNil))) dNil))) (dOwn m_law_led 3 (dCons (dVar 3) (dCons (dC (.int 0)) (dCons (dVar 5) dNil)))))) (dRet (dC (.bl false))) dNext)
    (dFor (dRange1 (dCons (dUn (fFld fldC_size "size") (dVar 4)) dNil)) (gdName 8) (dSeq (dSet 9 (dTup (dCons (dOwn m_ticks_from 3 (dCons (dVar 4) (dCons (dVar 8) (dCons (dVar 7) dNil)))) (dCons (dOwn m_standing_from 3 (dCons (dVar 4) (dCons (dVar 8) (dCons (dVar 7) dNil)))) dNil))))
    (dSeq (dIfS (dOr (dTst (dBin (fEq true) (dVar 9) (dOwn m_law_led 3 (dCons (dVar 3) (dCons (dVar 8) (dCons (dVar 7) dNil)))))) (dOr (dTru (dCall fIsi (dCons (dBin fIx (dVar 9) (dC (.int 0))) (dCons (dC (.ty "bool")) dNil)))) (dTru (dCall fIsi (dCons (dBin fIx (dVar 9) (dC (.int 1))) (dCons (dC (.ty "bool")) dNil)))))) (dRet (dC (.bl false))) dNext)
    (dSeq (dSet 10 (dOwn m_standing_from 3 (dCons (dVar 4) (dCons (dVar 8) (dCons (dVar 5) dNil)))))
    (dSeq (dIfS (dTst (dBin (fEq true) (dBin fIx (dVar 9) (dC (.int 0))) (dBin fAdd (dOwn m_ticks_from 3 (dCons (dVar 4) (dCons (dVar 8) (dCons (dVar 5) dNil)))) (dOwn m_ticks_from 3 (dCons (dVar 4) (dCons (dVar 10) (dCons (dVar 6) dNil))))))) (dRet (dC (.bl false))) dNext)
    (dSeq (dIfS (dTst (dBin (fEq true) (dBin fIx (dVar 9) (dC (.int 1))) (dOwn m_standing_from 3 (dCons (dVar 4) (dCons (dVar 10) (dCons (dVar 6) dNil)))))) (dRet (dC (.bl false))) dNext)
    (dIfS (dTst (dBin (fEq true) (dTup (dCons (dOwn m_ticks_from 3 (dCons (dVar 4) (dCons (dVar 8) (dCons (dTup (dCons (dC (.str "")) (dCons (dTup dNil) dNil))) dNil)))) (dCons (dOwn m_standing_from 3 (dCons (dVar 4) (dCons (dVar 8) (dCons (dTup (dCons (dC (.str "")) (dCons (dTup dNil) dNil))) dNil)))) dNil))) (dTup (dCons (dC (.int 0)) (dCons (dVar 8) dNil))))) (dRet (dC (.bl false))) dNext))))))))))))))
    (dRet (dC (.bl true)))))
theorem x_law : ∃ m : M, m = mOf d_law 11 := ⟨_, rfl⟩
noncomputable def m_law : M := x_law.choose
theorem m_law_e : m_law = mOf d_law 11 := x_law.choose_spec
/-! ### what the top has written -/
structure Txt (K : PySem.W.Frag) (mg : Str → Option Value) where
  a_law_hand : Addr
  fd_law_hand : FuncData
  F_law_hand : Fun K "_law_hand" "_law_hand" s_law_hand a_law_hand fd_law_hand
  b_law_hand : Binds K fd_law_hand ["script"] []
  k_law_hand : PySem.W.keepIn K (.ref a_law_hand) = true
  g_law_hand : mg "_law_hand" = some (.ref a_law_hand)
  a_law_draw : Addr
  fd_law_draw : FuncData
  F_law_draw : Fun K "_law_draw" "_law_draw" s_law_draw a_law_draw fd_law_draw
  b_law_draw : Binds K fd_law_draw ["hand", "many"] []
  k_law_draw : PySem.W.keepIn K (.ref a_law_draw) = true
  g_law_draw : mg "_law_draw" = some (.ref a_law_draw)
  a_law_rows : Addr
  fd_law_rows : FuncData
  F_law_rows : Fun K "_law_rows" "_law_rows" s_law_rows a_law_rows fd_law_rows
  b_law_rows : Binds K fd_law_rows ["hand", "most"] []
  k_law_rows : PySem.W.keepIn K (.ref a_law_rows) = true
  g_law_rows : mg "_law_rows" = some (.ref a_law_rows)
  a_law_line : Addr
  fd_law_line : FuncData
  F_law_line : Fun K "_law_line" "_law_line" s_law_line a_law_line fd_law_line
  b_law_line : Binds K fd_law_line ["hand", "answers", "size", "top"] []
  k_law_line : PySem.W.keepIn K (.ref a_law_line) = true
  g_law_line : mg "_law_line" = some (.ref a_law_line)
  a_law_world : Addr
  fd_law_world : FuncData
  F_law_world : Fun K "_law_world" "_law_world" s_law_world a_law_world fd_law_world
  b_law_world : Binds K fd_law_world ["hand", "most", "size"] []
  k_law_world : PySem.W.keepIn K (.ref a_law_world) = true
  g_law_world : mg "_law_world" = some (.ref a_law_world)
  a_is_code : Addr
  fd_is_code : FuncData
  F_is_code : Fun K "is_code" "is_code" s_is_code a_is_code fd_is_code
  b_is_code : Binds K fd_is_code ["thing", "rows"] []
  k_is_code : PySem.W.keepIn K (.ref a_is_code) = true
  g_is_code : mg "is_code" = some (.ref a_is_code)
  a_is_letters : Addr
  fd_is_letters : FuncData
  F_is_letters : Fun K "is_letters" "is_letters" s_is_letters a_is_letters fd_is_letters
  b_is_letters : Binds K fd_is_letters ["thing", "letters"] []
  k_is_letters : PySem.W.keepIn K (.ref a_is_letters) = true
  g_is_letters : mg "is_letters" = some (.ref a_is_letters)
  a_is_rows : Addr
  fd_is_rows : FuncData
  F_is_rows : Fun K "is_rows" "is_rows" s_is_rows a_is_rows fd_is_rows
  b_is_rows : Binds K fd_is_rows ["thing"] []
  k_is_rows : PySem.W.keepIn K (.ref a_is_rows) = true
  g_is_rows : mg "is_rows" = some (.ref a_is_rows)
  a_is_integer : Addr
  fd_is_integer : FuncData
  F_is_integer : Fun K "is_integer" "is_integer" s_is_integer a_is_integer fd_is_integer
  b_is_integer : Binds K fd_is_integer ["thing"] []
  k_is_integer : PySem.W.keepIn K (.ref a_is_integer) = true
  g_is_integer : mg "is_integer" = some (.ref a_is_integer)
  a_is_between : Addr
  fd_is_between : FuncData
  F_is_between : Fun K "is_between" "is_between" s_is_between a_is_between fd_is_between
  b_is_between : Binds K fd_is_between ["thing", "least", "most"] []
  k_is_between : PySem.W.keepIn K (.ref a_is_between) = true
  g_is_between : mg "is_between" = some (.ref a_is_between)
  a_is_answers : Addr
  fd_is_answers : FuncData
  F_is_answers : Fun K "is_answers" "is_answers" s_is_answers a_is_answers fd_is_answers
  b_is_answers : Binds K fd_is_answers ["thing"] []
  k_is_answers : PySem.W.keepIn K (.ref a_is_answers) = true
  g_is_answers : mg "is_answers" = some (.ref a_is_answers)
  a_is_tuple : Addr
  fd_is_tuple : FuncData
  F_is_tuple : Fun K "is_tuple" "is_tuple" s_is_tuple a_is_tuple fd_is_tuple
  b_is_tuple : Binds K fd_is_tuple ["thing", "many"] []
  k_is_tuple : PySem.W.keepIn K (.ref a_is_tuple) = true
  g_is_tuple : mg "is_tuple" = some (.ref a_is_tuple)
  a_is_move : Addr
  fd_is_move : FuncData
  F_is_move : Fun K "_is_move" "_is_move" s_is_move a_is_move fd_is_move
  b_is_move : Binds K fd_is_move ["pair", "size"] []
  k_is_move : PySem.W.keepIn K (.ref a_is_move) = true
  g_is_move : mg "_is_move" = some (.ref a_is_move)
  a_are_pairs : Addr
  fd_are_pairs : FuncData
  F_are_pairs : Fun K "_are_pairs" "_are_pairs" s_are_pairs a_are_pairs fd_are_pairs
  b_are_pairs : Binds K fd_are_pairs ["pairs", "answers", "size"] []
  k_are_pairs : PySem.W.keepIn K (.ref a_are_pairs) = true
  g_are_pairs : mg "_are_pairs" = some (.ref a_are_pairs)
  a_is_item : Addr
  fd_is_item : FuncData
  F_is_item : Fun K "_is_item" "_is_item" s_is_item a_is_item fd_is_item
  b_is_item : Binds K fd_is_item ["item", "rows", "answers", "size"] []
  k_is_item : PySem.W.keepIn K (.ref a_is_item) = true
  g_is_item : mg "_is_item" = some (.ref a_is_item)
  a_are_moves : Addr
  fd_are_moves : FuncData
  F_are_moves : Fun K "_are_moves" "_are_moves" s_are_moves a_are_moves fd_are_moves
  b_are_moves : Binds K fd_are_moves ["moves", "rows", "answers"] []
  k_are_moves : PySem.W.keepIn K (.ref a_are_moves) = true
  g_are_moves : mg "_are_moves" = some (.ref a_are_moves)
  a_Machine_init : Addr
  fd_Machine_init : FuncData
  F_Machine_init : Fun K "__init__" "Machine.__init__" s_Machine_init a_Machine_init fd_Machine_init
  b_Machine_init : Binds K fd_Machine_init ["self", "rows", "answers", "moves"] []
  k_Machine_init : PySem.W.keepIn K (.ref a_Machine_init) = true
  a_law_run : Addr
  fd_law_run : FuncData
  F_law_run : Fun K "_law_run" "_law_run" s_law_run a_law_run fd_law_run
  b_law_run : Binds K fd_law_run ["hand", "rows", "answers", "many"] []
  k_law_run : PySem.W.keepIn K (.ref a_law_run) = true
  g_law_run : mg "_law_run" = some (.ref a_law_run)
  a_is_run : Addr
  fd_is_run : FuncData
  F_is_run : Fun K "is_run" "is_run" s_is_run a_is_run fd_is_run
  b_is_run : Binds K fd_is_run ["thing", "rows", "answers"] []
  k_is_run : PySem.W.keepIn K (.ref a_is_run) = true
  g_is_run : mg "is_run" = some (.ref a_is_run)
  a_check_run : Addr
  fd_check_run : FuncData
  F_check_run : Fun K "check_run" "check_run" s_check_run a_check_run fd_check_run
  b_check_run : Binds K fd_check_run ["machine", "run"] []
  k_check_run : PySem.W.keepIn K (.ref a_check_run) = true
  g_check_run : mg "check_run" = some (.ref a_check_run)
  a_walked : Addr
  fd_walked : FuncData
  F_walked : Fun K "walked" "walked" s_walked a_walked fd_walked
  b_walked : Binds K fd_walked ["machine", "start", "run"] []
  k_walked : PySem.W.keepIn K (.ref a_walked) = true
  g_walked : mg "walked" = some (.ref a_walked)
  a_ticks : Addr
  fd_ticks : FuncData
  F_ticks : Fun K "ticks" "ticks" s_ticks a_ticks fd_ticks
  b_ticks : Binds K fd_ticks ["machine", "run"] []
  k_ticks : PySem.W.keepIn K (.ref a_ticks) = true
  g_ticks : mg "ticks" = some (.ref a_ticks)
  a_standing : Addr
  fd_standing : FuncData
  F_standing : Fun K "standing" "standing" s_standing a_standing fd_standing
  b_standing : Binds K fd_standing ["machine", "run"] []
  k_standing : PySem.W.keepIn K (.ref a_standing) = true
  g_standing : mg "standing" = some (.ref a_standing)
  a_law_led : Addr
  fd_law_led : FuncData
  F_law_led : Fun K "_law_led" "_law_led" s_law_led a_law_led fd_law_led
  b_law_led : Binds K fd_law_led ["world", "at", "run"] []
  k_law_led : PySem.W.keepIn K (.ref a_law_led) = true
  g_law_led : mg "_law_led" = some (.ref a_law_led)
  a_check_standing : Addr
  fd_check_standing : FuncData
  F_check_standing : Fun K "check_standing" "check_standing" s_check_standing a_check_standing fd_check_standing
  b_check_standing : Binds K fd_check_standing ["machine", "thing"] []
  k_check_standing : PySem.W.keepIn K (.ref a_check_standing) = true
  g_check_standing : mg "check_standing" = some (.ref a_check_standing)
  a_ticks_from : Addr
  fd_ticks_from : FuncData
  F_ticks_from : Fun K "ticks_from" "ticks_from" s_ticks_from a_ticks_from fd_ticks_from
  b_ticks_from : Binds K fd_ticks_from ["machine", "standing", "run"] []
  k_ticks_from : PySem.W.keepIn K (.ref a_ticks_from) = true
  g_ticks_from : mg "ticks_from" = some (.ref a_ticks_from)
  a_standing_from : Addr
  fd_standing_from : FuncData
  F_standing_from : Fun K "standing_from" "standing_from" s_standing_from a_standing_from fd_standing_from
  b_standing_from : Binds K fd_standing_from ["machine", "standing", "run"] []
  k_standing_from : PySem.W.keepIn K (.ref a_standing_from) = true
  g_standing_from : mg "standing_from" = some (.ref a_standing_from)
  a_law : Addr
  fd_law : FuncData
  F_law : Fun K "law" "law" s_law a_law fd_law
  b_law : Binds K fd_law ["script"] []
  k_law : PySem.W.keepIn K (.ref a_law) = true
  g_law : mg "law" = some (.ref a_law)
  c_Machine : Addr
  C_Machine : mg "Machine" = some (.ref c_Machine)
  mk_Machine : Mk K c_Machine a_Machine_init
  f_answers : FldOk K mg fldC_answers "answers"
  f_moves : FldOk K mg fldC_moves "moves"
  f_rows : FldOk K mg fldC_rows "rows"
  f_size : FldOk K mg fldC_size "size"
  n_abs : mg "abs" = none
  n_all : mg "all" = none
  n_bool : mg "bool" = none
  n_int : mg "int" = none
  n_isinstance : mg "isinstance" = none
  n_len : mg "len" = none
  n_range : mg "range" = none
  n_str : mg "str" = none
  n_tuple : mg "tuple" = none
  n_zip : mg "zip" = none
  c_LETTERS : ∃ t, mg "LETTERS" = some (.str "abcdefghijklmnopqrstuvwxyz" t)
section
variable {P : Program} {w : World} {K : PySem.W.Frag} {mg : Str → Option Value} {base : Heap}
theorem G_law_hand (T : Txt K mg) : FnOk P w K mg base (L2.CX P w) 1 T.a_law_hand T.fd_law_hand ["script"] (spD K mg m_law_hand 1) := by
  rw [m_law_hand_e]
  refine fn_d T.F_law_hand sc_law_hand (fun cdv A outer s H E hr tk hx => ?_)
  show PSsd _ _ (defBody s_law_hand) d_law_hand
  unfold d_law_hand
  exact (by refine (pssd_cons ?_ (pssd_one ?_)); exact (psd_setLcFz (i := 1) rfl rfl (sw_true rfl rfl rfl (by decide +kernel)) rfl sc_law_hand.nd (pid_list (pd_slice (pd_var (pv 0)) pod_none (pod_some pd_int))) (blkOk_by (own := [("cell", 2)]) (N := N_law_hand) (show blkC N_law_hand (defScope s_law_hand) _ _ = true by decide +kernel)) (gs_name 2) (by decide) (fun _ _ _ _ _ => (pg_name (i := 2) sc_law_hand.nd rfl (.inl rfl))) (fun _ _ _ _ _ => ptsd_nil) (fun _ _ _ _ _ => (pd_callB call_abs rc_abs (by rfl) T.n_abs (by decide +kernel) (pad_cons (pd_callTy call_int1 rc_int (by rfl) T.n_int (by decide +kernel) (pad_cons (pd_var (pv 2)) pad_nil)) pad_nil)))); exact (psd_ret (pd_new (pld_lst (pad_cons (pd_var (pv 1)) (pad_cons pd_int (pad_cons pd_int (pad_cons (pd_op op_addAll rd_add pd_int (pd_callB call_len rc_len (by rfl) T.n_len (by decide +kernel) (pad_cons (pd_var (pv 1)) pad_nil))) (pad_cons pd_int pad_nil)))))))))
theorem G_law_draw (T : Txt K mg) : FnOk P w K mg base (L2.CX P w) 1 T.a_law_draw T.fd_law_draw ["hand", "many"] (spD K mg m_law_draw 2) := by
  rw [m_law_draw_e]
  refine fn_d T.F_law_draw sc_law_draw (fun cdv A outer s H E hr tk hx => ?_)
  show PSsd _ _ (defBody s_law_draw) d_law_draw
  unfold d_law_draw
  exact (by refine (pssd_cons ?_ (pssd_cons ?_ (pssd_cons ?_ (pssd_cons ?_ (pssd_cons ?_ (pssd_cons ?_ (pssd_one ?_))))))); exact (psd_if (ptd_w (pwd_and (ptd_cmp (op_eqD hr.units) rd_eq (pd_ix ix_seq rd_ix (pd_var (pv 0)) pd_int) pd_int (nomark _)) (pwd_and1 (ptd_cmp op_ltS rd_ltS (pd_ix ix_seq rd_ix (pd_var (pv 0)) pd_int) (pd_callB call_len rc_len (by rfl) T.n_len (by decide +kernel) (pad_cons (pd_ix ix_seq rd_ix (pd_var (pv 0)) pd_int) pad_nil)) (nomark _))))) (by refine (pssd_cons ?_ (pssd_cons ?_ (pssd_cons ?_ (pssd_one ?_)))); exact (psd_set (i := 2) sc_law_draw.nd rfl (.inl rfl) (pd_ix ix_seq rd_ix (pd_ix ix_seq rd_ix (pd_var (pv 0)) pd_int) (pd_ix ix_seq rd_ix (pd_var (pv 0)) pd_int))); exact (psd_setItem (pd_op op_addAll rd_add (pd_ix ix_seq rd_ix (pd_var (pv 0)) pd_int) pd_int) (pd_var (pv 0)) pd_int); exact (psd_setItem (pd_op op_mod rd_mod (pd_callTy call_int1 rc_int (by rfl) T.n_int (by decide +kernel) (pad_cons (pd_op op_addAll rd_add (pd_op op_addAll rd_add (pd_op op_mul rd_mul (pd_ix ix_seq rd_ix (pd_var (pv 0)) pd_int) pd_int) (pd_var (pv 2))) pd_int) pad_nil)) pd_int) (pd_var (pv 0)) pd_int); exact (psd_if (ptd_cmp op_ge rd_ge (pd_var (pv 2)) (pd_op op_pow rd_pow pd_int pd_int) (nomark _)) (by refine (pssd_one ?_); exact (psd_setItem (pd_var (pv 2)) (pd_var (pv 0)) pd_int)) pssd_nil)) pssd_nil); exact (psd_if (ptd_cmp op_gt rd_gt (pd_ix ix_seq rd_ix (pd_var (pv 0)) pd_int) pd_int (nomark _)) (by refine (pssd_cons ?_ (pssd_cons ?_ (pssd_one ?_))); exact (psd_set (i := 3) sc_law_draw.nd rfl (.inl rfl) (pd_op op_mod rd_mod (pd_callTy call_int1 rc_int (by rfl) T.n_int (by decide +kernel) (pad_cons (pd_ix ix_seq rd_ix (pd_var (pv 0)) pd_int) pad_nil)) (pd_var (pv 1)))); exact (psd_setItem (pd_op op_fdiv rd_div (pd_ix ix_seq rd_ix (pd_var (pv 0)) pd_int) (pd_var (pv 1))) (pd_var (pv 0)) pd_int); exact (psd_ret (pd_var (pv 3)))) pssd_nil); exact (psd_setItem (pd_op op_addAll rd_add (pd_ix ix_seq rd_ix (pd_var (pv 0)) pd_int) pd_int) (pd_var (pv 0)) pd_int); exact (psd_set (i := 4) sc_law_draw.nd rfl (.inl rfl) (pd_op op_mod rd_mod (pd_callTy call_int1 rc_int (by rfl) T.n_int (by decide +kernel) (pad_cons (pd_op op_mul rd_mul (pd_callTy call_int1 rc_int (by rfl) T.n_int (by decide +kernel) (pad_cons (pd_op op_addAll rd_add (pd_ix ix_seq rd_ix (pd_var (pv 0)) pd_int) (pd_op op_mul rd_mul pd_int (pd_ix ix_seq rd_ix (pd_var (pv 0)) pd_int))) pad_nil)) pd_int) pad_nil)) pd_int)); exact (psd_set (i := 4) sc_law_draw.nd rfl (.inl rfl) (pd_op op_mod rd_mod (pd_callTy call_int1 rc_int (by rfl) T.n_int (by decide +kernel) (pad_cons (pd_op op_mul rd_mul (pd_var (pv 4)) (pd_op op_addAll rd_add (pd_op op_fdiv rd_div (pd_var (pv 4)) pd_int) pd_int)) pad_nil)) pd_int)); exact (psd_set (i := 4) sc_law_draw.nd rfl (.inl rfl) (pd_op op_mod rd_mod (pd_callTy call_int1 rc_int (by rfl) T.n_int (by decide +kernel) (pad_cons (pd_op op_mul rd_mul (pd_var (pv 4)) (pd_op op_addAll rd_add (pd_op op_fdiv rd_div (pd_var (pv 4)) pd_int) pd_int)) pad_nil)) pd_int)); exact (psd_ret (pd_op op_mod rd_mod (pd_callTy call_int1 rc_int (by rfl) T.n_int (by decide +kernel) (pad_cons (pd_op op_fdiv rd_div (pd_var (pv 4)) pd_int) pad_nil)) (pd_var (pv 1)))))
theorem G_law_rows (T : Txt K mg) : FnOk P w K mg base (L2.CX P w) 2 T.a_law_rows T.fd_law_rows ["hand", "most"] (spD K mg m_law_rows 2) := by
  have G_law_draw := G_law_draw (P := P) (w := w) (base := base) T
  rw [m_law_rows_e]
  refine fn_d T.F_law_rows sc_law_rows (fun cdv A outer s H E hr tk hx => ?_)
  show PSsd _ _ (defBody s_law_rows) d_law_rows
  unfold d_law_rows
  exact (by refine (pssd_cons ?_ (pssd_cons ?_ (pssd_cons ?_ (pssd_cons ?_ (pssd_one ?_))))); exact (psd_set (i := 2) sc_law_rows.nd rfl (.inl rfl) (pd_op op_addAll rd_add pd_int (pd_own G_law_draw (hr.mono (by decide)) (by rfl) T.g_law_draw T.k_law_draw T.b_law_draw hx (pad_cons (pd_var (pv 0)) (pad_cons (pd_var (pv 1)) pad_nil))))); exact (psd_set (i := 3) sc_law_rows.nd rfl (.inl rfl) pd_str); exact (psd_set (i := 4) sc_law_rows.nd rfl (.inl rfl) pd_str); exact (psd_for (passes_of rfl) rfl (pid_range1 (by rfl) T.n_range (pad_cons (pd_var (pv 2)) pad_nil)) (pg_name (i := 5) sc_law_rows.nd rfl (.inl rfl)) (gs_name 5) (by refine (pssd_cons ?_ (pssd_cons ?_ (pssd_one ?_))); exact (psd_set (i := 6) sc_law_rows.nd rfl (.inl rfl) (pd_own G_law_draw (hr.mono (by decide)) (by rfl) T.g_law_draw T.k_law_draw T.b_law_draw hx (pad_cons (pd_var (pv 0)) (pad_cons (pd_op op_sub rd_sub (pd_callB call_len rc_len (by rfl) T.n_len (by decide +kernel) (pad_cons (pd_var (pv 4)) pad_nil)) (pd_op op_sub rd_sub (pd_op op_sub rd_sub (pd_var (pv 2)) (pd_var (pv 5))) pd_int)) pad_nil)))); exact (psd_set (i := 3) sc_law_rows.nd rfl (.inl rfl) (pd_op op_addAll rd_add (pd_var (pv 3)) (pd_ix ix_seq rd_ix (pd_var (pv 4)) (pd_var (pv 6))))); exact (psd_set (i := 4) sc_law_rows.nd rfl (.inl rfl) (pd_slice (pd_var (pv 4)) (pod_some (pd_op op_addAll rd_add (pd_var (pv 6)) pd_int)) pod_none)))); exact (psd_ret (pd_var (pv 3))))
theorem G_law_line (T : Txt K mg) : FnOk P w K mg base (L2.CX P w) 2 T.a_law_line T.fd_law_line ["hand", "answers", "size", "top"] (spD K mg m_law_line 4) := by
  have G_law_draw := G_law_draw (P := P) (w := w) (base := base) T
  rw [m_law_line_e]
  refine fn_d T.F_law_line sc_law_line (fun cdv A outer s H E hr tk hx => ?_)
  show PSsd _ _ (defBody s_law_line) d_law_line
  unfold d_law_line
  exact (by refine (pssd_one ?_); exact (psd_ret (pd_callTy call_tuple_of rc_tuple (by rfl) T.n_tuple (by decide +kernel) (pad_cons (pd_fz (pld_lc rfl sc_law_line.nd (pid_range1 (by rfl) T.n_range (pad_cons (pd_var (pv 1)) pad_nil)) (blkOk_by (own := [("answer", 4)]) (N := N_law_line) (show blkC N_law_line (defScope s_law_line) _ _ = true by decide +kernel)) (gs_name 4) (by decide) (fun _ _ _ _ _ => (pg_name (i := 4) sc_law_line.nd rfl (.inl rfl))) (fun _ _ _ _ _ => ptsd_nil) (fun _ _ _ _ _ => (pd_tup (pad_cons (pd_op op_addAll rd_add pd_int (pd_own G_law_draw (hr.mono (by decide)) (by rfl) T.g_law_draw T.k_law_draw T.b_law_draw lets0 (pad_cons (pd_var (pv 0)) (pad_cons (pd_var (pv 3)) pad_nil)))) (pad_cons (pd_own G_law_draw (hr.mono (by decide)) (by rfl) T.g_law_draw T.k_law_draw T.b_law_draw lets0 (pad_cons (pd_var (pv 0)) (pad_cons (pd_var (pv 2)) pad_nil))) pad_nil)))))) pad_nil))))
theorem G_law_world (T : Txt K mg) : FnOk P w K mg base (L2.CX P w) 3 T.a_law_world T.fd_law_world ["hand", "most", "size"] (spD K mg m_law_world 3) := by
  have G_law_draw := G_law_draw (P := P) (w := w) (base := base) T
  have G_law_rows := G_law_rows (P := P) (w := w) (base := base) T
  have G_law_line := G_law_line (P := P) (w := w) (base := base) T
  rw [m_law_world_e]
  refine fn_d T.F_law_world sc_law_world (fun cdv A outer s H E hr tk hx => ?_)
  show PSsd _ _ (defBody s_law_world) d_law_world
  unfold d_law_world
  exact (by refine (pssd_cons ?_ (pssd_cons ?_ (pssd_cons ?_ (pssd_cons ?_ (pssd_cons ?_ (pssd_cons ?_ (pssd_one ?_))))))); exact (psd_set (i := 3) sc_law_world.nd rfl (.inl rfl) (pd_own G_law_rows (hr.mono (by decide)) (by rfl) T.g_law_rows T.k_law_rows T.b_law_rows hx (pad_cons (pd_var (pv 0)) (pad_cons (pd_var (pv 1)) pad_nil)))); exact (psd_set (i := 4) sc_law_world.nd rfl (.inr rfl) (pd_ix ix_seq rd_ix (pd_fz (pld_lst (pad_cons pd_int (pad_cons pd_int (pad_cons pd_int (pad_cons pd_int (pad_cons pd_int pad_nil))))))) (pd_own G_law_draw (hr.mono (by decide)) (by rfl) T.g_law_draw T.k_law_draw T.b_law_draw hx (pad_cons (pd_var (pv 0)) (pad_cons pd_int pad_nil))))); exact (psd_set (i := 5) sc_law_world.nd rfl (.inr rfl) (pd_op op_addAll rd_add pd_int (pd_own G_law_draw (hr.mono (by decide)) (by rfl) T.g_law_draw T.k_law_draw T.b_law_draw hx (pad_cons (pd_var (pv 0)) (pad_cons (pd_var (pv 2)) pad_nil))))); exact (psd_set (i := 6) sc_law_world.nd rfl (.inr rfl) (pd_ix ix_seq rd_ix (pd_fz (pld_lst (pad_cons pd_int (pad_cons pd_int (pad_cons pd_int (pad_cons pd_int (pad_cons pd_int pad_nil))))))) (pd_own G_law_draw (hr.mono (by decide)) (by rfl) T.g_law_draw T.k_law_draw T.b_law_draw hx (pad_cons (pd_var (pv 0)) (pad_cons pd_int pad_nil))))); exact (psd_set (i := 7) sc_law_world.nd rfl (.inl rfl) (pd_new (pld_lst pad_nil))); exact (psd_for (passes_of rfl) rfl (pid_range1 (by rfl) T.n_range (pad_cons (pd_var (pv 5)) pad_nil)) (pg_name (i := 8) sc_law_world.nd rfl (.inl rfl)) (gs_name 8) (by refine (pssd_one ?_); exact (psd_expr (pd_bm PySem.F.plainAttrs_list PySem.F.slot_list_append PySem.F.type_list_append mt_append rm_append (pd_var (pv 7)) (pad_cons (pd_callTy call_tuple_of rc_tuple (by rfl) T.n_tuple (by decide +kernel) (pad_cons (pd_fz (pld_lc rfl sc_law_world.nd (pid_str (pd_var (pv 3))) (blkOk_by (own := [("row", 9)]) (N := N_law_world) (show blkC N_law_world (defScope s_law_world) _ _ = true by decide +kernel)) (gs_name 9) (by decide) (fun _ _ _ _ _ => (pg_name (i := 9) sc_law_world.nd rfl (.inl rfl))) (fun _ _ _ _ _ => ptsd_nil) (fun _ _ _ _ _ => (pd_own G_law_line (hr.mono (by decide)) (by rfl) T.g_law_line T.k_law_line T.b_law_line lets0 (pad_cons (pd_var (pv 0)) (pad_cons (pd_var (pv 4)) (pad_cons (pd_var (pv 5)) (pad_cons (pd_var (pv 6)) pad_nil)))))))) pad_nil)) pad_nil))))); exact (psd_ret (pd_tup (pad_cons (pd_var (pv 3)) (pad_cons (pd_var (pv 4)) (pad_cons (pd_callTy call_tuple_of rc_tuple (by rfl) T.n_tuple (by decide +kernel) (pad_cons (pd_var (pv 7)) pad_nil)) pad_nil))))))
theorem G_is_code (T : Txt K mg) : FnOk P w K mg base (L2.CX P w) 1 T.a_is_code T.fd_is_code ["thing", "rows"] (spD K mg m_is_code 2) := by
  rw [m_is_code_e]
  refine fn_d T.F_is_code sc_is_code (fun cdv A outer s H E hr tk hx => ?_)
  show PSsd _ _ (defBody s_is_code) d_is_code
  unfold d_is_code
  exact (by refine (pssd_one ?_); exact (psd_ret (pd_and (pd_callB call_isi rc_isi (by rfl) T.n_isinstance (by decide +kernel) (pad_cons (pd_var (pv 0)) (pad_cons (pd_c (v := .ty "str") (pe_bltn (by rfl) T.n_str (by decide +kernel) rfl) rfl) pad_nil))) (pd_one (pd_callB (cr_all rfl) rc_all (by rfl) T.n_all (by decide +kernel) (pad_cons (pd_fz (pld_lc rfl sc_is_code.nd (pid_str (pd_var (pv 0))) (blkOk_by (own := [("row", 2)]) (N := N_is_code) (show blkC N_is_code (defScope s_is_code) _ _ = true by decide +kernel)) (gs_name 2) (by decide) (fun _ _ _ _ _ => (pg_name (i := 2) sc_is_code.nd rfl (.inl rfl))) (fun _ _ _ _ _ => ptsd_nil) (fun _ _ _ _ _ => (pd_cmp op_inAll rd_in (pd_var (pv 2)) (pd_var (pv 1)) (by rfl))))) pad_nil))))))
theorem G_is_letters (T : Txt K mg) : FnOk P w K mg base (L2.CX P w) 2 T.a_is_letters T.fd_is_letters ["thing", "letters"] (spD K mg m_is_letters 2) := by
  have G_is_code := G_is_code (P := P) (w := w) (base := base) T
  rw [m_is_letters_e]
  refine fn_d T.F_is_letters sc_is_letters (fun cdv A outer s H E hr tk hx => ?_)
  show PSsd _ _ (defBody s_is_letters) d_is_letters
  unfold d_is_letters
  exact (by refine (pssd_cons ?_ (pssd_one ?_)); exact (psd_if (ptd_w (pwd_or (ptd_not (ptd_truth (pd_own G_is_code (hr.mono (by decide)) (by rfl) T.g_is_code T.k_is_code T.b_is_code hx (pad_cons (pd_var (pv 0)) (pad_cons (pd_var (pv 1)) pad_nil))))) (pwd_or1 (ptd_cmp (op_eqD hr.units) rd_eq (pd_var (pv 0)) pd_str (nomark _))))) (by refine (pssd_one ?_); exact (psd_ret pd_bl)) pssd_nil); exact (psd_ret (pd_callB (cr_all rfl) rc_all (by rfl) T.n_all (by decide +kernel) (pad_cons (pd_fz (pld_lc rfl sc_is_letters.nd (pid_range1 (by rfl) T.n_range (pad_cons (pd_op op_sub rd_sub (pd_callB call_len rc_len (by rfl) T.n_len (by decide +kernel) (pad_cons (pd_var (pv 0)) pad_nil)) pd_int) pad_nil)) (blkOk_by (own := [("at", 2)]) (N := N_is_letters) (show blkC N_is_letters (defScope s_is_letters) _ _ = true by decide +kernel)) (gs_name 2) (by decide) (fun _ _ _ _ _ => (pg_name (i := 2) sc_is_letters.nd rfl (.inl rfl))) (fun _ _ _ _ _ => ptsd_nil) (fun _ _ _ _ _ => (pd_cmp op_ltS rd_ltS (pd_ix ix_seq rd_ix (pd_var (pv 0)) (pd_var (pv 2))) (pd_ix ix_seq rd_ix (pd_var (pv 0)) (pd_op op_addAll rd_add (pd_var (pv 2)) pd_int)) (nomark _))))) pad_nil))))
theorem G_is_rows (T : Txt K mg) : FnOk P w K mg base (L2.CX P w) 3 T.a_is_rows T.fd_is_rows ["thing"] (spD K mg m_is_rows 1) := by
  have G_is_letters := G_is_letters (P := P) (w := w) (base := base) T
  rw [m_is_rows_e]
  refine fn_d T.F_is_rows sc_is_rows (fun cdv A outer s H E hr tk hx => ?_)
  show PSsd _ _ (defBody s_is_rows) d_is_rows
  unfold d_is_rows
  exact (by refine (pssd_one ?_); exact (psd_ret (pd_and (pd_own G_is_letters (hr.mono (by decide)) (by rfl) T.g_is_letters T.k_is_letters T.b_is_letters hx (pad_cons (pd_var (pv 0)) (pad_cons (pd_c (pe_glob (v := .str "abcdefghijklmnopqrstuvwxyz") (by rfl) T.c_LETTERS.choose_spec ⟨_, rfl⟩) rfl) pad_nil))) (pd_one (pd_cmp op_le rd_le (pd_callB call_len rc_len (by rfl) T.n_len (by decide +kernel) (pad_cons (pd_var (pv 0)) pad_nil)) pd_int (nomark _))))))
theorem G_is_integer (T : Txt K mg) : FnOk P w K mg base (L2.CX P w) 1 T.a_is_integer T.fd_is_integer ["thing"] (spD K mg m_is_integer 1) := by
  rw [m_is_integer_e]
  refine fn_d T.F_is_integer sc_is_integer (fun cdv A outer s H E hr tk hx => ?_)
  show PSsd _ _ (defBody s_is_integer) d_is_integer
  unfold d_is_integer
  exact (by refine (pssd_one ?_); exact (psd_ret (pd_and (pd_callB call_isi rc_isi (by rfl) T.n_isinstance (by decide +kernel) (pad_cons (pd_var (pv 0)) (pad_cons (pd_c (v := .ty "int") (pe_bltn (by rfl) T.n_int (by decide +kernel) rfl) rfl) pad_nil))) (pd_one (pd_not (pd_callB call_isi rc_isi (by rfl) T.n_isinstance (by decide +kernel) (pad_cons (pd_var (pv 0)) (pad_cons (pd_c (v := .ty "bool") (pe_bltn (by rfl) T.n_bool (by decide +kernel) rfl) rfl) pad_nil))))))))
theorem G_is_between (T : Txt K mg) : FnOk P w K mg base (L2.CX P w) 2 T.a_is_between T.fd_is_between ["thing", "least", "most"] (spD K mg m_is_between 3) := by
  have G_is_integer := G_is_integer (P := P) (w := w) (base := base) T
  rw [m_is_between_e]
  refine fn_d T.F_is_between sc_is_between (fun cdv A outer s H E hr tk hx => ?_)
  show PSsd _ _ (defBody s_is_between) d_is_between
  unfold d_is_between
  exact (by refine (pssd_one ?_); exact (psd_ret (pd_and (pd_own G_is_integer (hr.mono (by decide)) (by rfl) T.g_is_integer T.k_is_integer T.b_is_integer hx (pad_cons (pd_var (pv 0)) pad_nil)) (pd_one (pd_chain op_le op_le rd_le rd_le (pd_var (pv 1)) (pd_var (pv 0)) (pd_var (pv 2)))))))
theorem G_is_answers (T : Txt K mg) : FnOk P w K mg base (L2.CX P w) 3 T.a_is_answers T.fd_is_answers ["thing"] (spD K mg m_is_answers 1) := by
  have G_is_between := G_is_between (P := P) (w := w) (base := base) T
  rw [m_is_answers_e]
  refine fn_d T.F_is_answers sc_is_answers (fun cdv A outer s H E hr tk hx => ?_)
  show PSsd _ _ (defBody s_is_answers) d_is_answers
  unfold d_is_answers
  exact (by refine (pssd_one ?_); exact (psd_ret (pd_own G_is_between (hr.mono (by decide)) (by rfl) T.g_is_between T.k_is_between T.b_is_between hx (pad_cons (pd_var (pv 0)) (pad_cons pd_int (pad_cons pd_int pad_nil))))))
theorem G_is_tuple (T : Txt K mg) : FnOk P w K mg base (L2.CX P w) 1 T.a_is_tuple T.fd_is_tuple ["thing", "many"] (spD K mg m_is_tuple 2) := by
  rw [m_is_tuple_e]
  refine fn_d T.F_is_tuple sc_is_tuple (fun cdv A outer s H E hr tk hx => ?_)
  show PSsd _ _ (defBody s_is_tuple) d_is_tuple
  unfold d_is_tuple
  exact (by refine (pssd_one ?_); exact (psd_ret (pd_and (pd_callB call_isi rc_isi (by rfl) T.n_isinstance (by decide +kernel) (pad_cons (pd_var (pv 0)) (pad_cons (pd_c (v := .ty "tuple") (pe_bltn (by rfl) T.n_tuple (by decide +kernel) rfl) rfl) pad_nil))) (pd_one (pd_cmp (op_eqD hr.units) rd_eq (pd_callB call_len rc_len (by rfl) T.n_len (by decide +kernel) (pad_cons (pd_var (pv 0)) pad_nil)) (pd_var (pv 1)) (nomark _))))))
theorem G_is_move (T : Txt K mg) : FnOk P w K mg base (L2.CX P w) 3 T.a_is_move T.fd_is_move ["pair", "size"] (spD K mg m_is_move 2) := by
  have G_is_between := G_is_between (P := P) (w := w) (base := base) T
  have G_is_tuple := G_is_tuple (P := P) (w := w) (base := base) T
  rw [m_is_move_e]
  refine fn_d T.F_is_move sc_is_move (fun cdv A outer s H E hr tk hx => ?_)
  show PSsd _ _ (defBody s_is_move) d_is_move
  unfold d_is_move
  exact (by refine (pssd_one ?_); exact (psd_ret (pd_and (pd_own G_is_tuple (hr.mono (by decide)) (by rfl) T.g_is_tuple T.k_is_tuple T.b_is_tuple hx (pad_cons (pd_var (pv 0)) (pad_cons pd_int pad_nil))) (pd_and (pd_own G_is_between (hr.mono (by decide)) (by rfl) T.g_is_between T.k_is_between T.b_is_between hx (pad_cons (pd_ix ix_seq rd_ix (pd_var (pv 0)) pd_int) (pad_cons pd_int (pad_cons pd_int pad_nil)))) (pd_one (pd_own G_is_between (hr.mono (by decide)) (by rfl) T.g_is_between T.k_is_between T.b_is_between hx (pad_cons (pd_ix ix_seq rd_ix (pd_var (pv 0)) pd_int) (pad_cons pd_int (pad_cons (pd_op op_sub rd_sub (pd_var (pv 1)) pd_int) pad_nil)))))))))
theorem G_are_pairs (T : Txt K mg) : FnOk P w K mg base (L2.CX P w) 4 T.a_are_pairs T.fd_are_pairs ["pairs", "answers", "size"] (spD K mg m_are_pairs 3) := by
  have G_is_tuple := G_is_tuple (P := P) (w := w) (base := base) T
  have G_is_move := G_is_move (P := P) (w := w) (base := base) T
  rw [m_are_pairs_e]
  refine fn_d T.F_are_pairs sc_are_pairs (fun cdv A outer s H E hr tk hx => ?_)
  show PSsd _ _ (defBody s_are_pairs) d_are_pairs
  unfold d_are_pairs
  exact (by refine (pssd_one ?_); exact (psd_ret (pd_and (pd_own G_is_tuple (hr.mono (by decide)) (by rfl) T.g_is_tuple T.k_is_tuple T.b_is_tuple hx (pad_cons (pd_var (pv 0)) (pad_cons (pd_var (pv 1)) pad_nil))) (pd_one (pd_callB (cr_all rfl) rc_all (by rfl) T.n_all (by decide +kernel) (pad_cons (pd_fz (pld_lc rfl sc_are_pairs.nd (pid_tup (pd_var (pv 0))) (blkOk_by (own := [("pair", 3)]) (N := N_are_pairs) (show blkC N_are_pairs (defScope s_are_pairs) _ _ = true by decide +kernel)) (gs_name 3) (by decide) (fun _ _ _ _ _ => (pg_name (i := 3) sc_are_pairs.nd rfl (.inl rfl))) (fun _ _ _ _ _ => ptsd_nil) (fun _ _ _ _ _ => (pd_own G_is_move (hr.mono (by decide)) (by rfl) T.g_is_move T.k_is_move T.b_is_move lets0 (pad_cons (pd_var (pv 3)) (pad_cons (pd_var (pv 2)) pad_nil)))))) pad_nil))))))
theorem G_is_item (T : Txt K mg) : FnOk P w K mg base (L2.CX P w) 5 T.a_is_item T.fd_is_item ["item", "rows", "answers", "size"] (spD K mg m_is_item 4) := by
  have G_is_tuple := G_is_tuple (P := P) (w := w) (base := base) T
  have G_are_pairs := G_are_pairs (P := P) (w := w) (base := base) T
  rw [m_is_item_e]
  refine fn_d T.F_is_item sc_is_item (fun cdv A outer s H E hr tk hx => ?_)
  show PSsd _ _ (defBody s_is_item) d_is_item
  unfold d_is_item
  exact (by refine (pssd_one ?_); exact (psd_ret (pd_and (pd_own G_is_tuple (hr.mono (by decide)) (by rfl) T.g_is_tuple T.k_is_tuple T.b_is_tuple hx (pad_cons (pd_var (pv 0)) (pad_cons (pd_var (pv 1)) pad_nil))) (pd_one (pd_callB (cr_all rfl) rc_all (by rfl) T.n_all (by decide +kernel) (pad_cons (pd_fz (pld_lc rfl sc_is_item.nd (pid_tup (pd_var (pv 0))) (blkOk_by (own := [("pairs", 4)]) (N := N_is_item) (show blkC N_is_item (defScope s_is_item) _ _ = true by decide +kernel)) (gs_name 4) (by decide) (fun _ _ _ _ _ => (pg_name (i := 4) sc_is_item.nd rfl (.inl rfl))) (fun _ _ _ _ _ => ptsd_nil) (fun _ _ _ _ _ => (pd_own G_are_pairs (hr.mono (by decide)) (by rfl) T.g_are_pairs T.k_are_pairs T.b_are_pairs lets0 (pad_cons (pd_var (pv 4)) (pad_cons (pd_var (pv 2)) (pad_cons (pd_var (pv 3)) pad_nil))))))) pad_nil))))))
theorem G_are_moves (T : Txt K mg) : FnOk P w K mg base (L2.CX P w) 6 T.a_are_moves T.fd_are_moves ["moves", "rows", "answers"] (spD K mg m_are_moves 3) := by
  have G_is_item := G_is_item (P := P) (w := w) (base := base) T
  rw [m_are_moves_e]
  refine fn_d T.F_are_moves sc_are_moves (fun cdv A outer s H E hr tk hx => ?_)
  show PSsd _ _ (defBody s_are_moves) d_are_moves
  unfold d_are_moves
  exact (by refine (pssd_cons ?_ (pssd_one ?_)); exact (psd_if (ptd_w (pwd_or (ptd_not (ptd_truth (pd_callB call_isi rc_isi (by rfl) T.n_isinstance (by decide +kernel) (pad_cons (pd_var (pv 0)) (pad_cons (pd_c (v := .ty "tuple") (pe_bltn (by rfl) T.n_tuple (by decide +kernel) rfl) rfl) pad_nil))))) (pwd_or1 (ptd_not (ptd_chain op_le op_le rd_le rd_le pd_int (pd_callB call_len rc_len (by rfl) T.n_len (by decide +kernel) (pad_cons (pd_var (pv 0)) pad_nil)) pd_int))))) (by refine (pssd_one ?_); exact (psd_ret pd_bl)) pssd_nil); exact (psd_ret (pd_callB (cr_all rfl) rc_all (by rfl) T.n_all (by decide +kernel) (pad_cons (pd_fz (pld_lc rfl sc_are_moves.nd (pid_tup (pd_var (pv 0))) (blkOk_by (own := [("item", 3)]) (N := N_are_moves) (show blkC N_are_moves (defScope s_are_moves) _ _ = true by decide +kernel)) (gs_name 3) (by decide) (fun _ _ _ _ _ => (pg_name (i := 3) sc_are_moves.nd rfl (.inl rfl))) (fun _ _ _ _ _ => ptsd_nil) (fun _ _ _ _ _ => (pd_own G_is_item (hr.mono (by decide)) (by rfl) T.g_is_item T.k_is_item T.b_is_item lets0 (pad_cons (pd_var (pv 3)) (pad_cons (pd_callB call_len rc_len (by rfl) T.n_len (by decide +kernel) (pad_cons (pd_var (pv 1)) pad_nil)) (pad_cons (pd_var (pv 2)) (pad_cons (pd_callB call_len rc_len (by rfl) T.n_len (by decide +kernel) (pad_cons (pd_var (pv 0)) pad_nil)) pad_nil)))))))) pad_nil))))
theorem G_Machine_init (T : Txt K mg) : FnOk P w K mg base (L2.CX P w) 7 T.a_Machine_init T.fd_Machine_init ["self", "rows", "answers", "moves"] (spD K mg m_Machine_init 4) := by
  have G_is_rows := G_is_rows (P := P) (w := w) (base := base) T
  have G_is_answers := G_is_answers (P := P) (w := w) (base := base) T
  have G_are_moves := G_are_moves (P := P) (w := w) (base := base) T
  rw [m_Machine_init_e]
  refine fn_d T.F_Machine_init sc_Machine_init (fun cdv A outer s H E hr tk hx => ?_)
  show PSsd _ _ (defBody s_Machine_init) d_Machine_init
  unfold d_Machine_init
  exact (by refine (pssd_cons ?_ (pssd_cons ?_ (pssd_cons ?_ (pssd_cons ?_ (pssd_cons ?_ (pssd_cons ?_ (pssd_one ?_))))))); exact (psd_if (ptd_not (ptd_truth (pd_own G_is_rows (hr.mono (by decide)) (by rfl) T.g_is_rows T.k_is_rows T.b_is_rows hx (pad_cons (pd_var (pv 1)) pad_nil)))) (by refine (pssd_one ?_); exact psd_never) pssd_nil); exact (psd_if (ptd_not (ptd_truth (pd_own G_is_answers (hr.mono (by decide)) (by rfl) T.g_is_answers T.k_is_answers T.b_is_answers hx (pad_cons (pd_var (pv 2)) pad_nil)))) (by refine (pssd_one ?_); exact psd_never) pssd_nil); exact (psd_if (ptd_not (ptd_truth (pd_own G_are_moves (hr.mono (by decide)) (by rfl) T.g_are_moves T.k_are_moves T.b_are_moves hx (pad_cons (pd_var (pv 3)) (pad_cons (pd_var (pv 1)) (pad_cons (pd_var (pv 2)) pad_nil)))))) (by refine (pssd_one ?_); exact psd_never) pssd_nil); exact (psd_setFld T.f_rows (pd_var (pv 0)) (pd_var (pv 1))); exact (psd_setFld T.f_answers (pd_var (pv 0)) (pd_var (pv 2))); exact (psd_setFld T.f_moves (pd_var (pv 0)) (pd_var (pv 3))); exact (psd_setFld T.f_size (pd_var (pv 0)) (pd_callB call_len rc_len (by rfl) T.n_len (by decide +kernel) (pad_cons (pd_var (pv 3)) pad_nil))))
theorem G_law_run (T : Txt K mg) : FnOk P w K mg base (L2.CX P w) 2 T.a_law_run T.fd_law_run ["hand", "rows", "answers", "many"] (spD K mg m_law_run 4) := by
  have G_law_draw := G_law_draw (P := P) (w := w) (base := base) T
  rw [m_law_run_e]
  refine fn_d T.F_law_run sc_law_run (fun cdv A outer s H E hr tk hx => ?_)
  show PSsd _ _ (defBody s_law_run) d_law_run
  unfold d_law_run
  exact (by refine (pssd_cons ?_ (pssd_one ?_)); exact (psd_set (i := 4) sc_law_run.nd rfl (.inl rfl) (pd_bm PySem.F.plainAttrs_str PySem.F.slot_str_join PySem.F.type_str_join mt_join rm_join pd_str (pad_cons (pd_fz (pld_lc rfl sc_law_run.nd (pid_range1 (by rfl) T.n_range (pad_cons (pd_var (pv 3)) pad_nil)) (blkOk_by (own := [("turn", 5)]) (N := N_law_run) (show blkC N_law_run (defScope s_law_run) _ _ = true by decide +kernel)) (gs_name 5) (by decide) (fun _ _ _ _ _ => (pg_name (i := 5) sc_law_run.nd rfl (.inl rfl))) (fun _ _ _ _ _ => ptsd_nil) (fun _ _ _ _ _ => (pd_ix ix_seq rd_ix (pd_var (pv 1)) (pd_own G_law_draw (hr.mono (by decide)) (by rfl) T.g_law_draw T.k_law_draw T.b_law_draw lets0 (pad_cons (pd_var (pv 0)) (pad_cons (pd_callB call_len rc_len (by rfl) T.n_len (by decide +kernel) (pad_cons (pd_var (pv 1)) pad_nil)) pad_nil))))))) pad_nil))); exact (psd_ret (pd_tup (pad_cons (pd_var (pv 4)) (pad_cons (pd_callTy call_tuple_of rc_tuple (by rfl) T.n_tuple (by decide +kernel) (pad_cons (pd_fz (pld_lc rfl sc_law_run.nd (pid_str (pd_var (pv 4))) (blkOk_by (own := [("row", 6)]) (N := N_law_run) (show blkC N_law_run (defScope s_law_run) _ _ = true by decide +kernel)) (gs_name 6) (by decide) (fun _ _ _ _ _ => (pg_name (i := 6) sc_law_run.nd rfl (.inl rfl))) (fun _ _ _ _ _ => ptsd_nil) (fun _ _ _ _ _ => (pd_own G_law_draw (hr.mono (by decide)) (by rfl) T.g_law_draw T.k_law_draw T.b_law_draw lets0 (pad_cons (pd_var (pv 0)) (pad_cons (pd_var (pv 2)) pad_nil)))))) pad_nil)) pad_nil)))))
theorem G_is_run (T : Txt K mg) : FnOk P w K mg base (L2.CX P w) 3 T.a_is_run T.fd_is_run ["thing", "rows", "answers"] (spD K mg m_is_run 3) := by
  have G_is_code := G_is_code (P := P) (w := w) (base := base) T
  have G_is_between := G_is_between (P := P) (w := w) (base := base) T
  have G_is_tuple := G_is_tuple (P := P) (w := w) (base := base) T
  rw [m_is_run_e]
  refine fn_d T.F_is_run sc_is_run (fun cdv A outer s H E hr tk hx => ?_)
  show PSsd _ _ (defBody s_is_run) d_is_run
  unfold d_is_run
  exact (by refine (pssd_cons ?_ (pssd_cons ?_ (pssd_cons ?_ (pssd_one ?_)))); exact (psd_if (ptd_not (ptd_truth (pd_own G_is_tuple (hr.mono (by decide)) (by rfl) T.g_is_tuple T.k_is_tuple T.b_is_tuple hx (pad_cons (pd_var (pv 0)) (pad_cons pd_int pad_nil))))) (by refine (pssd_one ?_); exact (psd_ret pd_bl)) pssd_nil); exact (psd_asg (pd_var (pv 0)) (pg_tup rfl (pgs_cons (pg_name (i := 3) sc_is_run.nd rfl (.inl rfl)) (pgs_cons (pg_name (i := 4) sc_is_run.nd rfl (.inl rfl)) pgs_nil))) (gs_tup 2 (gss_cons (gs_name 3) (gss_cons (gs_name 4) gss_nil)))); exact (psd_if (ptd_w (pwd_or (ptd_not (ptd_truth (pd_own G_is_code (hr.mono (by decide)) (by rfl) T.g_is_code T.k_is_code T.b_is_code hx (pad_cons (pd_var (pv 3)) (pad_cons (pd_var (pv 1)) pad_nil))))) (pwd_or1 (ptd_not (ptd_truth (pd_own G_is_tuple (hr.mono (by decide)) (by rfl) T.g_is_tuple T.k_is_tuple T.b_is_tuple hx (pad_cons (pd_var (pv 4)) (pad_cons (pd_callB call_len rc_len (by rfl) T.n_len (by decide +kernel) (pad_cons (pd_var (pv 3)) pad_nil)) pad_nil)))))))) (by refine (pssd_one ?_); exact (psd_ret pd_bl)) pssd_nil); exact (psd_ret (pd_callB (cr_all rfl) rc_all (by rfl) T.n_all (by decide +kernel) (pad_cons (pd_fz (pld_lc rfl sc_is_run.nd (pid_tup (pd_var (pv 4))) (blkOk_by (own := [("answer", 5)]) (N := N_is_run) (show blkC N_is_run (defScope s_is_run) _ _ = true by decide +kernel)) (gs_name 5) (by decide) (fun _ _ _ _ _ => (pg_name (i := 5) sc_is_run.nd rfl (.inl rfl))) (fun _ _ _ _ _ => ptsd_nil) (fun _ _ _ _ _ => (pd_own G_is_between (hr.mono (by decide)) (by rfl) T.g_is_between T.k_is_between T.b_is_between lets0 (pad_cons (pd_var (pv 5)) (pad_cons pd_int (pad_cons (pd_op op_sub rd_sub (pd_var (pv 2)) pd_int) pad_nil))))))) pad_nil))))
theorem G_check_run (T : Txt K mg) : FnOk P w K mg base (L2.CX P w) 4 T.a_check_run T.fd_check_run ["machine", "run"] (spD K mg m_check_run 2) := by
  have G_is_run := G_is_run (P := P) (w := w) (base := base) T
  rw [m_check_run_e]
  refine fn_d T.F_check_run sc_check_run (fun cdv A outer s H E hr tk hx => ?_)
  show PSsd _ _ (defBody s_check_run) d_check_run
  unfold d_check_run
  exact (by refine (pssd_one ?_); exact (psd_if (ptd_not (ptd_truth (pd_own G_is_run (hr.mono (by decide)) (by rfl) T.g_is_run T.k_is_run T.b_is_run hx (pad_cons (pd_var (pv 1)) (pad_cons (pd_fld T.f_rows (pd_var (pv 0))) (pad_cons (pd_fld T.f_answers (pd_var (pv 0))) pad_nil)))))) (by refine (pssd_one ?_); exact psd_never) pssd_nil))
theorem G_walked (T : Txt K mg) : FnOk P w K mg base (L2.CX P w) 1 T.a_walked T.fd_walked ["machine", "start", "run"] (spD K mg m_walked 3) := by
  rw [m_walked_e]
  refine fn_d T.F_walked sc_walked (fun cdv A outer s H E hr tk hx => ?_)
  show PSsd _ _ (defBody s_walked) d_walked
  unfold d_walked
  exact (by refine (pssd_cons ?_ (pssd_cons ?_ (pssd_cons ?_ (pssd_cons ?_ (pssd_one ?_))))); exact (psd_asg (pd_var (pv 2)) (pg_tup rfl (pgs_cons (pg_name (i := 3) sc_walked.nd rfl (.inl rfl)) (pgs_cons (pg_name (i := 4) sc_walked.nd rfl (.inl rfl)) pgs_nil))) (gs_tup 2 (gss_cons (gs_name 3) (gss_cons (gs_name 4) gss_nil)))); exact (psd_set (i := 5) sc_walked.nd rfl (.inl rfl) pd_int); exact (psd_set (i := 6) sc_walked.nd rfl (.inl rfl) (pd_var (pv 1))); exact (psd_for (passes_of rfl) rfl (pid_zip (by rfl) T.n_zip (pad_cons (pd_var (pv 3)) (pad_cons (pd_var (pv 4)) pad_nil))) (pg_tup rfl (pgs_cons (pg_name (i := 7) sc_walked.nd rfl (.inl rfl)) (pgs_cons (pg_name (i := 8) sc_walked.nd rfl (.inl rfl)) pgs_nil))) (gs_tup 2 (gss_cons (gs_name 7) (gss_cons (gs_name 8) gss_nil))) (by refine (pssd_cons ?_ (pssd_one ?_)); exact (psd_asg (pd_ix ix_seq rd_ix (pd_ix ix_seq rd_ix (pd_ix ix_seq rd_ix (pd_fld T.f_moves (pd_var (pv 0))) (pd_var (pv 6))) (pd_index rfl tk (pd_fld T.f_rows (pd_var (pv 0))) (pad_cons (pd_var (pv 7)) pad_nil))) (pd_var (pv 8))) (pg_tup rfl (pgs_cons (pg_name (i := 9) sc_walked.nd rfl (.inl rfl)) (pgs_cons (pg_name (i := 6) sc_walked.nd rfl (.inl rfl)) pgs_nil))) (gs_tup 2 (gss_cons (gs_name 9) (gss_cons (gs_name 6) gss_nil)))); exact (psd_aug (i := 5) sc_walked.nd rfl (.inl rfl) (pd_var (pv 9)) ip_add))); exact (psd_ret (pd_tup (pad_cons (pd_var (pv 5)) (pad_cons (pd_var (pv 6)) pad_nil)))))
theorem G_ticks (T : Txt K mg) : FnOk P w K mg base (L2.CX P w) 5 T.a_ticks T.fd_ticks ["machine", "run"] (spD K mg m_ticks 2) := by
  have G_check_run := G_check_run (P := P) (w := w) (base := base) T
  have G_walked := G_walked (P := P) (w := w) (base := base) T
  rw [m_ticks_e]
  refine fn_d T.F_ticks sc_ticks (fun cdv A outer s H E hr tk hx => ?_)
  show PSsd _ _ (defBody s_ticks) d_ticks
  unfold d_ticks
  exact (by refine (pssd_cons ?_ (pssd_one ?_)); exact (psd_expr (pd_own G_check_run (hr.mono (by decide)) (by rfl) T.g_check_run T.k_check_run T.b_check_run hx (pad_cons (pd_var (pv 0)) (pad_cons (pd_var (pv 1)) pad_nil)))); exact (psd_ret (pd_ix ix_seq rd_ix (pd_own G_walked (hr.mono (by decide)) (by rfl) T.g_walked T.k_walked T.b_walked hx (pad_cons (pd_var (pv 0)) (pad_cons pd_int (pad_cons (pd_var (pv 1)) pad_nil)))) pd_int)))
theorem G_standing (T : Txt K mg) : FnOk P w K mg base (L2.CX P w) 5 T.a_standing T.fd_standing ["machine", "run"] (spD K mg m_standing 2) := by
  have G_check_run := G_check_run (P := P) (w := w) (base := base) T
  have G_walked := G_walked (P := P) (w := w) (base := base) T
  rw [m_standing_e]
  refine fn_d T.F_standing sc_standing (fun cdv A outer s H E hr tk hx => ?_)
  show PSsd _ _ (defBody s_standing) d_standing
  unfold d_standing
  exact (by refine (pssd_cons ?_ (pssd_one ?_)); exact (psd_expr (pd_own G_check_run (hr.mono (by decide)) (by rfl) T.g_check_run T.k_check_run T.b_check_run hx (pad_cons (pd_var (pv 0)) (pad_cons (pd_var (pv 1)) pad_nil)))); exact (psd_ret (pd_ix ix_seq rd_ix (pd_own G_walked (hr.mono (by decide)) (by rfl) T.g_walked T.k_walked T.b_walked hx (pad_cons (pd_var (pv 0)) (pad_cons pd_int (pad_cons (pd_var (pv 1)) pad_nil)))) pd_int)))
theorem G_law_led (T : Txt K mg) : FnOk P w K mg base (L2.CX P w) 1 T.a_law_led T.fd_law_led ["world", "at", "run"] (spD K mg m_law_led 3) := by
  rw [m_law_led_e]
  refine fn_d T.F_law_led sc_law_led (fun cdv A outer s H E hr tk hx => ?_)
  show PSsd _ _ (defBody s_law_led) d_law_led
  unfold d_law_led
  exact (by refine (pssd_cons ?_ (pssd_cons ?_ (pssd_one ?_))); exact (psd_set (i := 3) sc_law_led.nd rfl (.inl rfl) pd_int); exact (psd_for (passes_of rfl) rfl (pid_zip (by rfl) T.n_zip (pad_cons (pd_ix ix_seq rd_ix (pd_var (pv 2)) pd_int) (pad_cons (pd_ix ix_seq rd_ix (pd_var (pv 2)) pd_int) pad_nil))) (pg_tup rfl (pgs_cons (pg_name (i := 4) sc_law_led.nd rfl (.inl rfl)) (pgs_cons (pg_name (i := 5) sc_law_led.nd rfl (.inl rfl)) pgs_nil))) (gs_tup 2 (gss_cons (gs_name 4) (gss_cons (gs_name 5) gss_nil))) (by refine (pssd_cons ?_ (pssd_one ?_)); exact (psd_asg (pd_ix ix_seq rd_ix (pd_ix ix_seq rd_ix (pd_ix ix_seq rd_ix (pd_ix ix_seq rd_ix (pd_var (pv 0)) pd_int) (pd_var (pv 1))) (pd_bm PySem.F.plainAttrs_str PySem.F.slot_str_find PySem.F.type_str_find mt_find rm_find (pd_ix ix_seq rd_ix (pd_var (pv 0)) pd_int) (pad_cons (pd_var (pv 4)) pad_nil))) (pd_var (pv 5))) (pg_tup rfl (pgs_cons (pg_name (i := 6) sc_law_led.nd rfl (.inl rfl)) (pgs_cons (pg_name (i := 1) sc_law_led.nd rfl (.inl rfl)) pgs_nil))) (gs_tup 2 (gss_cons (gs_name 6) (gss_cons (gs_name 1) gss_nil)))); exact (psd_set (i := 3) sc_law_led.nd rfl (.inl rfl) (pd_op op_addAll rd_add (pd_var (pv 3)) (pd_var (pv 6)))))); exact (psd_ret (pd_tup (pad_cons (pd_var (pv 3)) (pad_cons (pd_var (pv 1)) pad_nil)))))
theorem G_check_standing (T : Txt K mg) : FnOk P w K mg base (L2.CX P w) 3 T.a_check_standing T.fd_check_standing ["machine", "thing"] (spD K mg m_check_standing 2) := by
  have G_is_between := G_is_between (P := P) (w := w) (base := base) T
  rw [m_check_standing_e]
  refine fn_d T.F_check_standing sc_check_standing (fun cdv A outer s H E hr tk hx => ?_)
  show PSsd _ _ (defBody s_check_standing) d_check_standing
  unfold d_check_standing
  exact (by refine (pssd_one ?_); exact (psd_if (ptd_not (ptd_truth (pd_own G_is_between (hr.mono (by decide)) (by rfl) T.g_is_between T.k_is_between T.b_is_between hx (pad_cons (pd_var (pv 1)) (pad_cons pd_int (pad_cons (pd_op op_sub rd_sub (pd_fld T.f_size (pd_var (pv 0))) pd_int) pad_nil)))))) (by refine (pssd_one ?_); exact psd_never) pssd_nil))
theorem G_ticks_from (T : Txt K mg) : FnOk P w K mg base (L2.CX P w) 5 T.a_ticks_from T.fd_ticks_from ["machine", "standing", "run"] (spD K mg m_ticks_from 3) := by
  have G_check_run := G_check_run (P := P) (w := w) (base := base) T
  have G_walked := G_walked (P := P) (w := w) (base := base) T
  have G_check_standing := G_check_standing (P := P) (w := w) (base := base) T
  rw [m_ticks_from_e]
  refine fn_d T.F_ticks_from sc_ticks_from (fun cdv A outer s H E hr tk hx => ?_)
  show PSsd _ _ (defBody s_ticks_from) d_ticks_from
  unfold d_ticks_from
  exact (by refine (pssd_cons ?_ (pssd_cons ?_ (pssd_one ?_))); exact (psd_expr (pd_own G_check_standing (hr.mono (by decide)) (by rfl) T.g_check_standing T.k_check_standing T.b_check_standing hx (pad_cons (pd_var (pv 0)) (pad_cons (pd_var (pv 1)) pad_nil)))); exact (psd_expr (pd_own G_check_run (hr.mono (by decide)) (by rfl) T.g_check_run T.k_check_run T.b_check_run hx (pad_cons (pd_var (pv 0)) (pad_cons (pd_var (pv 2)) pad_nil)))); exact (psd_ret (pd_ix ix_seq rd_ix (pd_own G_walked (hr.mono (by decide)) (by rfl) T.g_walked T.k_walked T.b_walked hx (pad_cons (pd_var (pv 0)) (pad_cons (pd_var (pv 1)) (pad_cons (pd_var (pv 2)) pad_nil)))) pd_int)))
theorem G_standing_from (T : Txt K mg) : FnOk P w K mg base (L2.CX P w) 5 T.a_standing_from T.fd_standing_from ["machine", "standing", "run"] (spD K mg m_standing_from 3) := by
  have G_check_run := G_check_run (P := P) (w := w) (base := base) T
  have G_walked := G_walked (P := P) (w := w) (base := base) T
  have G_check_standing := G_check_standing (P := P) (w := w) (base := base) T
  rw [m_standing_from_e]
  refine fn_d T.F_standing_from sc_standing_from (fun cdv A outer s H E hr tk hx => ?_)
  show PSsd _ _ (defBody s_standing_from) d_standing_from
  unfold d_standing_from
  exact (by refine (pssd_cons ?_ (pssd_cons ?_ (pssd_one ?_))); exact (psd_expr (pd_own G_check_standing (hr.mono (by decide)) (by rfl) T.g_check_standing T.k_check_standing T.b_check_standing hx (pad_cons (pd_var (pv 0)) (pad_cons (pd_var (pv 1)) pad_nil)))); exact (psd_expr (pd_own G_check_run (hr.mono (by decide)) (by rfl) T.g_check_run T.k_check_run T.b_check_run hx (pad_cons (pd_var (pv 0)) (pad_cons (pd_var (pv 2)) pad_nil)))); exact (psd_ret (pd_ix ix_seq rd_ix (pd_own G_walked (hr.mono (by decide)) (by rfl) T.g_walked T.k_walked T.b_walked hx (pad_cons (pd_var (pv 0)) (pad_cons (pd_var (pv 1)) (pad_cons (pd_var (pv 2)) pad_nil)))) pd_int)))
theorem G_law (T : Txt K mg) : FnOk P w K mg base (L2.CX P w) 9 T.a_law T.fd_law ["script"] (spD K mg m_law 1) := by
  have G_law_hand := G_law_hand (P := P) (w := w) (base := base) T
  have G_law_draw := G_law_draw (P := P) (w := w) (base := base) T
  have G_law_world := G_law_world (P := P) (w := w) (base := base) T
  have G_Machine_init := G_Machine_init (P := P) (w := w) (base := base) T
  have G_law_run := G_law_run (P := P) (w := w) (base := base) T
  have G_ticks := G_ticks (P := P) (w := w) (base := base) T
  have G_standing := G_standing (P := P) (w := w) (base := base) T
  have G_law_led := G_law_led (P := P) (w := w) (base := base) T
  have G_ticks_from := G_ticks_from (P := P) (w := w) (base := base) T
  have G_standing_from := G_standing_from (P := P) (w := w) (base := base) T
  rw [m_law_e]
  refine fn_d T.F_law sc_law (fun cdv A outer s H E hr tk hx => ?_)
  show PSsd _ _ (defBody s_law) d_law
  unfold d_law
  exact (by refine (pssd_cons ?_ (pssd_cons ?_ (pssd_one ?_))); exact (psd_set (i := 1) sc_law.nd rfl (.inl rfl) (pd_own G_law_hand (hr.mono (by decide)) (by rfl) T.g_law_hand T.k_law_hand T.b_law_hand hx (pad_cons (pd_var (pv 0)) pad_nil))); exact (psd_for (passes_of rfl) rfl (pid_range1 (by rfl) T.n_range (pad_cons pd_int pad_nil)) (pg_name (i := 2) sc_law.nd rfl (.inl rfl)) (gs_name 2) (by refine (pssd_cons ?_ (pssd_cons ?_ (pssd_cons ?_ (pssd_cons ?_ (pssd_cons ?_ (pssd_cons ?_ (pssd_one ?_))))))); exact (psd_set (i := 3) sc_law.nd rfl (.inl rfl) (pd_own G_law_world (hr.mono (by decide)) (by rfl) T.g_law_world T.k_law_world T.b_law_world hx (pad_cons (pd_var (pv 1)) (pad_cons pd_int (pad_cons (pd_ix ix_seq rd_ix (pd_fz (pld_lst (pad_cons pd_int (pad_cons pd_int pad_nil)))) (pd_own G_law_draw (hr.mono (by decide)) (by rfl) T.g_law_draw T.k_law_draw T.b_law_draw hx (pad_cons (pd_var (pv 1)) (pad_cons pd_int pad_nil)))) pad_nil))))); exact (psd_set (i := 4) sc_law.nd rfl (.inl rfl) (pd_make T.mk_Machine G_Machine_init (hr.mono (by decide)) (by rfl) T.C_Machine T.b_Machine_init hx (pad_cons (pd_ix ix_seq rd_ix (pd_var (pv 3)) pd_int) (pad_cons (pd_ix ix_seq rd_ix (pd_var (pv 3)) pd_int) (pad_cons (pd_ix ix_seq rd_ix (pd_var (pv 3)) pd_int) pad_nil))))); exact (psd_set (i := 5) sc_law.nd rfl (.inl rfl) (pd_own G_law_run (hr.mono (by decide)) (by rfl) T.g_law_run T.k_law_run T.b_law_run hx (pad_cons (pd_var (pv 1)) (pad_cons (pd_ix ix_seq rd_ix (pd_var (pv 3)) pd_int) (pad_cons (pd_ix ix_seq rd_ix (pd_var (pv 3)) pd_int) (pad_cons (pd_ix ix_seq rd_ix (pd_fz (pld_lst (pad_cons pd_int (pad_cons pd_int (pad_cons pd_int (pad_cons pd_int pad_nil)))))) (pd_own G_law_draw (hr.mono (by decide)) (by rfl) T.g_law_draw T.k_law_draw T.b_law_draw hx (pad_cons (pd_var (pv 1)) (pad_cons pd_int pad_nil)))) pad_nil)))))); exact (psd_set (i := 6) sc_law.nd rfl (.inl rfl) (pd_own G_law_run (hr.mono (by decide)) (by rfl) T.g_law_run T.k_law_run T.b_law_run hx (pad_cons (pd_var (pv 1)) (pad_cons (pd_ix ix_seq rd_ix (pd_var (pv 3)) pd_int) (pad_cons (pd_ix ix_seq rd_ix (pd_var (pv 3)) pd_int) (pad_cons (pd_own G_law_draw (hr.mono (by decide)) (by rfl) T.g_law_draw T.k_law_draw T.b_law_draw hx (pad_cons (pd_var (pv 1)) (pad_cons pd_int pad_nil))) pad_nil)))))); exact (psd_set (i := 7) sc_law.nd rfl (.inl rfl) (pd_tup (pad_cons (pd_op op_addAll rd_add (pd_ix ix_seq rd_ix (pd_var (pv 5)) pd_int) (pd_ix ix_seq rd_ix (pd_var (pv 6)) pd_int)) (pad_cons (pd_op op_addAll rd_add (pd_ix ix_seq rd_ix (pd_var (pv 5)) pd_int) (pd_ix ix_seq rd_ix (pd_var (pv 6)) pd_int)) pad_nil)))); exact (psd_if (ptd_cmp (op_neD hr.units) rd_ne (pd_tup (pad_cons (pd_own G_ticks (hr.mono (by decide)) (by rfl) T.g_ticks T.k_ticks T.b_ticks hx (pad_cons (pd_var (pv 4)) (pad_cons (pd_var (pv 5)) pad_nil))) (pad_cons (pd_own G_standing (hr.mono (by decide)) (by rfl) T.g_standing T.k_standing T.b_standing hx (pad_cons (pd_var (pv 4)) (pad_cons (pd_var (pv 5)) pad_nil))) pad_nil))) (pd_own G_law_led (hr.mono (by decide)) (by rfl) T.g_law_led T.k_law_led T.b_law_led hx (pad_cons (pd_var (pv 3)) (pad_cons pd_int (pad_cons (pd_var (pv 5)) pad_nil)))) (nomark _)) (by refine (pssd_one ?_); exact (psd_ret pd_bl)) pssd_nil); exact (psd_for (passes_of rfl) rfl (pid_range1 (by rfl) T.n_range (pad_cons (pd_fld T.f_size (pd_var (pv 4))) pad_nil)) (pg_name (i := 8) sc_law.nd rfl (.inl rfl)) (gs_name 8) (by refine (pssd_cons ?_ (pssd_cons ?_ (pssd_cons ?_ (pssd_cons ?_ (pssd_cons ?_ (pssd_one ?_)))))); exact (psd_set (i := 9) sc_law.nd rfl (.inl rfl) (pd_tup (pad_cons (pd_own G_ticks_from (hr.mono (by decide)) (by rfl) T.g_ticks_from T.k_ticks_from T.b_ticks_from hx (pad_cons (pd_var (pv 4)) (pad_cons (pd_var (pv 8)) (pad_cons (pd_var (pv 7)) pad_nil)))) (pad_cons (pd_own G_standing_from (hr.mono (by decide)) (by rfl) T.g_standing_from T.k_standing_from T.b_standing_from hx (pad_cons (pd_var (pv 4)) (pad_cons (pd_var (pv 8)) (pad_cons (pd_var (pv 7)) pad_nil)))) pad_nil)))); exact (psd_if (ptd_w (pwd_or (ptd_cmp (op_neD hr.units) rd_ne (pd_var (pv 9)) (pd_own G_law_led (hr.mono (by decide)) (by rfl) T.g_law_led T.k_law_led T.b_law_led hx (pad_cons (pd_var (pv 3)) (pad_cons (pd_var (pv 8)) (pad_cons (pd_var (pv 7)) pad_nil)))) (nomark _)) (pwd_or (ptd_truth (pd_callB call_isi rc_isi (by rfl) T.n_isinstance (by decide +kernel) (pad_cons (pd_ix ix_seq rd_ix (pd_var (pv 9)) pd_int) (pad_cons (pd_c (v := .ty "bool") (pe_bltn (by rfl) T.n_bool (by decide +kernel) rfl) rfl) pad_nil)))) (pwd_or1 (ptd_truth (pd_callB call_isi rc_isi (by rfl) T.n_isinstance (by decide +kernel) (pad_cons (pd_ix ix_seq rd_ix (pd_var (pv 9)) pd_int) (pad_cons (pd_c (v := .ty "bool") (pe_bltn (by rfl) T.n_bool (by decide +kernel) rfl) rfl) pad_nil)))))))) (by refine (pssd_one ?_); exact (psd_ret pd_bl)) pssd_nil); exact (psd_set (i := 10) sc_law.nd rfl (.inl rfl) (pd_own G_standing_from (hr.mono (by decide)) (by rfl) T.g_standing_from T.k_standing_from T.b_standing_from hx (pad_cons (pd_var (pv 4)) (pad_cons (pd_var (pv 8)) (pad_cons (pd_var (pv 5)) pad_nil))))); exact (psd_if (ptd_cmp (op_neD hr.units) rd_ne (pd_ix ix_seq rd_ix (pd_var (pv 9)) pd_int) (pd_op op_addAll rd_add (pd_own G_ticks_from (hr.mono (by decide)) (by rfl) T.g_ticks_from T.k_ticks_from T.b_ticks_from hx (pad_cons (pd_var (pv 4)) (pad_cons (pd_var (pv 8)) (pad_cons (pd_var (pv 5)) pad_nil)))) (pd_own G_ticks_from (hr.mono (by decide)) (by rfl) T.g_ticks_from T.k_ticks_from T.b_ticks_from hx (pad_cons (pd_var (pv 4)) (pad_cons (pd_var (pv 10)) (pad_cons (pd_var (pv 6)) pad_nil))))) (nomark _)) (by refine (pssd_one ?_); exact (psd_ret pd_bl)) pssd_nil); exact (psd_if (ptd_cmp (op_neD hr.units) rd_ne (pd_ix ix_seq rd_ix (pd_var (pv 9)) pd_int) (pd_own G_standing_from (hr.mono (by decide)) (by rfl) T.g_standing_from T.k_standing_from T.b_standing_from hx (pad_cons (pd_var (pv 4)) (pad_cons (pd_var (pv 10)) (pad_cons (pd_var (pv 6)) pad_nil)))) (nomark _)) (by refine (pssd_one ?_); exact (psd_ret pd_bl)) pssd_nil); exact (psd_if (ptd_cmp (op_neD hr.units) rd_ne (pd_tup (pad_cons (pd_own G_ticks_from (hr.mono (by decide)) (by rfl) T.g_ticks_from T.k_ticks_from T.b_ticks_from hx (pad_cons (pd_var (pv 4)) (pad_cons (pd_var (pv 8)) (pad_cons (pd_tup (pad_cons pd_str (pad_cons (pd_tup pad_nil) pad_nil))) pad_nil)))) (pad_cons (pd_own G_standing_from (hr.mono (by decide)) (by rfl) T.g_standing_from T.k_standing_from T.b_standing_from hx (pad_cons (pd_var (pv 4)) (pad_cons (pd_var (pv 8)) (pad_cons (pd_tup (pad_cons pd_str (pad_cons (pd_tup pad_nil) pad_nil))) pad_nil)))) pad_nil))) (pd_tup (pad_cons pd_int (pad_cons (pd_var (pv 8)) pad_nil))) (nomark _)) (by refine (pssd_one ?_); exact (psd_ret pd_bl)) pssd_nil))))); exact (psd_ret pd_bl))
end
end DD
namespace DD
open PySem L2 PyProof.Rows
theorem draw {n : Nat} {st : Sto} {many : Int} (hg : HG n st) (h1 : 0 < many) (h2 : many < 1073741824) : ∃ (d : Nat) (st' : Sto), (d : Int) < many ∧ (∀ x, x = many → m_law_draw [.ref n, .int x] st = .ok (.int (d : Int)) st') ∧ Dr n st st' := by
  obtain ⟨d, st', h, e, r⟩ := draw_ok hg h1 h2
  exact ⟨d, st', h, fun x hx => by rw [hx, m_law_draw_e]; exact e, r⟩
def absI (i : Int) : Int := if i < 0 then -i else i
def absD (d : D) : D := match d with
  | .int i => .int (absI i)
  | d => d
theorem absD_map (ns : List Int) : (ns.map D.int).map absD = (ns.map absI).map .int := by rw [List.map_map, List.map_map]; rfl
theorem hand_ok {ns : List Int} {st : Sto} (hl : ns.length ≤ 63) : ∃ h : Hand, m_law_hand [.sc (ns.map .int)] st = .ok (.ref st.length) (st ++ [.lst h.ds]) := by
  have hc : (cutL ns none (some 63)).length ≤ bigLine := Nat.le_trans (cut_len _ _ _) (Nat.le_trans hl (by decide))
  refine ⟨⟨(cutL ns none (some 63)).map absI, 0, 0, 1 + (cutL ns none (some 63)).length, 0⟩, ?_⟩
  simp [m_law_hand_e, mOf_e, d_law_hand, cut_map, hc]
  rw [lc_map (f := absD) _ (fun x hx => by
    obtain ⟨i, _, rfl⟩ := List.mem_map.mp hx
    exact ⟨_, rfl, by simp [wipeE, absD, absI]⟩), absD_map]
  simp [Hand.ds, bigLine]
noncomputable def dRows : DS := (dSeq (dSet 2 (dBin fAdd (dC (.int 1)) (dOwn m_law_draw 2 (dCons (dVar 0) (dCons (dVar 1) dNil)))))
    (dSeq (dSet 3 (dC (.str (tx []))))
    (dSeq (dSet 4 (dC (.str (tx (List.range' 97 26)))))
    (dSeq (dFor (dRange1 (dCons (dVar 2) dNil)) (gdName 5) (dSeq (dSet 6 (dOwn m_law_draw 2 (dCons (dVar 0) (dCons (dBin fSub (dCall fLen (dCons (dVar 4) dNil)) (dBin fSub (dBin fSub (dVar 2) (dVar 5)) (dC (.int 1)))) dNil))))
    (dSeq (dSet 3 (dBin fAdd (dVar 3) (dBin fIx (dVar 4) (dVar 6))))
    (dSet 4 (dSl (dVar 4) (dPart (dBin fAdd (dVar 6) (dC (.int 1)))) dNoPart)))))
    (dRet (dVar 3))))))
theorem d_rows_e : d_law_rows = dRows := by unfold d_law_rows dRows; rw [tx_nil, tx_letters]
theorem rows_ok {n : Nat} {st : Sto} (hg : HG n st) : ∃ (cs : List Nat) (st' : Sto), m_law_rows [.ref n, .int 4] st = .ok (.str (tx cs)) st' ∧ Dr n st st' ∧ RowsOk cs := by
  obtain ⟨d, st1, hd, e, dr⟩ := draw (many := 4) hg (by omega) (by omega)
  rw [m_law_rows_e, d_rows_e]
  simp [mOf_e, dRows, e]
  rw [rgR_ok (n := 1 + d) (by omega) (by omega)]
  simp
  generalize hloop : loop _ _ _ _ _ _ = r
  obtain ⟨env', st', rfl, k, found, e5, e6, rfl, dr2, l, hk, pw, fb⟩ := for_use (fun i env st' => ∃ (k : Nat) (found : List Nat) (e5 e6 : Option D), env = [some (D.ref n), some (D.int 4), some (D.int (1 + ↑d)), some (.str (tx found)), some (.str (tx (List.range' (97 + k) (26 - k)))), e5, e6] ∧ Dr n st st' ∧ found.length = i ∧ k + (1 + d - i) ≤ 26 ∧ found.Pairwise (· < ·) ∧ ∀ c ∈ found, 97 ≤ c ∧ c < 97 + k)
    hloop ⟨0, [], none, none, rfl, dr, rfl, by omega, List.Pairwise.nil, fun _ h => by cases h⟩
    (fun i x env st2 hx hI => by
      obtain ⟨k, found, e5, e6, he, dr2, l, hk, pw, fb⟩ := hI
      obtain ⟨hi, rfl⟩ := ints_get hx
      subst he
      obtain ⟨a, st3, ha, e3, dr3⟩ := draw (n := n) (st := st2) (many := ((26 - k : Nat) : Int) - ((1 + (d : Int)) - (i : Int) - 1)) (dr2.hg hg) (by omega) (by omega)
      have hlen : (tx (List.range' (97 + k) (26 - k))).length ≤ bigLine := by show (List.range' (97 + k) (26 - k)).length ≤ 1000000; rw [List.length_range']; omega
      have hlen2 : (List.range' (97 + k) (26 - k)).length ≤ bigLine := hlen
      have hix : (tx (List.range' (97 + k) (26 - k))).cps.toList[a]? = some (97 + k + a) := by
        rw [tx_list, List.getElem?_range' (by omega), Nat.one_mul]
      have hsl := fSl_str_from (i := a + 1) (st := st3) hlen2
      have hbl : found.length + 1 ≤ bigLine := by show found.length + 1 ≤ 1000000; omega
      have hdr : (List.range' (97 + k) (26 - k)).drop (a + 1) = List.range' (97 + (k + a + 1)) (26 - (k + a + 1)) := by rw [List.drop_range']; congr 1 <;> omega
      refine ⟨_, _, st3, rfl, .inl ?_, ⟨k + a + 1, found ++ [97 + k + a], some (.int i), some (.int a), rfl, dr2.trans dr3, by simp [l], by omega, ?_, ?_⟩⟩
      · simp [fLen_str hlen, e3, fIx_str hlen hix, hbl]
        rw [show (a : Int) + 1 = ((a + 1 : Nat) : Int) by omega, hsl, hdr]
        simp
      · refine List.pairwise_append.mpr ⟨pw, List.pairwise_singleton _ _, fun x hx y hy => ?_⟩
        have := fb x hx
        simp at hy
        omega
      · intro c hc
        rcases List.mem_append.mp hc with z | z
        · have := fb c z; omega
        · simp at z; omega)
  simp
  rw [intsD_length] at l hk
  refine ⟨found, st', ⟨rfl, rfl⟩, dr2, pw, fun c hc => ?_, by omega, by omega⟩
  have := fb c hc
  omega
end DD

namespace DD
open PySem L2 PyProof.Rows
theorem wipe_set {env : Env} {i : Nat} : wipeE [i] env = env.set i none := rfl
theorem line_ok {n : Nat} {st : Sto} {ans size top : Nat} (hg : HG n st) (ha : ans ≤ 3) (h1 : 1 ≤ size) (h2 : size ≤ 12) (h3 : 1 ≤ top) (h4 : top ≤ 99) :
    ∃ (ps : List (Nat × Nat)) (st' : Sto), m_law_line [.ref n, .int (ans : Int), .int (size : Int), .int (top : Int)] st = .ok (psD ps) st' ∧ Dr n st st' ∧ ps.length = ans ∧ ∀ p ∈ ps, 1 ≤ p.1 ∧ p.1 ≤ top ∧ p.2 < size := by
  rw [m_law_line_e]
  simp [mOf_e, d_law_line]
  rw [rgR_ok (n := ans) rfl (by omega)]
  have hb : ans ≤ bigLine := Nat.le_trans ha (by decide)
  simp [intsD_length, hb]
  generalize hloop : lcLoop _ _ _ _ _ _ _ = r
  obtain ⟨ys, st', rfl, dr, l, hy⟩ := lc_use (fun st' => Dr n st st') (fun y => ∃ p : Nat × Nat, y = pD p ∧ (1 ≤ p.1 ∧ p.1 ≤ top ∧ p.2 < size)) hloop (Dr.refl hg) (fun x hx st2 dr2 => by
    obtain ⟨a, st3, ha, e3, dr3⟩ := draw (many := top) (dr2.hg hg) (by omega) (by omega)
    obtain ⟨b, st4, hb, e4, dr4⟩ := draw (many := size) (dr3.hg (dr2.hg hg)) (by omega) (by omega)
    exact ⟨_, pD (1 + a, b), st4, rfl, by simp [wipe_set, e3, e4, bigLine, pD], (dr2.trans dr3).trans dr4, (1 + a, b), rfl, by simp, by simp; omega, by simp; omega⟩)
  obtain ⟨ps, rfl, hp⟩ := list_of ys hy
  refine ⟨ps, st', by simp [psD], dr, ?_, fun a b h => hp (a, b) h⟩
  rw [List.length_map, intsD_length] at l
  exact l
theorem run_ok {n : Nat} {st : Sto} {cs : List Nat} {ans many : Nat} (hg : HG n st) (hc : RowsOk cs) (h1 : 1 ≤ ans) (h2 : ans ≤ 3) (hm : many ≤ 30) :
    ∃ (ch as : List Nat) (st' : Sto), m_law_run [.ref n, .str (tx cs), .int (ans : Int), .int (many : Int)] st = .ok (runD ch as) st' ∧ Dr n st st' ∧ ch.length = many ∧ as.length = many ∧ (∀ c ∈ ch, c ∈ cs) ∧ ∀ a ∈ as, a < ans := by
  obtain ⟨_, _, c1, c4⟩ := hc
  rw [m_law_run_e]
  simp [mOf_e, d_law_run, isStr]
  rw [rgR_ok (n := many) rfl (by omega)]
  have hb : many ≤ bigLine := Nat.le_trans hm (by decide)
  have hlen : (tx cs).length ≤ bigLine := Nat.le_trans (show cs.length ≤ 4 from c4) (by decide)
  simp [intsD_length, hb]
  generalize hloop : lcLoop _ _ _ _ _ _ _ = r
  obtain ⟨ys, st', rfl, dr, l, hy⟩ := lc_use (fun st' => Dr n st st') (fun y => ∃ c : Nat, y = .str (tx [c]) ∧ c ∈ cs) hloop (Dr.refl hg) (fun x hx st2 dr2 => by
    obtain ⟨a, st3, ha, e3, dr3⟩ := draw (many := cs.length) (dr2.hg hg) (by omega) (by omega)
    have hi : a < cs.length := by omega
    have hix : (tx cs).cps.toList[a]? = some cs[a] := by rw [tx_list]; exact List.getElem?_eq_getElem hi
    exact ⟨_, .str (tx [cs[a]]), st3, rfl, by simp [wipe_set, fLen_str hlen, e3, fIx_str hlen hix], dr2.trans dr3, cs[a], rfl, List.getElem_mem hi⟩)
  obtain ⟨ch, rfl, hch⟩ := list_of ys hy
  rw [List.length_map, intsD_length] at l
  have hb2 : ch.length ≤ bigLine := by rw [l]; exact hb
  clear hloop hy
  simp only [Res.bind_ok, tx_nil, fJoin_signs hb2]
  simp [hb2]
  generalize hloop : lcLoop _ _ _ _ _ _ _ = r
  obtain ⟨ys, st2, rfl, dr2, l2, hy⟩ := lc_use (fun st' => Dr n st st') (fun y => ∃ a : Nat, y = aD a ∧ a < ans) hloop dr (fun x hx st2 dr2 => by
    obtain ⟨a, st3, ha, e3, dr3⟩ := draw (many := ans) (dr2.hg hg) (by omega) (by omega)
    exact ⟨_, aD a, st3, rfl, by simp [wipe_set, e3, aD], dr2.trans dr3, a, rfl, by omega⟩)
  obtain ⟨as, rfl, has⟩ := list_of ys hy
  rw [List.length_map, List.length_map] at l2
  have hb3 : 2 ≤ bigLine := by decide
  exact ⟨ch, as, st2, by simp [runD, hb3], dr2, l, by omega, hch, has⟩
end DD

namespace DD
open PySem L2 PyProof.Rows
theorem app_get {s : Sto} {o : O} : (s ++ [o])[s.length]? = some o := by simp
theorem app_set {s : Sto} {o o' : O} : (s ++ [o]).set s.length o' = s ++ [o'] := by simp [List.set_append]
theorem HG.app {n : Nat} {s : Sto} {o : O} (h : HG n s) : HG n (s ++ [o]) := by
  have := h.lt
  obtain ⟨h, e⟩ := h
  exact ⟨h, by rw [List.getElem?_append_left this]; exact e⟩
theorem Dr.ofApp {n : Nat} {s s' : Sto} {o : O} (hl : n < s.length) (d : Dr n (s ++ [o]) s') : ∃ s2, Dr n s s2 ∧ s' = s2 ++ [o] := by
  obtain ⟨h, rfl⟩ := d
  exact ⟨s.set n (.lst h.ds), ⟨h, rfl⟩, by rw [List.set_append_left n _ hl]⟩
theorem isLst_at {st : Sto} {k : Nat} {ds : List D} (h : st[k]? = some (.lst ds)) : isLst (.ref k) st = true := by simp [isLst, h]
theorem fAppend_at {st : Sto} {k : Nat} {ds : List D} {y : D} (h : st[k]? = some (.lst ds)) (hl : ds.length ≤ bigLine) : fAppend (.ref k) [y] st = .ok .non (st.set k (.lst (ds ++ [y]))) := by
  simp [fAppend, h, hl]
theorem belows_map {α : Type} {f : α → D} {n : Nat} (h : ∀ a, below n (f a) = true) : ∀ l : List α, belows n (l.map f) = true
  | [] => rfl
  | a :: r => by rw [List.map_cons]; unfold belows; rw [h a, belows_map h r]; rfl
theorem noRef_its (its : List (List (List (Nat × Nat)))) : NoRefO (.lst (its.map itD)) := fun n => by
  show belows n (its.map itD) = true
  refine belows_map (fun it => ?_) its
  show belows n (it.map psD) = true
  refine belows_map (fun ps => ?_) it
  show belows n (ps.map pD) = true
  refine belows_map (fun p => ?_) ps
  rfl
theorem world_ok {n : Nat} {st : Sto} {size : Nat} (hg : HG n st) (hr : NoRef st) (h1 : 1 ≤ size) (h2 : size ≤ 12) :
    ∃ (w : Mach) (st' : Sto), m_law_world [.ref n, .int 4, .int (size : Int)] st = .ok w.wD st' ∧ HG n st' ∧ NoRef st' ∧ MachOk w := by
  rw [m_law_world_e]
  obtain ⟨cs, st1, e1, dr1, rok⟩ := rows_ok hg
  obtain ⟨a, st2, ha, e2, dr2⟩ := draw (many := 5) (dr1.hg hg) (by omega) (by omega)
  have dr2 := dr1.trans dr2
  obtain ⟨m, st3, hm, e3, dr3⟩ := draw (many := size) (dr2.hg hg) (by omega) (by omega)
  have dr3 := dr2.trans dr3
  obtain ⟨t, st4, ht, e4, dr4⟩ := draw (many := 5) (dr3.hg hg) (by omega) (by omega)
  have dr4 := dr3.trans dr4
  have hb : 5 ≤ bigLine := by decide
  obtain ⟨ans, ea, ha1, ha3⟩ : ∃ ans : Nat, ([D.int 1, D.int 1, D.int 2, D.int 2, D.int 3] : List D)[a]? = some (.int (ans : Int)) ∧ 1 ≤ ans ∧ ans ≤ 3 := by
    have : a < 5 := by omega
    match a, this with
    | 0, _ => exact ⟨1, rfl, by omega, by omega⟩
    | 1, _ => exact ⟨1, rfl, by omega, by omega⟩
    | 2, _ => exact ⟨2, rfl, by omega, by omega⟩
    | 3, _ => exact ⟨2, rfl, by omega, by omega⟩
    | 4, _ => exact ⟨3, rfl, by omega, by omega⟩
  obtain ⟨top, et, ht1, ht3⟩ : ∃ top : Nat, ([D.int 1, D.int 2, D.int 3, D.int 9, D.int 99] : List D)[t]? = some (.int (top : Int)) ∧ 1 ≤ top ∧ top ≤ 99 := by
    have : t < 5 := by omega
    match t, this with
    | 0, _ => exact ⟨1, rfl, by omega, by omega⟩
    | 1, _ => exact ⟨2, rfl, by omega, by omega⟩
    | 2, _ => exact ⟨3, rfl, by omega, by omega⟩
    | 3, _ => exact ⟨9, rfl, by omega, by omega⟩
    | 4, _ => exact ⟨99, rfl, by omega, by omega⟩
  simp only [mOf_e, d_law_world, dSeq_e, dSet_e]
  simp [e1, e2, e3, e4, hb, ea, et]
  rw [rgR_ok (n := 1 + m) (by omega) (by omega)]
  simp
  generalize hloop : loop _ _ _ _ _ _ = r
  obtain ⟨env', st', rfl, its, e8, e9, rfl, li, hit, st5, dr5, rfl⟩ := for_use (fun i env st' => ∃ (its : List (List (List (Nat × Nat)))) (e8 e9 : Option D), env = [some (D.ref n), some (D.int 4), some (D.int ↑size), some (D.str (tx cs)), some (D.int ↑ans), some (D.int (1 + ↑m)), some (D.int ↑top), some (D.ref (List.length st4)), e8, e9] ∧ its.length = i ∧
      (∀ it ∈ its, it.length = cs.length ∧ ∀ ps ∈ it, ps.length = ans ∧ ∀ p ∈ ps, 1 ≤ p.1 ∧ p.1 ≤ top ∧ p.2 < 1 + m) ∧ ∃ st5, Dr n st st5 ∧ st' = st5 ++ [.lst (its.map itD)])
    hloop ⟨[], none, none, rfl, rfl, (fun _ h => by cases h), st4, dr4, rfl⟩ (fun i x env stc hx hI => by
      obtain ⟨its, e8, e9, rfl, li, hit, st5, dr5, rfl⟩ := hI
      obtain ⟨hi, rfl⟩ := ints_get hx
      have hg5 := dr5.hg hg
      have l5 : st4.length = st5.length := by rw [dr4.len, dr5.len]
      have hcl : cs.length ≤ bigLine := Nat.le_trans rok.2.2.2 (by decide)
      obtain ⟨ys, st6, elc, dr6, ly, hy⟩ := lc_use (fun st' => Dr n (st5 ++ [.lst (its.map itD)]) st') (fun y => ∃ ps : List (Nat × Nat), y = psD ps ∧ (ps.length = ans ∧ ∀ p ∈ ps, 1 ≤ p.1 ∧ p.1 ≤ top ∧ p.2 < 1 + m))
        (g := gdName 9) (de := dOwn m_law_line 4 (dCons (dVar 0) (dCons (dVar 4) (dCons (dVar 5) (dCons (dVar 6) dNil))))) (env := [some (D.ref n), some (D.int 4), some (D.int ↑size), some (D.str (tx cs)), some (D.int ↑ans), some (D.int (1 + ↑m)), some (D.int ↑top), some (D.ref (List.length st4)), some (.int i), none]) (xs := cs.map fun c => .str (tx [c])) rfl (Dr.refl hg5.app) (fun x hx s2 d2 => by
          obtain ⟨ps, s3, e3, d3, lp, hp⟩ := line_ok (ans := ans) (size := 1 + m) (top := top) (d2.hg hg5.app) ha3 (by omega) (by omega) ht1 ht3
          exact ⟨_, psD ps, s3, rfl, by simpa using e3, d2.trans d3, ps, rfl, lp, hp⟩)
      obtain ⟨it, rfl, hps⟩ := list_of ys hy
      obtain ⟨s7, dr7, rfl⟩ := dr6.ofApp hg5.lt
      have l7 : s7.length = st4.length := by rw [dr7.len, l5]
      rw [List.length_map, List.length_map] at ly
      have hget : (s7 ++ [O.lst (its.map itD)])[st4.length]? = some (.lst (its.map itD)) := by rw [← l7]; exact app_get
      have hget5 : (st5 ++ [O.lst (its.map itD)])[st4.length]? = some (.lst (its.map itD)) := by rw [l5]; exact app_get
      have hbl : (its.map itD).length ≤ bigLine := by rw [List.length_map, li]; exact Nat.le_trans (show i ≤ 12 by omega) (by decide)
      refine ⟨_, _, s7 ++ [.lst ((its ++ [it]).map itD)], rfl, .inl ?_, its ++ [it], some (.int i), e9, rfl, by simp [li], ?_, s7, dr5.trans dr7, rfl⟩
      · simp [isLst_at hget5, hcl, wipe_set, elc, fAppend_at hget hbl]
        rw [← l7, app_set]; rfl
      · intro z hz
        rcases List.mem_append.mp hz with q | q
        · exact hit z q
        · rw [List.mem_singleton.mp q]; exact ⟨ly, hps⟩)
  have l5 : st4.length = st5.length := by rw [dr4.len, dr5.len]
  have hget5 : (st5 ++ [O.lst (its.map itD)])[st4.length]? = some (.lst (its.map itD)) := by rw [l5]; exact app_get
  rw [intsD_length] at li
  refine ⟨⟨cs, ans, its⟩, st5 ++ [.lst (its.map itD)], ?_, (dr5.hg hg).app, (hr.dr dr5).app ?_, ⟨rok, ha1, ha3, by simp; omega, by simp; omega, fun it h => ?_⟩⟩
  · have hb3 : 3 ≤ bigLine := by decide
    simp [fTuple_ref hget5, hb3, Mach.wD, mvD]
  · exact noRef_its its
  · obtain ⟨q1, q2⟩ := hit it h
    exact ⟨q1, fun ps hps => ⟨(q2 ps hps).1, fun p hp => by
      have := (q2 ps hps).2 p hp
      simp only at *
      omega⟩⟩
end DD

namespace DD
open PySem L2 PyProof.Rows
section
variable {st : Sto}
theorem big_of {α : Type} {l : List α} {k : Nat} (h : l.length ≤ k) (hk : k ≤ 1000 := by decide) : l.length ≤ bigLine := Nat.le_trans h (Nat.le_trans hk (by decide))
theorem is_integer_ok {a : Int} : m_is_integer [.int a] st = .ok (.bl true) st := by
  rw [m_is_integer_e]; simp [mOf_e, d_is_integer]
theorem is_between_ok {a lo hi : Int} (h1 : lo ≤ a) (h2 : a ≤ hi) : m_is_between [.int a, .int lo, .int hi] st = .ok (.bl true) st := by
  rw [m_is_between_e]; simp [mOf_e, d_is_between, is_integer_ok, h1, h2]
theorem is_tuple_ok {ds : List D} {k : Int} (h : (ds.length : Int) = k) : m_is_tuple [.tup ds, .int k] st = .ok (.bl true) st := by
  rw [m_is_tuple_e]; simp [mOf_e, d_is_tuple, h]
theorem is_code_ok {ch cs : List Nat} (h : ∀ c ∈ ch, c ∈ cs) (hl : ch.length ≤ bigLine) : m_is_code [.str (tx ch), .str (tx cs)] st = .ok (.bl true) st := by
  rw [m_is_code_e]; simp [mOf_e, d_is_code, hl]
  generalize hloop : lcLoop _ _ _ _ _ _ _ = r
  obtain ⟨ys, rfl, ha⟩ := lca_use hloop (fun x hx => by
    obtain ⟨c, hc, rfl⟩ := List.mem_map.mp hx
    exact ⟨_, rfl, by simp [wipe_set, h c hc]⟩)
  simp [ha]
theorem tx_inj {a b : List Nat} : tx a = tx b ↔ a = b := by simp [tx]
noncomputable def dLetters : DS := (dSeq (dIfS (dOr (dNot (dTru (dOwn m_is_code 2 (dCons (dVar 0) (dCons (dVar 1) dNil))))) (dTst (dBin (fEq false) (dVar 0) (dC (.str (tx [])))))) (dRet (dC (.bl false))) dNext)
    (dRet (dCall fAll (dCons (dFz (dLc (dRange1 (dCons (dBin fSub (dCall fLen (dCons (dVar 0) dNil)) (dC (.int 1))) dNil)) (gdName 2) dYes (dBin fLtS (dBin fIx (dVar 0) (dVar 2)) (dBin fIx (dVar 0) (dBin fAdd (dVar 2) (dC (.int 1))))) [2])) dNil))))
theorem d_is_letters_e : d_is_letters = dLetters := by unfold d_is_letters dLetters; rw [tx_nil]
theorem is_letters_ok {cs : List Nat} (h : RowsOk cs) : m_is_letters [.str (tx cs), .str (tx (List.range' 97 26))] st = .ok (.bl true) st := by
  obtain ⟨pw, bd, l1, l4⟩ := h
  have hl : (tx cs).length ≤ bigLine := big_of l4
  have e1 := is_code_ok (st := st) (ch := cs) (cs := List.range' 97 26) (fun c hc => by have := bd c hc; exact List.mem_range'_1.mpr ⟨by omega, by omega⟩) hl
  have e2 : fEq false (.str (tx cs)) (.str (tx [])) st = .ok (.bl false) st := by
    rw [fEq_str (strOk_tx fun c hc => by have := bd c hc; omega) (strOk_tx fun _ h => by cases h)]
    have : ¬ tx cs = tx [] := by rw [tx_inj]; intro z; rw [z] at l1; simp at l1
    simp [this]
  rw [m_is_letters_e, d_is_letters_e]
  simp [mOf_e, dLetters, e1, e2, fLen_str hl]
  rw [rgR_ok (n := cs.length - 1) (by omega) (by omega)]
  have hb : cs.length - 1 ≤ bigLine := Nat.le_trans (Nat.sub_le _ _) hl
  simp [intsD_length, hb]
  generalize hloop : lcLoop _ _ _ _ _ _ _ = r
  obtain ⟨ys, rfl, ha⟩ := lca_use hloop (fun x hx => by
    obtain ⟨i, hi, rfl⟩ := intsD_mem hx
    have i1 : i < cs.length := by omega
    have i2 : i + 1 < cs.length := by omega
    have f1 : fIx (.str (tx cs)) (.int (i : Int)) st = .ok (.str (tx [cs[i]])) st := fIx_str hl (by rw [tx_list]; exact List.getElem?_eq_getElem i1)
    have f2 : fIx (.str (tx cs)) (.int ((i : Int) + 1)) st = .ok (.str (tx [cs[i + 1]])) st := by
      rw [show (i : Int) + 1 = ((i + 1 : Nat) : Int) by omega]
      exact fIx_str hl (by rw [tx_list]; exact List.getElem?_eq_getElem i2)
    have lt : cs[i] < cs[i + 1] := List.pairwise_iff_getElem.mp pw i (i + 1) i1 i2 (by omega)
    exact ⟨_, rfl, by simp [wipe_set, f1, f2]; exact decide_eq_true (List.cons_lt_cons_iff.mpr (.inl lt))⟩)
  simp [ha]
noncomputable def dIsRows : DS := (dRet (dAndV (dOwn m_is_letters 2 (dCons (dVar 0) (dCons (dC (.str (tx (List.range' 97 26)))) dNil))) (dBin fLe (dCall fLen (dCons (dVar 0) dNil)) (dC (.int 4)))))
theorem d_is_rows_e : d_is_rows = dIsRows := by unfold d_is_rows dIsRows; rw [tx_letters]
theorem is_rows_ok {cs : List Nat} (h : RowsOk cs) : m_is_rows [.str (tx cs)] st = .ok (.bl true) st := by
  have hl : (tx cs).length ≤ bigLine := big_of h.2.2.2
  have h4 : (cs.length : Int) ≤ 4 := by have := h.2.2.2; omega
  rw [m_is_rows_e, d_is_rows_e]; simp [mOf_e, dIsRows, is_letters_ok h, fLen_str hl, h4]
theorem is_answers_ok {a : Nat} (h1 : 1 ≤ a) (h3 : a ≤ 3) : m_is_answers [.int (a : Int)] st = .ok (.bl true) st := by
  rw [m_is_answers_e]; simp [mOf_e, d_is_answers, is_between_ok (lo := 1) (hi := 3) (a := (a : Int)) (st := st) (by omega) (by omega)]
theorem is_move_ok {p : Nat × Nat} {size : Nat} (h1 : 1 ≤ p.1) (h2 : p.1 ≤ 99) (h3 : p.2 < size) : m_is_move [pD p, .int (size : Int)] st = .ok (.bl true) st := by
  have e1 := is_between_ok (st := st) (a := (p.1 : Int)) (lo := 1) (hi := 99) (by omega) (by omega)
  have e2 := is_between_ok (st := st) (a := (p.2 : Int)) (lo := 0) (hi := (size : Int) - 1) (by omega) (by omega)
  rw [m_is_move_e]; simp [mOf_e, d_is_move, pD, is_tuple_ok, e1, e2]
theorem are_pairs_ok {ps : List (Nat × Nat)} {ans size : Nat} (hl : ps.length = ans) (ha : ans ≤ 3) (h : ∀ p ∈ ps, 1 ≤ p.1 ∧ p.1 ≤ 99 ∧ p.2 < size) : m_are_pairs [psD ps, .int (ans : Int), .int (size : Int)] st = .ok (.bl true) st := by
  have hb : ps.length ≤ bigLine := big_of (k := 3) (by omega)
  have e1 := is_tuple_ok (st := st) (ds := ps.map pD) (k := ans) (by rw [List.length_map, hl])
  rw [m_are_pairs_e]; simp [mOf_e, d_are_pairs, psD, e1, hb]
  generalize hloop : lcLoop _ _ _ _ _ _ _ = r
  obtain ⟨ys, rfl, ha⟩ := lca_use hloop (fun x hx => by
    obtain ⟨p, hp, rfl⟩ := List.mem_map.mp hx
    obtain ⟨q1, q2, q3⟩ := h p hp
    exact ⟨_, rfl, by simp [wipe_set, is_move_ok q1 q2 q3]⟩)
  simp [ha]
theorem is_item_ok {it : List (List (Nat × Nat))} {rows ans size : Nat} (hl : it.length = rows) (hr : rows ≤ 4) (ha : ans ≤ 3) (h : ∀ ps ∈ it, ps.length = ans ∧ ∀ p ∈ ps, 1 ≤ p.1 ∧ p.1 ≤ 99 ∧ p.2 < size) :
    m_is_item [itD it, .int (rows : Int), .int (ans : Int), .int (size : Int)] st = .ok (.bl true) st := by
  have hb : it.length ≤ bigLine := big_of (k := 4) (by omega)
  have e1 := is_tuple_ok (st := st) (ds := it.map psD) (k := rows) (by rw [List.length_map, hl])
  rw [m_is_item_e]; simp [mOf_e, d_is_item, itD, e1, hb]
  generalize hloop : lcLoop _ _ _ _ _ _ _ = r
  obtain ⟨ys, rfl, ha⟩ := lca_use hloop (fun x hx => by
    obtain ⟨p, hp, rfl⟩ := List.mem_map.mp hx
    obtain ⟨q1, q2⟩ := h p hp
    exact ⟨_, rfl, by simp [wipe_set, are_pairs_ok q1 ha q2]⟩)
  simp [ha]
theorem are_moves_ok {w : Mach} (h : MachOk w) : m_are_moves [mvD w.mv, .str (tx w.rows), .int (w.ans : Int)] st = .ok (.bl true) st := by
  have hb : w.mv.length ≤ bigLine := big_of h.mv12
  have hl : (tx w.rows).length ≤ bigLine := big_of h.rows.2.2.2
  have b1 : (1 : Int) ≤ w.mv.length := by have := h.mv1; omega
  have b2 : (w.mv.length : Int) ≤ 12 := by have := h.mv12; omega
  rw [m_are_moves_e]; simp [mOf_e, d_are_moves, mvD, hb, fLen_str hl, b1, b2]
  generalize hloop : lcLoop _ _ _ _ _ _ _ = r
  obtain ⟨ys, rfl, ha⟩ := lca_use hloop (fun x hx => by
    obtain ⟨it, hp, rfl⟩ := List.mem_map.mp hx
    obtain ⟨q1, q2⟩ := h.it it hp
    exact ⟨_, rfl, by simp [wipe_set, fLen_str hl, is_item_ok q1 h.rows.2.2.2 h.ans3 q2]⟩)
  simp [ha]
end
end DD

namespace DD
open PySem L2 PyProof.Rows
/-! ### objects -/
def setFR (cs : List Str) (f : Str) (x y : D) (env : Env) (st : Sto) : ResS := match x with
  | .ref n => match st[n]? with
    | some (.ins c ns ds) => if c ∈ cs ∧ ns.length ≤ 900 then .nx env (st.set n (.ins c (putD f y ns ds).1 (putD f y ns ds).2)) else .bad
    | _ => .bad
  | _ => .bad
theorem dSetFld_e {cs : List Str} {f : Str} {dv da : DE} {env : Env} {st : Sto} : dSetFld cs f dv da env st = (dv env st).bindS env fun y st1 => (da env st1).bindS env fun x st2 => setFR cs f x y env st2 := rfl
theorem setFR_app {cs : List Str} {f c : Str} {y : D} {env : Env} {s : Sto} {ns : List Str} {ds : List D} (hc : c ∈ cs) (hl : ns.length ≤ 900) :
    setFR cs f (.ref s.length) y env (s ++ [.ins c ns ds]) = .nx env (s ++ [.ins c (putD f y ns ds).1 (putD f y ns ds).2]) := by
  simp only [setFR, app_get, hc, hl, and_self, if_true, app_set]
def mkR (c : Str) (m : M) (n : Nat) (xs : List D) (st1 : Sto) : Res D := dMake c m n (fun _ st => .ok xs st) [] st1
theorem dMake_e {c : Str} {m : M} {n : Nat} {ds : DA} {env : Env} {st : Sto} : dMake c m n ds env st = (ds env st).bind fun xs st1 => mkR c m n xs st1 := by
  unfold mkR dMake; cases ds env st <;> rfl
theorem mkR_ok {c : Str} {m : M} {n : Nat} {xs : List D} {st : Sto} {ns : List Str} {ds : List D} (h : m (.ref st.length :: xs) (st ++ [.ins c [] []]) = .ok .non (st ++ [.ins c ns ds])) (hn : xs.length + 1 = n) (hb : belows st.length ds = true) (hr : NoRef st) :
    mkR c m n xs st = .ok (.obj c ns ds) st := by
  have ha : st.all (belowO st.length) = true := List.all_eq_true.mpr fun o ho => hr o ho _
  have ht : (st ++ [O.ins c ns ds]).take st.length = st := by simp
  have hl : (st ++ [O.ins c ns ds]).length = st.length + 1 := by simp
  unfold mkR dMake
  simp only [Res.bind_ok, hn, if_true, h, app_get, ht, hl, hb, ha, and_self]
def machO (w : Mach) : D := .obj "Machine" ["rows", "answers", "moves", "size"] [.str (tx w.rows), .int (w.ans : Int), mvD w.mv, .int (w.mv.length : Int)]
section
variable {st : Sto} {w : Mach}
theorem belows_mach {n : Nat} : belows n [.str (tx w.rows), .int (w.ans : Int), mvD w.mv, .int (w.mv.length : Int)] = true := by
  have := noRef_its w.mv n
  have : below n (mvD w.mv) = true := this
  simp [belows, below, this]
theorem s_ne : (Str.ofString "rows" : Str) ≠ Str.ofString "answers" ∧ (Str.ofString "rows" : Str) ≠ Str.ofString "moves" ∧ (Str.ofString "rows" : Str) ≠ Str.ofString "size" ∧ (Str.ofString "answers" : Str) ≠ Str.ofString "moves" ∧ (Str.ofString "answers" : Str) ≠ Str.ofString "size" ∧ (Str.ofString "moves" : Str) ≠ Str.ofString "size" := by decide +kernel
theorem init_ok (h : MachOk w) : m_Machine_init [.ref st.length, .str (tx w.rows), .int (w.ans : Int), mvD w.mv] (st ++ [.ins "Machine" [] []]) = .ok .non (st ++ [.ins "Machine" ["rows", "answers", "moves", "size"] [.str (tx w.rows), .int (w.ans : Int), mvD w.mv, .int (w.mv.length : Int)]]) := by
  obtain ⟨n1, n2, n3, n4, n5, n6⟩ := s_ne
  have e0 : ∀ st, fLen [mvD w.mv] st = .ok (.int (w.mv.length : Int)) st := fun st => by simp [mvD]
  have c1 : (Str.ofString "Machine" : Str) ∈ fldC_rows := List.mem_cons_self
  have c2 : (Str.ofString "Machine" : Str) ∈ fldC_answers := List.mem_cons_self
  have c3 : (Str.ofString "Machine" : Str) ∈ fldC_moves := List.mem_cons_self
  have c4 : (Str.ofString "Machine" : Str) ∈ fldC_size := List.mem_cons_self
  rw [m_Machine_init_e]
  simp [mOf_e, d_Machine_init, is_rows_ok h.rows, is_answers_ok h.ans1 h.ans3, are_moves_ok h, dSetFld_e, setFR_app c1, setFR_app c2, setFR_app c3, setFR_app c4, putD, n1, n2, n3, n4, n5, n6, e0]
theorem fld_rows : fFld fldC_rows "rows" (machO w) st = .ok (.str (tx w.rows)) st := by
  simp [fFld, machO, fldC_rows, List.lookup]
theorem fld_answers : fFld fldC_answers "answers" (machO w) st = .ok (.int (w.ans : Int)) st := by
  obtain ⟨n1, n2, n3, n4, n5, n6⟩ := s_ne
  simp [fFld, machO, fldC_answers, List.lookup, beq_false_of_ne n1.symm]
theorem fld_moves : fFld fldC_moves "moves" (machO w) st = .ok (mvD w.mv) st := by
  obtain ⟨n1, n2, n3, n4, n5, n6⟩ := s_ne
  simp [fFld, machO, fldC_moves, List.lookup, beq_false_of_ne n2.symm, beq_false_of_ne n4.symm]
theorem fld_size : fFld fldC_size "size" (machO w) st = .ok (.int (w.mv.length : Int)) st := by
  obtain ⟨n1, n2, n3, n4, n5, n6⟩ := s_ne
  simp [fFld, machO, fldC_size, List.lookup, beq_false_of_ne n3.symm, beq_false_of_ne n5.symm, beq_false_of_ne n6.symm]
/-! ### runs -/
structure RunOk (w : Mach) (ch as : List Nat) : Prop where
  len : ch.length = as.length
  big : ch.length ≤ 1000
  rows : ∀ c ∈ ch, c ∈ w.rows
  ans : ∀ a ∈ as, a < w.ans
theorem is_run_ok {ch as : List Nat} (h : RunOk w ch as) : m_is_run [runD ch as, .str (tx w.rows), .int (w.ans : Int)] st = .ok (.bl true) st := by
  have hb : ch.length ≤ bigLine := big_of h.big
  have hb2 : as.length ≤ bigLine := by rw [← h.len]; exact hb
  have hl : (tx ch).length ≤ bigLine := hb
  have e1 : ∀ st, m_is_tuple [.tup [.str (tx ch), .tup (as.map aD)], .int 2] st = .ok (.bl true) st := fun st => is_tuple_ok rfl
  have e2 : ∀ st, m_is_tuple [.tup (as.map aD), .int (ch.length : Int)] st = .ok (.bl true) st := fun st => is_tuple_ok (by rw [List.length_map, h.len])
  rw [m_is_run_e]
  simp [mOf_e, d_is_run, runD, e1, e2, is_code_ok h.rows hb, fLen_str hl, hb2]
  generalize hloop : lcLoop _ _ _ _ _ _ _ = r
  obtain ⟨ys, rfl, ha⟩ := lca_use hloop (fun x hx => by
    obtain ⟨a, hp, rfl⟩ := List.mem_map.mp hx
    have := h.ans a hp
    have e3 := is_between_ok (st := st) (a := (a : Int)) (lo := 0) (hi := (w.ans : Int) - 1) (by omega) (by omega)
    exact ⟨_, rfl, by simp [wipe_set, aD, e3]⟩)
  simp [ha]
theorem check_run_ok {ch as : List Nat} (h : RunOk w ch as) : m_check_run [machO w, runD ch as] st = .ok .non st := by
  rw [m_check_run_e]; simp [mOf_e, d_check_run, fld_rows, fld_answers, is_run_ok h]
theorem check_standing_ok {at' : Nat} (h : at' < w.mv.length) : m_check_standing [machO w, .int (at' : Int)] st = .ok .non st := by
  have e := is_between_ok (st := st) (a := (at' : Int)) (lo := 0) (hi := (w.mv.length : Int) - 1) (by omega) (by omega)
  rw [m_check_standing_e]; simp [mOf_e, d_check_standing, fld_size, e]
/-! ### ways -/
noncomputable def mvAt (w : Mach) (at' c a : Nat) : Nat × Nat := (((w.mv[at']?).bind fun it => it[(Txt.index0 (tx w.rows) ⟨#[c]⟩).getD 0]?).bind fun ps => ps[a]?).getD (0, 0)
noncomputable def walk (w : Mach) : List Nat → List Nat → Nat → Nat × Nat
  | c :: cs, a :: as, at' => ((mvAt w at' c a).1 + (walk w cs as (mvAt w at' c a).2).1, (walk w cs as (mvAt w at' c a).2).2)
  | _, _, at' => (0, at')
theorem step_ok (h : MachOk w) {at' c a : Nat} (h1 : at' < w.mv.length) (h2 : c ∈ w.rows) (h3 : a < w.ans) :
    ∃ (it : List (List (Nat × Nat))) (ps : List (Nat × Nat)) (t g i : Nat), Txt.index0 (tx w.rows) ⟨#[c]⟩ = some i ∧ Txt.find (tx w.rows) ⟨#[c]⟩ = (i : Int) ∧ w.mv[at']? = some it ∧ it[i]? = some ps ∧ ps[a]? = some (t, g) ∧ mvAt w at' c a = (t, g) ∧ g < w.mv.length := by
  obtain ⟨i, hi, e1, e2⟩ := ix_of (x := tx w.rows) (c := c) h2
  have hi : i < w.rows.length := hi
  have q1 := h.it _ (List.getElem_mem h1)
  have hi2 : i < w.mv[at'].length := by rw [q1.1]; exact hi
  have q2 := q1.2 _ (List.getElem_mem hi2)
  have ha : a < (w.mv[at'][i]).length := by rw [q2.1]; exact h3
  have q3 := q2.2 _ (List.getElem_mem ha)
  refine ⟨w.mv[at'], w.mv[at'][i], (w.mv[at'][i][a]).1, (w.mv[at'][i][a]).2, i, e1, e2, List.getElem?_eq_getElem h1, List.getElem?_eq_getElem hi2, List.getElem?_eq_getElem ha, ?_, q3.2.2⟩
  simp [mvAt, e1, List.getElem?_eq_getElem h1, List.getElem?_eq_getElem hi2, List.getElem?_eq_getElem ha]
theorem walk_lt (h : MachOk w) : ∀ {ch as : List Nat} {at' : Nat}, at' < w.mv.length → (∀ c ∈ ch, c ∈ w.rows) → (∀ a ∈ as, a < w.ans) → (walk w ch as at').2 < w.mv.length
  | [], _, _, h1, _, _ => by simpa [walk] using h1
  | _ :: _, [], _, h1, _, _ => by simpa [walk] using h1
  | c :: ch, a :: as, at', h1, h2, h3 => by
    obtain ⟨it, ps, t, g, i, _, _, _, _, _, e, hg⟩ := step_ok h h1 (h2 c List.mem_cons_self) (h3 a List.mem_cons_self)
    simp only [walk, e]
    exact walk_lt h hg (fun c hc => h2 c (List.mem_cons_of_mem _ hc)) (fun a ha => h3 a (List.mem_cons_of_mem _ ha))
theorem walk_app : ∀ {c1 a1 c2 a2 : List Nat} {at' : Nat}, c1.length = a1.length → walk w (c1 ++ c2) (a1 ++ a2) at' = ((walk w c1 a1 at').1 + (walk w c2 a2 (walk w c1 a1 at').2).1, (walk w c2 a2 (walk w c1 a1 at').2).2)
  | [], [], _, _, _, _ => by simp [walk]
  | [], _ :: _, _, _, _, h => by simp at h
  | _ :: _, [], _, _, _, h => by simp at h
  | c :: c1, a :: a1, c2, a2, at', h => by
    have ih := walk_app (c1 := c1) (a1 := a1) (c2 := c2) (a2 := a2) (at' := (mvAt w at' c a).2) (by simpa using h)
    simp only [List.cons_append, walk, ih, Nat.add_assoc]
theorem loop_step {g : DG} {d : DS} {x : D} {r : List D} {env env1 env2 : Env} {st2 : Sto} (h1 : g x env = some env1) (h2 : d env1 st = .nx env2 st2) : loop g d yes (x :: r) env st = loop g d yes r env2 st2 := by
  conv => lhs; unfold loop
  simp only [yes, if_true, h1, h2]
theorem walked_ok (h : MachOk w) {ch as : List Nat} {at' : Nat} (h1 : at' < w.mv.length) (hr : RunOk w ch as) : m_walked [machO w, .int (at' : Int), runD ch as] st = .ok (.tup [.int ((walk w ch as at').1 : Int), .int ((walk w ch as at').2 : Int)]) st := by
  rw [m_walked_e]
  simp [mOf_e, d_walked, runD]
  generalize hB : dSeq (dAsg _ _) _ = B
  have key : ∀ (cs bs : List Nat) (here : Nat) (tot : Int) (e7 e8 e9 : Option D), (∀ c ∈ cs, c ∈ w.rows) → (∀ a ∈ bs, a < w.ans) → here < w.mv.length → ∃ e7' e8' e9' : Option D,
      loop (gdTup 2 (gdCons (gdName 7) (gdCons (gdName 8) gdNil))) B yes (pairsD (cs.map fun c => .str (tx [c])) (bs.map aD)) [some (machO w), some (.int (at' : Int)), some (.tup [.str (tx ch), .tup (as.map aD)]), some (.str (tx ch)), some (.tup (as.map aD)), some (.int tot), some (.int (here : Int)), e7, e8, e9] st =
        .nx [some (machO w), some (.int (at' : Int)), some (.tup [.str (tx ch), .tup (as.map aD)]), some (.str (tx ch)), some (.tup (as.map aD)), some (.int (tot + (walk w cs bs here).1)), some (.int ((walk w cs bs here).2 : Int)), e7', e8', e9'] st := by
    intro cs
    induction cs with
    | nil => intro bs here tot e7 e8 e9 _ _ _; exact ⟨e7, e8, e9, by simp [pairsD, loop, walk, yes]⟩
    | cons c cs ih =>
      intro bs here tot e7 e8 e9 q1 q2 q3
      cases bs with
      | nil => exact ⟨e7, e8, e9, by simp [pairsD, loop, walk, yes]⟩
      | cons a bs =>
        obtain ⟨it, ps, t, g, i, x1, x2, x3, x4, x5, x6, x7⟩ := step_ok h q3 (q1 c List.mem_cons_self) (q2 a List.mem_cons_self)
        obtain ⟨e7', e8', e9', e⟩ := ih bs g (tot + t) (some (.str (tx [c]))) (some (.int (a : Int))) (some (.int (t : Int))) (fun c hc => q1 c (List.mem_cons_of_mem _ hc)) (fun a ha => q2 a (List.mem_cons_of_mem _ ha)) x7
        refine ⟨e7', e8', e9', ?_⟩
        rw [List.map_cons, List.map_cons, pairsD, loop_step (env1 := [some (machO w), some (.int (at' : Int)), some (.tup [.str (tx ch), .tup (as.map aD)]), some (.str (tx ch)), some (.tup (as.map aD)), some (.int tot), some (.int (here : Int)), some (.str (tx [c])), some (.int (a : Int)), e9]) (env2 := [some (machO w), some (.int (at' : Int)), some (.tup [.str (tx ch), .tup (as.map aD)]), some (.str (tx ch)), some (.tup (as.map aD)), some (.int (tot + t)), some (.int (g : Int)), some (.str (tx [c])), some (.int (a : Int)), some (.int (t : Int))]) (st2 := st) (by simp [aD]) (by
          subst hB
          have xi : fIndex (.str (tx w.rows)) [.str (tx [c])] st = .ok (.int (i : Int)) st := by simp only [fIndex]; rw [show (tx [c]) = ⟨#[c]⟩ from rfl, x1]
          simp [fld_moves, fld_rows, isStr, xi, mvD, itD, psD, pD, x3, x4, x5, dAug]), e]
        simp only [walk, x6]
        simp
        omega
  obtain ⟨e7, e8, e9, e⟩ := key ch as at' 0 none none none hr.rows hr.ans h1
  rw [e]
  have hb : 2 ≤ bigLine := by decide
  simp [hb]
end
end DD

namespace DD
open PySem L2 PyProof.Rows
section
variable {st : Sto} {w : Mach}
theorem wD0 : fIx w.wD (.int 0) st = .ok (.str (tx w.rows)) st := by simp [Mach.wD]
theorem wD1 : fIx w.wD (.int 1) st = .ok (.int (w.ans : Int)) st := by simp [Mach.wD]
theorem wD2 : fIx w.wD (.int 2) st = .ok (mvD w.mv) st := by simp [Mach.wD]
theorem runD0 {ch as : List Nat} : fIx (runD ch as) (.int 0) st = .ok (.str (tx ch)) st := by simp [runD]
theorem runD1 {ch as : List Nat} : fIx (runD ch as) (.int 1) st = .ok (.tup (as.map aD)) st := by simp [runD]
theorem led_ok (h : MachOk w) {ch as : List Nat} {at' : Nat} (h1 : at' < w.mv.length) (hr : RunOk w ch as) : m_law_led [w.wD, .int (at' : Int), runD ch as] st = .ok (.tup [.int ((walk w ch as at').1 : Int), .int ((walk w ch as at').2 : Int)]) st := by
  rw [m_law_led_e]
  simp [mOf_e, d_law_led, runD0, runD1]
  generalize hB : dSeq (dAsg _ _) _ = B
  have key : ∀ (cs bs : List Nat) (here : Nat) (tot : Int) (e4 e5 e6 : Option D), (∀ c ∈ cs, c ∈ w.rows) → (∀ a ∈ bs, a < w.ans) → here < w.mv.length → ∃ e4' e5' e6' : Option D,
      loop (gdTup 2 (gdCons (gdName 4) (gdCons (gdName 5) gdNil))) B yes (pairsD (cs.map fun c => .str (tx [c])) (bs.map aD)) [some w.wD, some (.int (here : Int)), some (runD ch as), some (.int tot), e4, e5, e6] st =
        .nx [some w.wD, some (.int ((walk w cs bs here).2 : Int)), some (runD ch as), some (.int (tot + (walk w cs bs here).1)), e4', e5', e6'] st := by
    intro cs
    induction cs with
    | nil => intro bs here tot e7 e8 e9 _ _ _; exact ⟨e7, e8, e9, by simp [pairsD, loop, walk, yes]⟩
    | cons c cs ih =>
      intro bs here tot e4 e5 e6 q1 q2 q3
      cases bs with
      | nil => exact ⟨e4, e5, e6, by simp [pairsD, loop, walk, yes]⟩
      | cons a bs =>
        obtain ⟨it, ps, t, g, i, x1, x2, x3, x4, x5, x6, x7⟩ := step_ok h q3 (q1 c List.mem_cons_self) (q2 a List.mem_cons_self)
        obtain ⟨e7', e8', e9', e⟩ := ih bs g (tot + t) (some (.str (tx [c]))) (some (.int (a : Int))) (some (.int (t : Int))) (fun c hc => q1 c (List.mem_cons_of_mem _ hc)) (fun a ha => q2 a (List.mem_cons_of_mem _ ha)) x7
        refine ⟨e7', e8', e9', ?_⟩
        rw [List.map_cons, List.map_cons, pairsD, loop_step (env1 := [some w.wD, some (.int (here : Int)), some (runD ch as), some (.int tot), some (.str (tx [c])), some (.int (a : Int)), e6]) (env2 := [some w.wD, some (.int (g : Int)), some (runD ch as), some (.int (tot + t)), some (.str (tx [c])), some (.int (a : Int)), some (.int (t : Int))]) (st2 := st) (by simp [aD]) (by
          subst hB
          have xi : fFind (.str (tx w.rows)) [.str (tx [c])] st = .ok (.int (i : Int)) st := by simp only [fFind]; rw [show (tx [c]) = ⟨#[c]⟩ from rfl, x2]
          have xm : fIx (mvD w.mv) (.int (here : Int)) st = .ok (itD it) st := by simp [mvD, x3]
          have xp : fIx (itD it) (.int (i : Int)) st = .ok (psD ps) st := by simp [itD, x4]
          have xa : fIx (psD ps) (.int (a : Int)) st = .ok (.tup [.int (t : Int), .int (g : Int)]) st := by simp [psD, pD, x5]
          simp [wD0, wD2, isStr, xi, xm, xp, xa]), e]
        simp only [walk, x6]
        simp
        omega
  obtain ⟨e7, e8, e9, e⟩ := key ch as at' 0 none none none hr.rows hr.ans h1
  rw [e]
  have hb : 2 ≤ bigLine := by decide
  simp [hb]
theorem ticks_ok (h : MachOk w) {ch as : List Nat} (hr : RunOk w ch as) : m_ticks [machO w, runD ch as] st = .ok (.int ((walk w ch as 0).1 : Int)) st := by
  have e := walked_ok (st := st) h (at' := 0) h.mv1 hr
  simp only [Int.natCast_zero, Int.ofNat_zero] at e
  have e : m_walked [machO w, .int 0, runD ch as] st = _ := e
  rw [m_ticks_e]; simp [mOf_e, d_ticks, check_run_ok hr, e]
theorem standing_ok (h : MachOk w) {ch as : List Nat} (hr : RunOk w ch as) : m_standing [machO w, runD ch as] st = .ok (.int ((walk w ch as 0).2 : Int)) st := by
  have e := walked_ok (st := st) h (at' := 0) h.mv1 hr
  have e : m_walked [machO w, .int 0, runD ch as] st = _ := e
  rw [m_standing_e]; simp [mOf_e, d_standing, check_run_ok hr, e]
theorem ticks_from_ok (h : MachOk w) {ch as : List Nat} {at' : Nat} (h1 : at' < w.mv.length) (hr : RunOk w ch as) : m_ticks_from [machO w, .int (at' : Int), runD ch as] st = .ok (.int ((walk w ch as at').1 : Int)) st := by
  rw [m_ticks_from_e]; simp [mOf_e, d_ticks_from, check_run_ok hr, check_standing_ok h1, walked_ok h h1 hr]
theorem standing_from_ok (h : MachOk w) {ch as : List Nat} {at' : Nat} (h1 : at' < w.mv.length) (hr : RunOk w ch as) : m_standing_from [machO w, .int (at' : Int), runD ch as] st = .ok (.int ((walk w ch as at').2 : Int)) st := by
  rw [m_standing_from_e]; simp [mOf_e, d_standing_from, check_run_ok hr, check_standing_ok h1, walked_ok h h1 hr]
theorem make_ok (h : MachOk w) (hr : NoRef st) : mkR "Machine" m_Machine_init 4 [.str (tx w.rows), .int (w.ans : Int), mvD w.mv] st = .ok (machO w) st :=
  mkR_ok (init_ok h) rfl belows_mach hr
end
theorem for_use1 {g : DG} {d : DS} {xs : List D} {env : Env} {st : Sto} {r : ResS} (I : Nat → Env → Sto → Prop) (h : loop g d yes xs env st = r) (h0 : I 0 env st)
    (hs : ∀ i x env st, xs[i]? = some x → I i env st → ∃ env1, g x env = some env1 ∧ ∃ env2 st2, d env1 st = .nx env2 st2 ∧ I (i + 1) env2 st2) :
    ∃ env' st', r = .nx env' st' ∧ I xs.length env' st' :=
  for_use I h h0 fun i x env st hx hi => by
    obtain ⟨env1, e1, env2, st2, e2, i2⟩ := hs i x env st hx hi
    exact ⟨env1, env2, st2, e1, .inl e2, i2⟩
def LawI (s0 : D) : Nat → Env → Sto → Prop := fun _ env st => ∃ e2 e3 e4 e5 e6 e7 e8 e9 e10 : Option D, env = [some s0, some (.ref 0), e2, e3, e4, e5, e6, e7, e8, e9, e10] ∧ HG 0 st ∧ NoRef st
def LawJ (st5 : Sto) (l : List (Option D)) : Nat → Env → Sto → Prop := fun _ env st => st = st5 ∧ ∃ e8 e9 e10 : Option D, env = l ++ [e8, e9, e10]
theorem law_ok (ns : List Int) (hl : ns.length ≤ 63) : ∃ st', m_law [.sc (ns.map .int)] [] = .ok (.bl true) st' := by
  obtain ⟨h, e0⟩ := hand_ok (st := []) hl
  have e0 : m_law_hand [.sc (ns.map .int)] [] = .ok (.ref 0) [.lst h.ds] := e0
  rw [m_law_e]
  simp [mOf_e, d_law, e0]
  rw [rgR_ok (j := 2) (n := 2) rfl (by omega)]
  simp
  generalize hloop : loop _ _ _ _ _ _ = r
  obtain ⟨env', st', rfl, _⟩ := for_use1 (LawI (.sc (ns.map .int))) hloop ⟨none, none, none, none, none, none, none, none, none, rfl, ⟨h, rfl⟩, fun o ho => by rw [List.mem_singleton.mp ho]; exact noRef_hand h⟩ (fun i x env st hx hI => by
    obtain ⟨e2, e3, e4, e5, e6, e7, e8, e9, e10, rfl, hg, hr⟩ := hI
    refine ⟨_, rfl, ?_⟩
    clear hloop
    obtain ⟨a, st1, ha, d1, dr1⟩ := draw (many := 2) hg (by omega) (by omega)
    obtain ⟨size, es, hs1, hs12⟩ : ∃ size : Nat, ([D.int 4, D.int 12] : List D)[a]? = some (.int (size : Int)) ∧ 1 ≤ size ∧ size ≤ 12 := by
      have : a < 2 := by omega
      match a, this with
      | 0, _ => exact ⟨4, rfl, by omega, by omega⟩
      | 1, _ => exact ⟨12, rfl, by omega, by omega⟩
    obtain ⟨w, st2, d2, hg2, hr2, hw⟩ := world_ok (dr1.hg hg) (hr.dr dr1) hs1 hs12
    have d3 := make_ok (st := st2) hw hr2
    obtain ⟨b, st4, hb, d4, dr4⟩ := draw (many := 4) hg2 (by omega) (by omega)
    obtain ⟨k1, ek, hk⟩ : ∃ k : Nat, ([D.int 0, D.int 1, D.int 5, D.int 30] : List D)[b]? = some (.int (k : Int)) ∧ k ≤ 30 := by
      have : b < 4 := by omega
      match b, this with
      | 0, _ => exact ⟨0, rfl, by omega⟩
      | 1, _ => exact ⟨1, rfl, by omega⟩
      | 2, _ => exact ⟨5, rfl, by omega⟩
      | 3, _ => exact ⟨30, rfl, by omega⟩
    have hg4 := dr4.hg hg2
    obtain ⟨c1, a1, st5, d5, dr5, l5, l5', m5, n5⟩ := run_ok hg4 hw.rows hw.ans1 hw.ans3 hk
    have hg5 := dr5.hg hg4
    obtain ⟨k2, st6, hk2, d6, dr6⟩ := draw (many := 12) hg5 (by omega) (by omega)
    have hg6 := dr6.hg hg5
    obtain ⟨c2, a2, st7, d7, dr7, l7, l7', m7, n7⟩ := run_ok (many := k2) hg6 hw.rows hw.ans1 hw.ans3 (by omega)
    have hg7 := dr7.hg hg6
    have hr7 : NoRef st7 := (((hr2.dr dr4).dr dr5).dr dr6).dr dr7
    have r1 : RunOk w c1 a1 := ⟨by omega, by omega, m5, n5⟩
    have r2 : RunOk w c2 a2 := ⟨by omega, by omega, m7, n7⟩
    have r3 : RunOk w (c1 ++ c2) (a1 ++ a2) := ⟨by simp; omega, by simp; omega, fun c hc => (List.mem_append.mp hc).elim (m5 c) (m7 c), fun c hc => (List.mem_append.mp hc).elim (n5 c) (n7 c)⟩
    have r0 : RunOk w [] [] := ⟨rfl, by simp, fun _ h => by (cases h), fun _ h => by (cases h)⟩
    have hboth : D.tup [.str (tx (c1 ++ c2)), .tup (a1.map aD ++ a2.map aD)] = runD (c1 ++ c2) (a1 ++ a2) := by simp [runD]
    have hemp : D.tup [.str (tx []), .tup []] = runD [] [] := rfl
    have b2 : 2 ≤ bigLine := by decide
    have b4 : 4 ≤ bigLine := by decide
    have b5 : c1.length + c2.length ≤ bigLine := Nat.le_trans (show c1.length + c2.length ≤ 1000 by omega) (by decide)
    have b6 : a1.length + a2.length ≤ bigLine := Nat.le_trans (show a1.length + a2.length ≤ 1000 by omega) (by decide)
    have led := led_ok (st := st7) hw (at' := 0) hw.mv1 r1
    have led : m_law_led [w.wD, .int 0, runD c1 a1] st7 = _ := led
    simp [d1, es, d2, wD0, wD1, wD2, dMake_e, d3, d4, ek, d5, d6, d7, runD0, runD1, b2, b4, b5, b6, hboth, ticks_ok hw r1, standing_ok hw r1, led, fld_size]
    rw [rgR_ok (n := w.mv.length) rfl (by have := hw.mv12; omega)]
    simp
    generalize hloop : loop _ _ _ _ _ _ = r
    obtain ⟨env', st', rfl, rfl, e8', e9', e10', rfl⟩ := for_use1 (LawJ st7 [some (D.sc (List.map D.int ns)), some (D.ref 0), some x, some w.wD, some (machO w), some (runD c1 a1), some (runD c2 a2), some (runD (c1 ++ c2) (a1 ++ a2))]) hloop ⟨rfl, e8, e9, e10, rfl⟩ (fun j y env st hy hJ => by
      obtain ⟨rfl, e8, e9, e10, rfl⟩ := hJ
      obtain ⟨hj, rfl⟩ := ints_get hy
      have hm := walk_lt hw hj m5 n5
      have wa := walk_app (w := w) (c1 := c1) (a1 := a1) (c2 := c2) (a2 := a2) (at' := j) (by omega)
      have t3 := ticks_from_ok (st := st) hw hj r3
      have s3 := standing_from_ok (st := st) hw hj r3
      have f3 := led_ok (st := st) hw hj r3
      rw [wa] at t3 s3 f3
      have t0 := ticks_from_ok (st := st) hw hj r0
      have s0 := standing_from_ok (st := st) hw hj r0
      have w0 : walk w [] [] j = (0, j) := by simp [walk]
      rw [w0] at t0 s0
      simp only at t3 s3 f3 t0 s0
      refine ⟨_, rfl, _, st, ?_, rfl, some (.int (j : Int)), some (.tup [.int (((walk w c1 a1 j).1 + (walk w c2 a2 (walk w c1 a1 j).2).1 : Nat) : Int), .int ((walk w c2 a2 (walk w c1 a1 j).2).2 : Int)]), some (.int ((walk w c1 a1 j).2 : Int)), rfl⟩
      simp [t3, s3, f3, b2, standing_from_ok hw hj r1, ticks_from_ok hw hj r1, ticks_from_ok hw hm r2, standing_from_ok hw hm r2, tx_nil, hemp, t0, s0])
    exact ⟨_, _, rfl, some x, some w.wD, some (machO w), some (runD c1 a1), some (runD c2 a2), some (runD (c1 ++ c2) (a1 ++ a2)), e8', e9', e10', rfl, hg7, hr7⟩)
  simp
end DD

namespace DD
open PySem L2 PyProof.Rows
theorem all_mk {l : PySem.W.OpenLaw} {w : World} {K : PySem.W.Frag} {h : Heap} {mg : Str → Option Value} {fa : Addr} (X : K.In h) (G : h.Ns mainGlobals mg) (hfa : mg "law" = some (.ref fa))
    {C_Machine : Addr}
    {f0 : Addr} {od0 an0 : Option Addr} {sl0 : Array (Option Value)} {oc0 kV0 dc0 pm0 cd0 ct0 : Value}
    {f1 : Addr} {od1 an1 : Option Addr} {sl1 : Array (Option Value)} {oc1 kV1 dc1 pm1 cd1 ct1 : Value}
    {f2 : Addr} {od2 an2 : Option Addr} {sl2 : Array (Option Value)} {oc2 kV2 dc2 pm2 cd2 ct2 : Value}
    {f3 : Addr} {od3 an3 : Option Addr} {sl3 : Array (Option Value)} {oc3 kV3 dc3 pm3 cd3 ct3 : Value}
    {f4 : Addr} {od4 an4 : Option Addr} {sl4 : Array (Option Value)} {oc4 kV4 dc4 pm4 cd4 ct4 : Value}
    {f5 : Addr} {od5 an5 : Option Addr} {sl5 : Array (Option Value)} {oc5 kV5 dc5 pm5 cd5 ct5 : Value}
    {f6 : Addr} {od6 an6 : Option Addr} {sl6 : Array (Option Value)} {oc6 kV6 dc6 pm6 cd6 ct6 : Value}
    {f7 : Addr} {od7 an7 : Option Addr} {sl7 : Array (Option Value)} {oc7 kV7 dc7 pm7 cd7 ct7 : Value}
    {f8 : Addr} {od8 an8 : Option Addr} {sl8 : Array (Option Value)} {oc8 kV8 dc8 pm8 cd8 ct8 : Value}
    {f9 : Addr} {od9 an9 : Option Addr} {sl9 : Array (Option Value)} {oc9 kV9 dc9 pm9 cd9 ct9 : Value}
    {f10 : Addr} {od10 an10 : Option Addr} {sl10 : Array (Option Value)} {oc10 kV10 dc10 pm10 cd10 ct10 : Value}
    {f11 : Addr} {od11 an11 : Option Addr} {sl11 : Array (Option Value)} {oc11 kV11 dc11 pm11 cd11 ct11 : Value}
    {f12 : Addr} {od12 an12 : Option Addr} {sl12 : Array (Option Value)} {oc12 kV12 dc12 pm12 cd12 ct12 : Value}
    {f13 : Addr} {od13 an13 : Option Addr} {sl13 : Array (Option Value)} {oc13 kV13 dc13 pm13 cd13 ct13 : Value}
    {f14 : Addr} {od14 an14 : Option Addr} {sl14 : Array (Option Value)} {oc14 kV14 dc14 pm14 cd14 ct14 : Value}
    {f15 : Addr} {od15 an15 : Option Addr} {sl15 : Array (Option Value)} {oc15 kV15 dc15 pm15 cd15 ct15 : Value}
    {f16 : Addr} {od16 an16 : Option Addr} {sl16 : Array (Option Value)} {oc16 kV16 dc16 pm16 cd16 ct16 : Value}
    {f17 : Addr} {od17 an17 : Option Addr} {sl17 : Array (Option Value)} {oc17 kV17 dc17 pm17 cd17 ct17 : Value}
    {f18 : Addr} {od18 an18 : Option Addr} {sl18 : Array (Option Value)} {oc18 kV18 dc18 pm18 cd18 ct18 : Value}
    {f19 : Addr} {od19 an19 : Option Addr} {sl19 : Array (Option Value)} {oc19 kV19 dc19 pm19 cd19 ct19 : Value}
    {f20 : Addr} {od20 an20 : Option Addr} {sl20 : Array (Option Value)} {oc20 kV20 dc20 pm20 cd20 ct20 : Value}
    {f21 : Addr} {od21 an21 : Option Addr} {sl21 : Array (Option Value)} {oc21 kV21 dc21 pm21 cd21 ct21 : Value}
    {f22 : Addr} {od22 an22 : Option Addr} {sl22 : Array (Option Value)} {oc22 kV22 dc22 pm22 cd22 ct22 : Value}
    {f23 : Addr} {od23 an23 : Option Addr} {sl23 : Array (Option Value)} {oc23 kV23 dc23 pm23 cd23 ct23 : Value}
    {f24 : Addr} {od24 an24 : Option Addr} {sl24 : Array (Option Value)} {oc24 kV24 dc24 pm24 cd24 ct24 : Value}
    {f25 : Addr} {od25 an25 : Option Addr} {sl25 : Array (Option Value)} {oc25 kV25 dc25 pm25 cd25 ct25 : Value}
    {f26 : Addr} {od26 an26 : Option Addr} {sl26 : Array (Option Value)} {oc26 kV26 dc26 pm26 cd26 ct26 : Value}
    {f27 : Addr} {od27 an27 : Option Addr} {sl27 : Array (Option Value)} {oc27 kV27 dc27 pm27 cd27 ct27 : Value}
    {tc_LETTERS : Tok}
    (aC_Machine : PySem.W.nsIn K mainGlobals "Machine" = some (some (.ref C_Machine)))
    (pg_Machine : PySem.W.plainGet K C_Machine Str.empty = true)
    (hd_Machine : PySem.W.hasDictIn K C_Machine = true)
    (po_Machine : PySem.W.plainOver K C_Machine = true)
    (sa_Machine : PySem.W.findIn K (.ref C_Machine) "__setattr__" = some (some (.builtin "object.__setattr__")))
    (mk_Machine : PySem.W.makesIn K C_Machine = true)
    (kc_Machine : PySem.W.keepIn K (.ref C_Machine) = true)
    (nf_Machine_answers : PySem.W.findIn K (.ref C_Machine) "answers" = some none)
    (nf_Machine_moves : PySem.W.findIn K (.ref C_Machine) "moves" = some none)
    (nf_Machine_rows : PySem.W.findIn K (.ref C_Machine) "rows" = some none)
    (nf_Machine_size : PySem.W.findIn K (.ref C_Machine) "size" = some none)
    (a0 : PySem.W.nsIn K mainGlobals "_law_hand" = some (some (.ref f0)))
    (l0 : K.lookup f0 = some ⟨oc0, od0, .func (PySem.W.fnOf "_law_hand" "_law_hand" (defArgs s_law_hand) (defBody s_law_hand) (defScope s_law_hand) .none kV0 dc0 pm0 an0 cd0 ct0), sl0⟩)
    (c0 : PySem.W.codeIn K cd0 "_law_hand" = true)
    (k0 : PySem.W.keepIn K (.ref f0) = true)
    (a1 : PySem.W.nsIn K mainGlobals "_law_draw" = some (some (.ref f1)))
    (l1 : K.lookup f1 = some ⟨oc1, od1, .func (PySem.W.fnOf "_law_draw" "_law_draw" (defArgs s_law_draw) (defBody s_law_draw) (defScope s_law_draw) .none kV1 dc1 pm1 an1 cd1 ct1), sl1⟩)
    (c1 : PySem.W.codeIn K cd1 "_law_draw" = true)
    (k1 : PySem.W.keepIn K (.ref f1) = true)
    (a2 : PySem.W.nsIn K mainGlobals "_law_rows" = some (some (.ref f2)))
    (l2 : K.lookup f2 = some ⟨oc2, od2, .func (PySem.W.fnOf "_law_rows" "_law_rows" (defArgs s_law_rows) (defBody s_law_rows) (defScope s_law_rows) .none kV2 dc2 pm2 an2 cd2 ct2), sl2⟩)
    (c2 : PySem.W.codeIn K cd2 "_law_rows" = true)
    (k2 : PySem.W.keepIn K (.ref f2) = true)
    (a3 : PySem.W.nsIn K mainGlobals "_law_line" = some (some (.ref f3)))
    (l3 : K.lookup f3 = some ⟨oc3, od3, .func (PySem.W.fnOf "_law_line" "_law_line" (defArgs s_law_line) (defBody s_law_line) (defScope s_law_line) .none kV3 dc3 pm3 an3 cd3 ct3), sl3⟩)
    (c3 : PySem.W.codeIn K cd3 "_law_line" = true)
    (k3 : PySem.W.keepIn K (.ref f3) = true)
    (a4 : PySem.W.nsIn K mainGlobals "_law_world" = some (some (.ref f4)))
    (l4 : K.lookup f4 = some ⟨oc4, od4, .func (PySem.W.fnOf "_law_world" "_law_world" (defArgs s_law_world) (defBody s_law_world) (defScope s_law_world) .none kV4 dc4 pm4 an4 cd4 ct4), sl4⟩)
    (c4 : PySem.W.codeIn K cd4 "_law_world" = true)
    (k4 : PySem.W.keepIn K (.ref f4) = true)
    (a5 : PySem.W.nsIn K mainGlobals "is_code" = some (some (.ref f5)))
    (l5 : K.lookup f5 = some ⟨oc5, od5, .func (PySem.W.fnOf "is_code" "is_code" (defArgs s_is_code) (defBody s_is_code) (defScope s_is_code) .none kV5 dc5 pm5 an5 cd5 ct5), sl5⟩)
    (c5 : PySem.W.codeIn K cd5 "is_code" = true)
    (k5 : PySem.W.keepIn K (.ref f5) = true)
    (a6 : PySem.W.nsIn K mainGlobals "is_letters" = some (some (.ref f6)))
    (l6 : K.lookup f6 = some ⟨oc6, od6, .func (PySem.W.fnOf "is_letters" "is_letters" (defArgs s_is_letters) (defBody s_is_letters) (defScope s_is_letters) .none kV6 dc6 pm6 an6 cd6 ct6), sl6⟩)
    (c6 : PySem.W.codeIn K cd6 "is_letters" = true)
    (k6 : PySem.W.keepIn K (.ref f6) = true)
    (a7 : PySem.W.nsIn K mainGlobals "is_rows" = some (some (.ref f7)))
    (l7 : K.lookup f7 = some ⟨oc7, od7, .func (PySem.W.fnOf "is_rows" "is_rows" (defArgs s_is_rows) (defBody s_is_rows) (defScope s_is_rows) .none kV7 dc7 pm7 an7 cd7 ct7), sl7⟩)
    (c7 : PySem.W.codeIn K cd7 "is_rows" = true)
    (k7 : PySem.W.keepIn K (.ref f7) = true)
    (a8 : PySem.W.nsIn K mainGlobals "is_integer" = some (some (.ref f8)))
    (l8 : K.lookup f8 = some ⟨oc8, od8, .func (PySem.W.fnOf "is_integer" "is_integer" (defArgs s_is_integer) (defBody s_is_integer) (defScope s_is_integer) .none kV8 dc8 pm8 an8 cd8 ct8), sl8⟩)
    (c8 : PySem.W.codeIn K cd8 "is_integer" = true)
    (k8 : PySem.W.keepIn K (.ref f8) = true)
    (a9 : PySem.W.nsIn K mainGlobals "is_between" = some (some (.ref f9)))
    (l9 : K.lookup f9 = some ⟨oc9, od9, .func (PySem.W.fnOf "is_between" "is_between" (defArgs s_is_between) (defBody s_is_between) (defScope s_is_between) .none kV9 dc9 pm9 an9 cd9 ct9), sl9⟩)
    (c9 : PySem.W.codeIn K cd9 "is_between" = true)
    (k9 : PySem.W.keepIn K (.ref f9) = true)
    (a10 : PySem.W.nsIn K mainGlobals "is_answers" = some (some (.ref f10)))
    (l10 : K.lookup f10 = some ⟨oc10, od10, .func (PySem.W.fnOf "is_answers" "is_answers" (defArgs s_is_answers) (defBody s_is_answers) (defScope s_is_answers) .none kV10 dc10 pm10 an10 cd10 ct10), sl10⟩)
    (c10 : PySem.W.codeIn K cd10 "is_answers" = true)
    (k10 : PySem.W.keepIn K (.ref f10) = true)
    (a11 : PySem.W.nsIn K mainGlobals "is_tuple" = some (some (.ref f11)))
    (l11 : K.lookup f11 = some ⟨oc11, od11, .func (PySem.W.fnOf "is_tuple" "is_tuple" (defArgs s_is_tuple) (defBody s_is_tuple) (defScope s_is_tuple) .none kV11 dc11 pm11 an11 cd11 ct11), sl11⟩)
    (c11 : PySem.W.codeIn K cd11 "is_tuple" = true)
    (k11 : PySem.W.keepIn K (.ref f11) = true)
    (a12 : PySem.W.nsIn K mainGlobals "_is_move" = some (some (.ref f12)))
    (l12 : K.lookup f12 = some ⟨oc12, od12, .func (PySem.W.fnOf "_is_move" "_is_move" (defArgs s_is_move) (defBody s_is_move) (defScope s_is_move) .none kV12 dc12 pm12 an12 cd12 ct12), sl12⟩)
    (c12 : PySem.W.codeIn K cd12 "_is_move" = true)
    (k12 : PySem.W.keepIn K (.ref f12) = true)
    (a13 : PySem.W.nsIn K mainGlobals "_are_pairs" = some (some (.ref f13)))
    (l13 : K.lookup f13 = some ⟨oc13, od13, .func (PySem.W.fnOf "_are_pairs" "_are_pairs" (defArgs s_are_pairs) (defBody s_are_pairs) (defScope s_are_pairs) .none kV13 dc13 pm13 an13 cd13 ct13), sl13⟩)
    (c13 : PySem.W.codeIn K cd13 "_are_pairs" = true)
    (k13 : PySem.W.keepIn K (.ref f13) = true)
    (a14 : PySem.W.nsIn K mainGlobals "_is_item" = some (some (.ref f14)))
    (l14 : K.lookup f14 = some ⟨oc14, od14, .func (PySem.W.fnOf "_is_item" "_is_item" (defArgs s_is_item) (defBody s_is_item) (defScope s_is_item) .none kV14 dc14 pm14 an14 cd14 ct14), sl14⟩)
    (c14 : PySem.W.codeIn K cd14 "_is_item" = true)
    (k14 : PySem.W.keepIn K (.ref f14) = true)
    (a15 : PySem.W.nsIn K mainGlobals "_are_moves" = some (some (.ref f15)))
    (l15 : K.lookup f15 = some ⟨oc15, od15, .func (PySem.W.fnOf "_are_moves" "_are_moves" (defArgs s_are_moves) (defBody s_are_moves) (defScope s_are_moves) .none kV15 dc15 pm15 an15 cd15 ct15), sl15⟩)
    (c15 : PySem.W.codeIn K cd15 "_are_moves" = true)
    (k15 : PySem.W.keepIn K (.ref f15) = true)
    (a16 : PySem.W.findIn K (.ref C_Machine) "__init__" = some (some (.ref f16)))
    (i16 : PySem.W.isFn K (.ref f16) = true)
    (l16 : K.lookup f16 = some ⟨oc16, od16, .func (PySem.W.fnOf "__init__" "Machine.__init__" (defArgs s_Machine_init) (defBody s_Machine_init) (defScope s_Machine_init) .none kV16 dc16 pm16 an16 cd16 ct16), sl16⟩)
    (c16 : PySem.W.codeIn K cd16 "Machine.__init__" = true)
    (k16 : PySem.W.keepIn K (.ref f16) = true)
    (a17 : PySem.W.nsIn K mainGlobals "_law_run" = some (some (.ref f17)))
    (l17 : K.lookup f17 = some ⟨oc17, od17, .func (PySem.W.fnOf "_law_run" "_law_run" (defArgs s_law_run) (defBody s_law_run) (defScope s_law_run) .none kV17 dc17 pm17 an17 cd17 ct17), sl17⟩)
    (c17 : PySem.W.codeIn K cd17 "_law_run" = true)
    (k17 : PySem.W.keepIn K (.ref f17) = true)
    (a18 : PySem.W.nsIn K mainGlobals "is_run" = some (some (.ref f18)))
    (l18 : K.lookup f18 = some ⟨oc18, od18, .func (PySem.W.fnOf "is_run" "is_run" (defArgs s_is_run) (defBody s_is_run) (defScope s_is_run) .none kV18 dc18 pm18 an18 cd18 ct18), sl18⟩)
    (c18 : PySem.W.codeIn K cd18 "is_run" = true)
    (k18 : PySem.W.keepIn K (.ref f18) = true)
    (a19 : PySem.W.nsIn K mainGlobals "check_run" = some (some (.ref f19)))
    (l19 : K.lookup f19 = some ⟨oc19, od19, .func (PySem.W.fnOf "check_run" "check_run" (defArgs s_check_run) (defBody s_check_run) (defScope s_check_run) .none kV19 dc19 pm19 an19 cd19 ct19), sl19⟩)
    (c19 : PySem.W.codeIn K cd19 "check_run" = true)
    (k19 : PySem.W.keepIn K (.ref f19) = true)
    (a20 : PySem.W.nsIn K mainGlobals "walked" = some (some (.ref f20)))
    (l20 : K.lookup f20 = some ⟨oc20, od20, .func (PySem.W.fnOf "walked" "walked" (defArgs s_walked) (defBody s_walked) (defScope s_walked) .none kV20 dc20 pm20 an20 cd20 ct20), sl20⟩)
    (c20 : PySem.W.codeIn K cd20 "walked" = true)
    (k20 : PySem.W.keepIn K (.ref f20) = true)
    (a21 : PySem.W.nsIn K mainGlobals "ticks" = some (some (.ref f21)))
    (l21 : K.lookup f21 = some ⟨oc21, od21, .func (PySem.W.fnOf "ticks" "ticks" (defArgs s_ticks) (defBody s_ticks) (defScope s_ticks) .none kV21 dc21 pm21 an21 cd21 ct21), sl21⟩)
    (c21 : PySem.W.codeIn K cd21 "ticks" = true)
    (k21 : PySem.W.keepIn K (.ref f21) = true)
    (a22 : PySem.W.nsIn K mainGlobals "standing" = some (some (.ref f22)))
    (l22 : K.lookup f22 = some ⟨oc22, od22, .func (PySem.W.fnOf "standing" "standing" (defArgs s_standing) (defBody s_standing) (defScope s_standing) .none kV22 dc22 pm22 an22 cd22 ct22), sl22⟩)
    (c22 : PySem.W.codeIn K cd22 "standing" = true)
    (k22 : PySem.W.keepIn K (.ref f22) = true)
    (a23 : PySem.W.nsIn K mainGlobals "_law_led" = some (some (.ref f23)))
    (l23 : K.lookup f23 = some ⟨oc23, od23, .func (PySem.W.fnOf "_law_led" "_law_led" (defArgs s_law_led) (defBody s_law_led) (defScope s_law_led) .none kV23 dc23 pm23 an23 cd23 ct23), sl23⟩)
    (c23 : PySem.W.codeIn K cd23 "_law_led" = true)
    (k23 : PySem.W.keepIn K (.ref f23) = true)
    (a24 : PySem.W.nsIn K mainGlobals "check_standing" = some (some (.ref f24)))
    (l24 : K.lookup f24 = some ⟨oc24, od24, .func (PySem.W.fnOf "check_standing" "check_standing" (defArgs s_check_standing) (defBody s_check_standing) (defScope s_check_standing) .none kV24 dc24 pm24 an24 cd24 ct24), sl24⟩)
    (c24 : PySem.W.codeIn K cd24 "check_standing" = true)
    (k24 : PySem.W.keepIn K (.ref f24) = true)
    (a25 : PySem.W.nsIn K mainGlobals "ticks_from" = some (some (.ref f25)))
    (l25 : K.lookup f25 = some ⟨oc25, od25, .func (PySem.W.fnOf "ticks_from" "ticks_from" (defArgs s_ticks_from) (defBody s_ticks_from) (defScope s_ticks_from) .none kV25 dc25 pm25 an25 cd25 ct25), sl25⟩)
    (c25 : PySem.W.codeIn K cd25 "ticks_from" = true)
    (k25 : PySem.W.keepIn K (.ref f25) = true)
    (a26 : PySem.W.nsIn K mainGlobals "standing_from" = some (some (.ref f26)))
    (l26 : K.lookup f26 = some ⟨oc26, od26, .func (PySem.W.fnOf "standing_from" "standing_from" (defArgs s_standing_from) (defBody s_standing_from) (defScope s_standing_from) .none kV26 dc26 pm26 an26 cd26 ct26), sl26⟩)
    (c26 : PySem.W.codeIn K cd26 "standing_from" = true)
    (k26 : PySem.W.keepIn K (.ref f26) = true)
    (a27 : PySem.W.nsIn K mainGlobals "law" = some (some (.ref f27)))
    (l27 : K.lookup f27 = some ⟨oc27, od27, .func (PySem.W.fnOf "law" "law" (defArgs s_law) (defBody s_law) (defScope s_law) .none kV27 dc27 pm27 an27 cd27 ct27), sl27⟩)
    (c27 : PySem.W.codeIn K cd27 "law" = true)
    (k27 : PySem.W.keepIn K (.ref f27) = true)
    (z_abs : PySem.W.nsIn K mainGlobals "abs" = some none)
    (z_all : PySem.W.nsIn K mainGlobals "all" = some none)
    (z_bool : PySem.W.nsIn K mainGlobals "bool" = some none)
    (z_int : PySem.W.nsIn K mainGlobals "int" = some none)
    (z_isinstance : PySem.W.nsIn K mainGlobals "isinstance" = some none)
    (z_len : PySem.W.nsIn K mainGlobals "len" = some none)
    (z_range : PySem.W.nsIn K mainGlobals "range" = some none)
    (z_str : PySem.W.nsIn K mainGlobals "str" = some none)
    (z_tuple : PySem.W.nsIn K mainGlobals "tuple" = some none)
    (z_zip : PySem.W.nsIn K mainGlobals "zip" = some none)
    (v_LETTERS : PySem.W.nsIn K mainGlobals "LETTERS" = some (some (.str "abcdefghijklmnopqrstuvwxyz" tc_LETTERS))) :
    ∃ fd : FuncData, (∀ (s : Shared) (v : Value), BindsTo s fd ⟨[v], []⟩ [("script", v)]) ∧ ∀ base : Heap, K.In base → base.Ns mainGlobals mg → FnOk l.prog w K mg base (L2.CX l.prog w) 9 fa fd ["script"] (spLaw K) := by
  have e := hfa.symm.trans (PySem.W.mg_of X G a27)
  cases e
  have F0 := fun_mk (st := s_law_hand) l0 c0 k0
  have b0 := F0.binds (ps := ["script"]) fun _ _ _ _ _ _ us hl => match us, hl with | [_], _ => rfl
  have F1 := fun_mk (st := s_law_draw) l1 c1 k1
  have b1 := F1.binds (ps := ["hand", "many"]) fun _ _ _ _ _ _ us hl => match us, hl with | [_, _], _ => rfl
  have F2 := fun_mk (st := s_law_rows) l2 c2 k2
  have b2 := F2.binds (ps := ["hand", "most"]) fun _ _ _ _ _ _ us hl => match us, hl with | [_, _], _ => rfl
  have F3 := fun_mk (st := s_law_line) l3 c3 k3
  have b3 := F3.binds (ps := ["hand", "answers", "size", "top"]) fun _ _ _ _ _ _ us hl => match us, hl with | [_, _, _, _], _ => rfl
  have F4 := fun_mk (st := s_law_world) l4 c4 k4
  have b4 := F4.binds (ps := ["hand", "most", "size"]) fun _ _ _ _ _ _ us hl => match us, hl with | [_, _, _], _ => rfl
  have F5 := fun_mk (st := s_is_code) l5 c5 k5
  have b5 := F5.binds (ps := ["thing", "rows"]) fun _ _ _ _ _ _ us hl => match us, hl with | [_, _], _ => rfl
  have F6 := fun_mk (st := s_is_letters) l6 c6 k6
  have b6 := F6.binds (ps := ["thing", "letters"]) fun _ _ _ _ _ _ us hl => match us, hl with | [_, _], _ => rfl
  have F7 := fun_mk (st := s_is_rows) l7 c7 k7
  have b7 := F7.binds (ps := ["thing"]) fun _ _ _ _ _ _ us hl => match us, hl with | [_], _ => rfl
  have F8 := fun_mk (st := s_is_integer) l8 c8 k8
  have b8 := F8.binds (ps := ["thing"]) fun _ _ _ _ _ _ us hl => match us, hl with | [_], _ => rfl
  have F9 := fun_mk (st := s_is_between) l9 c9 k9
  have b9 := F9.binds (ps := ["thing", "least", "most"]) fun _ _ _ _ _ _ us hl => match us, hl with | [_, _, _], _ => rfl
  have F10 := fun_mk (st := s_is_answers) l10 c10 k10
  have b10 := F10.binds (ps := ["thing"]) fun _ _ _ _ _ _ us hl => match us, hl with | [_], _ => rfl
  have F11 := fun_mk (st := s_is_tuple) l11 c11 k11
  have b11 := F11.binds (ps := ["thing", "many"]) fun _ _ _ _ _ _ us hl => match us, hl with | [_, _], _ => rfl
  have F12 := fun_mk (st := s_is_move) l12 c12 k12
  have b12 := F12.binds (ps := ["pair", "size"]) fun _ _ _ _ _ _ us hl => match us, hl with | [_, _], _ => rfl
  have F13 := fun_mk (st := s_are_pairs) l13 c13 k13
  have b13 := F13.binds (ps := ["pairs", "answers", "size"]) fun _ _ _ _ _ _ us hl => match us, hl with | [_, _, _], _ => rfl
  have F14 := fun_mk (st := s_is_item) l14 c14 k14
  have b14 := F14.binds (ps := ["item", "rows", "answers", "size"]) fun _ _ _ _ _ _ us hl => match us, hl with | [_, _, _, _], _ => rfl
  have F15 := fun_mk (st := s_are_moves) l15 c15 k15
  have b15 := F15.binds (ps := ["moves", "rows", "answers"]) fun _ _ _ _ _ _ us hl => match us, hl with | [_, _, _], _ => rfl
  have F16 := fun_mk (st := s_Machine_init) l16 c16 k16
  have b16 := F16.binds (ps := ["self", "rows", "answers", "moves"]) fun _ _ _ _ _ _ us hl => match us, hl with | [_, _, _, _], _ => rfl
  have F17 := fun_mk (st := s_law_run) l17 c17 k17
  have b17 := F17.binds (ps := ["hand", "rows", "answers", "many"]) fun _ _ _ _ _ _ us hl => match us, hl with | [_, _, _, _], _ => rfl
  have F18 := fun_mk (st := s_is_run) l18 c18 k18
  have b18 := F18.binds (ps := ["thing", "rows", "answers"]) fun _ _ _ _ _ _ us hl => match us, hl with | [_, _, _], _ => rfl
  have F19 := fun_mk (st := s_check_run) l19 c19 k19
  have b19 := F19.binds (ps := ["machine", "run"]) fun _ _ _ _ _ _ us hl => match us, hl with | [_, _], _ => rfl
  have F20 := fun_mk (st := s_walked) l20 c20 k20
  have b20 := F20.binds (ps := ["machine", "start", "run"]) fun _ _ _ _ _ _ us hl => match us, hl with | [_, _, _], _ => rfl
  have F21 := fun_mk (st := s_ticks) l21 c21 k21
  have b21 := F21.binds (ps := ["machine", "run"]) fun _ _ _ _ _ _ us hl => match us, hl with | [_, _], _ => rfl
  have F22 := fun_mk (st := s_standing) l22 c22 k22
  have b22 := F22.binds (ps := ["machine", "run"]) fun _ _ _ _ _ _ us hl => match us, hl with | [_, _], _ => rfl
  have F23 := fun_mk (st := s_law_led) l23 c23 k23
  have b23 := F23.binds (ps := ["world", "at", "run"]) fun _ _ _ _ _ _ us hl => match us, hl with | [_, _, _], _ => rfl
  have F24 := fun_mk (st := s_check_standing) l24 c24 k24
  have b24 := F24.binds (ps := ["machine", "thing"]) fun _ _ _ _ _ _ us hl => match us, hl with | [_, _], _ => rfl
  have F25 := fun_mk (st := s_ticks_from) l25 c25 k25
  have b25 := F25.binds (ps := ["machine", "standing", "run"]) fun _ _ _ _ _ _ us hl => match us, hl with | [_, _, _], _ => rfl
  have F26 := fun_mk (st := s_standing_from) l26 c26 k26
  have b26 := F26.binds (ps := ["machine", "standing", "run"]) fun _ _ _ _ _ _ us hl => match us, hl with | [_, _, _], _ => rfl
  have F27 := fun_mk (st := s_law) l27 c27 k27
  have b27 := F27.binds (ps := ["script"]) fun _ _ _ _ _ _ us hl => match us, hl with | [_], _ => rfl
  have gC_Machine : mg "Machine" = some (.ref C_Machine) := PySem.W.mg_of X G aC_Machine
  have cl_Machine : Cls K C_Machine := ⟨pg_Machine, hd_Machine, po_Machine, sa_Machine⟩
  let T : Txt K mg :=
    { a_law_hand := _
      fd_law_hand := _
      F_law_hand := F0
      b_law_hand := b0
      k_law_hand := k0
      g_law_hand := PySem.W.mg_of X G a0
      a_law_draw := _
      fd_law_draw := _
      F_law_draw := F1
      b_law_draw := b1
      k_law_draw := k1
      g_law_draw := PySem.W.mg_of X G a1
      a_law_rows := _
      fd_law_rows := _
      F_law_rows := F2
      b_law_rows := b2
      k_law_rows := k2
      g_law_rows := PySem.W.mg_of X G a2
      a_law_line := _
      fd_law_line := _
      F_law_line := F3
      b_law_line := b3
      k_law_line := k3
      g_law_line := PySem.W.mg_of X G a3
      a_law_world := _
      fd_law_world := _
      F_law_world := F4
      b_law_world := b4
      k_law_world := k4
      g_law_world := PySem.W.mg_of X G a4
      a_is_code := _
      fd_is_code := _
      F_is_code := F5
      b_is_code := b5
      k_is_code := k5
      g_is_code := PySem.W.mg_of X G a5
      a_is_letters := _
      fd_is_letters := _
      F_is_letters := F6
      b_is_letters := b6
      k_is_letters := k6
      g_is_letters := PySem.W.mg_of X G a6
      a_is_rows := _
      fd_is_rows := _
      F_is_rows := F7
      b_is_rows := b7
      k_is_rows := k7
      g_is_rows := PySem.W.mg_of X G a7
      a_is_integer := _
      fd_is_integer := _
      F_is_integer := F8
      b_is_integer := b8
      k_is_integer := k8
      g_is_integer := PySem.W.mg_of X G a8
      a_is_between := _
      fd_is_between := _
      F_is_between := F9
      b_is_between := b9
      k_is_between := k9
      g_is_between := PySem.W.mg_of X G a9
      a_is_answers := _
      fd_is_answers := _
      F_is_answers := F10
      b_is_answers := b10
      k_is_answers := k10
      g_is_answers := PySem.W.mg_of X G a10
      a_is_tuple := _
      fd_is_tuple := _
      F_is_tuple := F11
      b_is_tuple := b11
      k_is_tuple := k11
      g_is_tuple := PySem.W.mg_of X G a11
      a_is_move := _
      fd_is_move := _
      F_is_move := F12
      b_is_move := b12
      k_is_move := k12
      g_is_move := PySem.W.mg_of X G a12
      a_are_pairs := _
      fd_are_pairs := _
      F_are_pairs := F13
      b_are_pairs := b13
      k_are_pairs := k13
      g_are_pairs := PySem.W.mg_of X G a13
      a_is_item := _
      fd_is_item := _
      F_is_item := F14
      b_is_item := b14
      k_is_item := k14
      g_is_item := PySem.W.mg_of X G a14
      a_are_moves := _
      fd_are_moves := _
      F_are_moves := F15
      b_are_moves := b15
      k_are_moves := k15
      g_are_moves := PySem.W.mg_of X G a15
      a_Machine_init := _
      fd_Machine_init := _
      F_Machine_init := F16
      b_Machine_init := b16
      k_Machine_init := k16
      a_law_run := _
      fd_law_run := _
      F_law_run := F17
      b_law_run := b17
      k_law_run := k17
      g_law_run := PySem.W.mg_of X G a17
      a_is_run := _
      fd_is_run := _
      F_is_run := F18
      b_is_run := b18
      k_is_run := k18
      g_is_run := PySem.W.mg_of X G a18
      a_check_run := _
      fd_check_run := _
      F_check_run := F19
      b_check_run := b19
      k_check_run := k19
      g_check_run := PySem.W.mg_of X G a19
      a_walked := _
      fd_walked := _
      F_walked := F20
      b_walked := b20
      k_walked := k20
      g_walked := PySem.W.mg_of X G a20
      a_ticks := _
      fd_ticks := _
      F_ticks := F21
      b_ticks := b21
      k_ticks := k21
      g_ticks := PySem.W.mg_of X G a21
      a_standing := _
      fd_standing := _
      F_standing := F22
      b_standing := b22
      k_standing := k22
      g_standing := PySem.W.mg_of X G a22
      a_law_led := _
      fd_law_led := _
      F_law_led := F23
      b_law_led := b23
      k_law_led := k23
      g_law_led := PySem.W.mg_of X G a23
      a_check_standing := _
      fd_check_standing := _
      F_check_standing := F24
      b_check_standing := b24
      k_check_standing := k24
      g_check_standing := PySem.W.mg_of X G a24
      a_ticks_from := _
      fd_ticks_from := _
      F_ticks_from := F25
      b_ticks_from := b25
      k_ticks_from := k25
      g_ticks_from := PySem.W.mg_of X G a25
      a_standing_from := _
      fd_standing_from := _
      F_standing_from := F26
      b_standing_from := b26
      k_standing_from := k26
      g_standing_from := PySem.W.mg_of X G a26
      a_law := _
      fd_law := _
      F_law := F27
      b_law := b27
      k_law := k27
      g_law := PySem.W.mg_of X G a27
      c_Machine := C_Machine
      C_Machine := gC_Machine
      mk_Machine := ⟨mk_Machine, a16, i16, kc_Machine⟩
      f_answers := by
        intro c hc C hC
        simp only [fldC_answers, List.mem_cons, List.not_mem_nil, or_false] at hc
        subst hc
        rw [gC_Machine] at hC
        cases hC
        exact ⟨cl_Machine, nf_Machine_answers⟩
      f_moves := by
        intro c hc C hC
        simp only [fldC_moves, List.mem_cons, List.not_mem_nil, or_false] at hc
        subst hc
        rw [gC_Machine] at hC
        cases hC
        exact ⟨cl_Machine, nf_Machine_moves⟩
      f_rows := by
        intro c hc C hC
        simp only [fldC_rows, List.mem_cons, List.not_mem_nil, or_false] at hc
        subst hc
        rw [gC_Machine] at hC
        cases hC
        exact ⟨cl_Machine, nf_Machine_rows⟩
      f_size := by
        intro c hc C hC
        simp only [fldC_size, List.mem_cons, List.not_mem_nil, or_false] at hc
        subst hc
        rw [gC_Machine] at hC
        cases hC
        exact ⟨cl_Machine, nf_Machine_size⟩
      n_abs := PySem.W.mg_none_of X G z_abs
      n_all := PySem.W.mg_none_of X G z_all
      n_bool := PySem.W.mg_none_of X G z_bool
      n_int := PySem.W.mg_none_of X G z_int
      n_isinstance := PySem.W.mg_none_of X G z_isinstance
      n_len := PySem.W.mg_none_of X G z_len
      n_range := PySem.W.mg_none_of X G z_range
      n_str := PySem.W.mg_none_of X G z_str
      n_tuple := PySem.W.mg_none_of X G z_tuple
      n_zip := PySem.W.mg_none_of X G z_zip
      c_LETTERS := ⟨_, PySem.W.mg_of X G v_LETTERS⟩ }
  exact ⟨PySem.W.fnOf "law" "law" (defArgs s_law) (defBody s_law) (defScope s_law) .none kV27 dc27 pm27 an27 cd27 ct27, fun s v => .of_eq rfl, fun base _ _ => by
    have q := G_law (P := l.prog) (w := w) (base := base) T
    exact q.imp fun vs H Q E h => law_imp law_ok h⟩
end DD
open PySem PySem.W PyProof.Rows in
set_option maxRecDepth 100000 in
set_option maxHeartbeats 0 in
theorem PySem.Challenge.cw_stretchprices_k02_whole_runs_by_own_step_holds : PySem.Challenge.rw_stretchprices_k02_whole_runs_by_own_step.Holds := by
  w_on; o_law; k_head; (case hw => w_witness2)
  k_fill
  refine DD.walk_ofD (l := PySem.Challenge.rw_stretchprices_k02_whole_runs_by_own_step) (k := 9) rfl rfl ⟨rfl, by decide, by decide⟩ (fun w h Y => PySem.W.kIn_of Y) ?F
  case F =>
    intro w mg fa h KX G hmg
    refine' DD.all_mk KX G hmg ?aC_Machine ?pg_Machine ?hd_Machine ?po_Machine ?sa_Machine ?mk_Machine ?kc_Machine ?nf_Machine_answers ?nf_Machine_moves ?nf_Machine_rows ?nf_Machine_size ?a0 ?l0 ?c0 ?k0 ?a1 ?l1 ?c1 ?k1 ?a2 ?l2 ?c2 ?k2 ?a3 ?l3 ?c3 ?k3 ?a4 ?l4 ?c4 ?k4 ?a5 ?l5 ?c5 ?k5 ?a6 ?l6 ?c6 ?k6 ?a7 ?l7 ?c7 ?k7 ?a8 ?l8 ?c8 ?k8 ?a9 ?l9 ?c9 ?k9 ?a10 ?l10 ?c10 ?k10 ?a11 ?l11 ?c11 ?k11 ?a12 ?l12 ?c12 ?k12 ?a13 ?l13 ?c13 ?k13 ?a14 ?l14 ?c14 ?k14 ?a15 ?l15 ?c15 ?k15 ?a16 ?i16 ?l16 ?c16 ?k16 ?a17 ?l17 ?c17 ?k17 ?a18 ?l18 ?c18 ?k18 ?a19 ?l19 ?c19 ?k19 ?a20 ?l20 ?c20 ?k20 ?a21 ?l21 ?c21 ?k21 ?a22 ?l22 ?c22 ?k22 ?a23 ?l23 ?c23 ?k23 ?a24 ?l24 ?c24 ?k24 ?a25 ?l25 ?c25 ?k25 ?a26 ?l26 ?c26 ?k26 ?a27 ?l27 ?c27 ?k27 ?z_abs ?z_all ?z_bool ?z_int ?z_isinstance ?z_len ?z_range ?z_str ?z_tuple ?z_zip ?v_LETTERS
    (case aC_Machine => k_is)
    (case pg_Machine => k_is)
    (case hd_Machine => k_is)
    (case po_Machine => k_is)
    (case sa_Machine => k_is)
    (case mk_Machine => k_is)
    (case kc_Machine => k_is)
    (case nf_Machine_answers => k_is)
    (case nf_Machine_moves => k_is)
    (case nf_Machine_rows => k_is)
    (case nf_Machine_size => k_is)
    (case a0 => k_is)
    (case l0 => k_is)
    (case c0 => k_is)
    (case k0 => k_is)
    (case a1 => k_is)
    (case l1 => k_is)
    (case c1 => k_is)
    (case k1 => k_is)
    (case a2 => k_is)
    (case l2 => k_is)
    (case c2 => k_is)
    (case k2 => k_is)
    (case a3 => k_is)
    (case l3 => k_is)
    (case c3 => k_is)
    (case k3 => k_is)
    (case a4 => k_is)
    (case l4 => k_is)
    (case c4 => k_is)
    (case k4 => k_is)
    (case a5 => k_is)
    (case l5 => k_is)
    (case c5 => k_is)
    (case k5 => k_is)
    (case a6 => k_is)
    (case l6 => k_is)
    (case c6 => k_is)
    (case k6 => k_is)
    (case a7 => k_is)
    (case l7 => k_is)
    (case c7 => k_is)
    (case k7 => k_is)
    (case a8 => k_is)
    (case l8 => k_is)
    (case c8 => k_is)
    (case k8 => k_is)
    (case a9 => k_is)
    (case l9 => k_is)
    (case c9 => k_is)
    (case k9 => k_is)
    (case a10 => k_is)
    (case l10 => k_is)
    (case c10 => k_is)
    (case k10 => k_is)
    (case a11 => k_is)
    (case l11 => k_is)
    (case c11 => k_is)
    (case k11 => k_is)
    (case a12 => k_is)
    (case l12 => k_is)
    (case c12 => k_is)
    (case k12 => k_is)
    (case a13 => k_is)
    (case l13 => k_is)
    (case c13 => k_is)
    (case k13 => k_is)
    (case a14 => k_is)
    (case l14 => k_is)
    (case c14 => k_is)
    (case k14 => k_is)
    (case a15 => k_is)
    (case l15 => k_is)
    (case c15 => k_is)
    (case k15 => k_is)
    (case a16 => k_is)
    (case i16 => k_is)
    (case l16 => k_is)
    (case c16 => k_is)
    (case k16 => k_is)
    (case a17 => k_is)
    (case l17 => k_is)
    (case c17 => k_is)
    (case k17 => k_is)
    (case a18 => k_is)
    (case l18 => k_is)
    (case c18 => k_is)
    (case k18 => k_is)
    (case a19 => k_is)
    (case l19 => k_is)
    (case c19 => k_is)
    (case k19 => k_is)
    (case a20 => k_is)
    (case l20 => k_is)
    (case c20 => k_is)
    (case k20 => k_is)
    (case a21 => k_is)
    (case l21 => k_is)
    (case c21 => k_is)
    (case k21 => k_is)
    (case a22 => k_is)
    (case l22 => k_is)
    (case c22 => k_is)
    (case k22 => k_is)
    (case a23 => k_is)
    (case l23 => k_is)
    (case c23 => k_is)
    (case k23 => k_is)
    (case a24 => k_is)
    (case l24 => k_is)
    (case c24 => k_is)
    (case k24 => k_is)
    (case a25 => k_is)
    (case l25 => k_is)
    (case c25 => k_is)
    (case k25 => k_is)
    (case a26 => k_is)
    (case l26 => k_is)
    (case c26 => k_is)
    (case k26 => k_is)
    (case a27 => k_is)
    (case l27 => k_is)
    (case c27 => k_is)
    (case k27 => k_is)
    (case z_abs => k_is)
    (case z_all => k_is)
    (case z_bool => k_is)
    (case z_int => k_is)
    (case z_isinstance => k_is)
    (case z_len => k_is)
    (case z_range => k_is)
    (case z_str => k_is)
    (case z_tuple => k_is)
    (case z_zip => k_is)
    (case v_LETTERS => k_is)
