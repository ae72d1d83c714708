import PyProof.Rows.All
import Wide.All
import OpenK.AllK
import Wide.FinOn
import HandS.ForMost
import HandS.ForExc
import HandS.Evl
import HandS.ExcInit
import HandS.Wide
import HandS.Deep
import HandS.More
import HandS.Defaults
import HandS.CallSlots
import HandS.ClsMeth
import HandS.Property
import HandS.IsInst
import PyProof.InstEq
import KE.KOpsOwn
import HandS.ExcField
import HandS.TryMany
import HandS.Small
import HandS.Iter
import HandS.Comp
import HandS.DictComp
import HandS.Gcd
import HandS.Ends
import HandS.HeadEnd
import HandS.Head3
import HandS.HeadHook2
import KE.KExcInit
import HandS.WordsExc
import PyProof.ExcBaseAll.ValueError
import HandS.Text
import HandS.StrMore
import HandS.FStr
import HandS.ExcIs
import HandS.ExcValue
import KE.KExcIs
import KE.KRevSl
import KE.KEqNest
import HandS.TupLe
import HandS.Star
import HandS.TupAny
import PySem.Challenge.RW_finalblocks_k03_texts_of_ratios
set_option Elab.async false
set_option linter.all false
set_option maxRecDepth 100000
set_option maxHeartbeats 2000000
/-! M0: data, slots, what the heap says of them. -/
namespace MM
open PySem L2

inductive D where
  | non | bl (b : Bool) | int (i : Int) | str (s : Str)
  | lst (xs : List D) | frl (xs : List D) | tup (xs : List D) | dct (kvs : List (Key × D)) | dcT (kvs : List (List Key × D)) | ins (c : Str) (fs : List (Str × D)) | cls (c : Str) | exn0 (c : Str) | exn1 (c f : Str) (d : D)

section
variable (K : PySem.W.Frag) (mg : Str → Option Value)
mutual
/-- v stands for d, by the frozen heap F -/
inductive Rep (F : Hp) : D → V → Prop
  | non : Rep F .non .non
  | bl (b : Bool) : Rep F (.bl b) (.bl b)
  | int (i : Int) : Rep F (.int i) (.int i)
  | str (s : Str) : Rep F (.str s) (.str s)
  | lst {p : Addr} {xs : List V} {ds : List D} : F p = some (.lst xs) → Reps F ds xs → Rep F (.lst ds) (.ref p)
  | frl {p : Addr} {xs : List V} {ds : List D} : SqL K F p xs → Reps F ds xs → Rep F (.frl ds) (.ref p)
  | tup {p : Addr} {xs : List V} {ds : List D} : SqT K F p xs → Reps F ds xs → Rep F (.tup ds) (.ref p)
  | dct {p : Addr} {ks : List (Key × V)} {kvs : List (Key × D)} : F p = some (.dK ks) → RepK F kvs ks → Rep F (.dct kvs) (.ref p)
  | dcT {p : Addr} {ks : List (List Key × V)} {kvs : List (List Key × D)} : F p = some (.dT ks) → RepT F kvs ks → Rep F (.dcT kvs) (.ref p)
  | ins {p C dx : Addr} {c : Str} {fs : List (Str × D)} {vs : List (Str × V)} : mg c = some (.ref C) → F p = some (.ins C dx vs) → RepF F fs vs → Rep F (.ins c fs) (.ref p)
  | cls {C : Addr} {c : Str} : mg c = some (.ref C) → Rep F (.cls c) (.ref C)
  | exn0 {p C : Addr} {c : Str} : mg c = some (.ref C) → F p = some (exo p C none) → Rep F (.exn0 c) (.ref p)
  | exn1 {p C dx : Addr} {c f : Str} {d : D} {v : V} : mg c = some (.ref C) → F p = some (exo p C (some dx)) → F dx = some (exd dx [(f, v)]) → Rep F d v → Rep F (.exn1 c f d) (.ref p)
inductive Reps (F : Hp) : List D → List V → Prop
  | nil : Reps F [] []
  | cons {d : D} {v : V} {ds : List D} {vs : List V} : Rep F d v → Reps F ds vs → Reps F (d :: ds) (v :: vs)
inductive RepK (F : Hp) : List (Key × D) → List (Key × V) → Prop
  | nil : RepK F [] []
  | cons {k : Key} {d : D} {v : V} {ds : List (Key × D)} {vs : List (Key × V)} : Rep F d v → RepK F ds vs → RepK F ((k, d) :: ds) ((k, v) :: vs)
inductive RepT (F : Hp) : List (List Key × D) → List (List Key × V) → Prop
  | nil : RepT F [] []
  | cons {k : List Key} {d : D} {v : V} {ds : List (List Key × D)} {vs : List (List Key × V)} : Rep F d v → RepT F ds vs → RepT F ((k, d) :: ds) ((k, v) :: vs)
inductive RepF (F : Hp) : List (Str × D) → List (Str × V) → Prop
  | nil : RepF F [] []
  | cons {k : Str} {d : D} {v : V} {ds : List (Str × D)} {vs : List (Str × V)} : Rep F d v → RepF F ds vs → RepF F ((k, d) :: ds) ((k, v) :: vs)
end
end

/-- the frozen heap F' holds all that F does -/
def Sub (F F' : Hp) : Prop := ∀ a u, F a = some u → F' a = some u
theorem Sub.rfl' {F : Hp} : Sub F F := fun _ _ h => h
theorem Sub.trans {A B C : Hp} (a : Sub A B) (b : Sub B C) : Sub A C := fun x u h => b x u (a x u h)
theorem Sub.rd {F F' : Hp} (s : Sub F F') {a : Addr} {u : HO} (h : Rd F a u) : Rd F' a u := by
  rcases h with h | ⟨o, h⟩
  · exact .inl (s _ _ h)
  · exact .inr ⟨o, s _ _ h⟩
theorem Sub.sqL {K : PySem.W.Frag} {F F' : Hp} (s : Sub F F') {a : Addr} {xs : List V} (h : SqL K F a xs) : SqL K F' a xs := by
  rcases h with h | h
  · exact .inl (s.rd h)
  · exact .inr h
theorem Sub.sqT {K : PySem.W.Frag} {F F' : Hp} (s : Sub F F') {a : Addr} {xs : List V} (h : SqT K F a xs) : SqT K F' a xs := by
  rcases h with h | h
  · exact .inl (s.rd h)
  · exact .inr h

section
variable {K : PySem.W.Frag} {mg : Str → Option Value} {F F' : Hp}
mutual
theorem Rep.mono (s : Sub F F') : ∀ {d : D} {v : V}, Rep K mg F d v → Rep K mg F' d v
  | _, _, .non => .non
  | _, _, .bl b => .bl b
  | _, _, .int b => .int b
  | _, _, .str b => .str b
  | _, _, .lst h r => .lst (s _ _ h) (Reps.mono s r)
  | _, _, .frl h r => .frl (s.sqL h) (Reps.mono s r)
  | _, _, .tup h r => .tup (s.sqT h) (Reps.mono s r)
  | _, _, .dct h r => .dct (s _ _ h) (RepK.mono s r)
  | _, _, .dcT h r => .dcT (s _ _ h) (RepT.mono s r)
  | _, _, .ins m h r => .ins m (s _ _ h) (RepF.mono s r)
  | _, _, .cls m => .cls m
  | _, _, .exn0 m h => .exn0 m (s _ _ h)
  | _, _, .exn1 m h g r => .exn1 m (s _ _ h) (s _ _ g) (Rep.mono s r)
theorem Reps.mono (s : Sub F F') : ∀ {d : List D} {v : List V}, Reps K mg F d v → Reps K mg F' d v
  | _, _, .nil => .nil
  | _, _, .cons h r => .cons (Rep.mono s h) (Reps.mono s r)
theorem RepK.mono (s : Sub F F') : ∀ {d : List (Key × D)} {v : List (Key × V)}, RepK K mg F d v → RepK K mg F' d v
  | _, _, .nil => .nil
  | _, _, .cons h r => .cons (Rep.mono s h) (RepK.mono s r)
theorem RepT.mono (s : Sub F F') : ∀ {d : List (List Key × D)} {v : List (List Key × V)}, RepT K mg F d v → RepT K mg F' d v
  | _, _, .nil => .nil
  | _, _, .cons h r => .cons (Rep.mono s h) (RepT.mono s r)
theorem RepF.mono (s : Sub F F') : ∀ {d : List (Str × D)} {v : List (Str × V)}, RepF K mg F d v → RepF K mg F' d v
  | _, _, .nil => .nil
  | _, _, .cons h r => .cons (Rep.mono s h) (RepF.mono s r)
end
theorem Reps.length : ∀ {ds : List D} {vs : List V}, Reps K mg F ds vs → vs.length = ds.length
  | _, _, .nil => rfl
  | _, _, .cons _ r => by rw [List.length_cons, List.length_cons, Reps.length r]
theorem Reps.append : ∀ {ds es : List D} {vs us : List V}, Reps K mg F ds vs → Reps K mg F es us → Reps K mg F (ds ++ es) (vs ++ us)
  | _, _, _, _, .nil, q => q
  | _, _, _, _, .cons h r, q => .cons h (Reps.append r q)
theorem Reps.get : ∀ {ds : List D} {vs : List V} {i : Nat} {v : V}, Reps K mg F ds vs → vs[i]? = some v → ∃ d, ds[i]? = some d ∧ Rep K mg F d v
  | _, _, _, _, .nil, e => by simp at e
  | _, _, 0, _, .cons h _, e => by simp at e; subst e; exact ⟨_, rfl, h⟩
  | _, _, i + 1, v, .cons _ r, e => by
    obtain ⟨d, h1, h2⟩ := Reps.get (i := i) (v := v) r (by simpa using e)
    exact ⟨d, by simpa using h1, h2⟩
theorem Reps.get' : ∀ {ds : List D} {vs : List V} {i : Nat} {d : D}, Reps K mg F ds vs → ds[i]? = some d → ∃ v, vs[i]? = some v ∧ Rep K mg F d v
  | _, _, _, _, .nil, e => by simp at e
  | _, _, 0, _, .cons h _, e => by simp at e; subst e; exact ⟨_, rfl, h⟩
  | _, _, i + 1, d, .cons _ r, e => by
    obtain ⟨v, h1, h2⟩ := Reps.get' (i := i) (d := d) r (by simpa using e)
    exact ⟨v, by simpa using h1, h2⟩
theorem Reps.set : ∀ {ds : List D} {vs : List V} {d : D} {v : V} (i : Nat), Reps K mg F ds vs → Rep K mg F d v → Reps K mg F (ds.set i d) (vs.set i v)
  | _, _, _, _, _, .nil, _ => .nil
  | _, _, _, _, 0, .cons _ r, h => .cons h r
  | _, _, _, _, i + 1, .cons q r, h => .cons q (Reps.set i r h)
theorem Reps.drop : ∀ {ds : List D} {vs : List V} (n : Nat), Reps K mg F ds vs → Reps K mg F (ds.drop n) (vs.drop n)
  | _, _, 0, r => r
  | _, _, _ + 1, .nil => .nil
  | _, _, n + 1, .cons _ r => Reps.drop n r
theorem Reps.take : ∀ {ds : List D} {vs : List V} (n : Nat), Reps K mg F ds vs → Reps K mg F (ds.take n) (vs.take n)
  | _, _, 0, _ => .nil
  | _, _, _ + 1, .nil => .nil
  | _, _, n + 1, .cons h r => .cons h (Reps.take n r)
theorem Reps.reverse {ds : List D} {vs : List V} (r : Reps K mg F ds vs) : Reps K mg F ds.reverse vs.reverse := by
  induction r using Reps.rec (motive_1 := fun _ _ _ => True) (motive_3 := fun _ _ _ => True) (motive_4 := fun _ _ _ => True) (motive_5 := fun _ _ _ => True) with
  | nil => exact .nil
  | cons h r _ ih => rw [List.reverse_cons, List.reverse_cons]; exact ih.append (.cons h .nil)
  | _ => trivial
end

/-- what a name of the frame holds: nothing that is told; data that never change; an object of this frame alone; an object lent by the caller -/
inductive Sl where
  | no | sh (d : D) | ow (d : D) | io (d : D) | ex (f : Str) (d : D)
abbrev En := List Sl
/-- a value on the way: data; a new object; the name at i -/
inductive Tk where
  | val (d : D) | nw (d : D) | nm (i : Nat)

/-- an object whose items are frozen -/
inductive Top (K : PySem.W.Frag) (mg : Str → Option Value) (F : Hp) : HO → D → Prop
  | lst {xs : List V} {ds : List D} : Reps K mg F ds xs → Top K mg F (.lst xs) (.lst ds)
  | dct {ks : List (Key × V)} {kvs : List (Key × D)} : RepK K mg F kvs ks → Top K mg F (.dK ks) (.dct kvs)
  | dcT {ks : List (List Key × V)} {kvs : List (List Key × D)} : RepT K mg F kvs ks → Top K mg F (.dT ks) (.dcT kvs)
  | ins {C dx : Addr} {c : Str} {fs : List (Str × D)} {vs : List (Str × V)} : mg c = some (.ref C) → RepF K mg F fs vs → Top K mg F (.ins C dx vs) (.ins c fs)
theorem Top.mono {K : PySem.W.Frag} {mg : Str → Option Value} {F F' : Hp} (s : Sub F F') {o : HO} {d : D} : Top K mg F o d → Top K mg F' o d
  | .lst r => .lst (r.mono s)
  | .dct r => .dct (r.mono s)
  | .dcT r => .dcT (r.mono s)
  | .ins m r => .ins m (r.mono s)
theorem Top.rep {K : PySem.W.Frag} {mg : Str → Option Value} {F : Hp} {o : HO} {d : D} {p : Addr} (h : Top K mg F o d) (e : F p = some o) : Rep K mg F d (.ref p) := by
  cases h with
  | lst r => exact .lst e r
  | dct r => exact .dct e r
  | dcT r => exact .dcT e r
  | ins m r => exact .ins m e r

/-- the suite's exception: where it stands, and its own dict -/
structure Su where
  ex : Option (Addr × Addr)
  lent : Nat → Option Addr

section
variable (K : PySem.W.Frag) (mg : Str → Option Value) (S : Su) (F H : Hp)
def SlOk (i : Nat) : Sl → Option V → Prop
  | .no, _ => True
  | .sh d, v => ∃ x, v = some x ∧ Rep K mg F d x
  | .ow d, v => ∃ p o, v = some (.ref p) ∧ F p = none ∧ H p = some o ∧ Top K mg F o d
  | .io d, v => ∃ p o, S.lent i = some p ∧ v = some (.ref p) ∧ F p = none ∧ H p = some o ∧ Top K mg F o d
  | .ex f d, v => ∃ a dd x, S.ex = some (a, dd) ∧ v = some (.ref a) ∧ H dd = some (.xd [(f, x)]) ∧ Rep K mg F d x
end

/-- is the frame's own to change -/
def Sl.own : Sl → Bool
  | .ow _ => true
  | .io _ => true
  | _ => false
def Own (σ : St) (env : En) (p : Addr) : Prop := ∃ (i : Nat) (s : Sl), env[i]? = some s ∧ s.own = true ∧ σ[i]? = some (some (V.ref p))

/-- a dict of either kind -/
def dk : HO → Bool
  | .dK _ => true
  | .dT _ => true
  | _ => false
/-- no tuple -/
def nt : HO → Bool
  | .tup _ => false
  | _ => true
/-- O: what stands outside and must not be touched -/
structure Wf (K : PySem.W.Frag) (mg : Str → Option Value) (S : Su) (O : Addr → Prop) (F H : Hp) (σ : St) (env : En) : Prop where
  fz : ∀ a u, F a = some u → H a = some u ∨ ∃ (o : Obj) (_ : Unit), dk u = true ∧ H a = some (.frz o u)
  sl : ∀ (i : Nat) (s : Sl), env[i]? = some s → ∃ v, σ[i]? = some v ∧ SlOk K mg S F H i s v
  ds : ∀ (i j : Nat) (s t : Sl) (p : Addr), env[i]? = some s → env[j]? = some t → s.own = true → t.own = true → σ[i]? = some (some (V.ref p)) → σ[j]? = some (some (V.ref p)) → i = j
  oh : ∀ a, O a → ∃ u, H a = some u ∧ nt u = true
  ow : ∀ a, Own σ env a → ¬ O a
  od : ∀ a u, O a → F a = some u → dk u = true → ∃ o, H a = some (.frz o u)

/-- what may have changed from (F, H) on -/
structure Tr (O : Addr → Prop) (F H F' H' : Hp) : Prop where
  fz : Sub F F'
  kp : ∀ a, O a → H' a = H a
  fr : ∀ a, O a → F' a = F a
  al : ∀ a u, H a = some u → ∃ w, H' a = some w

theorem Tr.refl {O : Addr → Prop} {F H : Hp} : Tr O F H F H := ⟨Sub.rfl', fun _ _ => rfl, fun _ _ => rfl, fun a u h => ⟨u, h⟩⟩
theorem Tr.trans {O : Addr → Prop} {F H F1 H1 F2 H2 : Hp} (a : Tr O F H F1 H1) (b : Tr O F1 H1 F2 H2) : Tr O F H F2 H2 where
  fz := a.fz.trans b.fz
  kp := fun q o => (b.kp q o).trans (a.kp q o)
  fr := fun q o => (b.fr q o).trans (a.fr q o)
  al := fun q u h => by
    obtain ⟨w, hw⟩ := a.al q u h
    exact b.al q w hw
theorem Tr.weak {O O' : Addr → Prop} {F H F1 H1 : Hp} (a : Tr O' F H F1 H1) (h : ∀ a, O a → O' a) : Tr O F H F1 H1 :=
  ⟨a.fz, fun q o => a.kp q (h q o), fun q o => a.fr q (h q o), a.al⟩
theorem Tr.gone {O : Addr → Prop} {F H F1 H1 : Hp} (a : Tr O F H F1 H1) {p : Addr} (h : H1 p = none) : H p = none := by
  cases e : H p with
  | none => rfl
  | some u =>
    obtain ⟨w, hw⟩ := a.al p u e
    rw [h] at hw; cases hw
theorem Wf.weak {K : PySem.W.Frag} {mg : Str → Option Value} {S : Su} {O O' : Addr → Prop} {F H : Hp} {σ : St} {env : En} (w : Wf K mg S O' F H σ env) (h : ∀ a, O a → O' a) : Wf K mg S O F H σ env :=
  ⟨w.fz, w.sl, w.ds, fun a o => w.oh a (h a o), fun a q o => w.ow a q (h a o), fun a ks o => w.od a ks (h a o)⟩
theorem Wf.more {K : PySem.W.Frag} {mg : Str → Option Value} {S : Su} {O O' : Addr → Prop} {F H : Hp} {σ : St} {env : En} (w : Wf K mg S O F H σ env) (h : ∀ a, O' a → O a ∨ ((∃ u, H a = some u ∧ nt u = true) ∧ ¬ Own σ env a ∧ ∀ u, F a = some u → dk u = true → ∃ o, H a = some (.frz o u))) : Wf K mg S O' F H σ env :=
  ⟨w.fz, w.sl, w.ds, fun a o => (h a o).elim (w.oh a) fun z => z.1, fun a q o => (h a o).elim (w.ow a q) fun z => z.2.1 q, fun a ks o e => (h a o).elim (fun z => w.od a ks z e) fun z => z.2.2 ks e⟩

/-- the outcome of a piece of the text -/
inductive R (α : Type) where
  | ok (a : α) (e : En)
  | er (c : Str) (x : Option (Str × D)) (e : En)
  | no
def R.bind {α β : Type} (r : R α) (f : α → En → R β) : R β :=
  match r with
  | .ok a e => f a e
  | .er c x e => .er c x e
  | .no => .no
@[simp] theorem R.bind_ok {α β : Type} {a : α} {e : En} {f : α → En → R β} : (R.ok a e).bind f = f a e := rfl
@[simp] theorem R.bind_er {α β : Type} {c : Str} {x : Option (Str × D)} {e : En} {f : α → En → R β} : (R.er c x e).bind f = .er c x e := rfl
@[simp] theorem R.bind_no {α β : Type} {f : α → En → R β} : (R.no : R α).bind f = .no := rfl

def ErOk (K : PySem.W.Frag) (mg : Str → Option Value) (F H : Hp) (c : Str) (x : Option (Str × D)) (cls : Value) (dd : Option Addr) : Prop :=
  ∃ C, mg c = some (.ref C) ∧ cls = .ref C ∧ match x with
    | none => dd = none
    | some (f, d) => ∃ a v, dd = some a ∧ H a = some (.xd [(f, v)]) ∧ Rep K mg F d v

def Post (K : PySem.W.Frag) (mg : Str → Option Value) (S : Su) (O : Addr → Prop) (W : WX) (F H : Hp) {α : Type} (r : R α) (k : St → Hp → Hp → En → α → Prop) : Prop :=
  match r with
  | .ok a e' => ∀ σ' F' H', Tr O F H F' H' → Wf K mg S O F' H' σ' e' → k σ' F' H' e' a
  | .er c x e' => ∀ σ' F' H' cls dd, Tr O F H F' H' → Wf K mg S O F' H' σ' e' → ErOk K mg F' H' c x cls dd → W cls dd σ' H'
  | .no => False
/-- .. where the slots stay -/
def PostE (K : PySem.W.Frag) (mg : Str → Option Value) (S : Su) (O : Addr → Prop) (W : WX) (F H : Hp) (σ : St) {α : Type} (r : R α) (k : Hp → Hp → En → α → Prop) : Prop :=
  match r with
  | .ok a e' => ∀ F' H', Tr O F H F' H' → Wf K mg S O F' H' σ e' → k F' H' e' a
  | .er c x e' => ∀ F' H' cls dd, Tr O F H F' H' → Wf K mg S O F' H' σ e' → ErOk K mg F' H' c x cls dd → W cls dd σ H'
  | .no => False

section
variable {K : PySem.W.Frag} {mg : Str → Option Value} {S : Su} {O O' : Addr → Prop} {W : WX} {F H : Hp} {σ : St} {env : En} {α β : Type}
theorem PostE.bind {r : R α} {f : α → En → R β} {k : Hp → Hp → En → β → Prop} (h : PostE K mg S O W F H σ (r.bind f) k) :
    PostE K mg S O W F H σ r (fun F1 H1 e1 a => PostE K mg S O W F1 H1 σ (f a e1) k) := by
  cases r with
  | ok a e1 =>
    intro F1 H1 t1 w1
    have h' : PostE K mg S O W F H σ (f a e1) k := h
    show PostE K mg S O W F1 H1 σ (f a e1) k
    cases q : f a e1 with
    | ok b e2 => rw [q] at h'; exact fun F2 H2 t2 w2 => h' F2 H2 (t1.trans t2) w2
    | er c x e2 => rw [q] at h'; exact fun F2 H2 cls dd t2 w2 eo => h' F2 H2 cls dd (t1.trans t2) w2 eo
    | no => rw [q] at h'; exact h'
  | er c x e1 => exact h
  | no => exact h
theorem PostE.mono {r : R α} {k k' : Hp → Hp → En → α → Prop} (h : PostE K mg S O W F H σ r k) (hk : ∀ F' H' e' a, Tr O F H F' H' → Wf K mg S O F' H' σ e' → k F' H' e' a → k' F' H' e' a) : PostE K mg S O W F H σ r k' := by
  cases r with
  | ok a e1 => exact fun F1 H1 t1 w1 => hk _ _ _ _ t1 w1 (h F1 H1 t1 w1)
  | er c x e1 => exact h
  | no => exact h
/-- from a later state -/
theorem PostE.on {r : R α} {k : Hp → Hp → En → α → Prop} {F1 H1 : Hp} (h : PostE K mg S O W F H σ r k) (t : Tr O F H F1 H1) : PostE K mg S O W F1 H1 σ r k := by
  cases r with
  | ok a e1 => exact fun F2 H2 t2 w2 => h F2 H2 (t.trans t2) w2
  | er c x e1 => exact fun F2 H2 cls dd t2 w2 => h F2 H2 cls dd (t.trans t2) w2
  | no => exact h
/-- more is told to be left alone -/
theorem PostE.wide {r : R α} {k : Hp → Hp → En → α → Prop} (h : PostE K mg S O W F H σ r k) (ho : ∀ a, O a → O' a) :
    PostE K mg S O' W F H σ r (fun F' H' e' a => Tr O' F H F' H' ∧ Wf K mg S O' F' H' σ e' ∧ k F' H' e' a) := by
  cases r with
  | ok a e1 => exact fun F1 H1 t1 w1 => ⟨t1, w1, h F1 H1 (t1.weak ho) (w1.weak ho)⟩
  | er c x e1 => exact fun F1 H1 cls dd t1 w1 eo => h F1 H1 cls dd (t1.weak ho) (w1.weak ho) eo
  | no => exact h
theorem Post.bind {r : R α} {f : α → En → R β} {k : St → Hp → Hp → En → β → Prop} (h : Post K mg S O W F H (r.bind f) k) :
    Post K mg S O W F H r (fun σ1 F1 H1 e1 a => Post K mg S O W F1 H1 (f a e1) k) := by
  cases r with
  | ok a e1 =>
    intro σ1 F1 H1 t1 w1
    have h' : Post K mg S O W F H (f a e1) k := h
    show Post K mg S O W F1 H1 (f a e1) k
    cases q : f a e1 with
    | ok b e2 => rw [q] at h'; exact fun σ2 F2 H2 t2 w2 => h' σ2 F2 H2 (t1.trans t2) w2
    | er c x e2 => rw [q] at h'; exact fun σ2 F2 H2 cls dd t2 w2 eo => h' σ2 F2 H2 cls dd (t1.trans t2) w2 eo
    | no => rw [q] at h'; exact h'
  | er c x e1 => exact h
  | no => exact h
theorem Post.mono {r : R α} {k k' : St → Hp → Hp → En → α → Prop} (h : Post K mg S O W F H r k) (hk : ∀ σ' F' H' e' a, Tr O F H F' H' → Wf K mg S O F' H' σ' e' → k σ' F' H' e' a → k' σ' F' H' e' a) : Post K mg S O W F H r k' := by
  cases r with
  | ok a e1 => exact fun σ1 F1 H1 t1 w1 => hk _ _ _ _ _ t1 w1 (h σ1 F1 H1 t1 w1)
  | er c x e1 => exact h
  | no => exact h
theorem Post.on {r : R α} {k : St → Hp → Hp → En → α → Prop} {F1 H1 : Hp} (h : Post K mg S O W F H r k) (t : Tr O F H F1 H1) : Post K mg S O W F1 H1 r k := by
  cases r with
  | ok a e1 => exact fun σ2 F2 H2 t2 w2 => h σ2 F2 H2 (t.trans t2) w2
  | er c x e1 => exact fun σ2 F2 H2 cls dd t2 w2 => h σ2 F2 H2 cls dd (t.trans t2) w2
  | no => exact h
/-- a block's outcome, asked of its first expression -/
theorem Post.toE {r : R α} {f : α → En → R β} {k : St → Hp → Hp → En → β → Prop} (h : Post K mg S O W F H (r.bind f) k) :
    PostE K mg S O W F H σ r (fun F1 H1 e1 a => Post K mg S O W F1 H1 (f a e1) k) := by
  have h2 := Post.bind h
  cases r with
  | ok a e1 => exact fun F1 H1 t1 w1 => h2 σ F1 H1 t1 w1
  | er c x e1 => exact fun F1 H1 cls dd t1 w1 eo => h2 σ F1 H1 cls dd t1 w1 eo
  | no => exact h2
theorem PostE.ok {a : α} {k : Hp → Hp → En → α → Prop} (w : Wf K mg S O F H σ env) (h : PostE K mg S O W F H σ (.ok a env) k) : k F H env a := h F H Tr.refl w
end

theorem Top.nt {K : PySem.W.Frag} {mg : Str → Option Value} {F : Hp} {o : HO} {d : D} (h : Top K mg F o d) : MM.nt o = true := by cases h <;> rfl
/-- a value on the way, as it stands -/
def TkOk (K : PySem.W.Frag) (mg : Str → Option Value) (O : Addr → Prop) (F H : Hp) (σ : St) (env : En) (v : V) : Tk → Prop
  | .val d => Rep K mg F d v
  | .nw d => ∃ p o, v = .ref p ∧ F p = none ∧ ¬ Own σ env p ∧ ¬ O p ∧ H p = some o ∧ Top K mg F o d
  | .nm i => σ[i]? = some (some v)
/-- what is on the way is left alone, too -/
def Pd (O : Addr → Prop) (t : Tk) (v : V) : Addr → Prop := fun a => O a ∨ ((∃ d, t = .nw d) ∧ v = .ref a)
section
variable {K : PySem.W.Frag} {mg : Str → Option Value} {S : Su} {O : Addr → Prop} {W : WX} {F H F' H' : Hp} {σ σ' : St} {env env' : En} {v : V}
theorem Pd.up {t : Tk} : ∀ a, O a → Pd O t v a := fun _ h => .inl h
theorem TkOk.pd {t : Tk} (w : Wf K mg S O F H σ env) (h : TkOk K mg O F H σ env v t) : Wf K mg S (Pd O t v) F H σ env :=
  w.more fun a q => by
    rcases q with q | ⟨⟨d, e⟩, e2⟩
    · exact .inl q
    · subst e; subst e2
      obtain ⟨p, o, e, hf, hn, _, ho, ht⟩ := h
      cases e
      exact .inr ⟨⟨o, ho, ht.nt⟩, hn, fun ks z => by rw [hf] at z; cases z⟩
theorem TkOk.tr {t : Tk} (h : TkOk K mg O F H σ env v t) (r : Tr (Pd O t v) F H F' H') (w : Wf K mg S (Pd O t v) F' H' σ env') : TkOk K mg O F' H' σ env' v t := by
  cases t with
  | val d => exact Rep.mono r.fz h
  | nw d =>
    obtain ⟨p, o, e, hf, hn, hO, ho, ht⟩ := h
    have hp : Pd O (.nw d) v p := .inr ⟨⟨d, rfl⟩, e⟩
    exact ⟨p, o, e, (r.fr p hp).trans hf, fun q => w.ow p q hp, hO, (r.kp p hp).trans ho, ht.mono r.fz⟩
  | nm i => exact h
end
end MM

set_option Elab.async false
set_option linter.all false
set_option maxRecDepth 100000
set_option maxHeartbeats 2000000
/-! M1: names read, objects frozen, names stored. -/
namespace MM
open PySem L2

def Sl.pk : Sl → Option D
  | .sh d => some d
  | .ow d => some d
  | .io d => some d
  | _ => none
def pk : Tk → En → Option D
  | .val d, _ => some d
  | .nw d, _ => some d
  | .nm i, e => (e[i]?).bind Sl.pk
def frcS (i : Nat) (e : En) : Option Sl → R D
  | some (.sh d) => .ok d e
  | some (.ow d) => .ok d (e.set i (.sh d))
  | _ => .no
def frc : Tk → En → R D
  | .val d, e => .ok d e
  | .nw d, e => .ok d e
  | .nm i, e => frcS i e (e[i]?)
def asgT (i : Nat) (e : En) : Tk → R Unit
  | .val d => .ok () (e.set i (.sh d))
  | .nw d => .ok () (e.set i (.ow d))
  | .nm j => (frc (.nm j) e).bind fun d e' => .ok () (e'.set i (.sh d))
def asgS (i : Nat) (t : Tk) (e : En) : Option Sl → R Unit
  | none => .no
  | some (.io _) => .no
  | some _ => asgT i e t
def asg (i : Nat) (t : Tk) (env : En) : R Unit := asgS i t env (env[i]?)

section
variable {K : PySem.W.Frag} {mg : Str → Option Value} {S : Su} {O : Addr → Prop} {W : WX} {F H F' H' : Hp} {σ σ' : St} {env env' : En} {v : V} {d : D} {t : Tk} {i : Nat}

/-- a value that is read now -/
def Pk (K : PySem.W.Frag) (mg : Str → Option Value) (F H : Hp) (d : D) (v : V) : Prop := Rep K mg F d v ∨ ∃ p o, v = .ref p ∧ H p = some o ∧ Top K mg F o d
theorem SlOk.pk {s : Sl} {j : Nat} {x : Option V} (h : SlOk K mg S F H j s x) (e : s.pk = some d) (hx : x = some v) : Pk K mg F H d v := by
  subst hx
  cases s with
  | no => cases e
  | sh d' =>
    cases e
    obtain ⟨x, ex, r⟩ := h
    cases ex
    exact .inl r
  | ow d' =>
    cases e
    obtain ⟨p, o, ex, hf, ho, ht⟩ := h
    cases ex
    exact .inr ⟨p, o, rfl, ho, ht⟩
  | io d' =>
    cases e
    obtain ⟨p, o, _, ex, hf, ho, ht⟩ := h
    cases ex
    exact .inr ⟨p, o, rfl, ho, ht⟩
  | ex f d' => cases e
theorem pk_ok (w : Wf K mg S O F H σ env) (h : TkOk K mg O F H σ env v t) (e : pk t env = some d) : Pk K mg F H d v := by
  cases t with
  | val d' => cases e; exact .inl h
  | nw d' =>
    cases e
    obtain ⟨p, o, e, hf, hn, _, ho, ht⟩ := h
    exact .inr ⟨p, o, e, ho, ht⟩
  | nm j =>
    obtain ⟨s, q, e⟩ := Option.bind_eq_some_iff.mp (show (env[j]?).bind Sl.pk = some d from e)
    obtain ⟨u, hu, ok⟩ := w.sl j s q
    have h' : σ[j]? = some (some v) := h
    rw [h'] at hu
    exact ok.pk e (Option.some.inj hu).symm
theorem Pk.non (h : Pk K mg F H .non v) : v = .non := by
  rcases h with h | ⟨p, o, _, _, ht⟩
  · cases h; rfl
  · cases ht
theorem Pk.bl {b : Bool} (h : Pk K mg F H (.bl b) v) : v = .bl b := by
  rcases h with h | ⟨p, o, _, _, ht⟩
  · cases h; rfl
  · cases ht
theorem Pk.int {b : Int} (h : Pk K mg F H (.int b) v) : v = .int b := by
  rcases h with h | ⟨p, o, _, _, ht⟩
  · cases h; rfl
  · cases ht
theorem Pk.str {b : Str} (h : Pk K mg F H (.str b) v) : v = .str b := by
  rcases h with h | ⟨p, o, _, _, ht⟩
  · cases h; rfl
  · cases ht
theorem Pk.cls {c : Str} (h : Pk K mg F H (.cls c) v) : ∃ C, v = .ref C ∧ mg c = some (.ref C) := by
  rcases h with h | ⟨p, o, _, _, ht⟩
  · cases h with
    | cls m => exact ⟨_, rfl, m⟩
  · cases ht
theorem Wf.rd (w : Wf K mg S O F H σ env) {a : Addr} {u : HO} (h : F a = some u) : Rd H a u := by
  rcases w.fz a u h with h | ⟨o, ks, _, h⟩
  · exact .inl h
  · exact .inr ⟨o, h⟩
theorem Wf.get (w : Wf K mg S O F H σ env) {a : Addr} {u : HO} (h : F a = some u) (hd : ∀ _ : Unit, dk u ≠ true) : H a = some u := by
  rcases w.fz a u h with h | ⟨o, ks, e, h⟩
  · exact h
  · exact (hd () e).elim
theorem Wf.sqL (w : Wf K mg S O F H σ env) {a : Addr} {xs : List V} (h : SqL K F a xs) : SqL K H a xs := by
  rcases h with (h | ⟨o, h⟩) | h
  · exact .inl (.inl (w.get h fun _ z => nomatch z))
  · exact .inl (.inr ⟨o, w.get h fun _ z => nomatch z⟩)
  · exact .inr h
theorem Wf.sqT (w : Wf K mg S O F H σ env) {a : Addr} {xs : List V} (h : SqT K F a xs) : SqT K H a xs := by
  rcases h with (h | ⟨o, h⟩) | h
  · exact .inl (.inl (w.get h fun _ z => nomatch z))
  · exact .inl (.inr ⟨o, w.get h fun _ z => nomatch z⟩)
  · exact .inr h
theorem Pk.lst {ds : List D} (w : Wf K mg S O F H σ env) (h : Pk K mg F H (.lst ds) v) : ∃ p xs, v = .ref p ∧ H p = some (.lst xs) ∧ Reps K mg F ds xs := by
  rcases h with h | ⟨p, o, e, ho, ht⟩
  · cases h with
    | lst q r => exact ⟨_, _, rfl, w.get q (fun _ z => nomatch z), r⟩
  · cases ht with
    | lst r => exact ⟨p, _, e, ho, r⟩
theorem Pk.frl {ds : List D} (w : Wf K mg S O F H σ env) (h : Pk K mg F H (.frl ds) v) : ∃ p xs, v = .ref p ∧ SqL K H p xs ∧ Reps K mg F ds xs := by
  rcases h with h | ⟨p, o, e, ho, ht⟩
  · cases h with
    | frl q r => exact ⟨_, _, rfl, w.sqL q, r⟩
  · cases ht
theorem Pk.tup {ds : List D} (w : Wf K mg S O F H σ env) (h : Pk K mg F H (.tup ds) v) : ∃ p xs, v = .ref p ∧ SqT K H p xs ∧ Reps K mg F ds xs := by
  rcases h with h | ⟨p, o, e, ho, ht⟩
  · cases h with
    | tup q r => exact ⟨_, _, rfl, w.sqT q, r⟩
  · cases ht
theorem Pk.dct {kvs : List (Key × D)} (w : Wf K mg S O F H σ env) (h : Pk K mg F H (.dct kvs) v) : ∃ p ks, v = .ref p ∧ Rd H p (.dK ks) ∧ RepK K mg F kvs ks := by
  rcases h with h | ⟨p, o, e, ho, ht⟩
  · cases h with
    | dct q r => exact ⟨_, _, rfl, w.rd q, r⟩
  · cases ht with
    | dct r => exact ⟨p, _, e, .inl ho, r⟩
theorem Pk.dcT {kvs : List (List Key × D)} (w : Wf K mg S O F H σ env) (h : Pk K mg F H (.dcT kvs) v) : ∃ p ks, v = .ref p ∧ Rd H p (.dT ks) ∧ RepT K mg F kvs ks := by
  rcases h with h | ⟨p, o, e, ho, ht⟩
  · cases h with
    | dcT q r => exact ⟨_, _, rfl, w.rd q, r⟩
  · cases ht with
    | dcT r => exact ⟨p, _, e, .inl ho, r⟩
theorem Pk.ins {c : Str} {fs : List (Str × D)} (w : Wf K mg S O F H σ env) (h : Pk K mg F H (.ins c fs) v) : ∃ p C dx vs, v = .ref p ∧ mg c = some (.ref C) ∧ H p = some (.ins C dx vs) ∧ RepF K mg F fs vs := by
  rcases h with h | ⟨p, o, e, ho, ht⟩
  · cases h with
    | ins m q r => exact ⟨_, _, _, _, rfl, m, w.get q (fun _ z => nomatch z), r⟩
  · cases ht with
    | ins m r => exact ⟨p, _, _, _, e, m, ho, r⟩

/-! ### slots changed -/
theorem en_set {env : En} {i j : Nat} {s u : Sl} (h : (env.set i s)[j]? = some u) : (i = j ∧ u = s ∧ i < env.length) ∨ (i ≠ j ∧ env[j]? = some u) := by
  rw [List.getElem?_set] at h
  by_cases e : i = j
  · rw [if_pos e] at h
    by_cases l : i < env.length
    · rw [if_pos l] at h
      exact .inl ⟨e, (Option.some.inj h).symm, l⟩
    · rw [if_neg l] at h; cases h
  · rw [if_neg e] at h
    exact .inr ⟨e, h⟩
theorem Own.of_set {s : Sl} {p : Addr} (h : Own σ (env.set i s) p) (hs : s.own = false) : Own σ env p := by
  obtain ⟨j, u, h1, h2, h3⟩ := h
  rcases en_set h1 with ⟨e, e2, _⟩ | ⟨_, h1⟩
  · subst e2; rw [hs] at h2; cases h2
  · exact ⟨j, u, h1, h2, h3⟩
/-- a slot is forgotten -/
theorem Wf.drop (w : Wf K mg S O F H σ env) (i : Nat) : Wf K mg S O F H σ (env.set i .no) where
  fz := w.fz
  sl := fun j s h => by
    rcases en_set h with ⟨e, e2, l⟩ | ⟨_, h1⟩
    · subst e; subst e2
      obtain ⟨v, hv, _⟩ := w.sl i (env[i]) (List.getElem?_eq_getElem l)
      exact ⟨v, hv, trivial⟩
    · exact w.sl j s h1
  ds := fun a b s u p h1 h2 q1 q2 z1 z2 => by
    rcases en_set h1 with ⟨e, e2, l⟩ | ⟨_, h1⟩
    · subst e2; cases q1
    · rcases en_set h2 with ⟨e, e2, l⟩ | ⟨_, h2⟩
      · subst e2; cases q2
      · exact w.ds a b s u p h1 h2 q1 q2 z1 z2
  oh := w.oh
  ow := fun a q => w.ow a (q.of_set rfl)
  od := w.od
/-- the value at i is known to stand for d -/
theorem Wf.share (w : Wf K mg S O F H σ env) (hv : σ[i]? = some (some v)) (r : Rep K mg F d v) : Wf K mg S O F H σ (env.set i (.sh d)) where
  fz := w.fz
  sl := fun j s h => by
    rcases en_set h with ⟨e, e2, l⟩ | ⟨_, h1⟩
    · subst e; subst e2
      exact ⟨_, hv, v, rfl, r⟩
    · exact w.sl j s h1
  ds := fun a b s u p h1 h2 q1 q2 z1 z2 => by
    rcases en_set h1 with ⟨e, e2, l⟩ | ⟨_, h1⟩
    · subst e2; cases q1
    · rcases en_set h2 with ⟨e, e2, l⟩ | ⟨_, h2⟩
      · subst e2; cases q2
      · exact w.ds a b s u p h1 h2 q1 q2 z1 z2
  oh := w.oh
  ow := fun a q => w.ow a (q.of_set rfl)
  od := w.od
/-- a value is stored at i -/
theorem Wf.put_sh (w : Wf K mg S O F H σ env) (r : Rep K mg F d v) : Wf K mg S O F H (σ.set i (some v)) (env.set i (.sh d)) where
  fz := w.fz
  sl := fun j s h => by
    rcases en_set h with ⟨e, e2, l⟩ | ⟨ne, h1⟩
    · subst e; subst e2
      obtain ⟨u, hu, _⟩ := w.sl i (env[i]) (List.getElem?_eq_getElem l)
      have l2 : i < σ.length := (List.getElem?_eq_some_iff.mp hu).1
      exact ⟨some v, by rw [List.getElem?_set_self l2], v, rfl, r⟩
    · obtain ⟨u, hu, ok⟩ := w.sl j s h1
      exact ⟨u, by rw [List.getElem?_set_ne ne]; exact hu, ok⟩
  ds := fun a b s u p h1 h2 q1 q2 z1 z2 => by
    rcases en_set h1 with ⟨e, e2, l⟩ | ⟨n1, h1⟩
    · subst e2; cases q1
    · rcases en_set h2 with ⟨e, e2, l⟩ | ⟨n2, h2⟩
      · subst e2; cases q2
      · rw [List.getElem?_set_ne n1] at z1
        rw [List.getElem?_set_ne n2] at z2
        exact w.ds a b s u p h1 h2 q1 q2 z1 z2
  oh := w.oh
  ow := fun a q => by
    obtain ⟨j, u, h1, h2, h3⟩ := q
    rcases en_set h1 with ⟨e, e2, _⟩ | ⟨ne, h1⟩
    · subst e2; cases h2
    · rw [List.getElem?_set_ne ne] at h3
      exact w.ow a ⟨j, u, h1, h2, h3⟩
  od := w.od
theorem Wf.put_ow {p : Addr} {o : HO} (w : Wf K mg S O F H σ env) (hf : F p = none) (ho : H p = some o) (ht : Top K mg F o d) (hn : ¬ Own σ env p) (hO : ¬ O p) : Wf K mg S O F H (σ.set i (some (.ref p))) (env.set i (.ow d)) where
  fz := w.fz
  sl := fun j s h => by
    rcases en_set h with ⟨e, e2, l⟩ | ⟨ne, h1⟩
    · subst e; subst e2
      obtain ⟨u, hu, _⟩ := w.sl i (env[i]) (List.getElem?_eq_getElem l)
      have l2 : i < σ.length := (List.getElem?_eq_some_iff.mp hu).1
      exact ⟨some (.ref p), by rw [List.getElem?_set_self l2], p, o, rfl, hf, ho, ht⟩
    · obtain ⟨u, hu, ok⟩ := w.sl j s h1
      exact ⟨u, by rw [List.getElem?_set_ne ne]; exact hu, ok⟩
  ds := fun a b s u q h1 h2 q1 q2 z1 z2 => by
    have self : ∀ {j : Nat} {s : Sl}, i ≠ j → env[j]? = some s → s.own = true → σ[j]? = some (some (V.ref p)) → False := fun {j s} _ h1 h2 h3 => hn ⟨j, s, h1, h2, h3⟩
    have hi : ∀ {x : Option V}, i < env.length → (σ.set i (some (.ref p)))[i]? = some x → x = some (.ref p) := fun {x} l z => by
      obtain ⟨u, hu, _⟩ := w.sl i (env[i]) (List.getElem?_eq_getElem l)
      have l2 : i < σ.length := (List.getElem?_eq_some_iff.mp hu).1
      rw [List.getElem?_set_self l2] at z
      exact (Option.some.inj z).symm
    rcases en_set h1 with ⟨e, e2, l⟩ | ⟨n1, h1⟩
    · subst e
      have eq := hi l z1
      cases eq
      rcases en_set h2 with ⟨e, e2, l⟩ | ⟨n2, h2⟩
      · exact e
      · rw [List.getElem?_set_ne n2] at z2
        exact (self n2 h2 q2 z2).elim
    · rw [List.getElem?_set_ne n1] at z1
      rcases en_set h2 with ⟨e, e2, l⟩ | ⟨n2, h2⟩
      · subst e
        have eq := hi l z2
        cases eq
        exact (self n1 h1 q1 z1).elim
      · rw [List.getElem?_set_ne n2] at z2
        exact w.ds a b s u q h1 h2 q1 q2 z1 z2
  oh := w.oh
  ow := fun a q => by
    obtain ⟨j, u, h1, h2, h3⟩ := q
    rcases en_set h1 with ⟨e, e2, l⟩ | ⟨ne, h1⟩
    · subst e
      obtain ⟨x, hu, _⟩ := w.sl i (env[i]) (List.getElem?_eq_getElem l)
      have l2 : i < σ.length := (List.getElem?_eq_some_iff.mp hu).1
      rw [List.getElem?_set_self l2] at h3
      cases h3
      exact hO
    · rw [List.getElem?_set_ne ne] at h3
      exact w.ow a ⟨j, u, h1, h2, h3⟩
  od := w.od
/-- an object that no slot owns is frozen -/
theorem Wf.freeze {p : Addr} {o : HO} (w : Wf K mg S O F H σ env) (ho : H p = some o) (hn : ¬ Own σ env p) (hz : ∀ q u, o ≠ .frz q u) (hf : F p = none) (hO : ¬ O p) : Wf K mg S O (upd F p o) H σ env where
  fz := fun a u h => by
    by_cases e : a = p
    · subst e; rw [upd_same] at h; cases h; exact .inl ho
    · rw [upd_ne e] at h; exact w.fz a u h
  sl := fun j s h => by
    obtain ⟨u, hu, ok⟩ := w.sl j s h
    have sub : Sub F (upd F p o) := fun a u h => by rw [upd_ne (ne_of_none h hf)]; exact h
    refine ⟨u, hu, ?_⟩
    cases s with
    | no => trivial
    | sh d => obtain ⟨x, ex, r⟩ := ok; exact ⟨x, ex, r.mono sub⟩
    | ow d =>
      obtain ⟨q, oq, ex, hfq, hoq, ht⟩ := ok
      have ne : q ≠ p := fun e => by subst e; subst ex; exact hn ⟨j, _, h, rfl, hu⟩
      exact ⟨q, oq, ex, by rw [upd_ne ne]; exact hfq, hoq, ht.mono sub⟩
    | io d =>
      obtain ⟨q, oq, el, ex, hfq, hoq, ht⟩ := ok
      have ne : q ≠ p := fun e => by subst e; subst ex; exact hn ⟨j, _, h, rfl, hu⟩
      exact ⟨q, oq, el, ex, by rw [upd_ne ne]; exact hfq, hoq, ht.mono sub⟩
    | ex f d => obtain ⟨a, dd, x, es, ev, hd, r⟩ := ok; exact ⟨a, dd, x, es, ev, hd, r.mono sub⟩
  ds := w.ds
  oh := w.oh
  ow := w.ow
  od := fun a ks q h => by rw [upd_ne (fun e => by subst e; exact hO q)] at h; exact w.od a ks q h
theorem Top.nz {o : HO} (h : Top K mg F o d) : ∀ q u, o ≠ .frz q u := by
  cases h with
  | lst _ => exact fun _ _ z => nomatch z
  | dct _ => exact fun _ _ z => nomatch z
  | dcT _ => exact fun _ _ z => nomatch z
  | ins _ _ => exact fun _ _ z => nomatch z
theorem Tr.freeze {p : Addr} {o : HO} (hf : F p = none) (h : ¬ O p) : Tr O F H (upd F p o) H :=
  ⟨fun a u h => by rw [upd_ne (ne_of_none h hf)]; exact h, fun _ _ => rfl, fun a q => by rw [upd_ne (fun e => by subst e; exact h q)], fun a u h => ⟨u, h⟩⟩
end
end MM

set_option Elab.async false
set_option linter.all false
set_option maxRecDepth 100000
set_option maxHeartbeats 2000000
/-! M2: the judgements; names, constants, blocks. -/
namespace MM
open PySem L2
section
variable {K : PySem.W.Frag} {mg : Str → Option Value} {S : Su} {O : Addr → Prop} {W : WX} {F H F' H' : Hp} {σ σ' : St} {env env' : En} {v : V} {d : D} {t : Tk} {i : Nat} {α : Type}

/-- a value is frozen, by what the frame holds -/
theorem frc_ok (w : Wf K mg S O F H σ env) (h : TkOk K mg O F H σ env v t) {f : D → En → R α} {k : Hp → Hp → En → α → Prop} (q : PostE K mg S O W F H σ ((frc t env).bind f) k) :
    ∃ F' e' d, Tr O F H F' H ∧ Wf K mg S O F' H σ e' ∧ Rep K mg F' d v ∧ frc t env = .ok d e' ∧ PostE K mg S O W F' H σ (f d e') k := by
  cases t with
  | val d => exact ⟨F, env, d, Tr.refl, w, h, rfl, q⟩
  | nw d =>
    obtain ⟨p, o, e, hf, hn, hO, ho, ht⟩ := h
    subst e
    have t1 : Tr O F H (upd F p o) H := Tr.freeze hf hO
    exact ⟨upd F p o, env, d, t1, w.freeze ho hn ht.nz hf hO, (ht.mono t1.fz).rep upd_same, rfl, PostE.on q t1⟩
  | nm j =>
    have h' : σ[j]? = some (some v) := h
    have e0 : frc (.nm j) env = frcS j env (env[j]?) := rfl
    cases qe : env[j]? with
    | none => rw [e0, qe] at q; exact q.elim
    | some s =>
      obtain ⟨u, hu, ok⟩ := w.sl j s qe
      rw [h'] at hu
      cases hu
      cases s with
      | no => rw [e0, qe] at q; exact q.elim
      | sh d =>
        rw [e0, qe] at q ⊢
        obtain ⟨x, ex, r⟩ := ok
        cases ex
        exact ⟨F, env, d, Tr.refl, w, r, rfl, q⟩
      | ow d =>
        rw [e0, qe] at q ⊢
        obtain ⟨p, o, ex, hf, ho, ht⟩ := ok
        cases ex
        have hO : ¬ O p := w.ow p ⟨j, _, qe, rfl, h'⟩
        have t1 : Tr O F H (upd F p o) H := Tr.freeze hf hO
        have hn : ¬ Own σ (env.set j .no) p := fun ⟨b, s, h1, h2, h3⟩ => by
          rcases en_set h1 with ⟨e, e2, _⟩ | ⟨ne, h1⟩
          · subst e2; cases h2
          · exact ne (w.ds j b _ s p qe h1 rfl h2 h' h3)
        have w1 := (w.drop j).freeze ho hn ht.nz hf hO
        have r : Rep K mg (upd F p o) d (.ref p) := (ht.mono t1.fz).rep upd_same
        have w2 := w1.share h' r
        rw [List.set_set] at w2
        exact ⟨upd F p o, env.set j (.sh d), d, t1, w2, r, rfl, PostE.on q t1⟩
      | io d => rw [e0, qe] at q; exact q.elim
      | ex f d => rw [e0, qe] at q; exact q.elim
theorem frc_ok' (w : Wf K mg S O F H σ env) (h : TkOk K mg O F H σ env v t) {d : D} {e' : En} (q : frc t env = .ok d e') : ∃ F', Tr O F H F' H ∧ Wf K mg S O F' H σ e' ∧ Rep K mg F' d v := by
  have z : PostE K mg S O (fun _ _ _ _ => True) F H σ ((frc t env).bind fun d e => .ok d e) (fun _ _ _ _ => True) := by
    rw [q]; exact fun _ _ _ _ => trivial
  obtain ⟨F', e2, d2, t1, w1, r, e, _⟩ := frc_ok w h z
  rw [q] at e
  cases e
  exact ⟨F', t1, w1, r⟩
/-- a value is stored under a name -/
theorem asg_ok (w : Wf K mg S O F H σ env) (h : TkOk K mg O F H σ env v t) {e' : En} (q : asg i t env = .ok () e') :
    ∃ F', Tr O F H F' H ∧ Wf K mg S O F' H (σ.set i (some v)) e' := by
  have q' : asgS i t env (env[i]?) = .ok () e' := q
  have key : ∀ s, env[i]? = some s → asgS i t env (some s) = .ok () e' → ∃ F', Tr O F H F' H ∧ Wf K mg S O F' H (σ.set i (some v)) e' := by
    intro s hs z
    have z' : asgT i env t = .ok () e' := by
      cases s with
      | io d => cases z
      | no => exact z
      | sh _ => exact z
      | ow _ => exact z
      | ex _ _ => exact z
    cases t with
    | val d => cases z'; exact ⟨F, Tr.refl, w.put_sh h⟩
    | nw d =>
      cases z'
      obtain ⟨p, o, e, hf, hn, hO, ho, ht⟩ := h
      subst e
      exact ⟨F, Tr.refl, w.put_ow hf ho ht hn hO⟩
    | nm j =>
      have z2 : (frc (.nm j) env).bind (fun d e' => R.ok () (e'.set i (.sh d))) = .ok () e' := z'
      cases qf : frc (.nm j) env with
      | no => rw [qf] at z2; cases z2
      | er c x e1 => rw [qf] at z2; cases z2
      | ok d e1 =>
        rw [qf] at z2
        cases z2
        obtain ⟨F1, t1, w1, r⟩ := frc_ok' w h qf
        exact ⟨F1, t1, w1.put_sh r⟩
  cases e : env[i]? with
  | none => rw [e] at q'; cases q'
  | some s => rw [e] at q'; exact key s e q'
end

/-! ### the judgements -/
section
variable (X : Cx) (S : Su) (W : WX)
def tM (f : En → R Tk) : TE := fun σ H Q => ∃ F env O, Wf X.K X.mg S O F H σ env ∧ PostE X.K X.mg S O W F H σ (f env) (fun F' H' e' t => ∀ v, TkOk X.K X.mg O F' H' σ e' v t → Q v H')
def tMT (f : En → R Bool) : TT := fun σ H Q => ∃ F env O, Wf X.K X.mg S O F H σ env ∧ PostE X.K X.mg S O W F H σ (f env) (fun F' H' e' b => Q b H')
/-- an argument: data, or a name's object that is lent -/
inductive Ar where
  | d (d : D) | mv (i : Nat)
def ArOk (K : PySem.W.Frag) (mg : Str → Option Value) (F : Hp) (σ : St) : List V → List Ar → Prop
  | [], [] => True
  | v :: vs, .d d :: ts => Rep K mg F d v ∧ ArOk K mg F σ vs ts
  | v :: vs, .mv i :: ts => σ[i]? = some (some v) ∧ ArOk K mg F σ vs ts
  | _, _ => False
theorem ArOk.mono {K : PySem.W.Frag} {mg : Str → Option Value} {F F' : Hp} {σ : St} (s : Sub F F') : ∀ {vs : List V} {ts : List Ar}, ArOk K mg F σ vs ts → ArOk K mg F' σ vs ts
  | [], [], _ => trivial
  | _ :: _, .d _ :: _, ⟨a, b⟩ => ⟨a.mono s, b.mono s⟩
  | _ :: _, .mv _ :: _, ⟨a, b⟩ => ⟨a, b.mono s⟩
  | [], _ :: _, h => h.elim
  | _ :: _, [], h => h.elim
def tMA (f : En → R (List Ar)) : TA := fun σ H Q => ∃ F env O, Wf X.K X.mg S O F H σ env ∧ PostE X.K X.mg S O W F H σ (f env) (fun F' H' e' ts => ∀ vs, ArOk X.K X.mg F' σ vs ts → Q vs H')
inductive Fl where
  | nx | rt (t : Tk) | bk | ct
def tMS (g : En → R Fl) : TS := fun D σ H => ∃ F env O, Wf X.K X.mg S O F H σ env ∧ Post X.K X.mg S O W F H (g env) (fun σ' F' H' e' fl => match fl with
  | .nx => D.nx σ' H'
  | .bk => D.bk σ' H'
  | .ct => D.ct σ' H'
  | .rt t => ∀ v, TkOk X.K X.mg O F' H' σ' e' v t → D.rt v H')
abbrev ME (e : Expr) (f : En → R Tk) : Prop := PE X e (tM X S W f)
abbrev MT (e : Expr) (f : En → R Bool) : Prop := PT X e (tMT X S W f)
abbrev MA (es : List Expr) (f : En → R (List Ar)) : Prop := PA X es (tMA X S W f)
abbrev MS (s : Stmt) (g : En → R Fl) : Prop := PS X s (tMS X S W g)
abbrev MSs (s : List Stmt) (g : En → R Fl) : Prop := PSs X s (tMS X S W g)
end

section
variable {X : Cx} {S : Su} {W : WX} {e a b : Expr} {pos : Pos}
/-! ### weakening -/
theorem _root_.L2.PE.wk {t t' : TE} (h : PE X e t) (k : ∀ σ H Q, t' σ H Q → t σ H Q) : PE X e t' := ⟨fun pins s σ H Q I q => h.run pins s σ H Q I (k σ H Q q)⟩
theorem _root_.L2.PT.wk {t t' : TT} (h : PT X e t) (k : ∀ σ H Q, t' σ H Q → t σ H Q) : PT X e t' := ⟨fun pins s σ H Q I q => h.run pins s σ H Q I (k σ H Q q)⟩
theorem _root_.L2.PA.wk {es : List Expr} {t t' : TA} (h : PA X es t) (k : ∀ σ H Q, t' σ H Q → t σ H Q) : PA X es t' := ⟨fun pos pins s σ H Q I q => h.run pos pins s σ H Q I (k σ H Q q)⟩
theorem _root_.L2.PS.wk {st : Stmt} {t t' : TS} (h : PS X st t) (k : ∀ D σ H, t' D σ H → t D σ H) : PS X st t' := ⟨fun pins s σ H D I q => h.run pins s σ H D I (k D σ H q)⟩
theorem _root_.L2.PSs.wk {st : List Stmt} {t t' : TS} (h : PSs X st t) (k : ∀ D σ H, t' D σ H → t D σ H) : PSs X st t' := ⟨fun pins s σ H D I q => h.run pins s σ H D I (k D σ H q)⟩

/-! ### names and constants -/
def nmS (i : Nat) (e : En) : Option Sl → R Tk
  | some .no => .no
  | some (.ex _ _) => .no
  | none => .no
  | some _ => .ok (.nm i) e
def mNm (i : Nat) (e : En) : R Tk := nmS i e (e[i]?)
theorem me_var {i : Nat} (h : PE X e (tVar i)) : ME X S W e (mNm i) := h.wk fun σ H Q ⟨F, env, O, w, p⟩ => by
  have e0 : mNm i env = nmS i env (env[i]?) := rfl
  rw [e0] at p
  have fin : ∀ v, σ[i]? = some (some v) → PostE X.K X.mg S O W F H σ (.ok (.nm i) env) (fun F' H' e' t => ∀ v, TkOk X.K X.mg O F' H' σ e' v t → Q v H') → tVar i σ H Q :=
    fun v hv p => ⟨v, hv, PostE.ok w p v hv⟩
  cases q : env[i]? with
  | none => rw [q] at p; exact p.elim
  | some s =>
    rw [q] at p
    obtain ⟨u, hu, ok⟩ := w.sl i s q
    cases s with
    | no => exact p.elim
    | ex f d => exact p.elim
    | sh d => obtain ⟨x, ex, _⟩ := ok; subst ex; exact fin x hu p
    | ow d => obtain ⟨x, _, ex, _⟩ := ok; subst ex; exact fin _ hu p
    | io d => obtain ⟨x, _, _, ex, _⟩ := ok; subst ex; exact fin _ hu p
def mC (d : D) (e : En) : R Tk := .ok (.val d) e
theorem me_c {d : D} {x : V} (h : PE X e (tC x)) (r : ∀ F, Rep X.K X.mg F d x) : ME X S W e (mC d) := h.wk fun σ H Q ⟨F, env, O, w, p⟩ => PostE.ok w p x (r F)
theorem me_int {i : Int} {j} : ME X S W (.Constant (.int i) j pos) (mC (.int i)) := me_c pe_int fun _ => .int i
theorem me_bl {i : Bool} {j} : ME X S W (.Constant (.bool i) j pos) (mC (.bl i)) := me_c pe_bl fun _ => .bl i
theorem me_str {i : Str} {j} : ME X S W (.Constant (.str i) j pos) (mC (.str i)) := me_c pe_str fun _ => .str i
theorem me_non {j} : ME X S W (.Constant .none j pos) (mC .non) := me_c pe_non fun _ => .non

/-! ### arguments -/
/-- mv: an object of the frame's own is lent, not frozen; what the caller lent is lent on -/
def mArS (mv : Bool) (i : Nat) (e : En) : Option Sl → R Ar
  | some (.io _) => .ok (.mv i) e
  | some (.ow d) => bif mv then .ok (.mv i) e else .ok (.d d) (e.set i (.sh d))
  | some (.sh d) => .ok (.d d) e
  | _ => .no
def mAr (mv : Bool) (t : Tk) (e : En) : R Ar := match t with
  | .nm i => mArS mv i e (e[i]?)
  | .val d => .ok (.d d) e
  | .nw d => .ok (.d d) e
def mA0 (e : En) : R (List Ar) := .ok [] e
def mA1 (mv : Bool) (f : En → R Tk) (g : En → R (List Ar)) (e : En) : R (List Ar) := (f e).bind fun t e1 => (mAr mv t e1).bind fun a e2 => (g e2).bind fun ts e3 => .ok (a :: ts) e3
theorem mAr_ok {K : PySem.W.Frag} {mg : Str → Option Value} {O : Addr → Prop} {F H : Hp} {σ : St} {env : En} {v : V} {t : Tk} {mv : Bool} {α : Type} {f : Ar → En → R α} {k : Hp → Hp → En → α → Prop} (w : Wf K mg S O F H σ env) (h : TkOk K mg O F H σ env v t)
    (q : PostE K mg S O W F H σ ((mAr mv t env).bind f) k) : ∃ F' e' a, Tr O F H F' H ∧ Wf K mg S O F' H σ e' ∧ ArOk K mg F' σ [v] [a] ∧ PostE K mg S O W F' H σ (f a e') k := by
  have fr : ∀ {t : Tk}, TkOk K mg O F H σ env v t → PostE K mg S O W F H σ (((frc t env).bind fun d e1 => R.ok (Ar.d d) e1).bind f) k → ∃ F' e' a, Tr O F H F' H ∧ Wf K mg S O F' H σ e' ∧ ArOk K mg F' σ [v] [a] ∧ PostE K mg S O W F' H σ (f a e') k := by
    intro t h q
    have e0 : ((frc t env).bind fun d e1 => R.ok (Ar.d d) e1).bind f = (frc t env).bind fun d e1 => f (.d d) e1 := by cases frc t env <;> rfl
    rw [e0] at q
    obtain ⟨F', e', d, t1, w1, r, _, q1⟩ := frc_ok w h q
    exact ⟨F', e', .d d, t1, w1, ⟨r, trivial⟩, q1⟩
  cases t with
  | val d => exact fr h q
  | nw d => exact fr h q
  | nm i =>
    have q' : PostE K mg S O W F H σ ((mArS mv i env (env[i]?)).bind f) k := q
    have lend : ∃ F' e' a, Tr O F H F' H ∧ Wf K mg S O F' H σ e' ∧ ArOk K mg F' σ [v] [a] ∧ (PostE K mg S O W F H σ (f (.mv i) env) k → PostE K mg S O W F' H σ (f a e') k) := ⟨F, env, .mv i, Tr.refl, w, ⟨h, trivial⟩, fun z => z⟩
    have fr2 : ∀ {s : Sl}, env[i]? = some s → PostE K mg S O W F H σ (((frcS i env (some s)).bind fun d e1 => R.ok (Ar.d d) e1).bind f) k → ∃ F' e' a, Tr O F H F' H ∧ Wf K mg S O F' H σ e' ∧ ArOk K mg F' σ [v] [a] ∧ PostE K mg S O W F' H σ (f a e') k := by
      intro s e q
      rw [← e] at q
      exact fr h q
    cases e : env[i]? with
    | none => rw [e] at q'; exact q'.elim
    | some s =>
      rw [e] at q'
      cases s with
      | ow d =>
        cases mv with
        | true => obtain ⟨F', e', a, t1, w1, r, z⟩ := lend; exact ⟨F', e', a, t1, w1, r, z q'⟩
        | false => exact fr2 e q'
      | io d => obtain ⟨F', e', a, t1, w1, r, z⟩ := lend; exact ⟨F', e', a, t1, w1, r, z q'⟩
      | no => exact q'.elim
      | sh d => exact fr2 e q'
      | ex c d => exact q'.elim
theorem ma_nil : MA X S W [] mA0 := pa_nil.wk fun σ H Q ⟨F, env, O, w, p⟩ => PostE.ok w p [] trivial
theorem ArOk.cons {K : PySem.W.Frag} {mg : Str → Option Value} {F F' : Hp} {σ : St} {v : V} {a : Ar} {vs : List V} {ts : List Ar} (h : ArOk K mg F σ [v] [a]) (s : Sub F F') (r : ArOk K mg F' σ vs ts) : ArOk K mg F' σ (v :: vs) (a :: ts) := by
  cases a with
  | d d => exact ⟨h.1.mono s, r⟩
  | mv i => exact ⟨h.1, r⟩
theorem ma_cons (mv : Bool) {es : List Expr} {f : En → R Tk} {g : En → R (List Ar)} (h1 : ME X S W e f) (h2 : MA X S W es g) (hs : starEach (e :: es) X.env = (false, eval e X.env) :: starEach es X.env := by rfl) : MA X S W (e :: es) (mA1 mv f g) :=
  (pa_cons h1 h2 hs).wk fun σ H Q ⟨F, env, O, w, p⟩ => by
    refine ⟨F, env, O, w, PostE.mono (PostE.bind p) fun F1 H1 e1 t t1 w1 q v tk => ?_⟩
    obtain ⟨F2, e2, a, t2, w2, ra, q2⟩ := mAr_ok w1 tk q
    exact ⟨F2, e2, O, w2, PostE.mono (PostE.bind q2) fun F3 H3 e3 ts t3 w3 z vs r => PostE.ok w3 z (v :: vs) (ra.cons t3.fz r)⟩

/-! ### blocks -/
def mSeq (g h : En → R Fl) (e : En) : R Fl := (g e).bind fun fl e1 => match fl with
  | .nx => h e1
  | fl => .ok fl e1
def mNext (e : En) : R Fl := .ok .nx e
theorem mss_nil : MSs X S W [] mNext := pss_nil.wk fun D σ H ⟨F, env, O, w, p⟩ => p σ F H Tr.refl w
theorem mss_cons {st : Stmt} {rest : List Stmt} {g h : En → R Fl} (h1 : MS X S W st g) (h2 : MSs X S W rest h) : MSs X S W (st :: rest) (mSeq g h) :=
  (pss_cons h1 h2).wk fun D σ H ⟨F, env, O, w, p⟩ => by
    refine ⟨F, env, O, w, Post.mono (Post.bind p) fun σ1 F1 H1 e1 fl t1 w1 q => ?_⟩
    cases fl with
    | nx => exact ⟨F1, e1, O, w1, q⟩
    | bk => exact q σ1 F1 H1 Tr.refl w1
    | ct => exact q σ1 F1 H1 Tr.refl w1
    | rt t => exact q σ1 F1 H1 Tr.refl w1
theorem mss_one {st : Stmt} {g : En → R Fl} (h1 : MS X S W st g) : MSs X S W [st] g := pss_one h1
theorem ms_pass : MS X S W (.Pass pos) mNext := ps_pass.wk fun D σ H ⟨F, env, O, w, p⟩ => p σ F H Tr.refl w
def mBreak (e : En) : R Fl := .ok .bk e
def mCont (e : En) : R Fl := .ok .ct e
theorem ms_break : MS X S W (.Break pos) mBreak := ps_break.wk fun D σ H ⟨F, env, O, w, p⟩ => p σ F H Tr.refl w
theorem ms_continue : MS X S W (.Continue pos) mCont := ps_continue.wk fun D σ H ⟨F, env, O, w, p⟩ => p σ F H Tr.refl w
theorem ms_doc {x j pos'} : MS X S W (.Expr (.Constant (.str x) j pos) pos') mNext := ps_doc.wk fun D σ H ⟨F, env, O, w, p⟩ => p σ F H Tr.refl w
/-- never reached -/
def mNo {α : Type} (_ : En) : R α := .no
theorem ms_never {st : Stmt} : MS X S W st mNo := ps_never.wk fun D σ H ⟨F, env, O, w, p⟩ => p
theorem mss_never {st : List Stmt} : MSs X S W st mNo := pss_never.wk fun D σ H ⟨F, env, O, w, p⟩ => p
def mSet (i : Nat) (f : En → R Tk) (e : En) : R Fl := (f e).bind fun t e1 => (asg i t e1).bind fun _ e2 => .ok .nx e2
theorem asg_post {K : PySem.W.Frag} {mg : Str → Option Value} {O : Addr → Prop} {F H : Hp} {σ : St} {env : En} {v : V} {t : Tk} {i : Nat} {α : Type} {k : St → Hp → Hp → En → α → Prop} {f : Unit → En → R α} (w : Wf K mg S O F H σ env) (h : TkOk K mg O F H σ env v t)
    (p : Post K mg S O W F H ((asg i t env).bind f) k) : ∃ F' e', Tr O F H F' H ∧ Wf K mg S O F' H (σ.set i (some v)) e' ∧ asg i t env = .ok () e' ∧ Post K mg S O W F' H (f () e') k := by
  cases q : asg i t env with
  | no => rw [q] at p; exact p.elim
  | er c x e1 =>
    have : ∀ c x e1, asg i t env ≠ .er c x e1 := by
      intro c x e1 z
      have z' : asgS i t env (env[i]?) = .er c x e1 := z
      cases e : env[i]? with
      | none => rw [e] at z'; cases z'
      | some s =>
        rw [e] at z'
        have fr : ∀ j, (frc (.nm j) env).bind (fun d e' => R.ok () (e'.set i (.sh d))) ≠ .er c x e1 := by
          intro j z2
          have e0 : frc (.nm j) env = frcS j env (env[j]?) := rfl
          rw [e0] at z2
          cases e2 : env[j]? with
          | none => rw [e2] at z2; cases z2
          | some s2 => rw [e2] at z2; cases s2 <;> cases z2
        cases s <;> cases t <;> first | cases z' | exact fr _ z'
    exact (this _ _ _ q).elim
  | ok u e1 =>
    rw [q] at p
    obtain ⟨F', t1, w1⟩ := asg_ok w h q
    exact ⟨F', e1, t1, w1, rfl, Post.on p t1⟩
theorem ms_set {i : Nat} {st : Stmt} {f : En → R Tk} (hp : ∀ te, PE X e te → PS X st (tAsg te (gName i))) (h : ME X S W e f) : MS X S W st (mSet i f) :=
  (hp _ h).wk fun D σ H ⟨F, env, O, w, p⟩ => by
    refine ⟨F, env, O, w, PostE.mono (Post.toE p) fun F1 H1 e1 t t1 w1 q v tk => ?_⟩
    obtain ⟨F2, e2, t2, w2, _, q2⟩ := asg_post w1 tk q
    exact q2 _ F2 H1 Tr.refl w2
def mRet (f : En → R Tk) (e : En) : R Fl := (f e).bind fun t e1 => .ok (.rt t) e1
theorem ms_ret {f : En → R Tk} (h : ME X S W e f) : MS X S W (.Return (some e) pos) (mRet f) := (ps_ret h).wk fun D σ H ⟨F, env, O, w, p⟩ =>
  ⟨F, env, O, w, PostE.mono (Post.toE p) fun F1 H1 e1 t t1 w1 q v tk => q σ F1 H1 Tr.refl w1 v tk⟩
def mRetN (e : En) : R Fl := .ok (.rt (.val .non)) e
theorem ms_retN : MS X S W (.Return none pos) mRetN := ps_retN.wk fun D σ H ⟨F, env, O, w, p⟩ => p σ F H Tr.refl w _ .non
def mDrop (f : En → R Tk) (e : En) : R Fl := (f e).bind fun _ e1 => .ok .nx e1
theorem ms_expr {f : En → R Tk} (h : ME X S W e f) (hs : swapsWith e none pos.line X.env = pure false := by rfl) : MS X S W (.Expr e pos) (mDrop f) := (ps_expr h hs).wk fun D σ H ⟨F, env, O, w, p⟩ =>
  ⟨F, env, O, w, PostE.mono (Post.toE p) fun F1 H1 e1 t t1 w1 q v tk => q σ F1 H1 Tr.refl w1⟩
def mIf (c : En → R Bool) (g h : En → R Fl) (e : En) : R Fl := (c e).bind fun b e1 => bif b then g e1 else h e1
theorem ms_if {c : Expr} {p q : List Stmt} {fc : En → R Bool} {g h : En → R Fl} (hc : MT X S W c fc) (hp : MSs X S W p g) (hq : MSs X S W q h) : MS X S W (.If c p q pos) (mIf fc g h) := (ps_if hc hp hq).wk fun D σ H ⟨F, env, O, w, p⟩ =>
  ⟨F, env, O, w, PostE.mono (Post.toE p) fun F1 H1 e1 b t1 w1 q => by
    cases b with
    | true => exact ⟨F1, e1, O, w1, q⟩
    | false => exact ⟨F1, e1, O, w1, q⟩⟩
/-! ### tests -/
def tkB (t : Tk) (e : En) : R Bool := match pk t e with
  | some (.bl b) => .ok b e
  | _ => .no
def mTb (f : En → R Tk) (e : En) : R Bool := (f e).bind tkB
/-- an expression that gives a bool, as a test -/
theorem mt_val {f : En → R Tk} (h : ME X S W e f) (he : ∀ whole, isTrue e X.env whole = (do let v ← whole; standAt e.pos; PySem.holding [v] (truthy v)) := by intro _; rfl) : MT X S W e (mTb f) := (pt_val h he).wk fun σ H Q ⟨F, env, O, w, p⟩ =>
  ⟨F, env, O, w, PostE.mono (PostE.bind p) fun F1 H1 e1 t t1 w1 q v tk => by
    unfold tkB at q
    cases z : pk t e1 with
    | none => rw [z] at q; exact q.elim
    | some d =>
      rw [z] at q
      cases d with
      | bl b => exact ⟨b, (pk_ok w1 tk z).bl, PostE.ok w1 q⟩
      | _ => exact q.elim⟩
def mNot (f : En → R Bool) (e : En) : R Bool := (f e).bind fun b e1 => .ok (!b) e1
theorem mt_not {f : En → R Bool} (h : MT X S W a f) : MT X S W (.UnaryOp .Not a pos) (mNot f) := (pt_not h).wk fun σ H Q ⟨F, env, O, w, p⟩ =>
  ⟨F, env, O, w, PostE.mono (PostE.bind p) fun F1 H1 e1 b t1 w1 q => PostE.ok w1 q⟩
end
end MM

set_option Elab.async false
set_option linter.all false
set_option maxRecDepth 100000
set_option maxHeartbeats 2000000
/-! M3: operators, comparisons, displays. -/
namespace MM
open PySem L2
section
variable {K : PySem.W.Frag} {mg : Str → Option Value} {S : Su} {O : Addr → Prop} {W : WX} {F H F' H' : Hp} {σ σ' : St} {env env' : En} {v : V} {d : D} {t : Tk} {i : Nat} {α : Type}
theorem TkOk.un {t' : Tk} {v' : V} (h : TkOk K mg (Pd O t v) F H σ env v' t') : TkOk K mg O F H σ env v' t' := by
  cases t' with
  | val d => exact h
  | nw d =>
    obtain ⟨p, o, e, hf, hn, hO, r⟩ := h
    exact ⟨p, o, e, hf, hn, fun q => hO (.inl q), r⟩
  | nm i => exact h
theorem Wf.gone (w : Wf K mg S O F H σ env) {p : Addr} (h : H p = none) : F p = none := by
  cases e : F p with
  | none => rfl
  | some u =>
    rcases w.fz p u e with z | ⟨o, ks, _, z⟩
    · rw [h] at z; cases z
    · rw [h] at z; cases z
theorem Wf.nO (w : Wf K mg S O F H σ env) {p : Addr} (h : H p = none) : ¬ O p := fun q => by
  obtain ⟨u, z, _⟩ := w.oh p q
  rw [h] at z; cases z
theorem Wf.nOwn (w : Wf K mg S O F H σ env) {p : Addr} (h : H p = none) : ¬ Own σ env p := fun ⟨i, s, h1, h2, h3⟩ => by
  obtain ⟨u, hu, ok⟩ := w.sl i s h1
  rw [h3] at hu
  cases hu
  cases s with
  | ow d => obtain ⟨q, o, e, _, ho, _⟩ := ok; cases e; rw [h] at ho; cases ho
  | io d => obtain ⟨q, o, _, e, _, ho, _⟩ := ok; cases e; rw [h] at ho; cases ho
  | _ => cases h2
/-- a new object is laid -/
theorem Wf.new (w : Wf K mg S O F H σ env) {p : Addr} (h : H p = Option.none) (o : HO) : Wf K mg S O F (upd H p o) σ env where
  fz := fun a u q => by
    have ne : a ≠ p := fun e => by subst e; rw [w.gone h] at q; cases q
    rw [upd_ne ne]; exact w.fz a u q
  sl := fun j s q => by
    obtain ⟨u, hu, ok⟩ := w.sl j s q
    refine ⟨u, hu, ?_⟩
    cases s with
    | no => trivial
    | sh d => exact ok
    | ow d => obtain ⟨q, oq, ex, hf, ho, ht⟩ := ok; exact ⟨q, oq, ex, hf, by rw [upd_ne (ne_of_none ho h)]; exact ho, ht⟩
    | io d => obtain ⟨q, oq, el, ex, hf, ho, ht⟩ := ok; exact ⟨q, oq, el, ex, hf, by rw [upd_ne (ne_of_none ho h)]; exact ho, ht⟩
    | ex f d => obtain ⟨a, dd, x, es, ev, hd, r⟩ := ok; exact ⟨a, dd, x, es, ev, by rw [upd_ne (ne_of_none hd h)]; exact hd, r⟩
  ds := w.ds
  oh := fun a q => by
    obtain ⟨u, z, zt⟩ := w.oh a q
    exact ⟨u, by rw [upd_ne (ne_of_none z h)]; exact z, zt⟩
  ow := w.ow
  od := fun a ks q z zd => by
    obtain ⟨o', e⟩ := w.od a ks q z zd
    exact ⟨o', by rw [upd_ne (ne_of_none e h)]; exact e⟩
theorem Tr.new (w : Wf K mg S O F H σ env) {p : Addr} (h : H p = Option.none) (o : HO) : Tr O F H F (upd H p o) :=
  ⟨Sub.rfl', fun a q => upd_ne fun e => w.nO h (e ▸ q), fun _ _ => rfl, fun a u q => ⟨u, by rw [upd_ne (ne_of_none q h)]; exact q⟩⟩
theorem TkOk.new (w : Wf K mg S O F H σ env) {p : Addr} (h : H p = Option.none) {o : HO} (ht : Top K mg F o d) : TkOk K mg O F (upd H p o) σ env (.ref p) (.nw d) :=
  ⟨p, o, rfl, w.gone h, w.nOwn h, w.nO h, upd_same, ht⟩
/-- what is wanted of a new object, by what is wanted of the outcome -/
theorem new_obj {Q : VK} (w : Wf K mg S O F H σ env) {o : HO} (ht : Top K mg F o d) (q : PostE K mg S O W F H σ (.ok (.nw d) env) (fun F' H' e' t => ∀ v, TkOk K mg O F' H' σ e' v t → Q v H')) :
    ∀ p, H p = Option.none → Q (.ref p) (upd H p o) := fun p h => q F _ (Tr.new w h o) (w.new h o) (.ref p) (TkOk.new w h ht)
/-- a new tuple: frozen at once -/
theorem new_tup {Q : VK} (w : Wf K mg S O F H σ env) {xs : List V} {ds : List D} (r : Reps K mg F ds xs) (q : PostE K mg S O W F H σ (.ok (.val (.tup ds)) env) (fun F' H' e' t => ∀ v, TkOk K mg O F' H' σ e' v t → Q v H')) :
    ∀ p, H p = Option.none → Q (.ref p) (upd H p (.tup xs)) := fun p h => by
  have w1 := w.new h (.tup xs)
  have t1 := Tr.new w h (.tup xs)
  have w2 : Wf K mg S O (upd F p (.tup xs)) (upd H p (.tup xs)) σ env := w1.freeze upd_same (w.nOwn h) (fun _ _ z => nomatch z) (w.gone h) (w.nO h)
  have t2 : Tr O F (upd H p (.tup xs)) (upd F p (.tup xs)) (upd H p (.tup xs)) := Tr.freeze (w.gone h) (w.nO h)
  exact q _ _ (t1.trans t2) w2 (.ref p) (.tup (.inl (.inl upd_same)) (r.mono t2.fz))
end

section
variable {X : Cx} {S : Su} {W : WX} {e a b : Expr} {pos : Pos}
/-- two operands, then an operation -/
def mOp2 (f g : En → R Tk) (op : Tk → Tk → En → R Tk) (e : En) : R Tk := (f e).bind fun t e1 => (g e1).bind fun u e2 => op t u e2
def Op2 (X : Cx) (S : Su) (W : WX) (r : R2) (op : Tk → Tk → En → R Tk) : Prop :=
  ∀ (F H : Hp) (σ : St) (env : En) (O : Addr → Prop) (v u : V) (t s : Tk) (Q : VK), Wf X.K X.mg S O F H σ env → TkOk X.K X.mg O F H σ env v t → TkOk X.K X.mg (Pd O t v) F H σ env u s →
    PostE X.K X.mg S O W F H σ (op t s env) (fun F' H' e' t => ∀ v, TkOk X.K X.mg O F' H' σ e' v t → Q v H') → r v u H Q
theorem me_op2 {r : R2} {f g : En → R Tk} {op : Tk → Tk → En → R Tk} (hpe : ∀ ta tb, PE X a ta → PE X b tb → PE X e (tOp r ta tb)) (ha : ME X S W a f) (hb : ME X S W b g) (hop : Op2 X S W r op) : ME X S W e (mOp2 f g op) :=
  (hpe _ _ ha hb).wk fun σ H Q ⟨F, env, O, w, p⟩ => by
    refine ⟨F, env, O, w, PostE.mono (PostE.bind p) fun F1 H1 e1 t t1 w1 q v tk => ?_⟩
    refine ⟨F1, e1, Pd O t v, tk.pd w1, PostE.mono (PostE.wide (PostE.bind q) (Pd.up (O := O) (t := t) (v := v))) fun F2 H2 e2 s t2 w2 z u tks => ?_⟩
    obtain ⟨t3, w3, z⟩ := z
    exact hop F2 H2 σ e2 O v u t s Q (w3.weak Pd.up) (tk.tr t3 w3) tks z
/-- an operation on data that are read -/
def pop2 (g : D → D → Option Tk) (t s : Tk) (e : En) : R Tk := match pk t e, pk s e with
  | some a, some b => match g a b with
    | some t => .ok t e
    | none => .no
  | _, _ => .no
def Pop2 (X : Cx) (S : Su) (W : WX) (r : R2) (g : D → D → Option Tk) : Prop :=
  ∀ (F H : Hp) (σ : St) (env : En) (O : Addr → Prop) (v u : V) (x y : D) (t : Tk) (Q : VK), Wf X.K X.mg S O F H σ env → Pk X.K X.mg F H x v → Pk X.K X.mg F H y u → g x y = some t →
    PostE X.K X.mg S O W F H σ (.ok t env) (fun F' H' e' t => ∀ v, TkOk X.K X.mg O F' H' σ e' v t → Q v H') → r v u H Q
theorem Pop2.op {r : R2} {g : D → D → Option Tk} (h : Pop2 X S W r g) : Op2 X S W r (pop2 g) := fun F H σ env O v u t s Q w tk tk' p => by
  unfold pop2 at p
  cases e1 : pk t env with
  | none => rw [e1] at p; exact p.elim
  | some x =>
    rw [e1] at p
    cases e2 : pk s env with
    | none => rw [e2] at p; exact p.elim
    | some y =>
      rw [e2] at p
      simp only at p
      cases e3 : g x y with
      | none => rw [e3] at p; exact p.elim
      | some z =>
        rw [e3] at p
        exact h F H σ env O v u x y z Q w (pk_ok w tk e1) (pk_ok w tk'.un e2) e3 p
theorem Pop2.or {r r' : R2} {g g' : D → D → Option Tk} (h : Pop2 X S W r g) (h' : Pop2 X S W r' g') : Pop2 X S W (fun x y H Q => r x y H Q ∨ r' x y H Q) (fun a b => (g a b).orElse fun _ => g' a b) :=
  fun F H σ env O v u x y t Q w k1 k2 e p => by
    have e : ((g x y).orElse fun _ => g' x y) = some t := e
    cases z : g x y with
    | some t' => rw [z] at e; cases e; exact .inl (h F H σ env O v u x y _ Q w k1 k2 z p)
    | none => rw [z] at e; exact .inr (h' F H σ env O v u x y _ Q w k1 k2 e p)

/-! ### numbers, texts, lists: + - * // % ** -/
def dAddI : D → D → Option Tk
  | .int a, .int b => some (.val (.int (a + b)))
  | _, _ => none
def dAddS : D → D → Option Tk
  | .str a, .str b => if a.length + b.length ≤ 16777216 then some (.val (.str (a ++ b))) else none
  | _, _ => none
def dAddL : D → D → Option Tk
  | .lst a, .lst b => if a.length + b.length ≤ 16777216 then some (.nw (.lst (a ++ b))) else none
  | _, _ => none
theorem line16 {n : Nat} (h : n ≤ 16777216) : n ≤ sizeLine := by rw [sizeLine_eq]; exact h
theorem flatE {K : PySem.W.Frag} {mg : Str → Option Value} {O : Addr → Prop} {F H : Hp} {σ : St} {env : En} {d : D} {v : V} {Q : VK} (w : Wf K mg S O F H σ env) (p : PostE K mg S O W F H σ (.ok (.val d) env) (fun F' H' e' t => ∀ v, TkOk K mg O F' H' σ e' v t → Q v H'))
    (r : Rep K mg F d v) : Q v H := PostE.ok w p v r
theorem pop_addI : Pop2 X S W (rI0 fun i j => .int (i + j)) dAddI := fun F H σ env O v u x y t Q w k1 k2 e p => by
  cases x <;> cases y <;> first | cases e | skip
  have e1 := k1.int
  have e2 := k2.int
  subst e1; subst e2
  exact ⟨_, _, rfl, rfl, flatE w p (.int _)⟩
theorem pop_addS : Pop2 X S W (fun x y H Q => ∃ i j, x = .str i ∧ y = .str j ∧ i.length + j.length ≤ sizeLine ∧ Q (.str (i ++ j)) H) dAddS := fun F H σ env O v u x y t Q w k1 k2 e p => by
  cases x <;> cases y <;> first | cases e | skip
  simp only [dAddS] at e
  split at e
  · rename_i hl
    cases e
    have e1 := k1.str
    have e2 := k2.str
    subst e1; subst e2
    exact ⟨_, _, rfl, rfl, line16 hl, flatE w p (.str _)⟩
  · cases e
theorem pop_addL : Pop2 X S W rCat dAddL := fun F H σ env O v u x y t Q w k1 k2 e p => by
  cases x <;> cases y <;> first | cases e | skip
  simp only [dAddL] at e
  split at e
  · rename_i hl
    cases e
    obtain ⟨p1, xs, e1, h1, r1⟩ := k1.lst w
    obtain ⟨p2, ys, e2, h2, r2⟩ := k2.lst w
    exact ⟨p1, p2, xs, ys, e1, e2, h1, h2, line16 (by rw [r1.length, r2.length]; exact hl), new_obj w (.lst (r1.append r2)) p⟩
  · cases e
def dAdd (a b : D) : Option Tk := (dAddI a b).orElse fun _ => (dAddS a b).orElse fun _ => dAddL a b
theorem me_add {f g : En → R Tk} (ha : ME X S W a f) (hb : ME X S W b g) : ME X S W (.BinOp a .Add b pos) (mOp2 f g (pop2 dAdd)) :=
  me_op2 (fun _ _ x y => pe_op (op_add.or (op_add_str.or op_cat)) x y) ha hb (pop_addI.or (pop_addS.or pop_addL)).op
def dSub : D → D → Option Tk
  | .int a, .int b => some (.val (.int (a - b)))
  | _, _ => none
theorem pop_sub : Pop2 X S W (rI0 fun i j => .int (i - j)) dSub := fun F H σ env O v u x y t Q w k1 k2 e p => by
  cases x <;> cases y <;> first | cases e | skip
  have e1 := k1.int
  have e2 := k2.int
  subst e1; subst e2
  exact ⟨_, _, rfl, rfl, flatE w p (.int _)⟩
theorem me_sub {f g : En → R Tk} (ha : ME X S W a f) (hb : ME X S W b g) : ME X S W (.BinOp a .Sub b pos) (mOp2 f g (pop2 dSub)) := me_op2 (fun _ _ x y => pe_op op_sub x y) ha hb pop_sub.op
/-- a product: its size is bounded -/
def dMulI : D → D → Option Tk
  | .int a, .int b => if a.natAbs.log2 + b.natAbs.log2 < 1000000 then some (.val (.int (a * b))) else none
  | _, _ => none
theorem pop_mulI : Pop2 X S W (rI CMulW fun i j => .int (i * j)) dMulI := fun F H σ env O v u x y t Q w k1 k2 e p => by
  cases x <;> cases y <;> first | cases e | skip
  simp only [dMulI] at e
  split at e
  · rename_i hl
    cases e
    have e1 := k1.int
    have e2 := k2.int
    subst e1; subst e2
    exact ⟨_, _, rfl, rfl, hl, flatE w p (.int _)⟩
  · cases e
def dRepL : D → D → Option Tk
  | .lst a, .int k => if a.length * k.toNat ≤ 16777216 ∧ -(2 ^ 63) ≤ k ∧ k < 2 ^ 63 then some (.nw (.lst (List.replicate k.toNat a).flatten)) else none
  | _, _ => none
theorem Reps.rep {K : PySem.W.Frag} {mg : Str → Option Value} {F : Hp} {ds : List D} {vs : List V} (r : Reps K mg F ds vs) : ∀ n, Reps K mg F (List.replicate n ds).flatten (List.replicate n vs).flatten
  | 0 => .nil
  | n + 1 => by
    rw [List.replicate_succ, List.replicate_succ, List.flatten_cons, List.flatten_cons]
    exact r.append (Reps.rep r n)
theorem pop_repL : Pop2 X S W rRep dRepL := fun F H σ env O v u x y t Q w k1 k2 e p => by
  cases x <;> cases y <;> first | cases e | skip
  simp only [dRepL] at e
  split at e
  · rename_i hl
    cases e
    obtain ⟨p1, xs, e1, h1, r1⟩ := k1.lst w
    have e2 := k2.int
    exact ⟨p1, _, xs, e1, e2, h1, hl.2.1, hl.2.2, line16 (by rw [r1.length]; exact hl.1), new_obj w (.lst (r1.rep _)) p⟩
  · cases e
def dMul (a b : D) : Option Tk := (dMulI a b).orElse fun _ => dRepL a b
theorem me_mul {f g : En → R Tk} (ha : ME X S W a f) (hb : ME X S W b g) : ME X S W (.BinOp a .Mult b pos) (mOp2 f g (pop2 dMul)) :=
  me_op2 (fun _ _ x y => pe_op (op_mulW.or op_rep) x y) ha hb (pop_mulI.or pop_repL).op
/-- floor and rest -/
def dDiv : D → D → Option Tk
  | .int a, .int b => if b ≠ 0 ∧ b.natAbs.log2 < 9000 then some (.val (.int (a.fdiv b))) else none
  | _, _ => none
def CDivX (i j : Int) : Prop := j ≠ 0 ∧ j.natAbs.log2 < 9000
def dMod : D → D → Option Tk
  | .int a, .int b => if b ≠ 0 then some (.val (.int (a.fmod b))) else none
  | _, _ => none
theorem pop_mod : Pop2 X S W (rI (fun _ j => j ≠ 0) fun i j => .int (i.fmod j)) dMod := fun F H σ env O v u x y t Q w k1 k2 e p => by
  cases x <;> cases y <;> first | cases e | skip
  simp only [dMod] at e
  split at e
  · rename_i hl
    cases e
    have e1 := k1.int
    have e2 := k2.int
    subst e1; subst e2
    exact ⟨_, _, rfl, rfl, hl, flatE w p (.int _)⟩
  · cases e
theorem me_mod {f g : En → R Tk} (ha : ME X S W a f) (hb : ME X S W b g) : ME X S W (.BinOp a .Mod b pos) (mOp2 f g (pop2 dMod)) := me_op2 (fun _ _ x y => pe_op op_modN x y) ha hb pop_mod.op

theorem op_fdivX : OpR X (binaryOp .FloorDiv) (rI CDivX fun i j => .int (i.fdiv j)) := opI fun i j _ _ _ _ _ hc q => PyProof.Rows.floordiv_int hc.1 q (.inl (PyProof.noPylong_of_log2 hc.2))
theorem pop_div : Pop2 X S W (rI CDivX fun i j => .int (i.fdiv j)) dDiv := fun F H σ env O v u x y t Q w k1 k2 e p => by
  cases x <;> cases y <;> first | cases e | skip
  simp only [dDiv] at e
  split at e
  · rename_i hl
    cases e
    have e1 := k1.int
    have e2 := k2.int
    subst e1; subst e2
    exact ⟨_, _, rfl, rfl, hl, flatE w p (.int _)⟩
  · cases e
theorem me_div {f g : En → R Tk} (ha : ME X S W a f) (hb : ME X S W b g) : ME X S W (.BinOp a .FloorDiv b pos) (mOp2 f g (pop2 dDiv)) := me_op2 (fun _ _ x y => pe_op op_fdivX x y) ha hb pop_div.op
/-- powers -/
def dPow : D → D → Option Tk
  | .int a, .int n => if 0 ≤ n ∧ n ≤ 1000 ∧ a.natAbs.log2 < 10000 then some (.val (.int (a ^ n.toNat))) else none
  | _, _ => none
def CPowX (i j : Int) : Prop := 0 ≤ j ∧ j ≤ 1000 ∧ i.natAbs.log2 < 10000
theorem op_powX : OpR X (binaryOp .Pow) (rI CPowX fun i j => .int (i ^ j.toNat)) := opI fun i j _ _ _ _ _ hc q => by
  obtain ⟨h0, h1, h2⟩ := hc
  refine PyProof.Rows.pow_int h0 ?_ q
  have hb : Builtin.Int.intBits i ≤ 10000 := by
    unfold Builtin.Int.intBits
    split <;> omega
  have hm : (Builtin.Int.intBits i : Int) * j ≤ 10000 * 1000 := Int.mul_le_mul (by omega) h1 h0 (by omega)
  exact Int.le_trans hm (by decide)
theorem pop_pow : Pop2 X S W (rI CPowX fun i j => .int (i ^ j.toNat)) dPow := fun F H σ env O v u x y t Q w k1 k2 e p => by
  cases x <;> cases y <;> first | cases e | skip
  simp only [dPow] at e
  split at e
  · rename_i hl
    cases e
    have e1 := k1.int
    have e2 := k2.int
    subst e1; subst e2
    exact ⟨_, _, rfl, rfl, hl, flatE w p (.int _)⟩
  · cases e
theorem me_pow {f g : En → R Tk} (ha : ME X S W a f) (hb : ME X S W b g) : ME X S W (.BinOp a .Pow b pos) (mOp2 f g (pop2 dPow)) := me_op2 (fun _ _ x y => pe_op op_powX x y) ha hb pop_pow.op

/-! ### one operand -/
def mOp1 (f : En → R Tk) (g : D → Option Tk) (e : En) : R Tk := (f e).bind fun t e1 => match pk t e1 with
  | some d => match g d with
    | some t => .ok t e1
    | none => .no
  | none => .no
def Pop1 (X : Cx) (S : Su) (W : WX) (r : V → Hp → VK → Prop) (g : D → Option Tk) : Prop :=
  ∀ (F H : Hp) (σ : St) (env : En) (O : Addr → Prop) (v : V) (x : D) (t : Tk) (Q : VK), Wf X.K X.mg S O F H σ env → Pk X.K X.mg F H x v → g x = some t →
    PostE X.K X.mg S O W F H σ (.ok t env) (fun F' H' e' t => ∀ v, TkOk X.K X.mg O F' H' σ e' v t → Q v H') → r v H Q
theorem me_op1 {r : V → Hp → VK → Prop} {f : En → R Tk} {g : D → Option Tk} (hpe : ∀ ta, PE X a ta → PE X e (fun σ H Q => ta σ H fun x H1 => r x H1 Q)) (ha : ME X S W a f) (h : Pop1 X S W r g) : ME X S W e (mOp1 f g) :=
  (hpe _ ha).wk fun σ H Q ⟨F, env, O, w, p⟩ => by
    refine ⟨F, env, O, w, PostE.mono (PostE.bind p) fun F1 H1 e1 t t1 w1 q v tk => ?_⟩
    cases z : pk t e1 with
    | none => rw [z] at q; exact q.elim
    | some d =>
      rw [z] at q
      simp only at q
      cases z2 : g d with
      | none => rw [z2] at q; exact q.elim
      | some t2 =>
        rw [z2] at q
        exact h F1 H1 σ e1 O v d t2 Q w1 (pk_ok w1 tk z) z2 q
def dNeg : D → Option Tk
  | .int a => some (.val (.int (-a)))
  | _ => none
theorem pop_neg : Pop1 X S W (rU fun i => .int (-i)) dNeg := fun F H σ env O v x t Q w k e p => by
  cases x <;> first | cases e | skip
  have e1 := k.int
  subst e1
  exact ⟨_, rfl, flatE w p (.int _)⟩
theorem me_neg {f : En → R Tk} (ha : ME X S W a f) : ME X S W (.UnaryOp .USub a pos) (mOp1 f dNeg) := me_op1 (fun _ x => pe_un un_neg x) ha pop_neg

/-! ### comparisons -/
def dLtI : D → D → Option Tk
  | .int a, .int b => some (.val (.bl (decide (a < b))))
  | _, _ => none
def dLeI : D → D → Option Tk
  | .int a, .int b => some (.val (.bl (decide (a ≤ b))))
  | _, _ => none
def dLtS : D → D → Option Tk
  | .str a, .str b => some (.val (.bl (decide (a.cps.toList < b.cps.toList))))
  | _, _ => none
def dSw (g : D → D → Option Tk) (a b : D) : Option Tk := g b a
theorem pop_ltI : Pop2 X S W (rI0 fun i j => .bl (decide (i < j))) dLtI := fun F H σ env O v u x y t Q w k1 k2 e p => by
  cases x <;> cases y <;> first | cases e | skip
  have e1 := k1.int
  have e2 := k2.int
  subst e1; subst e2
  exact ⟨_, _, rfl, rfl, flatE w p (.bl _)⟩
theorem pop_leI : Pop2 X S W (rI0 fun i j => .bl (decide (i ≤ j))) dLeI := fun F H σ env O v u x y t Q w k1 k2 e p => by
  cases x <;> cases y <;> first | cases e | skip
  have e1 := k1.int
  have e2 := k2.int
  subst e1; subst e2
  exact ⟨_, _, rfl, rfl, flatE w p (.bl _)⟩
theorem pop_gtI : Pop2 X S W (rI0 fun i j => .bl (decide (j < i))) (dSw dLtI) := fun F H σ env O v u x y t Q w k1 k2 e p => by
  cases x <;> cases y <;> first | cases e | skip
  have e1 := k1.int
  have e2 := k2.int
  subst e1; subst e2
  exact ⟨_, _, rfl, rfl, flatE w p (.bl _)⟩
theorem pop_geI : Pop2 X S W (rI0 fun i j => .bl (decide (j ≤ i))) (dSw dLeI) := fun F H σ env O v u x y t Q w k1 k2 e p => by
  cases x <;> cases y <;> first | cases e | skip
  have e1 := k1.int
  have e2 := k2.int
  subst e1; subst e2
  exact ⟨_, _, rfl, rfl, flatE w p (.bl _)⟩
theorem pop_ltS : Pop2 X S W (fun x y H Q => ∃ i j, x = .str i ∧ y = .str j ∧ Q (.bl (decide (i.cps.toList < j.cps.toList))) H) dLtS := fun F H σ env O v u x y t Q w k1 k2 e p => by
  cases x <;> cases y <;> first | cases e | skip
  have e1 := k1.str
  have e2 := k2.str
  subst e1; subst e2
  exact ⟨_, _, rfl, rfl, flatE w p (.bl _)⟩
theorem me_lt {f g : En → R Tk} (ha : ME X S W a f) (hb : ME X S W b g) : ME X S W (.Compare a [.Lt] [b] pos) (mOp2 f g (pop2 fun x y => (dLtI x y).orElse fun _ => dLtS x y)) := me_op2 (fun _ _ x y => pe_cmpR (op_lt.or op_lt_str) x y (nomark _)) ha hb (pop_ltI.or pop_ltS).op
theorem me_le {f g : En → R Tk} (ha : ME X S W a f) (hb : ME X S W b g) : ME X S W (.Compare a [.LtE] [b] pos) (mOp2 f g (pop2 dLeI)) := me_op2 (fun _ _ x y => pe_cmpR op_le x y (nomark _)) ha hb pop_leI.op
theorem me_gt {f g : En → R Tk} (ha : ME X S W a f) (hb : ME X S W b g) : ME X S W (.Compare a [.Gt] [b] pos) (mOp2 f g (pop2 (dSw dLtI))) := me_op2 (fun _ _ x y => pe_cmpR op_gt x y (nomark _)) ha hb pop_gtI.op
theorem me_ge {f g : En → R Tk} (ha : ME X S W a f) (hb : ME X S W b g) : ME X S W (.Compare a [.GtE] [b] pos) (mOp2 f g (pop2 (dSw dLeI))) := me_op2 (fun _ _ x y => pe_cmpR op_ge x y (nomark _)) ha hb pop_geI.op

/-! ### == of data -/
mutual
def pyd : D → Option PyData
  | .non => some .none
  | .bl b => some (.bool b)
  | .int i => some (.int i)
  | .str s => some (.str s)
  | .lst ds => (pyds ds).map .list
  | .frl ds => (pyds ds).map .list
  | .tup ds => (pyds ds).map .tuple
  | .dct _ => none
  | .dcT _ => none
  | .ins _ _ => none
  | .cls _ => none
  | .exn0 _ => none
  | .exn1 _ _ _ => none
def pyds : List D → Option (List PyData)
  | [] => some []
  | d :: ds => (pyd d).bind fun x => (pyds ds).map fun xs => x :: xs
end
def dEqD (a b : D) : Option Tk := match pyd a, pyd b with
  | some x, some y => if SeqAt.shaped x = true ∧ SeqAt.shaped y = true then some (.val (.bl (PyData.eqv x y))) else none
  | _, _ => none
def dEqS : D → D → Option Tk
  | .int a, .int b => some (.val (.bl (decide (a = b))))
  | .str a, .str b => some (.val (.bl (decide (a = b))))
  | .bl a, .bl b => some (.val (.bl (decide (a = b))))
  | .non, .non => some (.val (.bl true))
  | .non, .int _ => some (.val (.bl false))
  | .int _, .non => some (.val (.bl false))
  | .non, .bl _ => some (.val (.bl false))
  | .bl _, .non => some (.val (.bl false))
  | .non, .str _ => some (.val (.bl false))
  | .str _, .non => some (.val (.bl false))
  | .int _, .str _ => some (.val (.bl false))
  | .str _, .int _ => some (.val (.bl false))
  | .bl _, .str _ => some (.val (.bl false))
  | .str _, .bl _ => some (.val (.bl false))
  | _, _ => none
def dEq (a b : D) : Option Tk := (dEqS a b).orElse fun _ => dEqD a b
def dNot : Tk → Option Tk
  | .val (.bl b) => some (.val (.bl (!b)))
  | _ => none
def dNe (a b : D) : Option Tk := (dEq a b).bind dNot
end
section
variable {K : PySem.W.Frag} {mg : Str → Option Value} {S : Su} {O : Addr → Prop} {F H : Hp} {σ : St} {env : En}
mutual
theorem Rep.dp (w : Wf K mg S O F H σ env) : ∀ {d : D} {v : V} {x : PyData}, Rep K mg F d v → pyd d = some x → Dp K H v x
  | _, _, _, .non, e => by cases e; exact .non
  | _, _, _, .bl b, e => by cases e; exact .bl b
  | _, _, _, .int b, e => by cases e; exact .int b
  | _, _, _, .str b, e => by cases e; exact .str b
  | _, _, _, .lst h r, e => by
    simp only [pyd, Option.map_eq_some_iff] at e
    obtain ⟨xs, e1, rfl⟩ := e
    exact .lst (.inl (.inl (w.get h fun _ z => nomatch z))) (Reps.dp w r e1)
  | _, _, _, .frl h r, e => by
    simp only [pyd, Option.map_eq_some_iff] at e
    obtain ⟨xs, e1, rfl⟩ := e
    exact .lst (w.sqL h) (Reps.dp w r e1)
  | _, _, _, .tup h r, e => by
    simp only [pyd, Option.map_eq_some_iff] at e
    obtain ⟨xs, e1, rfl⟩ := e
    exact .tup (w.sqT h) (Reps.dp w r e1)
  | _, _, _, .dct h r, e => by simp [pyd] at e
  | _, _, _, .dcT h r, e => by simp [pyd] at e
  | _, _, _, .ins m h r, e => by simp [pyd] at e
  | _, _, _, .cls m, e => by simp [pyd] at e
  | _, _, _, .exn0 _ _, e => by simp [pyd] at e
  | _, _, _, .exn1 _ _ _ _, e => by simp [pyd] at e
theorem Reps.dp (w : Wf K mg S O F H σ env) : ∀ {ds : List D} {vs : List V} {xs : List PyData}, Reps K mg F ds vs → pyds ds = some xs → DpAll K H vs xs
  | _, _, _, .nil, e => by cases e; exact .nil
  | _, _, _, .cons h r, e => by
    simp only [pyds, Option.bind_eq_some_iff, Option.map_eq_some_iff] at e
    obtain ⟨x, e1, xs, e2, rfl⟩ := e
    exact .cons (Rep.dp w h e1) (Reps.dp w r e2)
end
theorem Pk.dp (w : Wf K mg S O F H σ env) {d : D} {v : V} {x : PyData} (h : Pk K mg F H d v) (e : pyd d = some x) : Dp K H v x := by
  rcases h with h | ⟨p, o, rfl, ho, ht⟩
  · exact h.dp w e
  · cases ht with
    | lst r =>
      simp only [pyd, Option.map_eq_some_iff] at e
      obtain ⟨xs, e1, rfl⟩ := e
      exact .lst (.inl (.inl ho)) (Reps.dp w r e1)
    | dct r => simp [pyd] at e
    | dcT r => simp [pyd] at e
    | ins m r => simp [pyd] at e
end
section
variable {X : Cx} {S : Su} {W : WX} {e a b : Expr} {pos : Pos}
theorem pop_eqD : Pop2 X S W (rEqD X.K) dEqD := fun F H σ env O v u x y t Q w k1 k2 e p => by
  unfold dEqD at e
  cases e1 : pyd x with
  | none => rw [e1] at e; cases e
  | some a =>
    cases e2 : pyd y with
    | none => rw [e1, e2] at e; cases e
    | some b =>
      rw [e1, e2] at e
      simp only at e
      split at e
      · rename_i hs
        cases e
        exact ⟨a, b, k1.dp w e1, k2.dp w e2, hs.1, hs.2, flatE w p (.bl _)⟩
      · cases e
theorem dEqS_ok {K : PySem.W.Frag} {mg : Str → Option Value} {F H : Hp} {x y : D} {v u : V} {t : Tk} (k1 : Pk K mg F H x v) (k2 : Pk K mg F H y u) (e : dEqS x y = some t) : scal v u = true ∧ t = .val (.bl (decide (v = u))) := by
  cases x <;> cases y <;> first | cases e | skip
  all_goals (try have e1 := k1.bl) <;> (try have e1 := k1.int) <;> (try have e1 := k1.str) <;> (try have e1 := k1.non)
  all_goals (try have e2 := k2.bl) <;> (try have e2 := k2.int) <;> (try have e2 := k2.str) <;> (try have e2 := k2.non)
  all_goals subst e1; subst e2; exact ⟨rfl, by simp⟩
theorem pop_eqS : Pop2 X S W rEq dEqS := fun F H σ env O v u x y t Q w k1 k2 e p => by
  obtain ⟨h1, h2⟩ := dEqS_ok k1 k2 e
  subst h2
  exact ⟨h1, flatE w p (.bl _)⟩
theorem me_eq {f g : En → R Tk} (hu : X.A.units + 64 < cLine) (ha : ME X S W a f) (hb : ME X S W b g) : ME X S W (.Compare a [.Eq] [b] pos) (mOp2 f g (pop2 dEq)) :=
  me_op2 (fun _ _ x y => pe_cmpR (op_eq.or (op_eqD hu)) x y (nomark _)) ha hb (pop_eqS.or pop_eqD).op
theorem pop_ne : Pop2 X S W (fun x y H Q => rNe x y H Q ∨ rNeD X.K x y H Q) dNe := fun F H σ env O v u x y t Q w k1 k2 e p => by
  unfold dNe at e
  obtain ⟨t1, h1, h2⟩ := Option.bind_eq_some_iff.mp e
  unfold dEq at h1
  cases z : dEqS x y with
  | some t2 =>
    rw [z] at h1
    cases h1
    obtain ⟨s1, s2⟩ := dEqS_ok k1 k2 z
    subst s2
    cases h2
    exact .inl ⟨s1, flatE w p (.bl _)⟩
  | none =>
    rw [z] at h1
    have h1' : dEqD x y = some t1 := h1
    unfold dEqD at h1'
    cases e1 : pyd x with
    | none => rw [e1] at h1'; cases h1'
    | some a =>
      cases e2 : pyd y with
      | none => rw [e1, e2] at h1'; cases h1'
      | some b =>
        rw [e1, e2] at h1'
        simp only at h1'
        split at h1'
        · rename_i hs
          cases h1'
          cases h2
          exact .inr ⟨a, b, k1.dp w e1, k2.dp w e2, hs.1, hs.2, flatE w p (.bl _)⟩
        · cases h1'
theorem me_ne {f g : En → R Tk} (hu : X.A.units + 64 < cLine) (ha : ME X S W a f) (hb : ME X S W b g) : ME X S W (.Compare a [.NotEq] [b] pos) (mOp2 f g (pop2 dNe)) :=
  me_op2 (fun _ _ x y => pe_cmpR (op_ne.or (op_neD hu)) x y (nomark _)) ha hb pop_ne.op
end
end MM

set_option Elab.async false
set_option linter.all false
set_option maxRecDepth 100000
set_option maxHeartbeats 2000000
/-! M4: truth, and, or, in, items, slices, displays, len. -/
namespace MM
open PySem L2
section
variable {X : Cx} {S : Su} {W : WX} {e a b : Expr} {pos : Pos}

/-! ### truth -/
def truD : D → Option Bool
  | .non => some false
  | .bl b => some b
  | .int i => some (i != 0)
  | .str s => if s.length ≤ 16777216 then some ((s.length : Int) != 0) else none
  | .lst ds => some (!ds.isEmpty)
  | .frl ds => some (!ds.isEmpty)
  | .tup ds => some (!ds.isEmpty)
  | _ => none
theorem Reps.isEmpty {K : PySem.W.Frag} {mg : Str → Option Value} {F : Hp} {ds : List D} {vs : List V} (r : Reps K mg F ds vs) : ds.isEmpty = vs.isEmpty := by cases r <;> rfl
theorem truD_ok {K : PySem.W.Frag} {mg : Str → Option Value} {O : Addr → Prop} {F H : Hp} {σ : St} {env : En} {d : D} {v : V} {k : Bool} (w : Wf K mg S O F H σ env) (h : Pk K mg F H d v) (e : truD d = some k) : TruV K v H k := by
  cases d with
  | non => cases e; have z := h.non; subst z; rfl
  | bl b => cases e; have z := h.bl; subst z; rfl
  | int b => cases e; have z := h.int; subst z; rfl
  | str b =>
    have z := h.str
    subst z
    simp only [truD] at e
    split at e
    · rename_i hl
      cases e
      exact ⟨line16 hl, rfl⟩
    · cases e
  | lst ds => cases e; obtain ⟨p, xs, rfl, h1, r⟩ := h.lst w; exact .inl ⟨xs, .inl (.inl h1), by rw [r.isEmpty]⟩
  | frl ds => cases e; obtain ⟨p, xs, rfl, h1, r⟩ := h.frl w; exact .inl ⟨xs, h1, by rw [r.isEmpty]⟩
  | tup ds => cases e; obtain ⟨p, xs, rfl, h1, r⟩ := h.tup w; exact .inr (.inl ⟨xs, h1, by rw [r.isEmpty]⟩)
  | dct _ => cases e
  | dcT _ => cases e
  | ins _ _ => cases e
  | cls _ => cases e
  | exn0 _ => cases e
  | exn1 _ _ _ => cases e
def mTru (f : En → R Tk) (e : En) : R Bool := (f e).bind fun t e1 => match (pk t e1).bind truD with
  | some b => .ok b e1
  | none => .no
theorem mt_tru {f : En → R Tk} (h : ME X S W e f) (he : ∀ whole, isTrue e X.env whole = (do let v ← whole; standAt e.pos; PySem.holding [v] (truthy v)) := by intro _; rfl) : MT X S W e (mTru f) := (pt_truth h he).wk fun σ H Q ⟨F, env, O, w, p⟩ =>
  ⟨F, env, O, w, PostE.mono (PostE.bind p) fun F1 H1 e1 t t1 w1 q v tk => by
    cases z : pk t e1 with
    | none => rw [z] at q; exact q.elim
    | some d =>
      rw [z] at q
      simp only [Option.bind_some] at q
      cases z2 : truD d with
      | none => rw [z2] at q; exact q.elim
      | some b => rw [z2] at q; exact ⟨b, truD_ok w1 (pk_ok w1 tk z) z2, PostE.ok w1 q⟩⟩

/-! ### and, or -/
def MW (X : Cx) (S : Su) (W : WX) (e : Expr) (f : En → R Bool) : Prop := PW X e (tMT X S W f)
theorem MW.mt {f : En → R Bool} (h : MW X S W e f) : MT X S W e f := PW.pt h
def mAndT (f g : En → R Bool) (e : En) : R Bool := (f e).bind fun b e1 => bif b then g e1 else .ok false e1
def mOrT (f g : En → R Bool) (e : En) : R Bool := (f e).bind fun b e1 => bif b then .ok true e1 else g e1
theorem _root_.L2.PW.wk {t t' : TT} (h : PW X e t) (k : ∀ σ H Q, t' σ H Q → t σ H Q) : PW X e t' := ⟨fun wh pins s σ H Q I q => h.run wh pins s σ H Q I (k σ H Q q)⟩
theorem mw_and1 {f : En → R Bool} (h : MT X S W a f) : MW X S W (.BoolOp .And [a] pos) f := pw_and1 h
theorem mw_or1 {f : En → R Bool} (h : MT X S W a f) : MW X S W (.BoolOp .Or [a] pos) f := pw_or1 h
theorem mw_and {rest : List Expr} {f g : En → R Bool} (h : MT X S W a f) (h2 : MW X S W (.BoolOp .And (b :: rest) pos) g) : MW X S W (.BoolOp .And (a :: b :: rest) pos) (mAndT f g) := (pw_and h h2).wk fun σ H Q ⟨F, env, O, w, p⟩ =>
  ⟨F, env, O, w, PostE.mono (PostE.bind p) fun F1 H1 e1 k t1 w1 q => by
    cases k with
    | true => exact ⟨F1, e1, O, w1, q⟩
    | false => exact PostE.ok w1 q⟩
theorem mw_or {rest : List Expr} {f g : En → R Bool} (h : MT X S W a f) (h2 : MW X S W (.BoolOp .Or (b :: rest) pos) g) : MW X S W (.BoolOp .Or (a :: b :: rest) pos) (mOrT f g) := (pw_or h h2).wk fun σ H Q ⟨F, env, O, w, p⟩ =>
  ⟨F, env, O, w, PostE.mono (PostE.bind p) fun F1 H1 e1 k t1 w1 q => by
    cases k with
    | true => exact PostE.ok w1 q
    | false => exact ⟨F1, e1, O, w1, q⟩⟩
/-- as values, all but the last bools -/
def mAnd (f g : En → R Tk) (e : En) : R Tk := (mTb f e).bind fun b e1 => bif b then g e1 else .ok (.val (.bl false)) e1
def mOr (f g : En → R Tk) (e : En) : R Tk := (mTb f e).bind fun b e1 => bif b then .ok (.val (.bl true)) e1 else g e1
theorem tkB_ok {α : Type} {K : PySem.W.Frag} {mg : Str → Option Value} {O : Addr → Prop} {F H : Hp} {σ : St} {env : En} {t : Tk} {v : V} {f : Bool → En → R α} {k : Hp → Hp → En → α → Prop} (w : Wf K mg S O F H σ env) (tk : TkOk K mg O F H σ env v t)
    (q : PostE K mg S O W F H σ ((tkB t env).bind f) k) : ∃ b, v = .bl b ∧ PostE K mg S O W F H σ (f b env) k := by
  unfold tkB at q
  cases z : pk t env with
  | none => rw [z] at q; exact q.elim
  | some d =>
    rw [z] at q
    cases d with
    | bl b => exact ⟨b, (pk_ok w tk z).bl, q⟩
    | _ => exact q.elim
theorem R.bind_assoc {α β γ : Type} (r : R α) (f : α → En → R β) (g : β → En → R γ) : (r.bind f).bind g = r.bind fun a e => (f a e).bind g := by cases r <;> rfl
theorem me_one {op} {f : En → R Tk} (h : ME X S W a f) : ME X S W (.BoolOp op [a] pos) f := pe_one h
theorem me_and {rest : List Expr} {f g : En → R Tk} (h : ME X S W a f) (h2 : ME X S W (.BoolOp .And (b :: rest) pos) g) : ME X S W (.BoolOp .And (a :: b :: rest) pos) (mAnd f g) := (pe_and h h2).wk fun σ H Q ⟨F, env, O, w, p⟩ => by
  unfold mAnd mTb at p
  rw [R.bind_assoc] at p
  refine ⟨F, env, O, w, PostE.mono (PostE.bind p) fun F1 H1 e1 t t1 w1 q v tk => ?_⟩
  obtain ⟨c, e, q⟩ := tkB_ok w1 tk q
  refine ⟨c, e, ?_⟩
  cases c with
  | true => exact ⟨F1, e1, O, w1, q⟩
  | false => exact PostE.ok w1 q _ (.bl _)
theorem me_or {rest : List Expr} {f g : En → R Tk} (h : ME X S W a f) (h2 : ME X S W (.BoolOp .Or (b :: rest) pos) g) : ME X S W (.BoolOp .Or (a :: b :: rest) pos) (mOr f g) := (pe_or h h2).wk fun σ H Q ⟨F, env, O, w, p⟩ => by
  unfold mOr mTb at p
  rw [R.bind_assoc] at p
  refine ⟨F, env, O, w, PostE.mono (PostE.bind p) fun F1 H1 e1 t t1 w1 q v tk => ?_⟩
  obtain ⟨c, e, q⟩ := tkB_ok w1 tk q
  refine ⟨c, e, ?_⟩
  cases c with
  | true => exact PostE.ok w1 q _ (.bl _)
  | false => exact ⟨F1, e1, O, w1, q⟩
def mNotV (f : En → R Tk) (e : En) : R Tk := (f e).bind fun t e1 => (tkB t e1).bind fun b e2 => .ok (.val (.bl (!b))) e2
theorem me_not {f : En → R Tk} (h : ME X S W a f) : ME X S W (.UnaryOp .Not a pos) (mNotV f) := (pe_not h).wk fun σ H Q ⟨F, env, O, w, p⟩ => by
  refine ⟨F, env, O, w, PostE.mono (PostE.bind p) fun F1 H1 e1 t t1 w1 q v tk => ?_⟩
  obtain ⟨c, e, q⟩ := tkB_ok w1 tk q
  exact ⟨c, e, PostE.ok w1 q _ (.bl _)⟩
def mIfE (c : En → R Bool) (f g : En → R Tk) (e : En) : R Tk := (c e).bind fun b e1 => bif b then f e1 else g e1
theorem me_if {c : Expr} {fc : En → R Bool} {f g : En → R Tk} (hc : MT X S W c fc) (ha : ME X S W a f) (hb : ME X S W b g) : ME X S W (.IfExp c a b pos) (mIfE fc f g) := (pe_ifExp hc ha hb).wk fun σ H Q ⟨F, env, O, w, p⟩ =>
  ⟨F, env, O, w, PostE.mono (PostE.bind p) fun F1 H1 e1 k t1 w1 q => by
    cases k with
    | true => exact ⟨F1, e1, O, w1, q⟩
    | false => exact ⟨F1, e1, O, w1, q⟩⟩

/-! ### is None -/
def D.isN : D → Bool
  | .non => true
  | _ => false
def dIsN : D → D → Option Tk
  | a, .non => some (.val (.bl a.isN))
  | _, _ => none
def dNotN : D → D → Option Tk
  | a, .non => some (.val (.bl (!a.isN)))
  | _, _ => none
theorem Pk.notNon {K : PySem.W.Frag} {mg : Str → Option Value} {F H : Hp} {d : D} {v : V} (h : Pk K mg F H d v) : (decide (v = .non)) = d.isN := by
  rcases h with h | ⟨p, o, rfl, ho, ht⟩
  · cases h <;> simp [D.isN]
  · cases ht <;> simp [D.isN]
theorem pop_isN : Pop2 X S W (fun x y H Q => y = .non ∧ Q (.bl (decide (x = .non))) H) dIsN := fun F H σ env O v u x y t Q w k1 k2 e p => by
  cases y <;> first | (simp only [dIsN] at e; cases e; done) | skip
  simp only [dIsN] at e
  cases e
  refine ⟨k2.non, ?_⟩
  rw [k1.notNon]
  exact flatE w p (.bl _)
theorem pop_notN : Pop2 X S W (fun x y H Q => y = .non ∧ Q (.bl (!decide (x = .non))) H) dNotN := fun F H σ env O v u x y t Q w k1 k2 e p => by
  cases y <;> first | (simp only [dNotN] at e; cases e; done) | skip
  simp only [dNotN] at e
  cases e
  refine ⟨k2.non, ?_⟩
  rw [k1.notNon]
  exact flatE w p (.bl _)
theorem me_isN {f g : En → R Tk} (ha : ME X S W a f) (hb : ME X S W b g) : ME X S W (.Compare a [.Is] [b] pos) (mOp2 f g (pop2 dIsN)) := me_op2 (fun _ _ x y => pe_cmpR op_isN x y (nomark _)) ha hb pop_isN.op
theorem me_notN {f g : En → R Tk} (ha : ME X S W a f) (hb : ME X S W b g) : ME X S W (.Compare a [.IsNot] [b] pos) (mOp2 f g (pop2 dNotN)) := me_op2 (fun _ _ x y => pe_cmpR op_notN x y (nomark _)) ha hb pop_notN.op

/-! ### dicts of data -/
def keyD : D → Option Key
  | .int i => some (.inl i)
  | .str s => some (.inr s)
  | _ => none
def valD (kvs : List (Key × D)) (k : Key) : Option D := (kvs.find? fun kv => decide (kv.1 = k)).map (·.2)
def putD (kvs : List (Key × D)) (k : Key) (v : D) : List (Key × D) := if (kvs.any fun kv => decide (kv.1 = k)) = true then kvs.map fun kv => if kv.1 = k then (kv.1, v) else kv else kvs ++ [(k, v)]
theorem keyD_ok {K : PySem.W.Frag} {mg : Str → Option Value} {F H : Hp} {d : D} {v : V} {k : Key} (h : Pk K mg F H d v) (e : keyD d = some k) : v = kV k := by
  cases d <;> first | (cases e; done) | skip
  · cases e; exact h.int
  · cases e; exact h.str
section
variable {K : PySem.W.Frag} {mg : Str → Option Value} {F : Hp}
theorem RepK.length : ∀ {kvs : List (Key × D)} {ks : List (Key × V)}, RepK K mg F kvs ks → ks.length = kvs.length
  | _, _, .nil => rfl
  | _, _, .cons _ r => by rw [List.length_cons, List.length_cons, RepK.length r]
theorem RepK.val (k : Key) : ∀ {kvs : List (Key × D)} {ks : List (Key × V)}, RepK K mg F kvs ks → (valD kvs k = none ∧ valV ks k = none) ∨ ∃ d v, valD kvs k = some d ∧ valV ks k = some v ∧ Rep K mg F d v
  | _, _, .nil => .inl ⟨rfl, rfl⟩
  | _, _, .cons (k := j) (d := d) (v := v) h r => by
    by_cases e : j = k
    · right
      exact ⟨d, v, by simp [valD, List.find?_cons, e], by simp [valV, List.find?_cons, e], h⟩
    · have e1 : ∀ (l : List (Key × D)), valD ((j, d) :: l) k = valD l k := fun l => by simp [valD, List.find?_cons, e]
      have e2 : ∀ (l : List (Key × V)), valV ((j, v) :: l) k = valV l k := fun l => by simp [valV, List.find?_cons, e]
      rw [e1, e2]
      exact RepK.val k r
theorem RepK.append : ∀ {kvs k2 : List (Key × D)} {ks s2 : List (Key × V)}, RepK K mg F kvs ks → RepK K mg F k2 s2 → RepK K mg F (kvs ++ k2) (ks ++ s2)
  | _, _, _, _, .nil, q => q
  | _, _, _, _, .cons h r, q => .cons h (RepK.append r q)
theorem RepK.any (k : Key) : ∀ {kvs : List (Key × D)} {ks : List (Key × V)}, RepK K mg F kvs ks → (kvs.any fun kv => decide (kv.1 = k)) = ks.any fun kv => decide (kv.1 = k)
  | _, _, .nil => rfl
  | _, _, .cons h r => by rw [List.any_cons, List.any_cons, RepK.any k r]
theorem RepK.mapPut (k : Key) {d : D} {v : V} (h : Rep K mg F d v) : ∀ {kvs : List (Key × D)} {ks : List (Key × V)}, RepK K mg F kvs ks → RepK K mg F (kvs.map fun kv => if kv.1 = k then (kv.1, d) else kv) (ks.map fun kv => if kv.1 = k then (kv.1, v) else kv)
  | _, _, .nil => .nil
  | _, _, .cons (k := j) q r => by
    rw [List.map_cons, List.map_cons]
    by_cases e : j = k
    · simp only [e, if_true]
      exact .cons h (RepK.mapPut k h r)
    · simp only [e, if_false]
      exact .cons q (RepK.mapPut k h r)
theorem RepK.put (k : Key) {d : D} {v : V} (h : Rep K mg F d v) {kvs : List (Key × D)} {ks : List (Key × V)} (r : RepK K mg F kvs ks) : RepK K mg F (putD kvs k d) (putK ks k v) := by
  unfold putD putK
  rw [RepK.any k r]
  split
  · exact r.mapPut k h
  · exact r.append (.cons h .nil)
end

/-! ### items: x[i], d[k] -/
theorem Reps.atI {K : PySem.W.Frag} {mg : Str → Option Value} {F : Hp} {ds : List D} {vs : List V} {i : Int} {d : D} (r : Reps K mg F ds vs) (e : L2.atI ds i = some d) : ∃ v, L2.atI vs i = some v ∧ Rep K mg F d v := by
  unfold L2.atI at e ⊢
  rw [r.length]
  obtain ⟨j, h1, h2⟩ := Option.bind_eq_some_iff.mp e
  obtain ⟨v, h3, h4⟩ := r.get' h2
  exact ⟨v, by rw [h1]; exact h3, h4⟩
def dIx : D → D → Option Tk
  | .lst ds, .int i => (L2.atI ds i).map .val
  | .frl ds, .int i => (L2.atI ds i).map .val
  | .tup ds, .int i => (L2.atI ds i).map .val
  | .str s, .int i => if s.length ≤ 16777216 then (L2.atI s.cps.toList i).map fun c => .val (.str ⟨#[c]⟩) else none
  | .dct kvs, k => (keyD k).bind fun k => (valD kvs k).map .val
  | _, _ => none
def rIxD : R2 := fun x y H Q => ∃ a v, x = .ref a ∧ DGet H a y (some v) ∧ Q v H
theorem ix_dict (hu : X.A.units + 1 < cLine) : IxR X rIxD := by
  intro value slice pins s σ H x y v u Q I rx ry h hs
  obtain ⟨a, z, rfl, g, q⟩ := h
  cases rx
  exact PyProof.Rows.tail_any (dict_typeIs I g) PySem.F.slot_dict_getitem.lookup (d_getItem hu I g ry fun w' s' I' r' => ⟨z, H, I', r', q⟩) hs
theorem DGet.rd {H : Hp} {a : Addr} {kvs : List (Key × V)} {k : Key} (e : Rd H a (.dK kvs)) : DGet H a (kV k) (valV kvs k) := .inl ⟨kvs, k, e, rfl, rfl⟩
theorem pop_ix : Pop2 X S W (fun x y H Q => rIx X.K x y H Q ∨ rIxD x y H Q) dIx := fun F H σ env O v u x y t Q w k1 k2 e p => by
  cases x with
  | lst ds =>
    cases y <;> first | (simp [dIx] at e; done) | skip
    simp only [dIx, Option.map_eq_some_iff] at e
    obtain ⟨d, h1, rfl⟩ := e
    obtain ⟨p1, xs, e1, h2, r⟩ := k1.lst w
    obtain ⟨v', h3, h4⟩ := r.atI h1
    exact .inl (.inl ⟨p1, xs, _, v', e1, k2.int, .inl (.inl h2), h3, flatE w p h4⟩)
  | frl ds =>
    cases y <;> first | (simp [dIx] at e; done) | skip
    simp only [dIx, Option.map_eq_some_iff] at e
    obtain ⟨d, h1, rfl⟩ := e
    obtain ⟨p1, xs, e1, h2, r⟩ := k1.frl w
    obtain ⟨v', h3, h4⟩ := r.atI h1
    exact .inl (.inl ⟨p1, xs, _, v', e1, k2.int, h2, h3, flatE w p h4⟩)
  | tup ds =>
    cases y <;> first | (simp [dIx] at e; done) | skip
    simp only [dIx, Option.map_eq_some_iff] at e
    obtain ⟨d, h1, rfl⟩ := e
    obtain ⟨p1, xs, e1, h2, r⟩ := k1.tup w
    obtain ⟨v', h3, h4⟩ := r.atI h1
    exact .inl (.inr (.inl ⟨p1, xs, _, v', e1, k2.int, h2, h3, flatE w p h4⟩))
  | str s =>
    cases y <;> first | (simp [dIx] at e; done) | skip
    simp only [dIx] at e
    split at e
    · rename_i hl
      simp only [Option.map_eq_some_iff] at e
      obtain ⟨c, h1, rfl⟩ := e
      exact .inl (.inr (.inr ⟨s, _, c, k1.str, k2.int, line16 hl, h1, flatE w p (.str _)⟩))
    · cases e
  | dct kvs =>
    simp only [dIx, Option.bind_eq_some_iff, Option.map_eq_some_iff] at e
    obtain ⟨k, h1, d, h2, rfl⟩ := e
    obtain ⟨p1, ks, e1, h3, r⟩ := k1.dct w
    have ey := keyD_ok k2 h1
    subst ey
    rcases r.val k with ⟨n1, _⟩ | ⟨d', v', h4, h5, h6⟩
    · rw [n1] at h2; cases h2
    · rw [h4] at h2
      cases h2
      refine .inr ⟨p1, v', e1, ?_, flatE w p h6⟩
      have z := DGet.rd (k := k) h3
      rw [h5] at z
      exact z
  | _ => cases y <;> simp [dIx] at e
theorem me_ix {f g : En → R Tk} (hu : X.A.units + 1 < cLine) (ha : ME X S W a f) (hb : ME X S W b g) (hs : PlainIx b := by exact fun _ _ => rfl) : ME X S W (.Subscript a b pos) (mOp2 f g (pop2 dIx)) :=
  me_op2 (fun _ _ x y => pe_ix (ix_seq.or (ix_dict hu)) x y hs) ha hb pop_ix.op

/-! ### slices -/
def mPart (f : Option (En → R Tk)) (e : En) : R (Option Int) := match f with
  | none => .ok none e
  | some f => (f e).bind fun t e1 => match pk t e1 with
    | some (.int i) => .ok (some i) e1
    | _ => .no
def tMO (X : Cx) (S : Su) (W : WX) (f : En → R (Option Int)) : TO := fun σ H Q => ∃ F env O, Wf X.K X.mg S O F H σ env ∧ PostE X.K X.mg S O W F H σ (f env) (fun F' H' e' o => Q o H')
abbrev MO (X : Cx) (S : Su) (W : WX) (e : Option Expr) (f : En → R (Option Int)) : Prop := PO X e (tMO X S W f)
theorem _root_.L2.PO.wk {e : Option Expr} {t t' : TO} (h : PO X e t) (k : ∀ σ H Q, t' σ H Q → t σ H Q) : PO X e t' := ⟨fun pins s σ H Q I q => h.run pins s σ H Q I (k σ H Q q)⟩
theorem mo_none : MO X S W none (mPart none) := po_none.wk fun σ H Q ⟨F, env, O, w, p⟩ => PostE.ok w p
theorem mo_some {f : En → R Tk} (h : ME X S W a f) : MO X S W (some a) (mPart (some f)) := (po_some h).wk fun σ H Q ⟨F, env, O, w, p⟩ =>
  ⟨F, env, O, w, PostE.mono (PostE.bind (show PostE X.K X.mg S O W F H σ ((f env).bind fun t e1 => match pk t e1 with
    | some (.int i) => .ok (some i) e1
    | _ => .no) _ from p)) fun F1 H1 e1 t t1 w1 q v tk => by
    cases z : pk t e1 with
    | none => rw [z] at q; exact q.elim
    | some d =>
      rw [z] at q
      cases d with
      | int i => exact ⟨i, (pk_ok w1 tk z).int, PostE.ok w1 q⟩
      | _ => exact q.elim⟩
def cutD (xs : List D) (lo hi : Option Int) : List D := (xs.drop (HT.sIx xs.length 0 lo)).take (HT.sIx xs.length xs.length hi - HT.sIx xs.length 0 lo)
theorem Reps.cut {K : PySem.W.Frag} {mg : Str → Option Value} {F : Hp} {ds : List D} {vs : List V} (r : Reps K mg F ds vs) (lo hi : Option Int) : Reps K mg F (cutD ds lo hi) (cutV vs lo hi) := by
  unfold cutD cutV
  rw [r.length]
  exact (r.drop _).take _
def dSl (d : D) (lo hi : Option Int) : Option Tk := match d with
  | .lst ds => some (.nw (.lst (cutD ds lo hi)))
  | .frl ds => some (.nw (.lst (cutD ds lo hi)))
  | .str s => if s.length ≤ 16777216 then some (.val (.str (cutS s lo hi))) else none
  | _ => none
def mSl (f : En → R Tk) (l h : En → R (Option Int)) (e : En) : R Tk := (f e).bind fun t e1 => (l e1).bind fun lo e2 => (h e2).bind fun hi e3 => match (pk t e3).bind fun d => dSl d lo hi with
  | some t => .ok t e3
  | none => .no
theorem me_sl {lo hi : Option Expr} {p2 : Pos} {f : En → R Tk} {l h : En → R (Option Int)} (ha : ME X S W a f) (hl : MO X S W lo l) (hh : MO X S W hi h) : ME X S W (.Subscript a (.Slice lo hi none p2) pos) (mSl f l h) :=
  (pe_slice (sl_list.or sl_str) ha hl hh).wk fun σ H Q ⟨F, env, O, w, p⟩ => by
    refine ⟨F, env, O, w, PostE.mono (PostE.bind p) fun F1 H1 e1 t t1 w1 q v tk => ?_⟩
    refine ⟨F1, e1, Pd O t v, tk.pd w1, PostE.mono (PostE.wide (PostE.bind q) (Pd.up (O := O) (t := t) (v := v))) fun F2 H2 e2 o t2 w2 z => ?_⟩
    obtain ⟨t2, w2, q2⟩ := z
    have tk2 := tk.tr t2 w2
    refine ⟨F2, e2, Pd O t v, tk2.pd (w2.weak Pd.up), PostE.mono (PostE.wide (PostE.bind q2) (Pd.up (O := O) (t := t) (v := v))) fun F3 H3 e3 o2 t3 w3 z => ?_⟩
    obtain ⟨t3, w3, q3⟩ := z
    have tk3 := tk2.tr t3 w3
    have w4 := w3.weak (Pd.up (O := O) (t := t) (v := v))
    cases z1 : pk t e3 with
    | none => rw [z1] at q3; exact q3.elim
    | some d =>
      rw [z1] at q3
      have k1 := pk_ok w4 tk3 z1
      cases d with
      | lst ds => obtain ⟨p1, xs, e1, h2, r⟩ := k1.lst w4; exact .inl ⟨p1, xs, e1, .inl (.inl h2), new_obj w4 (.lst (r.cut _ _)) q3⟩
      | frl ds => obtain ⟨p1, xs, e1, h2, r⟩ := k1.frl w4; exact .inl ⟨p1, xs, e1, h2, new_obj w4 (.lst (r.cut _ _)) q3⟩
      | str s =>
        simp only [Option.bind_some, dSl] at q3
        split at q3
        · rename_i t' ht
          split at ht
          · rename_i hl
            cases ht
            exact .inr ⟨s, k1.str, line16 hl, flatE w4 q3 (.str _)⟩
          · cases ht
        · exact q3.elim
      | _ => exact q3.elim

/-! ### displays -/
def dsOf : List Ar → Option (List D)
  | [] => some []
  | .d d :: as => (dsOf as).map fun ds => d :: ds
  | .mv _ :: _ => none
theorem dsOf_ok {K : PySem.W.Frag} {mg : Str → Option Value} {F : Hp} {σ : St} : ∀ {vs : List V} {as : List Ar} {ds : List D}, ArOk K mg F σ vs as → dsOf as = some ds → Reps K mg F ds vs
  | [], [], _, _, e => by cases e; exact .nil
  | v :: vs, .d d :: as, _, ⟨a, b⟩, e => by
    obtain ⟨ds, h1, rfl⟩ := Option.map_eq_some_iff.mp (show (dsOf as).map (fun ds => d :: ds) = some _ from e)
    exact .cons a (dsOf_ok b h1)
  | _ :: _, .mv _ :: _, _, _, e => by cases e
  | [], _ :: _, _, h, _ => h.elim
  | _ :: _, [], _, h, _ => h.elim
def mLst (f : En → R (List Ar)) (e : En) : R Tk := (f e).bind fun as e1 => match dsOf as with
  | some ds => if ds.length ≤ 16777216 then .ok (.nw (.lst ds)) e1 else .no
  | none => .no
def mTup (f : En → R (List Ar)) (e : En) : R Tk := (f e).bind fun as e1 => match dsOf as with
  | some ds => if ds.length ≤ 16777216 then .ok (.val (.tup ds)) e1 else .no
  | none => .no
theorem me_lst {es : List Expr} {f : En → R (List Ar)} (h : MA X S W es f) : ME X S W (.List es pos) (mLst f) := (pe_lst h).wk fun σ H Q ⟨F, env, O, w, p⟩ => by
  refine ⟨F, env, O, w, PostE.mono (PostE.bind p) fun F1 H1 e1 as t1 w1 q vs r => ?_⟩
  cases z : dsOf as with
  | none => rw [z] at q; exact q.elim
  | some ds =>
    rw [z] at q
    simp only at q
    split at q
    · rename_i hl
      have rs := dsOf_ok r z
      exact ⟨line16 (by rw [rs.length]; exact hl), new_obj w1 (.lst rs) q⟩
    · exact q.elim
theorem me_tup {es : List Expr} {x1} {f : En → R (List Ar)} (h : MA X S W es f) : ME X S W (.Tuple es x1 pos) (mTup f) := (pe_tup h).wk fun σ H Q ⟨F, env, O, w, p⟩ => by
  refine ⟨F, env, O, w, PostE.mono (PostE.bind p) fun F1 H1 e1 as t1 w1 q vs r => ?_⟩
  cases z : dsOf as with
  | none => rw [z] at q; exact q.elim
  | some ds =>
    rw [z] at q
    simp only at q
    split at q
    · rename_i hl
      have rs := dsOf_ok r z
      exact ⟨line16 (by rw [rs.length]; exact hl), new_tup w1 rs q⟩
    · exact q.elim

/-! ### in, not in -/
def D.flat : D → Bool
  | .non => true
  | .bl _ => true
  | .int _ => true
  | .str _ => true
  | _ => false
def dKeyIn (kvs : List (Key × D)) (k : Key) : Bool := (valD kvs k).isSome
/-- a text in a text -/
def inStr (i j : Str) : Bool := !(Builtin.Str.occurrences j i 0 j.length 1).isEmpty
def eqF (x y : D) : Bool := match x, y with
  | .str s, .str t => s == t
  | .int n, .int m => n == m
  | .int n, .bl m => n == (if m then 1 else 0)
  | .bl n, .int m => (if n then 1 else 0) == m
  | .bl p, .bl q => p == q
  | .non, .non => true
  | _, _ => false
def dInSeq (a : D) (ds : List D) : Option Bool := if a.flat = true ∧ ds.all D.flat = true then some (ds.any fun z => eqF z a) else none
def dInDeep (a : D) (ds : List D) : Option Bool := match pyd a, pyds ds with
  | some x, some xs => if SeqAt.shaped x = true ∧ SeqAt.shaped (.list xs) = true then some (xs.any fun z => PyData.eqv z x) else none
  | _, _ => none
def dInB (a b : D) : Option Bool := match b with
  | .dct kvs => (keyD a).map fun k => (valD kvs k).isSome
  | .str j => match a with
    | .str i => some (inStr i j)
    | _ => none
  | .tup ds => dInSeq a ds
  | .lst ds => (dInSeq a ds).orElse fun _ => dInDeep a ds
  | .frl ds => dInSeq a ds
  | _ => none
def dIn (a b : D) : Option Tk := (dInB a b).map fun k => .val (.bl k)
def dNotIn (a b : D) : Option Tk := (dInB a b).map fun k => .val (.bl (!k))
section
variable {K : PySem.W.Frag} {mg : Str → Option Value} {O : Addr → Prop} {F H : Hp} {σ : St} {env : En}
theorem Rep.flat {d : D} {v : V} (h : Rep K mg F d v) (f : d.flat = true) : flatV v = true := by cases h <;> first | rfl | cases f
theorem Rep.eqF {d e : D} {v u : V} (h : Rep K mg F d v) (g : Rep K mg F e u) (f : d.flat = true) (f2 : e.flat = true) : eqV v u = eqF d e := by
  cases h <;> first | (cases f; done) | (cases g <;> first | (cases f2; done) | rfl)
theorem Reps.flat : ∀ {ds : List D} {vs : List V}, Reps K mg F ds vs → ds.all D.flat = true → vs.all flatV = true
  | _, _, .nil, _ => rfl
  | _, _, .cons h r, f => by
    rw [List.all_cons, Bool.and_eq_true] at f ⊢
    exact ⟨h.flat f.1, Reps.flat r f.2⟩
theorem Reps.inV {d : D} {v : V} (h : Rep K mg F d v) (f : d.flat = true) : ∀ {ds : List D} {vs : List V}, Reps K mg F ds vs → ds.all D.flat = true → L2.inV v vs = ds.any fun z => MM.eqF z d
  | _, _, .nil, _ => rfl
  | _, _, .cons q r, f2 => by
    rw [List.all_cons, Bool.and_eq_true] at f2
    show (_ :: _ : List V).any _ = _
    rw [List.any_cons, List.any_cons, q.eqF h f2.1 f]
    congr 1
    exact Reps.inV h f r f2.2
theorem Pk.fl {d : D} {v : V} (h : Pk K mg F H d v) (f : d.flat = true) : Rep K mg F d v := by
  rcases h with h | ⟨p, o, _, _, ht⟩
  · exact h
  · cases ht <;> cases f
end
def rInAll (X : Cx) (neg : Bool) : R2 := fun x y H Q => (rIn X.K neg x y H Q ∨ (if neg then rNotInD X.K else rInD X.K) x y H Q) ∨ (∃ i j, x = .str i ∧ y = .str j ∧ Q (.bl (if neg then !inStr i j else inStr i j)) H) ∨ (∃ a o, y = .ref a ∧ DGet H a x o ∧ Q (.bl (if neg then !o.isSome else o.isSome)) H)
theorem op_in_all (hu : X.A.units + 65 < cLine) : OpR X (compareOp .In) (rInAll X false) := by
  intro pins s σ H x y v u Q I rx ry h
  rcases h with (h | h) | h | h
  · exact op_in_seq pins s σ H x y v u Q I rx ry h
  · exact op_inD hu pins s σ H x y v u Q I rx ry h
  · exact op_in_str pins s σ H x y v u Q I rx ry h
  · obtain ⟨a, o, rfl, g, q⟩ := h
    cases ry
    exact d_in (by omega) I g rx fun s' I' => ⟨.bl o.isSome, H, I', rfl, q⟩
theorem op_notIn_all (hu : X.A.units + 65 < cLine) : OpR X (compareOp .NotIn) (rInAll X true) := by
  intro pins s σ H x y v u Q I rx ry h
  rcases h with (h | h) | h | h
  · exact op_notIn_seq pins s σ H x y v u Q I rx ry h
  · exact op_notInD hu pins s σ H x y v u Q I rx ry h
  · exact op_notIn_str pins s σ H x y v u Q I rx ry h
  · obtain ⟨a, o, rfl, g, q⟩ := h
    cases ry
    exact d_notIn (by omega) I g rx fun s' I' => ⟨.bl (!o.isSome), H, I', rfl, q⟩
theorem in_all {neg : Bool} {F H : Hp} {σ : St} {env : En} {O : Addr → Prop} {v u : V} {x y : D} {k : Bool} {Q : VK} (w : Wf X.K X.mg S O F H σ env) (k1 : Pk X.K X.mg F H x v) (k2 : Pk X.K X.mg F H y u) (e : dInB x y = some k)
    (q : Q (.bl (if neg then !k else k)) H) : rInAll X neg v u H Q := by
  have seq : ∀ {ds : List D} {p : Addr} {xs : List V}, (SqL X.K H p xs ∨ SqT X.K H p xs) → Reps X.K X.mg F ds xs → u = .ref p → dInSeq x ds = some k → rInAll X neg v u H Q := by
    intro ds p xs hs r eu e
    unfold dInSeq at e
    split at e
    · rename_i hf
      have z := k1.fl hf.1
      cases e
      rw [← Reps.inV z hf.1 r hf.2] at q
      exact .inl (.inl ⟨p, xs, eu, hs, z.flat hf.1, r.flat hf.2, q⟩)
    · cases e
  cases y with
  | dct kvs =>
    simp only [dInB, Option.map_eq_some_iff] at e
    obtain ⟨j, h1, rfl⟩ := e
    obtain ⟨p, ks, rfl, h2, r⟩ := k2.dct w
    have ev := keyD_ok k1 h1
    subst ev
    refine .inr (.inr ⟨p, valV ks j, rfl, DGet.rd h2, ?_⟩)
    rcases r.val j with ⟨n1, n2⟩ | ⟨d, z, n1, n2, _⟩
    · rw [n1] at q; rw [n2]; exact q
    · rw [n1] at q; rw [n2]; exact q
  | str j =>
    cases x <;> first | (simp [dInB] at e; done) | skip
    simp only [dInB, Option.some.injEq] at e
    subst e
    exact .inr (.inl ⟨_, _, k1.str, k2.str, q⟩)
  | tup ds => obtain ⟨p, xs, e1, h1, r⟩ := k2.tup w; exact seq (.inr h1) r e1 e
  | frl ds => obtain ⟨p, xs, e1, h1, r⟩ := k2.frl w; exact seq (.inl h1) r e1 e
  | lst ds =>
    obtain ⟨p, xs, e1, h1, r⟩ := k2.lst w
    simp only [dInB] at e
    cases z : dInSeq x ds with
    | some k' => rw [z] at e; cases e; exact seq (.inl (.inl (.inl h1))) r e1 z
    | none =>
      rw [z] at e
      have e' : dInDeep x ds = some k := e
      unfold dInDeep at e'
      cases z1 : pyd x with
      | none => rw [z1] at e'; cases e'
      | some a =>
        cases z2 : pyds ds with
        | none => rw [z1, z2] at e'; cases e'
        | some as =>
          rw [z1, z2] at e'
          simp only at e'
          split at e'
          · rename_i hs
            cases e'
            subst e1
            have dl : Dp X.K H (.ref p) (.list as) := .lst (.inl (.inl h1)) (r.dp w z2)
            refine .inl (.inr ?_)
            cases neg with
            | true => exact ⟨a, as, k1.dp w z1, dl, hs.1, hs.2, q⟩
            | false => exact ⟨a, as, k1.dp w z1, dl, hs.1, hs.2, q⟩
          · cases e'
  | _ => cases e
theorem pop_in : Pop2 X S W (rInAll X false) dIn := fun F H σ env O v u x y t Q w k1 k2 e p => by
  obtain ⟨k, h1, rfl⟩ := Option.map_eq_some_iff.mp e
  exact in_all (neg := false) w k1 k2 h1 (flatE w p (.bl _))
theorem pop_notIn : Pop2 X S W (rInAll X true) dNotIn := fun F H σ env O v u x y t Q w k1 k2 e p => by
  obtain ⟨k, h1, rfl⟩ := Option.map_eq_some_iff.mp e
  exact in_all (neg := true) w k1 k2 h1 (flatE w p (.bl _))
theorem me_in {f g : En → R Tk} (hu : X.A.units + 65 < cLine) (ha : ME X S W a f) (hb : ME X S W b g) (hm : behindInMarks .In b = false := by rfl) : ME X S W (.Compare a [.In] [b] pos) (mOp2 f g (pop2 dIn)) :=
  me_op2 (fun _ _ x y => pe_cmpR (op_in_all hu) x y hm) ha hb pop_in.op
theorem me_notIn {f g : En → R Tk} (hu : X.A.units + 65 < cLine) (ha : ME X S W a f) (hb : ME X S W b g) (hm : behindInMarks .NotIn b = false := by rfl) : ME X S W (.Compare a [.NotIn] [b] pos) (mOp2 f g (pop2 dNotIn)) :=
  me_op2 (fun _ _ x y => pe_cmpR (op_notIn_all hu) x y hm) ha hb pop_notIn.op

/-! ### built-in functions, by their values -/
def mCB (f : En → R (List Ar)) (g : List D → Option Tk) (e : En) : R Tk := (f e).bind fun as e1 => match (dsOf as).bind g with
  | some t => .ok t e1
  | none => .no
def PopN (X : Cx) (S : Su) (W : WX) (r : List V → Hp → VK → Prop) (g : List D → Option Tk) : Prop :=
  ∀ (F H : Hp) (σ : St) (env : En) (O : Addr → Prop) (vs : List V) (ds : List D) (t : Tk) (Q : VK), Wf X.K X.mg S O F H σ env → Reps X.K X.mg F ds vs → g ds = some t →
    PostE X.K X.mg S O W F H σ (.ok t env) (fun F' H' e' t => ∀ v, TkOk X.K X.mg O F' H' σ e' v t → Q v H') → r vs H Q
theorem me_cb {es : List Expr} {r : List V → Hp → VK → Prop} {f : En → R (List Ar)} {g : List D → Option Tk} (hpe : ∀ t, PA X es t → PE X e (tCB r t)) (h : MA X S W es f) (hg : PopN X S W r g) : ME X S W e (mCB f g) := (hpe _ h).wk fun σ H Q ⟨F, env, O, w, p⟩ => by
  refine ⟨F, env, O, w, PostE.mono (PostE.bind p) fun F1 H1 e1 as t1 w1 q vs r => ?_⟩
  cases z : dsOf as with
  | none => rw [z] at q; exact q.elim
  | some ds =>
    rw [z] at q
    simp only [Option.bind_some] at q
    cases z2 : g ds with
    | none => rw [z2] at q; exact q.elim
    | some t => rw [z2] at q; exact hg F1 H1 σ e1 O vs ds t Q w1 (dsOf_ok r z) z2 q
/-- one argument that is read, not frozen -/
def mCB1 (f : En → R Tk) (g : D → Option Tk) (e : En) : R Tk := mOp1 f g e
theorem me_cb1 {r : List V → Hp → VK → Prop} {f : En → R Tk} {g : D → Option Tk} (hpe : ∀ t, PA X [a] t → PE X e (tCB r t)) (h : ME X S W a f) (hg : Pop1 X S W (fun v H Q => r [v] H Q) g) (hs : starEach (a :: []) X.env = (false, eval a X.env) :: starEach [] X.env := by rfl) : ME X S W e (mOp1 f g) :=
  me_op1 (r := fun v H Q => r [v] H Q) (fun ta hta => hpe _ (pa_cons hta pa_nil hs)) h hg
def lenD : D → Option Nat
  | .lst ds => some ds.length
  | .frl ds => some ds.length
  | .tup ds => some ds.length
  | .str s => if s.length ≤ 16777216 then some s.length else none
  | .dct kvs => some kvs.length
  | _ => none
def dLen (d : D) : Option Tk := (lenD d).map fun (n : Nat) => .val (.int (n : Int))
end
end MM

set_option Elab.async false
set_option linter.all false
set_option maxRecDepth 100000
set_option maxHeartbeats 2000000
/-! M5: defs, what they promise, their calls. -/
namespace MM
open PySem L2

/-! ### what a def promises -/
def dWish (E : XK) : WX := fun c d _ H => E c d H
def SpM (K : PySem.W.Frag) (mg : Str → Option Value) (np : Nat) (m : En → R Tk) : Sp := fun vs H Q E => vs.length = np ∧ ∃ L F sl O, sl.length = np ∧ Wf K mg ⟨none, L⟩ O F H (vs.map some) sl ∧
  PostE K mg ⟨none, L⟩ O (dWish E) F H (vs.map some) (m sl) (fun F' H' e' t => ∀ v, TkOk K mg O F' H' (vs.map some) e' v t → Q v H')
def outS : Sl → Option Sl → Sl
  | .io _, some (.io d) => .io d
  | _, _ => .no
def outsOf : List Sl → En → En
  | [], _ => []
  | s :: r, e => outS s e.head? :: outsOf r e.tail
def retT (t : Tk) (e : En) : Option Tk := match t with
  | .val d => some (.val d)
  | .nw d => some (.nw d)
  | .nm i => match e[i]? with
    | some (.sh d) => some (.val d)
    | some (.ow d) => some (.nw d)
    | _ => none
def mDefR (sl : En) : R Fl → R Tk
  | .ok (.rt t) e => match retT t e with
    | some t' => .ok t' (outsOf sl e)
    | none => .no
  | .ok .nx e => .ok (.val .non) (outsOf sl e)
  | .ok _ _ => .no
  | .er c x e => .er c x (outsOf sl e)
  | .no => .no
/-- the def: n further names, the body -/
def mDef (n : Nat) (g : En → R Fl) (sl : En) : R Tk := mDefR sl (g (sl ++ List.replicate n .no))

theorem outsOf_get : ∀ {sl : List Sl} {e : En} {i : Nat} {s : Sl}, (outsOf sl e)[i]? = some s → ∃ u, sl[i]? = some u ∧ s = outS u e[i]?
  | [], _, _, _, h => by simp [outsOf] at h
  | u :: r, e, 0, s, h => ⟨u, rfl, by
    have h' : some (outS u e.head?) = some s := h
    cases h'
    cases e <;> rfl⟩
  | u :: r, e, i + 1, s, h => by
    have h' : (outsOf r e.tail)[i]? = some s := h
    obtain ⟨u', h1, h2⟩ := outsOf_get h'
    refine ⟨u', h1, ?_⟩
    rw [h2]
    cases e with
    | nil => rfl
    | cons a e => rfl
theorem outS_own {u : Sl} {o : Option Sl} (h : (outS u o).own = true) : ∃ d d', u = .io d ∧ o = some (.io d') ∧ outS u o = .io d' := by
  cases u with
  | io d =>
    cases o with
    | none => cases h
    | some s => cases s <;> first | (cases h; done) | exact ⟨d, _, rfl, rfl, rfl⟩
  | _ => cases h

section
variable {K : PySem.W.Frag} {mg : Str → Option Value} {L : Nat → Option Addr} {O : Addr → Prop} {F H F' H' : Hp} {σ σ' : St} {sl env : En} {vs : List V} {v : V} {t t' : Tk}
/-- the lent slots hold what they held -/
theorem lent_same (w0 : Wf K mg ⟨none, L⟩ O F H σ sl) (w : Wf K mg ⟨none, L⟩ O F' H' σ' env) {i : Nat} {d d' : D} (h0 : sl[i]? = some (.io d)) (h : env[i]? = some (.io d')) : ∃ p, σ[i]? = some (some (.ref p)) ∧ σ'[i]? = some (some (.ref p)) := by
  obtain ⟨v0, hv0, ok0⟩ := w0.sl i _ h0
  obtain ⟨v1, hv1, ok1⟩ := w.sl i _ h
  obtain ⟨p0, o0, l0, e0, _⟩ := ok0
  obtain ⟨p1, o1, l1, e1, _⟩ := ok1
  have l0' : L i = some p0 := l0
  have l1' : L i = some p1 := l1
  rw [l0'] at l1'
  cases l1'
  exact ⟨p0, by rw [hv0, e0], by rw [hv1, e1]⟩
theorem outs_own (w0 : Wf K mg ⟨none, L⟩ O F H σ sl) (w : Wf K mg ⟨none, L⟩ O F' H' σ' env) {p : Addr} (h : Own σ (outsOf sl env) p) : ∃ (i : Nat) (d : D), env[i]? = some (.io d) ∧ σ'[i]? = some (some (.ref p)) := by
  obtain ⟨i, s, h1, h2, h3⟩ := h
  obtain ⟨u, h4, rfl⟩ := outsOf_get h1
  obtain ⟨d, d', e1, e2, e3⟩ := outS_own h2
  subst e1
  obtain ⟨q, a, b⟩ := lent_same w0 w h4 e2
  rw [a] at h3
  cases h3
  exact ⟨i, d', e2, b⟩
theorem Wf.outs (w0 : Wf K mg ⟨none, L⟩ O F H σ sl) (w : Wf K mg ⟨none, L⟩ O F' H' σ' env) : Wf K mg ⟨none, L⟩ O F' H' σ (outsOf sl env) where
  fz := w.fz
  sl := fun i s h => by
    obtain ⟨u, h4, rfl⟩ := outsOf_get h
    obtain ⟨v0, hv0, ok0⟩ := w0.sl i u h4
    refine ⟨v0, hv0, ?_⟩
    by_cases ho : (outS u env[i]?).own = true
    · obtain ⟨d, d', e1, e2, e3⟩ := outS_own ho
      rw [e3]
      subst e1
      obtain ⟨p, a, b⟩ := lent_same w0 w h4 e2
      obtain ⟨v1, hv1, ok1⟩ := w.sl i _ e2
      obtain ⟨p1, o1, l1, e1', f1, h1, t1⟩ := ok1
      rw [a] at hv0
      rw [b] at hv1
      cases hv0
      cases hv1
      cases e1'
      exact ⟨p, o1, l1, rfl, f1, h1, t1⟩
    · cases u with
      | io d => cases e : env[i]? with
        | none => trivial
        | some s =>
          cases s with
          | io d' => rw [e] at ho; exact (ho rfl).elim
          | _ => trivial
      | _ => trivial
  ds := fun i j s u p h1 h2 o1 o2 z1 z2 => by
    obtain ⟨a, ha, rfl⟩ := outsOf_get h1
    obtain ⟨b, hb, rfl⟩ := outsOf_get h2
    obtain ⟨d, d', e1, e2, e3⟩ := outS_own o1
    obtain ⟨c, c', f1, f2, f3⟩ := outS_own o2
    subst e1; subst f1
    exact w0.ds i j _ _ p ha hb rfl rfl z1 z2
  oh := w.oh
  ow := fun a q => by
    obtain ⟨i, d, h1, h2⟩ := outs_own w0 w q
    exact w.ow a ⟨i, _, h1, rfl, h2⟩
  od := w.od
theorem retT_ok (w0 : Wf K mg ⟨none, L⟩ O F H σ sl) (w : Wf K mg ⟨none, L⟩ O F' H' σ' env) (h : TkOk K mg O F' H' σ' env v t) (e : retT t env = some t') : TkOk K mg O F' H' σ (outsOf sl env) v t' := by
  cases t with
  | val d => cases e; exact h
  | nw d =>
    cases e
    obtain ⟨p, o, e, hf, hn, hO, r⟩ := h
    exact ⟨p, o, e, hf, fun q => by
      obtain ⟨i, d, h1, h2⟩ := outs_own w0 w q
      exact hn ⟨i, _, h1, rfl, h2⟩, hO, r⟩
  | nm i =>
    have h' : σ'[i]? = some (some v) := h
    unfold retT at e
    simp only at e
    cases q : env[i]? with
    | none => rw [q] at e; cases e
    | some s =>
      rw [q] at e
      obtain ⟨u, hu, ok⟩ := w.sl i s q
      rw [h'] at hu
      cases hu
      cases s with
      | sh d => cases e; obtain ⟨x, ex, r⟩ := ok; cases ex; exact r
      | ow d =>
        cases e
        obtain ⟨p, o, ex, hf, ho, ht⟩ := ok
        cases ex
        refine ⟨p, o, rfl, hf, fun z => ?_, w.ow p ⟨i, _, q, rfl, h'⟩, ho, ht⟩
        obtain ⟨j, d', h1, h2⟩ := outs_own w0 w z
        have e := w.ds i j _ _ p q h1 rfl rfl h' h2
        subst e
        rw [q] at h1
        cases h1
      | _ => cases e
theorem start_get {N : List Str} {i : Nat} : (L2.start N vs)[i]? = if i < vs.length then (vs.map some)[i]? else if i < vs.length + (N.length - vs.length) then some none else none := by
  unfold L2.start
  by_cases h : i < vs.length
  · rw [if_pos h, List.getElem?_append_left (by simpa using h)]
  · rw [if_neg h, List.getElem?_append_right (by simpa using Nat.le_of_not_lt h)]
    rw [List.getElem?_replicate]
    simp only [List.length_map]
    by_cases h2 : i < vs.length + (N.length - vs.length)
    · rw [if_pos h2, if_pos (by omega)]
    · rw [if_neg h2, if_neg (by omega)]
/-- the body's start -/
theorem Wf.start {N : List Str} {n : Nat} (w : Wf K mg ⟨none, L⟩ O F H (vs.map some) sl) (hl : sl.length = vs.length) (hn : n ≤ N.length - vs.length) : Wf K mg ⟨none, L⟩ O F H (L2.start N vs) (sl ++ List.replicate n .no) := by
  have key : ∀ {i : Nat} {s : Sl}, (sl ++ List.replicate n Sl.no)[i]? = some s → (sl[i]? = some s ∧ i < vs.length ∧ (L2.start N vs)[i]? = (vs.map some)[i]?) ∨ (s = .no ∧ ¬ i < vs.length ∧ (L2.start N vs)[i]? = some none) := by
    intro i s h
    by_cases hi : i < sl.length
    · rw [List.getElem?_append_left hi] at h
      exact .inl ⟨h, by omega, by rw [start_get, if_pos (by omega)]⟩
    · rw [List.getElem?_append_right (Nat.le_of_not_lt hi), List.getElem?_replicate] at h
      split at h
      · rename_i h2
        cases h
        exact .inr ⟨rfl, by omega, by rw [start_get, if_neg (by omega), if_pos (by omega)]⟩
      · cases h
  refine ⟨w.fz, fun i s h => ?_, fun i j s u p h1 h2 o1 o2 z1 z2 => ?_, w.oh, fun a q => ?_, w.od⟩
  · rcases key h with ⟨h1, _, h2⟩ | ⟨rfl, _, h2⟩
    · obtain ⟨v, hv, ok⟩ := w.sl i s h1
      exact ⟨v, by rw [h2]; exact hv, ok⟩
    · exact ⟨none, h2, trivial⟩
  · rcases key h1 with ⟨a1, _, a2⟩ | ⟨rfl, _, a2⟩
    · rcases key h2 with ⟨b1, _, b2⟩ | ⟨rfl, _, b2⟩
      · exact w.ds i j s u p a1 b1 o1 o2 (a2 ▸ z1) (b2 ▸ z2)
      · cases o2
    · cases o1
  · obtain ⟨i, s, h1, h2, h3⟩ := q
    rcases key h1 with ⟨a1, _, a2⟩ | ⟨rfl, _, a2⟩
    · exact w.ow a ⟨i, s, a1, h2, a2 ▸ h3⟩
    · cases h2
end

/-! ### room, and no repr under way -/
structure Rm (k : Nat) (A : Around) : Prop where
  r : Room k A
  g : A.guards = some []
theorem Rm.mono {j k : Nat} {A : Around} (r : Rm k A) (h : j ≤ k) : Rm j A := ⟨r.r.mono h, r.g⟩
theorem Rm.in1 {k : Nat} {A : Around} (r : Rm (k + 1) A) : Rm k A.in1 := ⟨r.r.in1, r.g⟩
theorem Rm.deeper {k : Nat} {A : Around} (r : Rm (k + 1) A) (env : Env) : Rm k (A.deeper env) := ⟨r.r.deeper env, r.g⟩
theorem make_guards {A : Around} {C : Addr} {us : List Value} {kw : List (Str × Value)} (h : A.guards = some []) : (A.under (.builtin "type.__call__" ⟨.ref C :: us, kw⟩)).guards = some [] := by
  show pushGuards (Code.guards (.builtin "type.__call__" ⟨.ref C :: us, kw⟩)) A.guards = some []
  rw [h]
  rfl
theorem Rm.make {k : Nat} {A : Around} (r : Rm (k + 1) A) (C : Addr) (us : List Value) (kw : List (Str × Value)) : Rm k (A.under (.builtin "type.__call__" ⟨.ref C :: us, kw⟩)) := ⟨r.r.make C us kw, make_guards r.g⟩
theorem Rm.units {k : Nat} {A : Around} (r : Rm k A) : A.units + 64 < cLine := r.r.units
theorem Rm.units0 {k : Nat} {A : Around} (r : Rm k A) : A.units < cLine := r.r.units0
/-- what a def promises to its callers -/
structure FnG (P : Program) (w : World) (K : PySem.W.Frag) (mg : Str → Option Value) (base : Heap) (CX : CXT) (k : Nat) (f : Addr) (fd : FuncData) (ps : List Str) (sp : Sp) : Prop where
  len : ∀ vs H Q E, sp vs H Q E → vs.length = ps.length
  run : ∀ (A : Around) (outer : List Env) (s : Shared) (H : Hp) (args : Args) (us : List Value) (vs : List V) (Q : VK) (E : XK), Rm k A → Env0 P w K mg base A outer s H → BindsTo s fd args (ps.zip us) → Vals vs us → sp vs H Q E →
    codeAny (model P w) A (.call (.ref f) args) (CR CX outer P w H s Q E) s
theorem FnG.of {P : Program} {w : World} {K : PySem.W.Frag} {mg : Str → Option Value} {base : Heap} {CX : CXT} {k : Nat} {f : Addr} {fd : FuncData} {ps : List Str} {sp : Sp} (F : FnOk P w K mg base CX k f fd ps sp) : FnG P w K mg base CX k f fd ps sp :=
  ⟨F.len, fun A outer s H args us vs Q E r => F.run A outer s H args us vs Q E r.r⟩
theorem FnG.mono {P : Program} {w : World} {K : PySem.W.Frag} {mg : Str → Option Value} {base : Heap} {CX : CXT} {j k : Nat} {f : Addr} {fd : FuncData} {ps : List Str} {sp : Sp} (F : FnG P w K mg base CX j f fd ps sp) (h : j ≤ k) : FnG P w K mg base CX k f fd ps sp :=
  ⟨F.len, fun A outer s H args us vs Q E r => F.run A outer s H args us vs Q E (r.mono h)⟩
section
variable {P : Program} {w : World} {K : PySem.W.Frag} {mg : Str → Option Value} {base : Heap}
/-- the body, run -/
theorem FunD.okG {CX : CXT} {x qual : Str} {params : Arguments} {body : List Stmt} {scope : Scope} {dvs : List V} {kws : List (Str × V)} {f : Addr} {fd : FuncData} {N ps : List Str} {k : Nat} {sp : Sp} (F : FunD K x qual params body scope dvs kws f fd) (S : FnScope N ps scope) (len : ∀ vs H Q E, sp vs H Q E → vs.length = ps.length)
    (hbody : ∀ (cdv : Value) (A : Around) (outer : List Env) (s : Shared) (H : Hp) (vs : List V) (Q : VK) (E : XK), Rm k (A.deeper (PyProof.Rows.envOfC qual scope s.heap.objs.size f cdv)) → sp vs H Q E →
      ∃ t, PSs (cxOf CX P w K mg base N qual scope f cdv A outer s H E) body t ∧ t { nx := fun _ H' => Q .non H', rt := Q } (L2.start N vs) H) : FnG P w K mg base CX (k + 1) f fd ps sp := by
  obtain ⟨oc, od, dV, kV, doc, pm, an, cdv, ct, osl, rfl, lk, hcd, _, _⟩ := F.ex
  refine ⟨len, fun A outer s H args us vs Q E hr e0 hb r hsp => ?_⟩
  have inK : K.In s.heap := e0.mod.kin.keeps fun b o e => (e0.bs b o e).1
  have noLim : s.heap.NoLimit := e0.mod.nolimit.keeps fun b o e => (e0.bs b o e).1
  have nLen := len _ _ _ _ hsp
  have kinds : ∀ y ∈ ps.zip us, scope.names.lookup y.1 = some .local ∨ (scope.names.lookup y.1 = some .cell ∧ ((cellsFrom (s.heap.objs.size + 1) scope.names []).lookup y.1).isSome = true) := fun y hy =>
    (S.par y.1 (List.of_mem_zip (show (y.1, y.2) ∈ ps.zip us from hy)).1).elim .inl fun q => .inr ⟨q, PySem.W.cellsFrom_some _ _ _ (.inl q)⟩
  refine codeAny_call_function hr.r.depth (inK _ _ lk) rfl S.co S.gen rfl (PySem.W.codeRec_of inK hcd) (hb _ _ _ _ ?_)
  refine wpAny_newFunctionEnv_cells S.kind kinds fun env he s1 x => ?_
  subst he
  refine ⟨noLim.keeps x.toInCall.keep, codeAny_func ?_⟩
  obtain ⟨t, ht, hq⟩ := hbody cdv A outer s H vs Q E (hr.deeper _) hsp
  have I0 := inv_start (CX := CX) (E := E) S hr.r.hd e0 nLen r x
  refine wpAny_mono (ht.run [] s1 (L2.start N vs) H _ I0 hq) (fun fl s' hs => ?_) fun e s' hs => hs
  cases fl with
  | brk => obtain ⟨_, _, _, z⟩ := hs; exact z.elim
  | cont => obtain ⟨_, _, _, z⟩ := hs; exact z.elim
  | ret u => obtain ⟨v, _, H', J, rv, z⟩ := hs; exact ⟨v, H', J.os, J.bare, J.base, J.hok, rv, z⟩
  | next => obtain ⟨_, H', J, z⟩ := hs; exact ⟨.non, H', J.os, J.bare, J.base, J.hok, rfl, z⟩
/-- THE RULE for a def: its body's outcome -/
theorem fnM {x qual : Str} {params : Arguments} {body : List Stmt} {scope : Scope} {dvs : List V} {kws : List (Str × V)} {f : Addr} {fd : FuncData} {N ps : List Str} {k n : Nat} {g : En → R Fl} (Fn : FunD K x qual params body scope dvs kws f fd) (Sc : FnScope N ps scope) (hn : n = N.length - ps.length)
    (hb : ∀ (cdv : Value) (A : Around) (outer : List Env) (s : Shared) (H : Hp) (E : XK) (L : Nat → Option Addr), Rm k (A.deeper (PyProof.Rows.envOfC qual scope s.heap.objs.size f cdv)) →
      MSs (cxOf (L2.CX P w) P w K mg base N qual scope f cdv A outer s H E) ⟨none, L⟩ (dWish E) body g) : FnG P w K mg base (L2.CX P w) (k + 1) f fd ps (SpM K mg ps.length (mDef n g)) := by
  refine FunD.okG Fn Sc (fun vs H Q E h => h.1) (fun cdv A outer s H vs Q E hr h => ?_)
  obtain ⟨hl, L, F, sl, O, hsl, wf, p⟩ := h
  have w0 : Wf K mg ⟨none, L⟩ O F H (L2.start N vs) (sl ++ List.replicate n .no) := wf.start (hsl.trans hl.symm) (by omega)
  refine ⟨_, hb cdv A outer s H E L hr, F, (sl ++ List.replicate n Sl.no : En), O, w0, ?_⟩
  unfold mDef at p
  have p0 := p
  cases q : g (sl ++ List.replicate n .no) with
  | no => rw [q] at p; exact p.elim
  | er c x e =>
    rw [q] at p
    exact fun σ' F' H' cls dd t1 w1 eo => p F' H' cls dd t1 (wf.outs w1) eo
  | ok fl e =>
    rw [q] at p
    cases fl with
    | nx => exact fun σ' F' H' t1 w1 => p F' H' t1 (wf.outs w1) .non .non
    | bk => exact p.elim
    | ct => exact p.elim
    | rt t =>
      have p' : PostE K mg ⟨none, L⟩ O (dWish E) F H (vs.map some) (match retT t e with
        | some t' => .ok t' (outsOf sl e)
        | none => .no) (fun F' H' e' t => ∀ v, TkOk K mg O F' H' (vs.map some) e' v t → Q v H') := p
      cases z : retT t e with
      | none => rw [z] at p'; exact p'.elim
      | some t' =>
        rw [z] at p'
        exact fun σ' F' H' t1 w1 v tk => p' F' H' t1 (wf.outs w1) v (retT_ok wf w1 tk z)
end

/-! ### a call -/
def slOf (e : En) : Ar → Option Sl
  | .d d => some (.sh d)
  | .mv i => match e[i]? with
    | some (.ow d) => some (.io d)
    | some (.io d) => some (.io d)
    | _ => none
def slsOf (e : En) : List Ar → Option (List Sl)
  | [] => some []
  | a :: as => (slOf e a).bind fun s => (slsOf e as).map fun r => s :: r
def Ar.ix : Ar → Option Nat
  | .d _ => none
  | .mv i => some i
def backS : Option Sl → Sl → Sl
  | some (.ow _), .io d => .ow d
  | some (.io _), .io d => .io d
  | _, _ => .no
/-- what was lent is put back -/
def back : List Ar → List Sl → En → En
  | .mv i :: as, s :: ss, e => back as ss (e.set i (backS e[i]? s))
  | .d _ :: as, _ :: ss, e => back as ss e
  | _, _, e => e
def mvs (as : List Ar) : List Nat := as.filterMap Ar.ix
def callS (m : En → R Tk) (as : List Ar) (e : En) : R Tk := match slsOf e as with
  | some sl => if (mvs as).Nodup then (match m sl with
    | .ok t o => .ok t (back as o e)
    | .er c x o => .er c x (back as o e)
    | .no => .no) else .no
  | none => .no

section
variable {K : PySem.W.Frag} {mg : Str → Option Value} {S : Su} {O : Addr → Prop} {W : WX} {F H F' H' : Hp} {σ σ' : St} {sl env : En} {vs : List V} {v : V} {t t' : Tk}
theorem slsOf_get {env : En} : ∀ {as : List Ar} {sl : List Sl} {i : Nat} {s : Sl}, slsOf env as = some sl → sl[i]? = some s → ∃ a, as[i]? = some a ∧ slOf env a = some s
  | [], _, i, s, e, h => by cases e; simp at h
  | a :: as, sl, i, s, e, h => by
    obtain ⟨s0, h1, h2⟩ := Option.bind_eq_some_iff.mp (show (slOf env a).bind (fun s => (slsOf env as).map fun r => s :: r) = some sl from e)
    obtain ⟨r, h3, rfl⟩ := Option.map_eq_some_iff.mp h2
    cases i with
    | zero => simp at h; subst h; exact ⟨a, rfl, h1⟩
    | succ i =>
      obtain ⟨a', h4, h5⟩ := slsOf_get (i := i) h3 (by simpa using h)
      exact ⟨a', by simpa using h4, h5⟩
theorem slsOf_length {env : En} : ∀ {as : List Ar} {sl : List Sl}, slsOf env as = some sl → sl.length = as.length
  | [], _, e => by cases e; rfl
  | a :: as, sl, e => by
    obtain ⟨s0, h1, h2⟩ := Option.bind_eq_some_iff.mp (show (slOf env a).bind (fun s => (slsOf env as).map fun r => s :: r) = some sl from e)
    obtain ⟨r, h3, rfl⟩ := Option.map_eq_some_iff.mp h2
    rw [List.length_cons, List.length_cons, slsOf_length h3]
theorem ArOk.length : ∀ {vs : List V} {as : List Ar}, ArOk K mg F σ vs as → vs.length = as.length
  | [], [], _ => rfl
  | _ :: _, .d _ :: _, ⟨_, b⟩ => by rw [List.length_cons, List.length_cons, b.length]
  | _ :: _, .mv _ :: _, ⟨_, b⟩ => by rw [List.length_cons, List.length_cons, b.length]
  | [], _ :: _, h => h.elim
  | _ :: _, [], h => h.elim
theorem ArOk.get : ∀ {vs : List V} {as : List Ar} {i : Nat} {a : Ar}, ArOk K mg F σ vs as → as[i]? = some a → ∃ v, vs[i]? = some v ∧ ArOk K mg F σ [v] [a]
  | [], [], i, a, _, e => by simp at e
  | v :: vs, .d d :: as, 0, a, ⟨h, _⟩, e => by simp at e; subst e; exact ⟨v, rfl, h, trivial⟩
  | v :: vs, .mv j :: as, 0, a, ⟨h, _⟩, e => by simp at e; subst e; exact ⟨v, rfl, h, trivial⟩
  | v :: vs, .d d :: as, i + 1, a, ⟨_, h⟩, e => by
    obtain ⟨u, h1, h2⟩ := ArOk.get (i := i) h (by simpa using e)
    exact ⟨u, by simpa using h1, h2⟩
  | v :: vs, .mv j :: as, i + 1, a, ⟨_, h⟩, e => by
    obtain ⟨u, h1, h2⟩ := ArOk.get (i := i) h (by simpa using e)
    exact ⟨u, by simpa using h1, h2⟩
  | [], _ :: _, _, _, h, _ => h.elim
  | _ :: _, [], _, _, h, _ => h.elim
theorem slOf_io {a : Ar} {d : D} (h : slOf env a = some (.io d)) : ∃ i s, a = .mv i ∧ env[i]? = some s ∧ s.own = true ∧ (s = .ow d ∨ s = .io d) := by
  cases a with
  | d d' => cases h
  | mv i =>
    unfold slOf at h
    simp only at h
    cases e : env[i]? with
    | none => rw [e] at h; cases h
    | some s =>
      rw [e] at h
      cases s with
      | ow d' => cases h; exact ⟨i, _, rfl, e, rfl, .inl rfl⟩
      | io d' => cases h; exact ⟨i, _, rfl, e, rfl, .inr rfl⟩
      | _ => cases h
theorem slOf_own {a : Ar} {s : Sl} (h : slOf env a = some s) : (∃ d, a = .d d ∧ s = .sh d) ∨ ∃ d, s = .io d := by
  cases a with
  | d d => cases h; exact .inl ⟨d, rfl, rfl⟩
  | mv i =>
    unfold slOf at h
    simp only at h
    cases e : env[i]? with
    | none => rw [e] at h; cases h
    | some u =>
      rw [e] at h
      cases u with
      | ow d' => cases h; exact .inr ⟨_, rfl⟩
      | io d' => cases h; exact .inr ⟨_, rfl⟩
      | _ => cases h
/-- the i-th place of the frame, behind the call: what was there, or what a lent object became -/
theorem back_get : ∀ {as : List Ar} {o : List Sl} {env : En} {i : Nat} {u : Sl}, (mvs as).Nodup → (back as o env)[i]? = some u → (i ∉ mvs as ∧ env[i]? = some u) ∨ ((∃ s, env[i]? = some s ∧ u = s) ∧ o.length < as.length) ∨ ∃ (j : Nat) (s : Sl), as[j]? = some (.mv i) ∧ o[j]? = some s ∧ u = backS env[i]? s
  | [], o, env, i, u, _, h => .inl ⟨by simp [mvs], by cases o <;> exact h⟩
  | a :: as, [], env, i, u, _, h => .inr (.inl ⟨⟨u, by cases a <;> exact h, rfl⟩, by simp⟩)
  | .d d :: as, s :: ss, env, i, u, nd, h => by
    have nd' : (mvs as).Nodup := nd
    rcases back_get nd' (show (back as ss env)[i]? = some u from h) with ⟨a, b⟩ | ⟨a, b⟩ | ⟨j, s', a, b, c⟩
    · exact .inl ⟨by simpa [mvs, Ar.ix] using a, b⟩
    · exact .inr (.inl ⟨a, by simpa using b⟩)
    · exact .inr (.inr ⟨j + 1, s', by simpa using a, by simpa using b, c⟩)
  | .mv k :: as, s :: ss, env, i, u, nd, h => by
    have nd0 : (k :: mvs as).Nodup := by simpa [mvs, Ar.ix] using nd
    have nd' := (List.nodup_cons.mp nd0).2
    have nk := (List.nodup_cons.mp nd0).1
    have e0 : mvs (.mv k :: as) = k :: mvs as := by simp [mvs, Ar.ix]
    rcases back_get nd' (show (back as ss (env.set k (backS env[k]? s)))[i]? = some u from h) with ⟨a, b⟩ | ⟨⟨s', a, b⟩, c⟩ | ⟨j, s', a, b, c⟩
    · rcases en_set b with ⟨e, e2, l⟩ | ⟨ne, b'⟩
      · subst e
        exact .inr (.inr ⟨0, s, rfl, rfl, e2⟩)
      · refine .inl ⟨?_, b'⟩
        rw [e0]
        intro z
        rcases List.mem_cons.mp z with z | z
        · exact ne z.symm
        · exact a z
    · rcases en_set a with ⟨e, e2, l⟩ | ⟨ne, b'⟩
      · subst e; subst e2
        exact .inr (.inr ⟨0, s, rfl, rfl, b⟩)
      · exact .inr (.inl ⟨⟨s', b', b⟩, by simpa using c⟩)
    · have hm : i ∈ mvs as := List.mem_filterMap.mpr ⟨.mv i, List.mem_of_getElem? a, rfl⟩
      have ne : k ≠ i := fun e => nk (e ▸ hm)
      rw [List.getElem?_set_ne ne] at c
      exact .inr (.inr ⟨j + 1, s', by simpa using a, by simpa using b, c⟩)
theorem backS_own {o : Option Sl} {s : Sl} (h : (backS o s).own = true) : ∃ d', s = .io d' ∧ ((∃ d, o = some (.ow d) ∧ backS o s = .ow d') ∨ ∃ d, o = some (.io d) ∧ backS o s = .io d') := by
  cases o with
  | none => cases s <;> cases h
  | some u => cases u <;> cases s <;> first | (cases h; done) | exact ⟨_, rfl, .inl ⟨_, rfl, rfl⟩⟩ | exact ⟨_, rfl, .inr ⟨_, rfl, rfl⟩⟩

/-- what a callee must leave alone -/
def CallO (O : Addr → Prop) (H : Hp) (σ : St) (env : En) (as : List Ar) : Addr → Prop := fun a => O a ∨ (∃ fs, H a = some (.xd fs)) ∨ ∃ (i : Nat) (s : Sl), env[i]? = some s ∧ s.own = true ∧ σ[i]? = some (some (V.ref a)) ∧ i ∉ mvs as
def CallL (vs : List V) : Nat → Option Addr := fun j => match vs[j]? with
  | some (.ref p) => some p
  | _ => none
theorem Own.top (w : Wf K mg S O F H σ env) {p : Addr} (h : Own σ env p) : F p = none ∧ ∃ o d, H p = some o ∧ Top K mg F o d := by
  obtain ⟨i, s, h1, h2, h3⟩ := h
  obtain ⟨v, hv, ok⟩ := w.sl i s h1
  rw [h3] at hv
  cases hv
  cases s with
  | ow d => obtain ⟨q, o, e, hf, ho, ht⟩ := ok; cases e; exact ⟨hf, o, d, ho, ht⟩
  | io d => obtain ⟨q, o, _, e, hf, ho, ht⟩ := ok; cases e; exact ⟨hf, o, d, ho, ht⟩
  | _ => cases h2
theorem mv_own (w : Wf K mg S O F H σ env) {as : List Ar} (ha : ArOk K mg F σ vs as) (es : slsOf env as = some sl) {j : Nat} {d : D} (h : sl[j]? = some (.io d)) :
    ∃ i s p o, as[j]? = some (.mv i) ∧ env[i]? = some s ∧ s.own = true ∧ (s = .ow d ∨ s = .io d) ∧ σ[i]? = some (some (V.ref p)) ∧ vs[j]? = some (.ref p) ∧ F p = none ∧ H p = some o ∧ Top K mg F o d := by
  obtain ⟨a, h1, h2⟩ := slsOf_get es h
  obtain ⟨i, s, rfl, h3, h4, h5⟩ := slOf_io h2
  obtain ⟨v, hv, ar⟩ := ha.get h1
  obtain ⟨u, hu, ok⟩ := w.sl i s h3
  have e : σ[i]? = some (some v) := ar.1
  rw [e] at hu
  cases hu
  rcases h5 with rfl | rfl
  · obtain ⟨p, o, e2, hf, ho, ht⟩ := ok; cases e2; exact ⟨i, _, p, o, h1, h3, rfl, .inl rfl, e, hv, hf, ho, ht⟩
  · obtain ⟨p, o, _, e2, hf, ho, ht⟩ := ok; cases e2; exact ⟨i, _, p, o, h1, h3, rfl, .inr rfl, e, hv, hf, ho, ht⟩
/-- the callee's start -/
theorem Wf.call (w : Wf K mg S O F H σ env) {as : List Ar} (ha : ArOk K mg F σ vs as) (es : slsOf env as = some sl) (nd : (mvs as).Nodup) : Wf K mg ⟨none, CallL vs⟩ (CallO O H σ env as) F H (vs.map some) sl where
  fz := w.fz
  sl := fun j s h => by
    obtain ⟨a, h1, h2⟩ := slsOf_get es h
    obtain ⟨v, hv, ar⟩ := ha.get h1
    refine ⟨some v, by rw [List.getElem?_map, hv]; rfl, ?_⟩
    rcases slOf_own h2 with ⟨d, rfl, rfl⟩ | ⟨d, rfl⟩
    · exact ⟨v, rfl, ar.1⟩
    · obtain ⟨i, s, p, o, _, _, _, _, _, hv2, hf, ho, ht⟩ := mv_own w ha es h
      rw [hv] at hv2
      cases hv2
      refine ⟨p, o, ?_, rfl, hf, ho, ht⟩
      show CallL vs j = some p
      unfold CallL
      rw [hv]
  ds := fun j1 j2 s t p h1 h2 o1 o2 z1 z2 => by
    have ex : ∀ {j : Nat} {s : Sl}, sl[j]? = some s → s.own = true → ∃ d, s = .io d := by
      intro j s h o
      obtain ⟨a, _, h2⟩ := slsOf_get es h
      rcases slOf_own h2 with ⟨d, _, rfl⟩ | z
      · cases o
      · exact z
    obtain ⟨d1, rfl⟩ := ex h1 o1
    obtain ⟨d2, rfl⟩ := ex h2 o2
    obtain ⟨i1, s1, p1, _, a1, e1, w1, _, q1, v1, _⟩ := mv_own w ha es h1
    obtain ⟨i2, s2, p2, _, a2, e2, w2, _, q2, v2, _⟩ := mv_own w ha es h2
    rw [List.getElem?_map, v1] at z1
    rw [List.getElem?_map, v2] at z2
    cases z1
    cases z2
    have ei := w.ds i1 i2 _ _ p e1 e2 w1 w2 q1 q2
    subst ei
    -- the same name twice
    have inj : ∀ {as : List Ar} {j1 j2 i : Nat}, (mvs as).Nodup → as[j1]? = some (.mv i) → as[j2]? = some (.mv i) → j1 = j2 := by
      intro as
      induction as with
      | nil => intro j1 j2 i _ h _; simp at h
      | cons a as ih =>
        intro j1 j2 i nd h1 h2
        have mem : ∀ {j : Nat}, as[j]? = some (.mv i) → i ∈ mvs as := fun h => List.mem_filterMap.mpr ⟨.mv i, List.mem_of_getElem? h, rfl⟩
        have nd' : (mvs as).Nodup := by
          cases a with
          | d d => exact nd
          | mv k => exact (List.nodup_cons.mp (by simpa [mvs, Ar.ix] using nd)).2
        cases j1 with
        | zero =>
          cases j2 with
          | zero => rfl
          | succ j2 =>
            simp at h1 h2
            subst h1
            exact absurd (mem h2) (List.nodup_cons.mp (by simpa [mvs, Ar.ix] using nd)).1
        | succ j1 =>
          cases j2 with
          | zero =>
            simp at h1 h2
            subst h2
            exact absurd (mem h1) (List.nodup_cons.mp (by simpa [mvs, Ar.ix] using nd)).1
          | succ j2 => exact congrArg Nat.succ (ih nd' (by simpa using h1) (by simpa using h2))
    exact inj nd a1 a2
  oh := fun a q => by
    rcases q with q | ⟨fs, q⟩ | ⟨i, s, h1, h2, h3, _⟩
    · exact w.oh a q
    · exact ⟨_, q, rfl⟩
    · obtain ⟨_, o, d, ho, ht⟩ := Own.top w ⟨i, s, h1, h2, h3⟩; exact ⟨o, ho, ht.nt⟩
  ow := fun a q z => by
    obtain ⟨j, s, h1, h2, h3⟩ := q
    obtain ⟨b, _, h4⟩ := slsOf_get es h1
    rcases slOf_own h4 with ⟨d, _, rfl⟩ | ⟨d, rfl⟩
    · cases h2
    · obtain ⟨i, s, p, o, a1, e1, w1, _, q1, v1, hf, ho, ht⟩ := mv_own w ha es h1
      rw [List.getElem?_map, v1] at h3
      cases h3
      rcases z with z | ⟨fs, z⟩ | ⟨i2, s2, g1, g2, g3, g4⟩
      · exact w.ow a ⟨i, s, e1, w1, q1⟩ z
      · rw [ho] at z; cases z; cases ht
      · have ei := w.ds i i2 _ _ a e1 g1 w1 g2 q1 g3
        subst ei
        exact g4 (List.mem_filterMap.mpr ⟨.mv i, List.mem_of_getElem? a1, rfl⟩)
  od := fun a ks q z zd => by
    rcases q with q | ⟨fs, q⟩ | ⟨i, s, h1, h2, h3, _⟩
    · exact w.od a ks q z zd
    · rcases w.fz a _ z with y | ⟨o, ks', e, y⟩
      · rw [q] at y; cases y; cases zd
      · rw [q] at y; cases y
    · obtain ⟨hf, _⟩ := Own.top w ⟨i, s, h1, h2, h3⟩
      rw [hf] at z; cases z
/-- the caller behind the call -/
theorem Wf.back (w : Wf K mg S O F H σ env) {as : List Ar} {o : En} {O' : Addr → Prop} (hO : ∀ a, CallO O H σ env as a → O' a) (ha : ArOk K mg F σ vs as) (es : slsOf env as = some sl) (nd : (mvs as).Nodup) (t : Tr (CallO O H σ env as) F H F' H') (w' : Wf K mg ⟨none, CallL vs⟩ (CallO O H σ env as) F' H' (vs.map some) o) (hl : ¬ o.length < as.length) :
    Wf K mg S O F' H' σ (MM.back as o env) := by
  have own_back : ∀ {i : Nat} {u : Sl}, (MM.back as o env)[i]? = some u → u.own = true → ∃ s, env[i]? = some s ∧ s.own = true := by
    intro i u h ho
    rcases back_get nd h with ⟨_, b⟩ | ⟨_, b⟩ | ⟨j, s, a1, b1, rfl⟩
    · exact ⟨u, b, ho⟩
    · exact (hl b).elim
    · obtain ⟨d', _, h2⟩ := backS_own ho
      rcases h2 with ⟨d, h3, _⟩ | ⟨d, h3, _⟩
      · exact ⟨_, h3, rfl⟩
      · exact ⟨_, h3, rfl⟩
  refine ⟨w'.fz, fun i u h => ?_, fun i j s u p h1 h2 o1 o2 z1 z2 => ?_, fun a q => ?_, fun a q => ?_, fun a ks q z => w'.od a ks (.inl q) z⟩
  · rcases back_get nd h with ⟨n1, b⟩ | ⟨_, b⟩ | ⟨j, s, a1, b1, rfl⟩
    · obtain ⟨v, hv, ok⟩ := w.sl i u b
      refine ⟨v, hv, ?_⟩
      cases u with
      | no => trivial
      | sh d => obtain ⟨x, ex, r⟩ := ok; exact ⟨x, ex, r.mono t.fz⟩
      | ow d =>
        obtain ⟨p, o', ex, hf, ho, ht⟩ := ok
        subst ex
        have hp : CallO O H σ env as p := .inr (.inr ⟨i, _, b, rfl, hv, n1⟩)
        exact ⟨p, o', rfl, (t.fr p hp).trans hf, (t.kp p hp).trans ho, ht.mono t.fz⟩
      | io d =>
        obtain ⟨p, o', el, ex, hf, ho, ht⟩ := ok
        subst ex
        have hp : CallO O H σ env as p := .inr (.inr ⟨i, _, b, rfl, hv, n1⟩)
        exact ⟨p, o', el, rfl, (t.fr p hp).trans hf, (t.kp p hp).trans ho, ht.mono t.fz⟩
      | ex f d =>
        obtain ⟨a, dd, x, es, ev, hd, r⟩ := ok
        have hp : CallO O H σ env as dd := .inr (.inl ⟨_, hd⟩)
        exact ⟨a, dd, x, es, ev, (t.kp dd hp).trans hd, r.mono t.fz⟩
    · exact (hl b).elim
    · obtain ⟨v, hv, ar⟩ := ha.get a1
      have hv2 : σ[i]? = some (some v) := ar.1
      refine ⟨some v, hv2, ?_⟩
      by_cases ho : (backS env[i]? s).own = true
      · obtain ⟨d', rfl, h2⟩ := backS_own ho
        obtain ⟨x, hx, ok⟩ := w'.sl j _ b1
        obtain ⟨p, o', el, ex, hf, ho', ht⟩ := ok
        rw [List.getElem?_map, hv] at hx
        cases hx
        cases ex
        rcases h2 with ⟨d, e1, e2⟩ | ⟨d, e1, e2⟩
        · rw [e2]; exact ⟨p, o', rfl, hf, ho', ht⟩
        · rw [e2]
          obtain ⟨y, hy, ok2⟩ := w.sl i _ e1
          obtain ⟨p2, o2, el2, ex2, _⟩ := ok2
          rw [hv2] at hy
          cases hy
          cases ex2
          exact ⟨p, o', el2, rfl, hf, ho', ht⟩
      · have e : backS env[i]? s = .no := by
          cases q : env[i]? with
          | none => cases s <;> rfl
          | some u => rw [q] at ho; cases u <;> cases s <;> first | rfl | exact (ho rfl).elim
        rw [e]
        trivial
  · obtain ⟨a, ha1, ha2⟩ := own_back h1 o1
    obtain ⟨b, hb1, hb2⟩ := own_back h2 o2
    exact w.ds i j a b p ha1 hb1 ha2 hb2 z1 z2
  · obtain ⟨u, hu⟩ := w.oh a q
    exact ⟨u, by rw [t.kp a (.inl q)]; exact hu.1, hu.2⟩
  · obtain ⟨i, s, h1, h2, h3⟩ := q
    obtain ⟨b, hb1, hb2⟩ := own_back h1 h2
    exact w.ow a ⟨i, b, hb1, hb2, h3⟩

theorem outs_length : ∀ {sl : List Sl} {e : En}, (outsOf sl e).length = sl.length
  | [], _ => rfl
  | s :: r, e => by rw [outsOf, List.length_cons, List.length_cons, outs_length]
/-- what every def's outcome keeps -/
structure MGood (m : En → R Tk) : Prop where
  ok : ∀ sl t o, m sl = .ok t o → o.length = sl.length
  nm : ∀ sl i o, m sl ≠ .ok (.nm i) o
  er : ∀ sl c x o, m sl = .er c x o → o.length = sl.length
theorem mDef_good {n : Nat} {g : En → R Fl} : MGood (mDef n g) where
  ok := fun sl t o h => by
    unfold mDef at h
    cases q : g (sl ++ List.replicate n .no) with
    | no => rw [q] at h; cases h
    | er c x e => rw [q] at h; cases h
    | ok fl e =>
      rw [q] at h
      cases fl with
      | nx => cases h; exact outs_length
      | bk => cases h
      | ct => cases h
      | rt t =>
        have h' : (match retT t e with | some t' => R.ok t' (outsOf sl e) | none => .no) = .ok _ o := h
        cases z : retT t e with
        | none => rw [z] at h'; cases h'
        | some t' => rw [z] at h'; cases h'; exact outs_length
  nm := fun sl i o h => by
    unfold mDef at h
    cases q : g (sl ++ List.replicate n .no) with
    | no => rw [q] at h; cases h
    | er c x e => rw [q] at h; cases h
    | ok fl e =>
      rw [q] at h
      cases fl with
      | nx => cases h
      | bk => cases h
      | ct => cases h
      | rt t =>
        have h' : (match retT t e with | some t' => R.ok t' (outsOf sl e) | none => .no) = .ok _ o := h
        cases z : retT t e with
        | none => rw [z] at h'; cases h'
        | some t' =>
          rw [z] at h'
          cases h'
          cases t with
          | val d => cases z
          | nw d => cases z
          | nm j =>
            unfold retT at z
            simp only at z
            split at z <;> cases z
  er := fun sl c x o h => by
    unfold mDef at h
    cases q : g (sl ++ List.replicate n .no) with
    | no => rw [q] at h; cases h
    | er c x e => rw [q] at h; cases h; exact outs_length
    | ok fl e =>
      rw [q] at h
      cases fl with
      | nx => cases h
      | bk => cases h
      | ct => cases h
      | rt t =>
        have h' : (match retT t e with | some t' => R.ok t' (outsOf sl e) | none => .no) = .er c x o := h
        cases z : retT t e with
        | none => rw [z] at h'; cases h'
        | some t' => rw [z] at h'; cases h'
/-- a call's reading, by the callee's promise -/
theorem call_ok {np : Nat} {m : En → R Tk} {as : List Ar} {Q : VK} (w : Wf K mg S O F H σ env) (ha : ArOk K mg F σ vs as) (hn : as.length = np) (G : MGood m)
    (p : PostE K mg S O W F H σ (callS m as env) (fun F' H' e' t => ∀ v, TkOk K mg O F' H' σ e' v t → Q v H')) : SpM K mg np m vs H Q (fun c d H' => W c d σ H') := by
  refine ⟨ha.length.trans hn, ?_⟩
  unfold callS at p
  cases es : slsOf env as with
  | none => rw [es] at p; exact p.elim
  | some sl =>
    rw [es] at p
    simp only at p
    by_cases nd : (mvs as).Nodup
    · rw [if_pos nd] at p
      have hls := slsOf_length es
      refine ⟨CallL vs, F, sl, CallO O H σ env as, hls.trans hn, w.call ha es nd, ?_⟩
      cases q : m sl with
      | no => rw [q] at p; exact p.elim
      | er c x o =>
        rw [q] at p
        intro F' H' cls dd t1 w1 eo
        have hl : ¬ o.length < as.length := by rw [G.er sl c x o q, hls]; omega
        exact p F' H' cls dd (t1.weak fun a z => .inl z) (w.back (fun _ z => z) ha es nd t1 w1 hl) eo
      | ok t o =>
        rw [q] at p
        intro F' H' t1 w1 v tk
        have hl : ¬ o.length < as.length := by rw [G.ok sl t o q, hls]; omega
        refine p F' H' (t1.weak fun a z => .inl z) (w.back (fun _ z => z) ha es nd t1 w1 hl) v ?_
        cases t with
        | val d => exact tk
        | nw d =>
          obtain ⟨a, ob, e, hf, hn2, hO, h1, h2⟩ := tk
          refine ⟨a, ob, e, hf, fun z => ?_, fun z => hO (.inl z), h1, h2⟩
          obtain ⟨i, u, g1, g2, g3⟩ := z
          rcases back_get nd g1 with ⟨n1, b⟩ | ⟨_, b⟩ | ⟨j, s, a1, b1, rfl⟩
          · exact hO (.inr (.inr ⟨i, u, b, g2, g3, n1⟩))
          · exact hl b
          · obtain ⟨d', rfl, _⟩ := backS_own g2
            obtain ⟨y, hy, ar⟩ := ha.get a1
            have e1 : σ[i]? = some (some y) := ar.1
            rw [g3] at e1
            cases e1
            exact hn2 ⟨j, _, b1, rfl, by rw [List.getElem?_map, hy]; rfl⟩
        | nm i => exact absurd q (G.nm sl i o)
    · rw [if_neg nd] at p
      exact p.elim
end
end MM

set_option Elab.async false
set_option linter.all false
set_option maxRecDepth 100000
set_option maxHeartbeats 2000000
/-! M6: parameters bound; calls of defs, of classes, of methods; fields. -/
namespace MM
open PySem L2

/-! ### where a parameter's value comes from: by place, by keyword, a default -/
inductive Src where
  | p (i : Nat) | k (i : Nat) | d (i : Nat)
def Src.at {α : Type} (z : α) (us ws ds : List α) : Src → α
  | .p i => us.getD i z
  | .k i => ws.getD i z
  | .d i => ds.getD i z
def pickL {α : Type} (z : α) (ix : List Src) (us ws ds : List α) : List α := ix.map (Src.at z us ws ds)
theorem getD_vals {vs : List V} {us : List Value} (r : Vals vs us) (i : Nat) : RelV (vs.getD i .non) (us.getD i .none) := by
  rw [List.getD_eq_getElem?_getD, List.getD_eq_getElem?_getD]
  cases e : vs[i]? with
  | none => rw [r.none_of e]; rfl
  | some x =>
    obtain ⟨u, h1, h2⟩ := r.get e
    rw [h1]
    exact h2
theorem pick_vals {ix : List Src} {vs zs dv : List V} {us ws its : List Value} (r1 : Vals vs us) (r2 : Vals zs ws) (r3 : Vals dv its) : Vals (pickL .non ix vs zs dv) (pickL .none ix us ws its) := by
  induction ix with
  | nil => exact .nil
  | cons a ix ih =>
    refine .cons ?_ ih
    cases a with
    | p i => exact getD_vals r1 i
    | k i => exact getD_vals r2 i
    | d i => exact getD_vals r3 i
/-- how a call binds: n values by place, keywords ks; dvs: all defaults -/
structure Bnd (K : PySem.W.Frag) (fd : FuncData) (ps : List Str) (n : Nat) (ks : List Str) (ix : List Src) (dvs : List V) : Prop where
  ex : ∃ its : List Value, Vals dvs its ∧ ∀ (s : Shared) (us ws : List Value), K.In s.heap → us.length = n → ws.length = ks.length → BindsTo s fd ⟨us, ks.zip ws⟩ (ps.zip (pickL .none ix us ws its))
section
variable {K : PySem.W.Frag} {x qual : Str} {params : Arguments} {body : List Stmt} {scope : Scope} {dvs : List V} {kws : List (Str × V)} {f : Addr} {fd : FuncData} {ps ks : List Str} {ix : List Src}
theorem Bnd.plain (n : Nat) (ks : List Str) (ix : List Src) (F : FunD K x qual params body scope [] kws f fd)
    (h : ∀ (kV doc pm : Value) (an : Option Addr) (cdv ct : Value) (us ws : List Value), us.length = n → ws.length = ks.length → bindArgs (PySem.W.fnOf x qual params body scope .none kV doc pm an cdv ct) ⟨us, ks.zip ws⟩ = pure (ps.zip (pickL .none ix us ws []))) : Bnd K fd ps n ks ix [] := by
  obtain ⟨oc, od, dV, kV, doc, pm, an, cdv, ct, osl, rfl, lk, hcd, hD, hK⟩ := F.ex
  rcases hD with ⟨_, rfl⟩ | ⟨e, _⟩
  · exact ⟨[], .nil, fun s us ws _ l1 l2 => .of_eq (h kV doc pm an cdv ct us ws l1 l2)⟩
  · exact absurd rfl e
theorem Bnd.dfl (n : Nat) (ks : List Str) (ix : List Src) (F : FunD K x qual params body scope dvs kws f fd) (hd : dvs ≠ [])
    (h : ∀ (T : Addr) (kV doc pm : Value) (an : Option Addr) (cdv ct : Value) (us ws its : List Value), us.length = n → ws.length = ks.length → its.length = dvs.length →
      ∃ k, bindArgs (PySem.W.fnOf x qual params body scope (.ref T) kV doc pm an cdv ct) ⟨us, ks.zip ws⟩ = seqItems? (.ref T) >>= k ∧ k (some its.toArray) = pure (ps.zip (pickL .none ix us ws its))) : Bnd K fd ps n ks ix dvs := by
  obtain ⟨_, _, _, kV, doc, pm, an, cdv, ct, _, rfl, _, _, hD, _⟩ := F.ex
  obtain ⟨_, T, o, its, m, rfl, lT, oT, rT⟩ := hD.resolve_left fun z => hd z.1
  exact ⟨its, rT, fun s us ws Xs l1 l2 => BindsTo.of_looks fun M =>
    let ⟨k, e1, e2⟩ := h T kV doc pm an cdv ct us ws its l1 l2 rT.length.symm
    e1 ▸ looks_items Xs lT oT (.of_pure e2)⟩
end
/-- defaults, as data -/
def DfOk (K : PySem.W.Frag) (mg : Str → Option Value) (ds : List D) (dvs : List V) : Prop := ∀ F, Reps K mg F ds dvs
theorem dfNil {K : PySem.W.Frag} {mg : Str → Option Value} : DfOk K mg [] [] := fun _ => .nil

section
variable {K : PySem.W.Frag} {mg : Str → Option Value} {S : Su} {O : Addr → Prop} {W : WX} {F H F' H' : Hp} {σ σ' : St} {sl env : En} {vs zs : List V} {v : V} {t t' : Tk}
theorem ArOk.getD {as : List Ar} (h : ArOk K mg F σ vs as) (i : Nat) : ArOk K mg F σ [vs.getD i .non] [as.getD i (.d .non)] := by
  rw [List.getD_eq_getElem?_getD, List.getD_eq_getElem?_getD]
  cases e : as[i]? with
  | none =>
    have : vs[i]? = none := List.getElem?_eq_none_iff.mpr (by rw [h.length]; exact List.getElem?_eq_none_iff.mp e)
    rw [this]
    exact ⟨.non, trivial⟩
  | some a =>
    obtain ⟨u, h1, h2⟩ := h.get e
    rw [h1]
    exact h2
theorem ArOk.ofD : ∀ {ds : List D} {dvs : List V}, Reps K mg F ds dvs → ArOk K mg F σ dvs (ds.map .d)
  | _, _, .nil => trivial
  | _, _, .cons h r => ⟨h, ArOk.ofD r⟩
theorem ArOk.pick {ix : List Src} {as bs : List Ar} {ds : List D} {dvs : List V} (h1 : ArOk K mg F σ vs as) (h2 : ArOk K mg F σ zs bs) (h3 : DfOk K mg ds dvs) : ArOk K mg F σ (pickL .non ix vs zs dvs) (pickL (.d .non) ix as bs (ds.map .d)) := by
  induction ix with
  | nil => trivial
  | cons a ix ih =>
    have z : ArOk K mg F σ [Src.at V.non vs zs dvs a] [Src.at (Ar.d .non) as bs (ds.map .d) a] := by
      cases a with
      | p i => exact h1.getD i
      | k i => exact h2.getD i
      | d i => exact (ArOk.ofD (h3 F)).getD i
    exact z.cons (fun _ _ q => q) ih
end

section
variable {X : Cx} {S : Su} {W : WX} {e o : Expr} {es : List Expr} {kws : List Keyword} {pos p kpos apos : Pos} {k n : Nat} {f C : Addr} {fd : FuncData} {ps ks : List Str} {x nm : Str} {ix : List Src} {dvs : List V} {ds : List D} {m : En → R Tk} {fa fk : En → R (List Ar)}
/-! ### keywords -/
abbrev MK (X : Cx) (S : Su) (W : WX) (kws : List Keyword) (f : En → R (List Ar)) : Prop := PK X kws (tMA X S W f)
theorem _root_.L2.PK.wk {t t' : TA} (h : PK X kws t) (k : ∀ σ H Q, t' σ H Q → t σ H Q) : PK X kws t' := ⟨fun pos pins s σ H Q I q => h.run pos pins s σ H Q I (k σ H Q q)⟩
theorem mk_nil : MK X S W [] mA0 := pk_nil.wk fun σ H Q ⟨F, env, O, w, p⟩ => PostE.ok w p [] trivial
theorem mk_cons (mv : Bool) {nm : Option Str} {f : En → R Tk} {g : En → R (List Ar)} (h1 : ME X S W e f) (h2 : MK X S W kws g) : MK X S W (⟨nm, e, kpos⟩ :: kws) (mA1 mv f g) :=
  (pk_cons h1 h2).wk fun σ H Q ⟨F, env, O, w, p⟩ => by
    refine ⟨F, env, O, w, PostE.mono (PostE.bind p) fun F1 H1 e1 t t1 w1 q v tk => ?_⟩
    obtain ⟨F2, e2, a, t2, w2, ra, q2⟩ := mAr_ok w1 tk q
    exact ⟨F2, e2, O, w2, PostE.mono (PostE.bind q2) fun F3 H3 e3 ts t3 w3 z vs r => PostE.ok w3 z (v :: vs) (ra.cons t3.fz r)⟩

/-! ### the written arguments -/
/-- no star among them -/
def StarOk (X : Cx) : List Expr → Prop
  | [] => True
  | e :: es => starEach (e :: es) X.env = (false, eval e X.env) :: starEach es X.env
theorem args_go {fv : Value} {first : List Value} {pins : List (Addr × Obj)} {s : Shared} {σ : St} {F H : Hp} {env : En} {O : Addr → Prop} {α : Type} {g : List Ar → List Ar → En → R α} {k' : Hp → Hp → En → α → Prop} {Q : Value → Shared → Prop} {PP : Heap → Prop} (hk : ∀ h, PP h → ∃ k, (k = Keeper.frame ∨ k = Keeper.machine ∨ k = Keeper.boundFrame) ∧ PySem.W.Looks (model X.prog X.w) h (keeperOf fv) k) (hP : ∀ H s, Inv X pins σ H s → PP s.heap)
    (ha : MA X S W es fa) (hkw : MK X S W kws fk) (sta : StarOk X es) (hall : (backToKw pos (keywordEach kws X.env)).all (·.1.isSome) = true) (hks : (backToKw pos (keywordEach kws X.env)).filterMap (·.1) = ks)
    (hpl : ((backTo pos (starEach es X.env)).any (·.1) || (backToKw pos (keywordEach kws X.env)).any (·.1.isNone)) = false) (I : Inv X pins σ H s) (w : Wf X.K X.mg S O F H σ env)
    (p : PostE X.K X.mg S O W F H σ ((fa env).bind fun as e1 => (fk e1).bind fun bs e2 => g as bs e2) k')
    (run : ∀ F' H' e' as bs vs zs s' us ws, Tr O F H F' H' → Wf X.K X.mg S O F' H' σ e' → ArOk X.K X.mg F' σ vs as → ArOk X.K X.mg F' σ zs bs → PostE X.K X.mg S O W F' H' σ (g as bs e') k' → Inv X pins σ H' s' → Vals vs us → Vals zs ws →
      wpAny (model X.prog X.w) X.A (call fv (first ++ us) (ks.zip ws)) Q X.xe s') : wpAny (model X.prog X.w) X.A (callWith pos fv first (backTo pos (starEach es X.env)) (backToKw pos (keywordEach kws X.env))) Q X.xe s := by
  -- what stands behind the values by place
  have rest : ∀ {F1 H1 e1 as vs us s1}, Tr O F H F1 H1 → Wf X.K X.mg S O F1 H1 σ e1 → ArOk X.K X.mg F1 σ vs as → PostE X.K X.mg S O W F1 H1 σ ((fk e1).bind fun bs e2 => g as bs e2) k' → Inv X pins σ H1 s1 → Vals vs us →
      wpAny (model X.prog X.w) X.A (evalAll ((backToKw pos (keywordEach kws X.env)).map (·.2))) (fun ws s2 => PP s2.heap ∧ wpAny (model X.prog X.w) X.A (call fv (first ++ us) (ks.zip ws)) Q X.xe s2) X.xe s1 := by
    intro F1 H1 e1 as vs us s1 t1 w1 ra q I1 rv
    refine thn (hkw.run pos pins s1 σ H1 (fun zs H2 => ∃ F2 e2 bs, Tr O F1 H1 F2 H2 ∧ Wf X.K X.mg S O F2 H2 σ e2 ∧ ArOk X.K X.mg F2 σ zs bs ∧ PostE X.K X.mg S O W F2 H2 σ (g as bs e2) k') I1 ⟨F1, e1, O, w1, ?_⟩) fun ws s2 hh => ?_
    · exact PostE.mono (PostE.bind q) fun F2 H2 e2 bs t2 w2 z zs r => ⟨F2, e2, bs, t2, w2, r, z⟩
    · obtain ⟨zs, H2, I2, rz, F2, e2, bs, t2, w2, rb, z⟩ := hh
      exact ⟨hP _ _ I2, run F2 H2 e2 as bs vs zs s2 us ws (t1.trans t2) w2 (ra.mono t2.fz) rb z I2 rv rz⟩
  have q1 : tMA X S W fa σ H (fun vs H1 => ∃ F1 e1 as, Tr O F H F1 H1 ∧ Wf X.K X.mg S O F1 H1 σ e1 ∧ ArOk X.K X.mg F1 σ vs as ∧ PostE X.K X.mg S O W F1 H1 σ ((fk e1).bind fun bs e2 => g as bs e2) k') :=
    ⟨F, env, O, w, PostE.mono (PostE.bind p) fun F1 H1 e1 as t1 w1 q vs r => ⟨F1, e1, as, t1, w1, r, q⟩⟩
  cases es with
  | cons e es =>
    refine PySem.W.callWith_of hpl hk (PyProof.Rows.evalArgs_kw2 hall (thn (ha.run pos pins s σ H _ I q1) fun us s1 hh => ?_) sta)
    obtain ⟨vs, H1, I1, r, F1, e1, as, t1, w1, ra, q⟩ := hh
    rw [hks]
    exact rest t1 w1 ra q I1 r
  | nil =>
    have q2 := ha.run pos pins s σ H _ I q1
    refine PySem.W.callWith_of hpl hk (PyProof.Rows.evalArgs_kw2_nil hall ?_)
    rw [hks]
    intro Γ pp hΓ
    have q3 : AP X pins σ (fun vs H1 => ∃ F1 e1 as, Tr O F H F1 H1 ∧ Wf X.K X.mg S O F1 H1 σ e1 ∧ ArOk X.K X.mg F1 σ vs as ∧ PostE X.K X.mg S O W F1 H1 σ ((fk e1).bind fun bs e2 => g as bs e2) k') [] s := q2 Γ pp hΓ
    obtain ⟨vs, H1, I1, r, F1, e1, as, t1, w1, ra, q⟩ := q3
    exact rest t1 w1 ra q I1 r Γ pp hΓ
/-- what the text keeps -/
theorem argsK {fv : Value} {first : List Value} {pins : List (Addr × Obj)} {s : Shared} {σ : St} {F H : Hp} {env : En} {O : Addr → Prop} {α : Type} {g : List Ar → List Ar → En → R α} {k' : Hp → Hp → En → α → Prop} {Q : Value → Shared → Prop} (hk : PySem.W.keepIn X.K fv = true)
    (ha : MA X S W es fa) (hkw : MK X S W kws fk) (sta : StarOk X es) (hall : (backToKw pos (keywordEach kws X.env)).all (·.1.isSome) = true) (hks : (backToKw pos (keywordEach kws X.env)).filterMap (·.1) = ks)
    (hpl : ((backTo pos (starEach es X.env)).any (·.1) || (backToKw pos (keywordEach kws X.env)).any (·.1.isNone)) = false) (I : Inv X pins σ H s) (w : Wf X.K X.mg S O F H σ env)
    (p : PostE X.K X.mg S O W F H σ ((fa env).bind fun as e1 => (fk e1).bind fun bs e2 => g as bs e2) k')
    (run : ∀ F' H' e' as bs vs zs s' us ws, Tr O F H F' H' → Wf X.K X.mg S O F' H' σ e' → ArOk X.K X.mg F' σ vs as → ArOk X.K X.mg F' σ zs bs → PostE X.K X.mg S O W F' H' σ (g as bs e') k' → Inv X pins σ H' s' → Vals vs us → Vals zs ws →
      wpAny (model X.prog X.w) X.A (call fv (first ++ us) (ks.zip ws)) Q X.xe s') : wpAny (model X.prog X.w) X.A (callWith pos fv first (backTo pos (starEach es X.env)) (backToKw pos (keywordEach kws X.env))) Q X.xe s :=
  args_go (PP := X.K.In) (PySem.W.keeps_K hk) (fun _ _ I => I.kIn) ha hkw sta hall hks hpl I w p run

/-! ### f(..) -/
def chkS (n nk : Nat) (ix : List Src) (ds : List D) (m : En → R Tk) (as bs : List Ar) (e : En) : R Tk := if as.length = n ∧ bs.length = nk then callS m (pickL (.d .non) ix as bs (ds.map .d)) e else .no
def mCall (n nk : Nat) (ix : List Src) (ds : List D) (m : En → R Tk) (fa fk : En → R (List Ar)) (e : En) : R Tk := (fa e).bind fun as e1 => (fk e1).bind fun bs e2 => chkS n nk ix ds m as bs e2
theorem runMA {A : Around} {pins : List (Addr × Obj)} {σ : St} {H : Hp} {s : Shared} {Q : VK} {us ws : List Value} {vs zs : List V} {np : Nat} (Fn : FnG X.prog X.w X.K X.mg X.base (L2.CX X.prog X.w) k f fd ps (SpM X.K X.mg np m)) (hr : Rm k A)
    (e0 : Env0 X.prog X.w X.K X.mg X.base A X.stack s H) (hb : Bnd X.K fd ps n ks ix dvs) (tk : Takes X W) (I : Inv X pins σ H s) (r : Vals vs us) (rz : Vals zs ws) (l1 : vs.length = n) (l2 : zs.length = ks.length) (h : SpM X.K X.mg np m (pickL .non ix vs zs dvs) H Q (fun c d H' => W c d σ H')) :
    codeAny (model X.prog X.w) A (.call (.ref f) ⟨us, ks.zip ws⟩) (fun r s' => match r with | .ok (.ret v) => EP X pins σ Q v s' | .ok _ => False | .error e => X.xe e s') s := by
  obtain ⟨its, rd, bt⟩ := hb.ex
  have r2 := pick_vals (ix := ix) r rz rd
  refine codeAny_mono (Fn.run A X.stack s H ⟨us, ks.zip ws⟩ _ _ Q (fun c d H' => W c d σ H') hr e0 (bt s us ws I.kIn (r.length.symm.trans l1) (rz.length.symm.trans l2)) r2 h) fun r s' hq => ?_
  cases r with
  | error e => exact passAt tk σ pins H s e s' I hq
  | ok fl =>
    cases fl with
    | ret u => exact I.after hq
    | next => exact False.elim hq
    | brk => exact False.elim hq
    | cont => exact False.elim hq
theorem runM {pins : List (Addr × Obj)} {σ : St} {H : Hp} {s : Shared} {Q : VK} {us ws : List Value} {vs zs : List V} {np : Nat} (Fn : FnG X.prog X.w X.K X.mg X.base (L2.CX X.prog X.w) k f fd ps (SpM X.K X.mg np m)) (hr : Rm k X.A)
    (hb : Bnd X.K fd ps n ks ix dvs) (tk : Takes X W) (I : Inv X pins σ H s) (r : Vals vs us) (rz : Vals zs ws) (l1 : vs.length = n) (l2 : zs.length = ks.length) (h : SpM X.K X.mg np m (pickL .non ix vs zs dvs) H Q (fun c d H' => W c d σ H')) :
    codeAny (model X.prog X.w) X.A (.call (.ref f) ⟨us, ks.zip ws⟩) (fun r s' => match r with | .ok (.ret v) => EP X pins σ Q v s' | .ok _ => False | .error e => X.xe e s') s :=
  runMA Fn hr I.env0 hb tk I r rz l1 l2 h
theorem chk_goC {pins : List (Addr × Obj)} {σ : St} {F H : Hp} {s : Shared} {env : En} {O : Addr → Prop} {Q : VK} {us ws : List Value} {vs zs : List V} {as bs : List Ar} (Fn : FnG X.prog X.w X.K X.mg X.base (L2.CX X.prog X.w) k f fd ps (SpM X.K X.mg ix.length m)) (G : MGood m) (hr : Rm k X.A)
    (hb : Bnd X.K fd ps n ks ix dvs) (hd : DfOk X.K X.mg ds dvs) (tk : Takes X W) (w : Wf X.K X.mg S O F H σ env) (ra : ArOk X.K X.mg F σ vs as) (rb : ArOk X.K X.mg F σ zs bs)
    (q : PostE X.K X.mg S O W F H σ (chkS n ks.length ix ds m as bs env) (fun F' H' e' t => ∀ v, TkOk X.K X.mg O F' H' σ e' v t → Q v H')) (I : Inv X pins σ H s) (rv : Vals vs us) (rz : Vals zs ws) :
    codeAny (model X.prog X.w) X.A (.call (.ref f) ⟨us, ks.zip ws⟩) (fun r s' => match r with | .ok (.ret v) => EP X pins σ Q v s' | .ok _ => False | .error e => X.xe e s') s := by
  unfold chkS at q
  split at q
  · rename_i hl
    have rp := ArOk.pick (ix := ix) ra rb hd
    refine runM Fn hr hb tk I rv rz (ra.length.trans hl.1) (rb.length.trans hl.2) (call_ok w rp ?_ G q)
    exact List.length_map ..
  · exact q.elim
theorem chk_go {pins : List (Addr × Obj)} {σ : St} {F H : Hp} {s : Shared} {env : En} {O : Addr → Prop} {Q : VK} {us ws : List Value} {vs zs : List V} {as bs : List Ar} (Fn : FnG X.prog X.w X.K X.mg X.base (L2.CX X.prog X.w) k f fd ps (SpM X.K X.mg ix.length m)) (G : MGood m) (hr : Rm k X.A)
    (hb : Bnd X.K fd ps n ks ix dvs) (hd : DfOk X.K X.mg ds dvs) (tk : Takes X W) (w : Wf X.K X.mg S O F H σ env) (ra : ArOk X.K X.mg F σ vs as) (rb : ArOk X.K X.mg F σ zs bs)
    (q : PostE X.K X.mg S O W F H σ (chkS n ks.length ix ds m as bs env) (fun F' H' e' t => ∀ v, TkOk X.K X.mg O F' H' σ e' v t → Q v H')) (I : Inv X pins σ H s) (rv : Vals vs us) (rz : Vals zs ws) :
    wpAny (model X.prog X.w) X.A (call (.ref f) us (ks.zip ws)) (EP X pins σ Q) X.xe s := wpAny_call (chk_goC Fn G hr hb hd tk w ra rb q I rv rz)
theorem me_call (Fn : FnG X.prog X.w X.K X.mg X.base (L2.CX X.prog X.w) k f fd ps (SpM X.K X.mg ix.length m)) (G : MGood m) (hr : Rm k X.A) (hg : Gl X x) (hm : X.mg x = some (.ref f)) (hk : PySem.W.keepIn X.K (.ref f) = true)
    (hb : Bnd X.K fd ps n ks ix dvs) (hd : DfOk X.K X.mg ds dvs) (tk : Takes X W) (ha : MA X S W es fa) (hkw : MK X S W kws fk) (sta : StarOk X es := by first | exact rfl | exact trivial) (hall : (backToKw pos (keywordEach kws X.env)).all (·.1.isSome) = true := by rfl)
    (hks : (backToKw pos (keywordEach kws X.env)).filterMap (·.1) = ks := by rfl) (hpl : ((backTo pos (starEach es X.env)).any (·.1) || (backToKw pos (keywordEach kws X.env)).any (·.1.isNone)) = false := by rfl)
    (hdb : (x == ("__debug__" : Str)) = false := by decide) : ME X S W (.Call (.Name x p) es kws pos) (mCall n ks.length ix ds m fa fk) := by
  refine ⟨fun pins s σ H Q I ⟨F, env, O, w, p⟩ => ?_⟩
  refine wpAny_Call_Name_kw (ld_glob I hg hm ?_ hdb)
  exact argsK (first := []) hk ha hkw sta hall hks hpl I w p fun F' H' e' as bs vs zs s' us ws t1 w1 ra rb q I1 rv rz => chk_go Fn G hr hb hd tk w1 ra rb (PostE.mono q fun _ _ _ _ _ _ z => z) I1 rv rz

/-! ### o.m(..) -/
def arD (e : En) : Ar → Option D
  | .d d => some d
  | .mv i => (e[i]?).bind Sl.pk
/-- is an instance of the class c that has no attribute m of its own -/
def isRecv (c m : Str) : Option D → Bool
  | some (.ins c' fs) => c' == c && (fs.lookup m).isNone
  | _ => false
def mMeth (c mn : Str) (mv : Bool) (n nk : Nat) (ix : List Src) (ds : List D) (m : En → R Tk) (f : En → R Tk) (fa fk : En → R (List Ar)) (e : En) : R Tk := (f e).bind fun t e0 => (mAr mv t e0).bind fun a e1 =>
  bif isRecv c mn (arD e1 a) then (fa e1).bind fun as e2 => (fk e2).bind fun bs e3 => chkS n nk ix ds m (a :: as) bs e3 else .no
theorem RepF.lookup {K : PySem.W.Frag} {mg : Str → Option Value} {F : Hp} (f : Str) : ∀ {fs : List (Str × D)} {vs : List (Str × V)}, RepF K mg F fs vs → (fs.lookup f = none ∧ vs.lookup f = none) ∨ ∃ d v, fs.lookup f = some d ∧ vs.lookup f = some v ∧ Rep K mg F d v
  | _, _, .nil => .inl ⟨rfl, rfl⟩
  | _, _, .cons (k := k) (d := d) (v := v) h r => by
    by_cases e : f = k
    · subst e
      exact .inr ⟨d, v, by simp, by simp, h⟩
    · have e' : (f == k) = false := by simpa using e
      rw [List.lookup_cons, List.lookup_cons, e']
      exact RepF.lookup f r
theorem RepF.length {K : PySem.W.Frag} {mg : Str → Option Value} {F : Hp} : ∀ {fs : List (Str × D)} {vs : List (Str × V)}, RepF K mg F fs vs → vs.length = fs.length
  | _, _, .nil => rfl
  | _, _, .cons _ r => by rw [List.length_cons, List.length_cons, RepF.length r]
/-- an instance that stands for data, as an argument -/
theorem arD_ok {K : PySem.W.Frag} {mg : Str → Option Value} {O : Addr → Prop} {F H : Hp} {σ : St} {env : En} {v : V} {a : Ar} {d : D} (w : Wf K mg S O F H σ env) (h : ArOk K mg F σ [v] [a]) (e : arD env a = some d) : Pk K mg F H d v := by
  cases a with
  | d d' => cases e; exact .inl h.1
  | mv i => exact pk_ok (t := .nm i) w h.1 e
theorem recv_ok {K : PySem.W.Frag} {mg : Str → Option Value} {O : Addr → Prop} {F H : Hp} {σ : St} {env : En} {v : V} {a : Ar} {c mn : Str} {C : Addr} (hC : mg c = some (.ref C)) (w : Wf K mg S O F H σ env) (h : ArOk K mg F σ [v] [a]) (e : isRecv c mn (arD env a) = true) :
    ∃ p dx vs, v = .ref p ∧ H p = some (.ins C dx vs) ∧ vs.lookup mn = none := by
  cases q : arD env a with
  | none => rw [q] at e; cases e
  | some d =>
    rw [q] at e
    have pk := arD_ok w h q
    cases d <;> first | (cases e; done) | skip
    rename_i c' fs
    have e' : (c' == c && (fs.lookup mn).isNone) = true := e
    rw [Bool.and_eq_true] at e'
    obtain ⟨e1, e2⟩ := e'
    obtain ⟨p, C', dx, vs, e3, e4, e5, r⟩ := pk.ins w
    have ec : c' = c := by simpa using e1
    subst ec
    rw [hC] at e4
    cases e4
    refine ⟨p, dx, vs, e3, e5, ?_⟩
    rcases r.lookup mn with ⟨_, z⟩ | ⟨d, u, z, _⟩
    · exact z
    · rw [z] at e2; cases e2
theorem me_meth (c mn : Str) (mv : Bool) {fo : En → R Tk} {pl : Sem Bool} (hC : X.mg c = some (.ref C)) (cl : Cls X.K C) (hm : Meth X.K C mn f) (Fn : FnG X.prog X.w X.K X.mg X.base (L2.CX X.prog X.w) k f fd ps (SpM X.K X.mg ix.length m)) (G : MGood m) (hr : Rm k X.A)
    (hb : Bnd X.K fd ps (n + 1) ks ix dvs) (hd : DfOk X.K X.mg ds dvs) (tk : Takes X W) (ho : ME X S W o fo) (ha : MA X S W es fa) (hkw : MK X S W kws fk) (sta : StarOk X es := by first | exact rfl | exact trivial) (hall : (backToKw pos (keywordEach kws X.env)).all (·.1.isSome) = true := by rfl)
    (hks : (backToKw pos (keywordEach kws X.env)).filterMap (·.1) = ks := by rfl) (hpl : ((backTo pos (starEach es X.env)).any (·.1) || (backToKw pos (keywordEach kws X.env)).any (·.1.isNone)) = false := by rfl)
    (ht : eval (.Call (.Attribute o mn apos) es kws pos) X.env = (do
      let ov ← eval o X.env
      standAt apos.atName
      let (f, first) ← holding [ov] (getMethod ov mn pl)
      callWith pos f first (backTo pos (starEach es X.env)) (backToKw pos (keywordEach kws X.env))) := by rfl) : ME X S W (.Call (.Attribute o mn apos) es kws pos) (mMeth c mn mv (n + 1) ks.length ix ds m fo fa fk) := by
  refine ⟨fun pins s σ H Q I ⟨F, env, O, w, p⟩ => ?_⟩
  have q0 : tM X S W fo σ H (fun v H1 => ∃ F1 e1 a, Wf X.K X.mg S O F1 H1 σ e1 ∧ ArOk X.K X.mg F1 σ [v] [a] ∧ isRecv c mn (arD e1 a) = true ∧ PostE X.K X.mg S O W F1 H1 σ ((fa e1).bind fun as e2 => (fk e2).bind fun bs e3 => chkS (n + 1) ks.length ix ds m (a :: as) bs e3) (fun F' H' e' t => ∀ v, TkOk X.K X.mg O F' H' σ e' v t → Q v H')) := by
    refine ⟨F, env, O, w, PostE.mono (PostE.bind p) fun F1 H1 e1 t t1 w1 q v tk => ?_⟩
    obtain ⟨F2, e2, a, t2, w2, ra, q2⟩ := mAr_ok w1 tk q
    cases z : isRecv c mn (arD e2 a) with
    | false => rw [z] at q2; exact q2.elim
    | true => rw [z] at q2; exact ⟨F2, e2, a, w2, ra, z, q2⟩
  refine PySem.W.methodCall_KW (pl := pl) (thn (ho.run pins s σ H _ I q0) fun u s1 hh => ?_) ht
  obtain ⟨v, H1, I1, rx, F1, e1, a, w1, ra, hz, q⟩ := hh
  obtain ⟨p1, dx, vs, e3, e5, e6⟩ := recv_ok hC w1 ra hz
  subst e3
  obtain rfl : u = Value.ref p1 := rx
  refine getmeth_ok I1 e5 cl hm e6 ?_
  refine argsK (first := [.ref p1]) hm.kp ha hkw sta hall hks hpl I1 w1 q fun F' H' e' as bs vs zs s' us ws t1 w2 ra2 rb q2 I2 rv rz => ?_
  exact chk_go (vs := .ref p1 :: vs) (us := .ref p1 :: us) Fn G hr hb hd tk w2 (ra.cons t1.fz ra2) rb q2 I2 (.cons rfl rv) rz

/-! ### fields -/
/-- an attribute of an instance -/
def fldD (cs : List Str) (f : Str) : D → Option D
  | .ins c fs => if cs.contains c then fs.lookup f else none
  | _ => none
def dFld (cs : List Str) (f : Str) (d : D) : Option Tk := (fldD cs f d).map .val
def FldOk (X : Cx) (cs : List Str) (f : Str) : Prop := ∀ c ∈ cs, ∀ C, X.mg c = some (.ref C) → Cls X.K C ∧ NoAttr X.K C f
theorem me_fld {a : Expr} {f : Str} {cs : List Str} {g : En → R Tk} (hc : FldOk X cs f) (ha : ME X S W a g) (hb : attributeBase a f X.env (eval a X.env) = eval a X.env := by rfl) : ME X S W (.Attribute a f pos) (mOp1 g (dFld cs f)) :=
  me_op1 (r := fun x H Q => ∃ a C dx fs v, x = .ref a ∧ H a = some (.ins C dx fs) ∧ Cls X.K C ∧ NoAttr X.K C f ∧ fs.lookup f = some v ∧ Q v H) (fun ta hta => pe_fld hta hb) ha fun F H σ env O v x t Q w k e p => by
    obtain ⟨d, h1, rfl⟩ := Option.map_eq_some_iff.mp e
    cases x <;> first | (cases h1; done) | skip
    rename_i c fs
    simp only [fldD] at h1
    split at h1
    · rename_i hm
      obtain ⟨p1, C, dx, vs, e1, e2, e3, r⟩ := k.ins w
      obtain ⟨c1, c2⟩ := hc c (by simpa using hm) C e2
      rcases r.lookup f with ⟨z, _⟩ | ⟨d', v', z1, z2, z3⟩
      · rw [z] at h1; cases h1
      · rw [z1] at h1
        cases h1
        exact ⟨p1, C, dx, vs, v', e1, e3, c1, c2, z2, flatE w p z3⟩
    · cases h1
def putD' (f : Str) (d : D) : List (Str × D) → List (Str × D)
  | [] => [(f, d)]
  | kv :: r => if kv.1 = f then (f, d) :: r else kv :: putD' f d r
end
end MM

set_option Elab.async false
set_option linter.all false
set_option maxRecDepth 100000
set_option maxHeartbeats 2000000
/-! M7: objects changed; fields stored; instances made; properties. -/
namespace MM
open PySem L2
/-- an object of the frame is changed -/
def mutS (i : Nat) (e : En) (g : D → Option D) : Option Sl → R Unit
  | some (.ow d) => match g d with
    | some d' => .ok () (e.set i (.ow d'))
    | none => .no
  | some (.io d) => match g d with
    | some d' => .ok () (e.set i (.io d'))
    | none => .no
  | _ => .no
def mutT (g : D → Option D) (t : Tk) (e : En) : R Unit := match t with
  | .nm i => mutS i e g (e[i]?)
  | _ => .no
section
variable {K : PySem.W.Frag} {mg : Str → Option Value} {S : Su} {O : Addr → Prop} {W : WX} {F H F' H' : Hp} {σ σ' : St} {sl env : En} {vs zs : List V} {v : V} {t t' : Tk}
theorem Wf.write {i : Nat} {s s' : Sl} {p : Addr} {o' : HO} {d' : D} (w : Wf K mg S O F H σ env) (hs : env[i]? = some s) (ho : s.own = true) (hv : σ[i]? = some (some (.ref p))) (ht : Top K mg F o' d') (h' : (∃ d, s = .ow d ∧ s' = .ow d') ∨ ∃ d, s = .io d ∧ s' = .io d') :
    Wf K mg S O F (upd H p o') σ (env.set i s') ∧ Tr O F H F (upd H p o') := by
  obtain ⟨hf, o, d, hp, hT⟩ := Own.top w ⟨i, s, hs, ho, hv⟩
  have hO : ¬ O p := w.ow p ⟨i, s, hs, ho, hv⟩
  have ho' : s'.own = true := by rcases h' with ⟨_, _, rfl⟩ | ⟨_, _, rfl⟩ <;> rfl
  have ownb : ∀ {j : Nat} {u : Sl}, (env.set i s')[j]? = some u → u.own = true → ∃ u', env[j]? = some u' ∧ u'.own = true := by
    intro j u h1 h2
    rcases en_set h1 with ⟨e, e2, l⟩ | ⟨_, h1⟩
    · subst e; exact ⟨s, hs, ho⟩
    · exact ⟨u, h1, h2⟩
  refine ⟨⟨fun a u h => ?_, fun j u h => ?_, fun a b u z q h1 h2 q1 q2 z1 z2 => ?_, fun a q => ?_, fun a q => ?_, fun a ks q z zd => by
    obtain ⟨o', e⟩ := w.od a ks q z zd
    exact ⟨o', by rw [upd_ne (fun e2 => hO (by rw [← e2]; exact q))]; exact e⟩⟩, ⟨Sub.rfl', fun a q => upd_ne fun e => hO (e ▸ q), fun _ _ => rfl, fun a u q => ?_⟩⟩
  · rw [upd_ne (ne_of_none h hf)]; exact w.fz a u h
  · rcases en_set h with ⟨e, e2, l⟩ | ⟨ne, h1⟩
    · subst e; subst e2
      obtain ⟨x, hx, ok⟩ := w.sl i s hs
      rw [hv] at hx
      cases hx
      refine ⟨_, hv, ?_⟩
      rcases h' with ⟨d, rfl, rfl⟩ | ⟨d, rfl, rfl⟩
      · exact ⟨p, o', rfl, hf, upd_same, ht⟩
      · obtain ⟨q, oq, el, ex, _⟩ := ok
        cases ex
        exact ⟨p, o', el, rfl, hf, upd_same, ht⟩
    · obtain ⟨x, hx, ok⟩ := w.sl j u h1
      refine ⟨x, hx, ?_⟩
      cases u with
      | no => trivial
      | sh d => exact ok
      | ow d =>
        obtain ⟨q, oq, ex, h2, h3, h4⟩ := ok
        subst ex
        have nq : q ≠ p := fun e => by subst e; exact ne (w.ds i j s _ q hs h1 ho rfl hv hx)
        exact ⟨q, oq, rfl, h2, by rw [upd_ne nq]; exact h3, h4⟩
      | io d =>
        obtain ⟨q, oq, el, ex, h2, h3, h4⟩ := ok
        subst ex
        have nq : q ≠ p := fun e => by subst e; exact ne (w.ds i j s _ q hs h1 ho rfl hv hx)
        exact ⟨q, oq, el, rfl, h2, by rw [upd_ne nq]; exact h3, h4⟩
      | ex f d =>
        obtain ⟨a, dd, y, es, ev, hd, r⟩ := ok
        have nq : dd ≠ p := fun e => by subst e; rw [hp] at hd; cases hd; cases hT
        exact ⟨a, dd, y, es, ev, by rw [upd_ne nq]; exact hd, r⟩
  · obtain ⟨u', a1, a2⟩ := ownb h1 q1
    obtain ⟨z', b1, b2⟩ := ownb h2 q2
    exact w.ds a b u' z' q a1 b1 a2 b2 z1 z2
  · obtain ⟨u, hu⟩ := w.oh a q
    exact ⟨u, by rw [upd_ne (fun e => hO (by rw [← e]; exact q))]; exact hu.1, hu.2⟩
  · obtain ⟨j, u, h1, h2, h3⟩ := q
    obtain ⟨u', a1, a2⟩ := ownb h1 h2
    exact w.ow a ⟨j, u', a1, a2, h3⟩
  · by_cases e : a = p
    · subst e; exact ⟨o', upd_same⟩
    · exact ⟨u, by rw [upd_ne e]; exact q⟩
/-- an object of the frame: where it stands, and how it may be changed -/
theorem mut_ok {α : Type} {g : D → Option D} {f : Unit → En → R α} {k : Hp → Hp → En → α → Prop} (w : Wf K mg S O F H σ env) (h : TkOk K mg O F H σ env v t) (q : PostE K mg S O W F H σ ((mutT g t env).bind f) k) :
    ∃ p o d d' e', v = .ref p ∧ H p = some o ∧ Top K mg F o d ∧ g d = some d' ∧ ∀ o', Top K mg F o' d' → Wf K mg S O F (upd H p o') σ e' ∧ Tr O F H F (upd H p o') ∧ PostE K mg S O W F (upd H p o') σ (f () e') k := by
  cases t with
  | val d => exact q.elim
  | nw d => exact q.elim
  | nm i =>
    have hv : σ[i]? = some (some v) := h
    have q' : PostE K mg S O W F H σ ((mutS i env g (env[i]?)).bind f) k := q
    cases e : env[i]? with
    | none => rw [e] at q'; exact q'.elim
    | some s =>
      rw [e] at q'
      obtain ⟨x, hx, ok⟩ := w.sl i s e
      rw [hv] at hx
      cases hx
      cases s with
      | ow d =>
        obtain ⟨p, o, ex, _, ho, ht⟩ := ok
        cases ex
        cases z : g d with
        | none => simp only [mutS, z] at q'; exact q'.elim
        | some d' =>
          simp only [mutS, z] at q'
          refine ⟨p, o, d, d', env.set i (.ow d'), rfl, ho, ht, z, fun o' ht' => ?_⟩
          obtain ⟨a, b⟩ := w.write e rfl hv ht' (.inl ⟨d, rfl, rfl⟩)
          exact ⟨a, b, PostE.on q' b⟩
      | io d =>
        obtain ⟨p, o, _, ex, _, ho, ht⟩ := ok
        cases ex
        cases z : g d with
        | none => simp only [mutS, z] at q'; exact q'.elim
        | some d' =>
          simp only [mutS, z] at q'
          refine ⟨p, o, d, d', env.set i (.io d'), rfl, ho, ht, z, fun o' ht' => ?_⟩
          obtain ⟨a, b⟩ := w.write e rfl hv ht' (.inr ⟨d, rfl, rfl⟩)
          exact ⟨a, b, PostE.on q' b⟩
      | no => exact q'.elim
      | sh d => exact q'.elim
      | ex f d => exact q'.elim
theorem R.bind_pure {α : Type} (r : R α) : r.bind (fun a e => .ok a e) = r := by cases r <;> rfl
theorem frc_k {k : Hp → Hp → En → D → Prop} (w : Wf K mg S O F H σ env) (h : TkOk K mg O F H σ env v t) (q : PostE K mg S O W F H σ (frc t env) k) : ∃ F' e' d, Tr O F H F' H ∧ Wf K mg S O F' H σ e' ∧ Rep K mg F' d v ∧ k F' H e' d := by
  rw [← R.bind_pure (frc t env)] at q
  obtain ⟨F', e', d, t1, w1, r, _, q1⟩ := frc_ok w h q
  exact ⟨F', e', d, t1, w1, r, PostE.ok w1 q1⟩
theorem mut_k {g : D → Option D} {k : Hp → Hp → En → Unit → Prop} (w : Wf K mg S O F H σ env) (h : TkOk K mg O F H σ env v t) (q : PostE K mg S O W F H σ (mutT g t env) k) :
    ∃ p o d d' e', v = .ref p ∧ H p = some o ∧ Top K mg F o d ∧ g d = some d' ∧ ∀ o', Top K mg F o' d' → Wf K mg S O F (upd H p o') σ e' ∧ Tr O F H F (upd H p o') ∧ k F (upd H p o') e' () := by
  rw [← R.bind_pure (mutT g t env)] at q
  obtain ⟨p, o, d, d', e', h1, h2, h3, h4, h5⟩ := mut_ok w h q
  refine ⟨p, o, d, d', e', h1, h2, h3, h4, fun o' ht => ?_⟩
  obtain ⟨a, b, c⟩ := h5 o' ht
  exact ⟨a, b, PostE.ok a c⟩
theorem mAr_k {mv : Bool} {k : Hp → Hp → En → Ar → Prop} (w : Wf K mg S O F H σ env) (h : TkOk K mg O F H σ env v t) (q : PostE K mg S O W F H σ (mAr mv t env) k) : ∃ F' e' a, Tr O F H F' H ∧ Wf K mg S O F' H σ e' ∧ ArOk K mg F' σ [v] [a] ∧ k F' H e' a := by
  rw [← R.bind_pure (mAr mv t env)] at q
  obtain ⟨F', e', a, t1, w1, r, q1⟩ := mAr_ok w h q
  exact ⟨F', e', a, t1, w1, r, PostE.ok w1 q1⟩
theorem Post.elimE {α : Type} {r : R α} {k : St → Hp → Hp → En → α → Prop} (h : Post K mg S O W F H r k) : PostE K mg S O W F H σ r (k σ) := by
  cases r with
  | ok a e => exact fun F' H' t w => h σ F' H' t w
  | er c x e => exact fun F' H' cls dd t w eo => h σ F' H' cls dd t w eo
  | no => exact h
theorem RepF.put {f : Str} {d : D} {v : V} (h : Rep K mg F d v) : ∀ {fs : List (Str × D)} {vs : List (Str × V)}, RepF K mg F fs vs → RepF K mg F (putD' f d fs) (putF f v vs)
  | _, _, .nil => .cons h .nil
  | _, _, .cons (k := k) q r => by
    unfold putD' putF
    by_cases e : k = f
    · simp only [e, if_true]
      exact .cons h r
    · simp only [e, if_false]
      exact .cons q (RepF.put h r)
end

section
variable {X : Cx} {S : Su} {W : WX} {e o : Expr} {es : List Expr} {kws : List Keyword} {pos p kpos apos : Pos} {k n : Nat} {f C : Addr} {fd : FuncData} {ps ks : List Str} {x nm : Str} {ix : List Src} {dvs : List V} {ds : List D} {m : En → R Tk} {fa fk : En → R (List Ar)}
/-! ### e.f = value -/
def fldP (cs : List Str) (f : Str) (d : D) : D → Option D
  | .ins c fs => if cs.contains c ∧ fs.length < 1000 then some (.ins c (putD' f d fs)) else none
  | _ => none
def mFldSet (cs : List Str) (f : Str) (fo fv : En → R Tk) (e : En) : R Fl := (fv e).bind fun t e1 => (frc t e1).bind fun d e2 => (fo e2).bind fun u e3 => (mutT (fldP cs f d) u e3).bind fun _ e4 => .ok .nx e4
theorem ms_fld {f : Str} {cs : List Str} {a value : Expr} {pos' : Pos} {fo fv : En → R Tk} (hc : FldOk X cs f) (ho : ME X S W a fo) (hv : ME X S W value fv) (hs : swapsWith value (some (.Attribute a f pos')) pos.line X.env = pure false := by rfl) :
    MS X S W (.Assign [.Attribute a f pos'] value pos) (mFldSet cs f fo fv) := (ps_fld ho hv hs).wk fun D σ H ⟨F, env, O, w, p⟩ => by
  refine ⟨F, env, O, w, PostE.mono (Post.toE p) fun F1 H1 e1 t t1 w1 q v tk => ?_⟩
  obtain ⟨F2, e2, d, t2, w2, rd, q2⟩ := frc_k w1 tk (Post.toE q)
  refine ⟨F2, e2, O, w2, PostE.mono (Post.toE q2) fun F3 H3 e3 u t3 w3 q3 x tku => ?_⟩
  obtain ⟨p1, o, d0, d', e4, ex, ho, ht, hg, fin⟩ := mut_k w3 tku (Post.toE q3)
  unfold fldP at hg
  split at hg
  · rename_i c fs
    split at hg
    · rename_i hm
      cases hg
      cases ht with
      | ins hC r =>
        obtain ⟨c1, c2⟩ := hc c (by simpa using hm.1) _ hC
        obtain ⟨w5, t5, q5⟩ := fin _ (.ins hC (r.put (rd.mono t3.fz)))
        exact ⟨p1, _, _, _, ex, ho, c1, c2, by rw [r.length]; exact hm.2, q5 σ _ _ Tr.refl w5⟩
    · cases hg
  · cases hg
/-! ### C(..) -/
def Src.up : Src → Src
  | .p i => .p (i + 1)
  | .k i => .k i
  | .d i => .d i
theorem pick_up {α : Type} {z a : α} {ix : List Src} {us ws ds : List α} : pickL z (ix.map Src.up) (a :: us) ws ds = pickL z ix us ws ds := by
  induction ix with
  | nil => rfl
  | cons i ix ih =>
    show Src.at z (a :: us) ws ds i.up :: pickL z (ix.map Src.up) (a :: us) ws ds = Src.at z us ws ds i :: pickL z ix us ws ds
    rw [ih]
    cases i <;> rfl
def mkR (as : List Ar) (e : En) : R Tk → R Tk
  | .ok (.val .non) (.io d :: o) => .ok (.nw d) (back as o e)
  | .er c x (_ :: o) => .er c x (back as o e)
  | _ => .no
def mkS (c : Str) (m : En → R Tk) (as : List Ar) (e : En) : R Tk := match slsOf e as with
  | some sl => if (mvs as).Nodup then mkR as e (m (.io (.ins c []) :: sl)) else .no
  | none => .no
def chkM (c : Str) (n nk : Nat) (ix : List Src) (ds : List D) (m : En → R Tk) (as bs : List Ar) (e : En) : R Tk := if as.length = n ∧ bs.length = nk then mkS c m (pickL (.d .non) ix as bs (ds.map .d)) e else .no
def mMake (c : Str) (n nk : Nat) (ix : List Src) (ds : List D) (m : En → R Tk) (fa fk : En → R (List Ar)) (e : En) : R Tk := (fa e).bind fun as e1 => (fk e1).bind fun bs e2 => chkM c n nk ix ds m as bs e2
section
variable {K : PySem.W.Frag} {mg : Str → Option Value} {O : Addr → Prop} {F H F' H' : Hp} {σ σ' : St} {sl env : En} {vs zs : List V} {v : V} {t t' : Tk}
/-- one more place, of an object that was lent -/
theorem Wf.consIo {L : Nat → Option Addr} {x : Addr} {o : HO} {d : D} (w : Wf K mg ⟨none, L⟩ O F H σ sl) (hf : F x = none) (ho : H x = some o) (ht : Top K mg F o d) (hn : ¬ Own σ sl x) (hO : ¬ O x) {L' : Nat → Option Addr} (h0 : L' 0 = some x) (h1 : ∀ i, L' (i + 1) = L i) :
    Wf K mg ⟨none, L'⟩ O F H (some (.ref x) :: σ) (.io d :: sl) where
  fz := w.fz
  sl := fun i s h => by
    cases i with
    | zero =>
      simp at h
      subst h
      exact ⟨_, rfl, x, o, h0, rfl, hf, ho, ht⟩
    | succ i =>
      obtain ⟨v, hv, ok⟩ := w.sl i s (by simpa using h)
      refine ⟨v, by simpa using hv, ?_⟩
      cases s with
      | io d' => obtain ⟨q, oq, el, r⟩ := ok; exact ⟨q, oq, (h1 i).trans el, r⟩
      | _ => exact ok
  ds := fun i j s u p a b o1 o2 z1 z2 => by
    cases i with
    | zero =>
      cases j with
      | zero => rfl
      | succ j =>
        simp at z1
        subst z1
        exact (hn ⟨j, u, by simpa using b, o2, by simpa using z2⟩).elim
    | succ i =>
      cases j with
      | zero =>
        simp at z2
        subst z2
        exact (hn ⟨i, s, by simpa using a, o1, by simpa using z1⟩).elim
      | succ j => exact congrArg Nat.succ (w.ds i j s u p (by simpa using a) (by simpa using b) o1 o2 (by simpa using z1) (by simpa using z2))
  oh := w.oh
  ow := fun a q => by
    obtain ⟨i, s, h1, h2, h3⟩ := q
    cases i with
    | zero => simp at h3; subst h3; exact hO
    | succ i => exact w.ow a ⟨i, s, by simpa using h1, h2, by simpa using h3⟩
  od := w.od
theorem Wf.tailIo {L L' : Nat → Option Addr} {s0 : Sl} {v0 : Option V} (h1 : ∀ i, L (i + 1) = L' i) (w : Wf K mg ⟨none, L⟩ O F H (v0 :: σ) (s0 :: sl)) : Wf K mg ⟨none, L'⟩ O F H σ sl where
  fz := w.fz
  sl := fun i s h => by
    obtain ⟨v, hv, ok⟩ := w.sl (i + 1) s (by simpa using h)
    refine ⟨v, by simpa using hv, ?_⟩
    cases s with
    | io d' => obtain ⟨q, oq, el, r⟩ := ok; exact ⟨q, oq, (h1 i).symm.trans el, r⟩
    | _ => exact ok
  ds := fun i j s u p a b o1 o2 z1 z2 => Nat.succ.inj (w.ds (i + 1) (j + 1) s u p (by simpa using a) (by simpa using b) o1 o2 (by simpa using z1) (by simpa using z2))
  oh := w.oh
  ow := fun a q => by
    obtain ⟨i, s, h1, h2, h3⟩ := q
    exact w.ow a ⟨i + 1, s, by simpa using h1, h2, by simpa using h3⟩
  od := w.od
theorem back_own {as : List Ar} {o : En} {p : Addr} (nd : (mvs as).Nodup) (hl : ¬ o.length < as.length) (h : Own σ (MM.back as o env) p) : Own σ env p := by
  obtain ⟨i, u, h1, h2, h3⟩ := h
  rcases back_get nd h1 with ⟨_, b⟩ | ⟨_, b⟩ | ⟨j, s, a1, b1, rfl⟩
  · exact ⟨i, u, b, h2, h3⟩
  · exact (hl b).elim
  · obtain ⟨d', _, h4⟩ := backS_own h2
    rcases h4 with ⟨d, h5, _⟩ | ⟨d, h5, _⟩
    · exact ⟨i, _, h5, rfl, h3⟩
    · exact ⟨i, _, h5, rfl, h3⟩
theorem make_ok {c : Str} {as : List Ar} {Q : VK} (hC : mg c = some (.ref C)) (w : Wf K mg S O F H σ env) (ha : ArOk K mg F σ vs as) (G : MGood m)
    (p : PostE K mg S O W F H σ (mkS c m as env) (fun F' H' e' t => ∀ v, TkOk K mg O F' H' σ e' v t → Q v H')) {x dx : Addr} (h1 : H x = none) (h2 : H dx = none) (h3 : dx ≠ x) :
    SpM K mg (as.length + 1) m (.ref x :: vs) (upd (upd H dx (.own x)) x (.ins C dx [])) (fun v H2 => v = .non ∧ Q (.ref x) H2) (fun c d H' => W c d σ H') := by
  refine ⟨congrArg Nat.succ ha.length, ?_⟩
  unfold mkS at p
  cases es : slsOf env as with
  | none => rw [es] at p; exact p.elim
  | some sl =>
    rw [es] at p
    simp only at p
    by_cases nd : (mvs as).Nodup
    · rw [if_pos nd] at p
      have hls := slsOf_length es
      have w1 := w.call ha es nd
      have w2 := w1.new h2 (.own x)
      have hx2 : (upd H dx (.own x)) x = none := by rw [upd_ne fun e => h3 e.symm]; exact h1
      have w3 := w2.new hx2 (.ins C dx [])
      have tt : Tr (CallO O H σ env as) F H F (upd (upd H dx (.own x)) x (.ins C dx [])) := (Tr.new w1 h2 _).trans (Tr.new w2 hx2 _)
      have w4 : Wf K mg ⟨none, CallL (.ref x :: vs)⟩ (CallO O H σ env as) F (upd (upd H dx (.own x)) x (.ins C dx [])) ((V.ref x :: vs).map some) (.io (.ins c []) :: sl) :=
        w3.consIo (w2.gone hx2) upd_same (.ins hC .nil) (w2.nOwn hx2) (w2.nO hx2) rfl (fun _ => rfl)
      refine ⟨CallL (.ref x :: vs), F, .io (.ins c []) :: sl, CallO O H σ env as, congrArg Nat.succ hls, w4, ?_⟩
      cases q : m (.io (.ins c []) :: sl) with
      | no => rw [q] at p; exact p.elim
      | er c' y o =>
        rw [q] at p
        cases o with
        | nil => exact p.elim
        | cons s0 o =>
          intro F' H' cls dd t1 w5 eo
          have hlo := G.er _ _ _ _ q
          have hl : ¬ o.length < as.length := by simp at hlo; omega
          have w6 : Wf K mg ⟨none, CallL vs⟩ (CallO O H σ env as) F' H' (vs.map some) o := Wf.tailIo (fun _ => rfl) w5
          exact p F' H' cls dd ((tt.trans t1).weak fun a z => .inl z) (w.back (fun _ z => z) ha es nd (tt.trans t1) w6 hl) eo
      | ok t o =>
        rw [q] at p
        cases t with
        | nm i => exact p.elim
        | nw d => exact p.elim
        | val d =>
          cases d <;> first | exact p.elim | skip
          cases o with
          | nil => exact p.elim
          | cons s0 o =>
            cases s0 <;> first | exact p.elim | skip
            rename_i d
            intro F' H' t1 w5 v tk
            have hlo := G.ok _ _ _ q
            have hl : ¬ o.length < as.length := by simp at hlo; omega
            have w6 : Wf K mg ⟨none, CallL vs⟩ (CallO O H σ env as) F' H' (vs.map some) o := Wf.tailIo (fun _ => rfl) w5
            have tk' : Rep K mg F' .non v := tk
            cases tk'
            refine ⟨rfl, p F' H' ((tt.trans t1).weak fun a z => .inl z) (w.back (fun _ z => z) ha es nd (tt.trans t1) w6 hl) (.ref x) ?_⟩
            obtain ⟨v0, hv0, p0, o0, e0, ex, hf, ho, ht⟩ := w5.sl 0 _ rfl
            have : v0 = some (V.ref x) := (Option.some.inj (show some (some (V.ref x)) = some v0 from hv0)).symm
            subst this
            cases ex
            exact ⟨x, o0, rfl, hf, fun z => w.nOwn h1 (back_own nd hl z), w.nO h1, ho, ht⟩
    · rw [if_neg nd] at p
      exact p.elim
end
theorem runMk {pins : List (Addr × Obj)} {σ : St} {H : Hp} {s : Shared} {Q : VK} {us ws : List Value} {vs zs : List V} {np : Nat} (M : Mk X.K C f) (Fn : FnG X.prog X.w X.K X.mg X.base (L2.CX X.prog X.w) k f fd ps (SpM X.K X.mg np m)) (hr : Rm (k + 1) X.A)
    (hb : Bnd X.K fd ps (n + 1) ks (.p 0 :: ix.map Src.up) dvs) (tk : Takes X W) (I : Inv X pins σ H s) (r : Vals vs us) (rz : Vals zs ws) (l1 : vs.length = n) (l2 : zs.length = ks.length)
    (h : ∀ x dx, H x = none → H dx = none → dx ≠ x → SpM X.K X.mg np m (.ref x :: pickL .non ix vs zs dvs) (upd (upd H dx (.own x)) x (.ins C dx [])) (fun v H2 => v = .non ∧ Q (.ref x) H2) (fun c d H' => W c d σ H')) :
    wpAny (model X.prog X.w) X.A (call (.ref C) us (ks.zip ws)) (EP X pins σ Q) X.xe s := by
  obtain ⟨its, rd, bt⟩ := hb.ex
  have I2 := Inv.made (C := C) I
  have hq := h _ _ (I.hok.fresh (Nat.le_succ s.heap.objs.size)) (I.hok.fresh (Nat.le_refl s.heap.objs.size)) (Nat.ne_of_lt (Nat.lt_succ_self _))
  have r1 : Vals (V.ref (s.heap.objs.size + 1) :: vs) (Value.ref (s.heap.objs.size + 1) :: us) := .cons rfl r
  have r2 := pick_vals (ix := .p 0 :: ix.map Src.up) r1 rz rd
  have e1 : (Value.ref (s.heap.objs.size + 1) :: us).length = n + 1 := r1.length.symm.trans (congrArg Nat.succ l1)
  have e2 : ws.length = ks.length := rz.length.symm.trans l2
  have e3 : pickL .non (.p 0 :: ix.map Src.up) (V.ref (s.heap.objs.size + 1) :: vs) zs dvs = V.ref (s.heap.objs.size + 1) :: pickL .non ix vs zs dvs := by
    show V.ref _ :: pickL .non (ix.map Src.up) (V.ref _ :: vs) zs dvs = _
    rw [pick_up]
  rw [← e3] at hq
  refine wpAny_call (make_map (f := f) I.kIn M.makes M.init (beq_iff_eq.mp M.fn) (codeAny_mono (Fn.run _ X.stack _ _ ⟨Value.ref (s.heap.objs.size + 1) :: us, ks.zip ws⟩ _ _ _ (fun c d H' => W c d σ H') (hr.make C us (ks.zip ws))
    (I2.env0.make C us (ks.zip ws)) (bt _ (Value.ref (s.heap.objs.size + 1) :: us) ws I2.kIn e1 e2) r2 hq) fun r s' hq' => ?_))
  rcases r with er | (_ | _ | _ | _) <;> first | exact hq'.elim | skip
  · exact passAt tk σ pins _ _ er s' I2 hq'
  · obtain ⟨_, H1, I3, rv, rfl, q3⟩ := I2.after hq'
    exact ⟨rv, .ref (s.heap.objs.size + 1), H1, I3, rfl, q3⟩
theorem make_go {c : Str} {pins : List (Addr × Obj)} {σ : St} {F H : Hp} {s : Shared} {env : En} {O : Addr → Prop} {Q : VK} {us ws : List Value} {vs zs : List V} {as bs : List Ar} (hC : X.mg c = some (.ref C)) (M : Mk X.K C f) (Fn : FnG X.prog X.w X.K X.mg X.base (L2.CX X.prog X.w) k f fd ps (SpM X.K X.mg (ix.length + 1) m)) (G : MGood m) (hr : Rm (k + 1) X.A)
    (hb : Bnd X.K fd ps (n + 1) ks (.p 0 :: ix.map Src.up) dvs) (hd : DfOk X.K X.mg ds dvs) (tk : Takes X W) (w : Wf X.K X.mg S O F H σ env) (ra : ArOk X.K X.mg F σ vs as) (rb : ArOk X.K X.mg F σ zs bs)
    (q : PostE X.K X.mg S O W F H σ (chkM c n ks.length ix ds m as bs env) (fun F' H' e' t => ∀ v, TkOk X.K X.mg O F' H' σ e' v t → Q v H')) (I : Inv X pins σ H s) (rv : Vals vs us) (rz : Vals zs ws) :
    wpAny (model X.prog X.w) X.A (call (.ref C) us (ks.zip ws)) (EP X pins σ Q) X.xe s := by
  unfold chkM at q
  split at q
  · rename_i hl
    have rp := ArOk.pick (ix := ix) ra rb hd
    refine runMk M Fn hr hb tk I rv rz (ra.length.trans hl.1) (rb.length.trans hl.2) fun x dx h1 h2 h3 => ?_
    have z := make_ok hC w rp G q h1 h2 h3
    rw [show (pickL (Ar.d .non) ix as bs (ds.map .d)).length = ix.length from List.length_map ..] at z
    exact z
  · exact q.elim
theorem me_make {c : Str} (hC : X.mg c = some (.ref C)) (M : Mk X.K C f) (Fn : FnG X.prog X.w X.K X.mg X.base (L2.CX X.prog X.w) k f fd ps (SpM X.K X.mg (ix.length + 1) m)) (G : MGood m) (hr : Rm (k + 1) X.A) (hg : Gl X c)
    (hb : Bnd X.K fd ps (n + 1) ks (.p 0 :: ix.map Src.up) dvs) (hd : DfOk X.K X.mg ds dvs) (tk : Takes X W) (ha : MA X S W es fa) (hkw : MK X S W kws fk) (sta : StarOk X es := by first | exact rfl | exact trivial) (hall : (backToKw pos (keywordEach kws X.env)).all (·.1.isSome) = true := by rfl)
    (hks : (backToKw pos (keywordEach kws X.env)).filterMap (·.1) = ks := by rfl) (hpl : ((backTo pos (starEach es X.env)).any (·.1) || (backToKw pos (keywordEach kws X.env)).any (·.1.isNone)) = false := by rfl)
    (hdb : (c == ("__debug__" : Str)) = false := by decide) : ME X S W (.Call (.Name c p) es kws pos) (mMake c n ks.length ix ds m fa fk) := by
  refine ⟨fun pins s σ H Q I ⟨F, env, O, w, p⟩ => ?_⟩
  refine wpAny_Call_Name_kw (ld_glob I hg hC ?_ hdb)
  exact argsK (first := []) M.kp ha hkw sta hall hks hpl I w p fun F' H' e' as bs vs zs s' us ws t1 w1 ra rb q I1 rv rz => make_go hC M Fn G hr hb hd tk w1 ra rb (PostE.mono q fun _ _ _ _ _ _ z => z) I1 rv rz
end
end MM

set_option Elab.async false
set_option linter.all false
set_option maxRecDepth 100000
set_option maxHeartbeats 2000000
/-! M8: types of data, isinstance, own operators, properties, classmethods. -/
namespace MM
open PySem L2
/-- the type of data -/
def tyD (mg : Str → Option Value) : D → Option Value
  | .non => some (.type "NoneType")
  | .bl _ => some (.type "bool")
  | .int _ => some (.type "int")
  | .str _ => some (.type "str")
  | .lst _ => some (.type "list")
  | .frl _ => some (.type "list")
  | .tup _ => some (.type "tuple")
  | .dct _ => some (.type "dict")
  | .dcT _ => none
  | .ins c _ => mg c
  | .cls _ => none
  | .exn0 _ => none
  | .exn1 _ _ _ => none
/-- what an own class must have for isinstance -/
structure ClI (K : PySem.W.Frag) (C : Addr) : Prop where
  cl : Cls K C
  ha : PySem.W.findIn K (.ref C) "__class__" = some (some (.builtin "object.__class__"))
  hn : PySem.W.specialIn K (.builtin "object.__class__") "__get__" = some (some (.builtin "getset_descriptor.__get__"))
  ht : PySem.W.takesIn K (.builtin "object.__class__") = some true
  hm : PySem.W.mroIn K C (.type "object") = some true
def InsOk (X : Cx) (cs : List Str) : Prop := ∀ c ∈ cs, ∀ C, X.mg c = some (.ref C) → ClI X.K C
def D.insIn (cs : List Str) : D → Bool
  | .ins c _ => cs.contains c
  | _ => true
section
variable {X : Cx} {S : Su} {O : Addr → Prop} {W : WX} {F H : Hp} {σ : St} {env : En} {d : D} {v : V} {t : Value}
theorem rd_ty {a : Addr} {ks : List (Key × V)} (h : Rd H a (.dK ks)) : TyX X.K H (.ref a) (.type "dict") := h.elim (fun h => .base (.dK h)) fun ⟨o, h⟩ => .fDict h
theorem sqT_ty {a : Addr} {xs : List V} (h : SqT X.K H a xs) : TyX X.K H (.ref a) (.type "tuple") := by
  rcases h with (h | ⟨o, h⟩) | ⟨o, its, n, hk, hc, _⟩
  · exact .base (.tup h)
  · exact .fTuple h
  · exact .kTuple hk hc
theorem sqL_ty {a : Addr} {xs : List V} (h : SqL X.K H a xs) : TyX X.K H (.ref a) (.type "list") := by
  rcases h with (h | ⟨o, h⟩) | ⟨o, its, n, hk, hc, _⟩
  · exact .base (.lst h)
  · exact .base (.frz h)
  · exact .kList hk hc
theorem ty_ok {cs : List Str} (hi : InsOk X cs) (w : Wf X.K X.mg S O F H σ env) (h : Pk X.K X.mg F H d v) (hd : d.insIn cs = true) (e : tyD X.mg d = some t) : TyX X.K H v t := by
  cases d with
  | non => cases e; rw [h.non]; exact .base .non
  | bl b => cases e; rw [h.bl]; exact .base (.bl _)
  | int b => cases e; rw [h.int]; exact .base (.int _)
  | str b => cases e; rw [h.str]; exact .base (.str _)
  | lst ds => cases e; obtain ⟨p, xs, rfl, h1, _⟩ := h.lst w; exact .base (.lst h1)
  | frl ds => cases e; obtain ⟨p, xs, rfl, h1, _⟩ := h.frl w; exact sqL_ty h1
  | tup ds => cases e; obtain ⟨p, xs, rfl, h1, _⟩ := h.tup w; exact sqT_ty h1
  | dct ds => cases e; obtain ⟨p, xs, rfl, h1, _⟩ := h.dct w; exact rd_ty h1
  | dcT ds => cases e
  | ins c fs =>
    obtain ⟨p, C, dx, vs, rfl, hC, hp, _⟩ := h.ins w
    have e' : X.mg c = some t := e
    rw [hC] at e'
    cases e'
    have k := hi c (by simpa [D.insIn] using hd) C hC
    exact .base (.ins hp k.cl k.ha k.hn k.ht k.hm)
  | cls c => cases e
  | exn0 c => cases e
  | exn1 c f d => cases e
theorem looks_ty {pins : List (Addr × Obj)} {s : Shared} {u : Value} (I : Inv X pins σ H s) (r : RelV v u) (h : TyX X.K H v t) : PySem.W.Looks (model X.prog X.w) s.heap (typeOf u) t := by
  obtain ⟨P, Z, p, _⟩ := kit_of I r h
  exact Z.ty _ _ I.kIn p
end

/-! ### isinstance(x, C) -/
/-- the answer, by the value's type -/
structure IsiT (X : Cx) (c : Value) (cs : List Str) (g : D → Option Bool) : Prop where
  ok : ∀ d t b, g d = some b → tyD X.mg d = some t → PySem.W.kitOne X.K t c = some b
  ty : ∀ d b, g d = some b → ∃ t, tyD X.mg d = some t ∧ d.insIn cs = true
def dIsi (g : D → Option Bool) (d : D) : Option Tk := (g d).map fun b => .val (.bl b)
section
variable {X : Cx} {S : Su} {W : WX} {e o a b : Expr} {es : List Expr} {kws : List Keyword} {pos p kpos apos : Pos} {k n : Nat} {f C : Addr} {fd : FuncData} {ps ks : List Str} {x nm : Str} {ix : List Src} {dvs : List V} {ds : List D} {m : En → R Tk} {fa fk : En → R (List Ar)}
theorem me_isi {ci : Expr} {cv : V} {c : Value} {cs : List Str} {g : D → Option Bool} {fx : En → R Tk} (hi : InsOk X cs) (T : IsiT X c cs g) (hg : Gl X "isinstance") (hm : X.mg "isinstance" = none) (hc : PE X ci (tC cv)) (hcv : ClsV cv c) (ha : ME X S W a fx)
    (hs : starEach [a, ci] X.env = (false, eval a X.env) :: starEach [ci] X.env := by rfl) (hs2 : starEach [ci] X.env = (false, eval ci X.env) :: starEach [] X.env := by rfl) : ME X S W (.Call (.Name "isinstance" p) [a, ci] [] pos) (mOp1 fx (dIsi g)) :=
  me_op1 (r := fun x H Q => rIsi X.K [x, cv] H Q) (fun ta hta => pe_callB (t := tCons ta (tCons (tC cv) tNil)) call_isi hg hm (by decide +kernel) (pa_cons hta (pa_cons hc pa_nil hs2) hs) (he := hs) (hpl := by rw [hs2]; rfl)) ha fun F H σ env O v x t Q w k e q => by
    obtain ⟨b, h1, rfl⟩ := Option.map_eq_some_iff.mp e
    obtain ⟨t, h2, h3⟩ := T.ty x b h1
    exact ⟨v, cv, t, c, b, rfl, hcv, ty_ok hi w k h3 h2, T.ok x t b h1 h2, flatE w q (.bl _)⟩
/-! ### operators -/
def OpM (X : Cx) (S : Su) (W : WX) (fv : Value → Value → Sem Value) (op : Tk → Tk → En → R Tk) : Prop :=
  ∀ (pins : List (Addr × Obj)) (s : Shared) (σ : St) (F H : Hp) (env : En) (O : Addr → Prop) (x y : V) (v u : Value) (Q : VK) (t t' : Tk), Inv X pins σ H s → RelV x v → RelV y u → Wf X.K X.mg S O F H σ env → TkOk X.K X.mg O F H σ env x t → TkOk X.K X.mg (Pd O t x) F H σ env y t' →
    PostE X.K X.mg S O W F H σ (op t t' env) (fun F' H' e' t => ∀ v, TkOk X.K X.mg O F' H' σ e' v t → Q v H') → wpAny (model X.prog X.w) X.A (fv v u) (EP X pins σ Q) X.xe s
theorem OpM.of {fv : Value → Value → Sem Value} {r : R2} {op : Tk → Tk → En → R Tk} (ho : OpR X fv r) (h : Op2 X S W r op) : OpM X S W fv op :=
  fun pins s σ F H env O x y v u Q t t' I rx ry w tk tk' p => ho pins s σ H x y v u Q I rx ry (h F H σ env O x y t t' Q w tk tk' p)
theorem binM {fv : Value → Value → Sem Value} {op : Tk → Tk → En → R Tk} {fa fb : En → R Tk} (h : OpM X S W fv op) (ha : ME X S W a fa) (hb : ME X S W b fb) {pins : List (Addr × Obj)} {s : Shared} {σ : St} {H : Hp} {Q : VK} (I : Inv X pins σ H s) (p : tM X S W (mOp2 fa fb op) σ H Q) :
    wpAny (model X.prog X.w) X.A (eval a X.env) (fun v s₁ => wpAny (model X.prog X.w) X.A (eval b X.env) (fun u s₂ => wpAny (model X.prog X.w) X.A (fv v u) (EP X pins σ Q) X.xe s₂) X.xe s₁) X.xe s := by
  obtain ⟨F, env, O, w, p⟩ := p
  refine thn (ha.run pins s σ H (fun x H1 => ∃ F1 e1 t, Wf X.K X.mg S O F1 H1 σ e1 ∧ TkOk X.K X.mg O F1 H1 σ e1 x t ∧ PostE X.K X.mg S O W F1 H1 σ ((fb e1).bind fun u e2 => op t u e2) (fun F' H' e' t => ∀ v, TkOk X.K X.mg O F' H' σ e' v t → Q v H')) I
    ⟨F, env, O, w, PostE.mono (PostE.bind p) fun F1 H1 e1 t t1 w1 q v tk => ⟨F1, e1, t, w1, tk, q⟩⟩) fun v s1 hh => ?_
  obtain ⟨x, H1, I1, rx, F1, e1, t, w1, tk, q⟩ := hh
  refine thn (hb.run pins s1 σ H1 (fun y H2 => ∃ F2 e2 t', Wf X.K X.mg S O F2 H2 σ e2 ∧ TkOk X.K X.mg O F2 H2 σ e2 x t ∧ TkOk X.K X.mg (Pd O t x) F2 H2 σ e2 y t' ∧ PostE X.K X.mg S O W F2 H2 σ (op t t' e2) (fun F' H' e' t => ∀ v, TkOk X.K X.mg O F' H' σ e' v t → Q v H')) I1
    ⟨F1, e1, Pd O t x, tk.pd w1, PostE.mono (PostE.wide (PostE.bind q) (Pd.up (O := O) (t := t) (v := x))) fun F2 H2 e2 t' t2 w2 z y tk' => ?_⟩) fun u s2 hh => ?_
  · obtain ⟨t3, w3, z⟩ := z
    exact ⟨F2, e2, t', w3.weak Pd.up, tk.tr t3 w3, tk', z⟩
  · obtain ⟨y, H2, I2, ry, F2, e2, t', w2, tk2, tk', q2⟩ := hh
    exact h pins s2 σ F2 H2 e2 O x y v u Q t t' I2 rx ry w2 tk2 tk' q2
theorem me_binM {o : Operator} {op : Tk → Tk → En → R Tk} {fa fb : En → R Tk} (h : OpM X S W (binaryOp o) op) (ha : ME X S W a fa) (hb : ME X S W b fb) : ME X S W (.BinOp a o b pos) (mOp2 fa fb op) :=
  ⟨fun pins s σ H Q I p => wpAny_BinOp (binM h ha hb I p)⟩
theorem me_cmpM {o : CmpOp} {op : Tk → Tk → En → R Tk} {fa fb : En → R Tk} (h : OpM X S W (compareOp o) op) (ha : ME X S W a fa) (hb : ME X S W b fb) (hm : behindInMarks o b = false) : ME X S W (.Compare a [o] [b] pos) (mOp2 fa fb op) :=
  ⟨fun pins s σ H Q I p => wpAny_Compare1 (binM h ha hb I p) hm⟩
def insOf (c : Str) : Option D → Bool
  | some (.ins c' _) => c' == c
  | _ => false
/-- an own operator, where the left value is an instance of the class c -/
def opIf (c : Str) (A B : Tk → Tk → En → R Tk) (t s : Tk) (e : En) : R Tk := bif insOf c (pk t e) then A t s e else B t s e
theorem OpM.ite {fv : Value → Value → Sem Value} {c : Str} {A B : Tk → Tk → En → R Tk} (hA : OpM X S W fv A) (hB : OpM X S W fv B) : OpM X S W fv (opIf c A B) := fun pins s σ F H env O x y v u Q t t' I rx ry w tk tk' p => by
  unfold opIf at p
  cases z : insOf c (pk t env) with
  | true => rw [z] at p; exact hA pins s σ F H env O x y v u Q t t' I rx ry w tk tk' p
  | false => rw [z] at p; exact hB pins s σ F H env O x y v u Q t t' I rx ry w tk tk' p
/-- both operands as arguments -/
theorem two_ar {K : PySem.W.Frag} {mg : Str → Option Value} {O : Addr → Prop} {F H : Hp} {σ : St} {env : En} {x y : V} {t t' : Tk} {α : Type} {f : Ar → Ar → En → R α} {k : Hp → Hp → En → α → Prop} (w : Wf K mg S O F H σ env) (tk : TkOk K mg O F H σ env x t) (tk' : TkOk K mg (Pd O t x) F H σ env y t')
    (q : PostE K mg S O W F H σ ((mAr false t env).bind fun a e1 => (mAr false t' e1).bind fun b e2 => f a b e2) k) : ∃ F' e' a b, Tr O F H F' H ∧ Wf K mg S O F' H σ e' ∧ ArOk K mg F' σ [x, y] [a, b] ∧ PostE K mg S O W F' H σ (f a b e') k := by
  have wp := tk'.un.pd w
  have tks : TkOk K mg (Pd O t' y) F H σ env x t := by
    cases t with
    | val d => exact tk
    | nm i => exact tk
    | nw d =>
      obtain ⟨p, o, e, hf, hn, hO, r⟩ := tk
      refine ⟨p, o, e, hf, hn, fun z => ?_, r⟩
      rcases z with z | ⟨⟨d', e1⟩, e2⟩
      · exact hO z
      · subst e1
        obtain ⟨p', o', e3, _, _, hO', _⟩ := tk'
        rw [e2] at e3
        cases e3
        exact hO' (.inr ⟨⟨d, rfl⟩, e⟩)
  obtain ⟨F1, e1, a, t1, w1, ra, t1', w1', q1⟩ := mAr_k wp tks (PostE.wide (PostE.bind q) (Pd.up (O := O) (t := t') (v := y)))
  obtain ⟨F2, e2, b, t2, w2, rb, q2⟩ := mAr_ok (w1.weak Pd.up) (tk'.un.tr t1 w1) q1
  exact ⟨F2, e2, a, b, (t1.weak Pd.up).trans t2, w2, ra.cons t2.fz rb, q2⟩
/-- may stand on the right -/
def okR (c : Str) : Option D → Bool
  | some (.cls _) => false
  | some (.dcT _) => false
  | some (.exn0 _) => false
  | some (.exn1 _ _ _) => false
  | some d => d.insIn [c]
  | none => false
def ownOp (c mn : Str) (m : En → R Tk) (t s : Tk) (e : En) : R Tk := (mAr false t e).bind fun a e1 => (mAr false s e1).bind fun b e2 => bif isRecv c mn (arD e2 a) && okR c (arD e2 b) then callS m [a, b] e2 else .no
theorem ep_back {pins : List (Addr × Obj)} {σ : St} {Q : VK} {v : Value} {s : Shared} (h : EP X pins σ Q v s) : PySem.W.CmpBack (EP X pins σ Q) v s := by
  cases v with
  | notImplemented => obtain ⟨x, _, _, r, _⟩ := h; cases x <;> first | (cases r; done) | (obtain ⟨_, r⟩ := r; cases r)
  | _ => exact h
/-- what stands at a class for an own operator -/
structure OwnF (X : Cx) (c mn : Str) (C f : Addr) (k : Nat) (m : En → R Tk) : Prop where
  hC : X.mg c = some (.ref C)
  ins : ClI X.K C
  at_ : PySem.W.findIn X.K (.ref C) mn = some (some (.ref f))
  fn : PySem.W.isFn X.K (.ref f) = true
  ok : ∃ fd ps, FnG X.prog X.w X.K X.mg X.base (L2.CX X.prog X.w) k f fd ps (SpM X.K X.mg 2 m) ∧ Bnd X.K fd ps 2 [] [.p 0, .p 1] []
  good : MGood m
theorem OwnF.insOk {c mn : Str} (h : OwnF X c mn C f k m) : InsOk X [c] := fun c' hc C' e => by
  have : c' = c := by simpa using hc
  subst this
  rw [h.hC] at e
  cases e
  exact h.ins
theorem own_callA {A : Around} {c mn : Str} {pins : List (Addr × Obj)} {s : Shared} {σ : St} {F H : Hp} {env : En} {O : Addr → Prop} {x y : V} {v u : Value} {Q : VK} {a b : Ar} (o : OwnF X c mn C f k m) (hr : Rm k A) (e0 : Env0 X.prog X.w X.K X.mg X.base A X.stack s H) (tk : Takes X W) (I : Inv X pins σ H s) (rx : RelV x v) (ry : RelV y u) (w : Wf X.K X.mg S O F H σ env)
    (ra : ArOk X.K X.mg F σ [x, y] [a, b]) (q : PostE X.K X.mg S O W F H σ (callS m [a, b] env) (fun F' H' e' t => ∀ v, TkOk X.K X.mg O F' H' σ e' v t → Q v H')) : wpAny (model X.prog X.w) A (call (.ref f) [v, u]) (EP X pins σ Q) X.xe s := by
  obtain ⟨fd, ps, Fn, hb⟩ := o.ok
  have hq : SpM X.K X.mg 2 m [x, y] H Q (fun c d H' => W c d σ H') := call_ok w ra rfl o.good q
  exact wpAny_call (runMA (ix := [.p 0, .p 1]) (dvs := []) (vs := [x, y]) (zs := []) (us := [v, u]) (ws := []) Fn hr e0 hb tk I (.cons rx (.cons ry .nil)) .nil rfl rfl hq)
theorem own_call {c mn : Str} {pins : List (Addr × Obj)} {s : Shared} {σ : St} {F H : Hp} {env : En} {O : Addr → Prop} {x y : V} {v u : Value} {Q : VK} {a b : Ar} (o : OwnF X c mn C f k m) (hr : Rm k X.A) (tk : Takes X W) (I : Inv X pins σ H s) (rx : RelV x v) (ry : RelV y u) (w : Wf X.K X.mg S O F H σ env)
    (ra : ArOk X.K X.mg F σ [x, y] [a, b]) (q : PostE X.K X.mg S O W F H σ (callS m [a, b] env) (fun F' H' e' t => ∀ v, TkOk X.K X.mg O F' H' σ e' v t → Q v H')) : wpAny (model X.prog X.w) X.A (call (.ref f) [v, u]) (PySem.W.CmpBack (EP X pins σ Q)) X.xe s :=
  thn (own_callA o hr I.env0 tk I rx ry w ra q) fun _ _ z => ep_back z
/-- a comparison -/
theorem cmpM_own {c mn : Str} {op : CmpOp} (o : OwnF X c mn C f k m) (hop : (cmpInfo op).2.1 = mn) (hrc : ∀ v u, compareOp op v u = richCompare op v u) (hn : ∀ d t, okR c (some d) = true → tyD X.mg d = some t → PySem.W.notFirst X.K C t = true) (hr : Rm k X.A) (tk : Takes X W) : OpM X S W (compareOp op) (ownOp c mn m) := by
  intro pins s σ F H env O x y v u Q t t' I rx ry w tk1 tk2 p
  obtain ⟨F1, e1, a, b, t1, w1, ra, q⟩ := two_ar w tk1 tk2 p
  cases z : isRecv c mn (arD e1 a) && okR c (arD e1 b) with
  | false => rw [z] at q; exact q.elim
  | true =>
    rw [z] at q
    rw [Bool.and_eq_true] at z
    have ra1 : ArOk X.K X.mg F1 σ [x] [a] := by
      cases a with
      | d d => exact ⟨ra.1, trivial⟩
      | mv i => exact ⟨ra.1, trivial⟩
    have rb1 : ArOk X.K X.mg F1 σ [y] [b] := by
      cases a with
      | d d => exact ra.2
      | mv i => exact ra.2
    obtain ⟨p1, dx, vs, e3, e5, e6⟩ := recv_ok o.hC w1 ra1 z.1
    subst e3
    obtain rfl : v = Value.ref p1 := rx
    obtain ⟨mA, J, _⟩ := ins_get I.hok e5
    obtain ⟨od, J, _⟩ := J.look
    obtain ⟨m', hF⟩ := I.fr
    cases qb : arD e1 b with
    | none => rw [qb] at z; cases z.2
    | some d =>
      rw [qb] at z
      have hd : d.insIn [c] = true := by cases d <;> first | exact z.2 | cases z.2
      have hty : ∃ t, tyD X.mg d = some t := by
        cases d <;> first | exact ⟨_, rfl⟩ | (cases z.2; done) | skip
        · rename_i c' fs
          have : c' = c := by simpa [D.insIn] using hd
          subst this
          exact ⟨_, o.hC⟩
        all_goals cases z.2
      obtain ⟨t0, ht0⟩ := hty
      have L := looks_ty I ry (ty_ok o.insOk w1 (arD_ok w1 rb1 qb) hd ht0)
      rw [hrc]
      subst hop
      exact PySem.W.cmp_K (op := op) hr.units0 hF I.ok.mod.kin J L (hn d t0 z.2 ht0) o.at_ o.fn (own_call o hr tk I (show RelV (V.ref p1) (Value.ref p1) from rfl) ry w1 ra q)
/-- + - * .. -/
theorem binopM_own {c mn : Str} {op : Operator} (o : OwnF X c mn C f k m) (hop : PySem.dunder op.info.2 = mn) (hc : PySem.W.selfFirst X.K C = true) {rc : Option Value} (hrf : PySem.W.findIn X.K (.ref C) (dunderR op.info.2) = some rc) (hp : rc = none ∨ ∃ g : Addr, rc = some (.ref g))
    {fo ro : Option Value} (h1 : PySem.W.findIn X.K (.type "int") (PySem.dunder op.info.2) = some fo) (h2 : PySem.W.findIn X.K (.type "int") (dunderR op.info.2) = some ro) (hsub : PySem.W.subIn X.K (.type "int") (.ref C) = some false) (hr : Rm k X.A) (tk : Takes X W) :
    OpM X S W (binaryOp op) (fun t s e => (mAr false t e).bind fun a e1 => (mAr false s e1).bind fun b e2 => bif isRecv c mn (arD e2 a) && (match arD e2 b with | some (.int _) => true | d => insOf c d) then callS m [a, b] e2 else .no) := by
  intro pins s σ F H env O x y v u Q t t' I rx ry w tk1 tk2 p
  obtain ⟨F1, e1, a, b, t1, w1, ra, q⟩ := two_ar w tk1 tk2 p
  cases z : (isRecv c mn (arD e1 a) && (match arD e1 b with | some (.int _) => true | d => insOf c d)) with
  | false => rw [z] at q; exact q.elim
  | true =>
    rw [z] at q
    rw [Bool.and_eq_true] at z
    have ra1 : ArOk X.K X.mg F1 σ [x] [a] := by
      cases a with
      | d d => exact ⟨ra.1, trivial⟩
      | mv i => exact ⟨ra.1, trivial⟩
    have rb1 : ArOk X.K X.mg F1 σ [y] [b] := by
      cases a with
      | d d => exact ra.2
      | mv i => exact ra.2
    obtain ⟨p1, dx, vs, e3, e5, e6⟩ := recv_ok o.hC w1 ra1 z.1
    subst e3
    obtain rfl : v = Value.ref p1 := rx
    obtain ⟨mA, J, _⟩ := ins_get I.hok e5
    obtain ⟨od, J, _⟩ := J.look
    obtain ⟨m', hF⟩ := I.fr
    have fin := own_call o hr tk I (show RelV (V.ref p1) (Value.ref p1) from rfl) ry w1 ra q
    subst hop
    cases qb : arD e1 b with
    | none => rw [qb] at z; cases z.2
    | some d =>
      rw [qb] at z
      cases d with
      | int i =>
        have ey := (arD_ok w1 rb1 qb).int
        subst ey
        obtain ⟨tk', rfl⟩ := (show ∃ t, u = Value.int i t from ry)
        exact PySem.W.ksp_binT (T := "int") hF I.ok.mod.kin J rfl hc o.at_ o.fn hrf hp h1 h2 hsub fin
      | ins c' fs =>
        have ec : c' = c := by simpa [insOf] using z.2
        subst ec
        have L := looks_ty I ry (ty_ok o.insOk w1 (arD_ok w1 rb1 qb) (by simp [D.insIn]) o.hC)
        exact PySem.W.binop_K hF I.ok.mod.kin J L hc o.at_ o.fn fin
      | _ => exact absurd z.2 (by simp [insOf])
end
end MM

set_option Elab.async false
set_option linter.all false
set_option maxRecDepth 100000
set_option maxHeartbeats 2000000
/-! M9: != by ==, unary operators, properties, classmethods, a class that a name holds. -/
namespace MM
open PySem L2
section
open PySem.W
variable {prog : Program} {w : World} {A : Around} {E : Value → Shared → Prop} {s : Shared} {K : Frag} {x C f : Addr} {ox : Obj} {od : Option Obj} {b tb : Value}
/-- object's own __ne__, of an instance whose class has an == -/
theorem ne_object {Q : Value → Shared → Prop} (hu : A.units + 1 < cLine) (X : K.In s.heap) (I : InstAt s.heap x ox C od) (hob : subIn K (.ref C) (.type "object") = some true)
    (hs : findIn K (.ref C) "__eq__" = some (some (.ref f))) (hf : isFn K (.ref f) = true) (h : wpAny (model prog w) A.in1 (call (.ref f) [.ref x, b]) (fun v s' => ∃ k, v = .bool k ∧ Q (.bool (!k)) s') E s) :
    wpAny (model prog w) A (call (.builtin "object.__ne__") [.ref x, b]) Q E s := by
  have isO : Looks (model prog w) s.heap (isInstance (.ref x) (.type "object")) true := (I.type (M := model prog w)).andThen (looks_subIn X hob)
  refine wpAny_call (codeAny_call_builtin (by decide +kernel) PySem.F.cmpEntry_ne ?_)
  refine check_slot PySem.F.cmpKind_ne PySem.F.cmpSplit_ne isO (PySem.F.cmpArgs_ne (.ref x) b) ?_
  unfold Builtin.«object.__ne__»
  refine wpAny_bind (wpAny_of_eq (a := ((Value.ref x : Value), [b])) (by first | rfl | (simp only [slotArgs]; rfl)) ?_)
  refine wpAny_bind (wpAny_cRoomFor hu ?_)
  refine wpAny_bind (ifBound_K X I hs hf (wpAny_mono h (fun v s' hv => ?_) fun _ _ e => e))
  obtain ⟨k, rfl, q⟩ := hv
  refine wpAny_bind (wpAny_truthy_bool ?_)
  exact wpAny_pure q
theorem rc_ne {Q : Value → Shared → Prop} (hu : A.units + 1 < cLine) (X : K.In s.heap) (I : InstAt s.heap x ox C od) (hb : Looks (model prog w) s.heap (typeOf b) tb) (hn : notFirst K C tb = true) (hob : subIn K (.ref C) (.type "object") = some true)
    (hne : findIn K (.ref C) "__ne__" = some (some (.builtin "object.__ne__"))) (hs : findIn K (.ref C) "__eq__" = some (some (.ref f))) (hf : isFn K (.ref f) = true)
    (h : wpAny (model prog w) A.in1 (call (.ref f) [.ref x, b]) (fun v s' => ∃ k, v = .bool k ∧ Q (.bool (!k)) s') E s) : wpAny (model prog w) A (richCompare .NotEq (.ref x) b) Q E s := by
  have key : wpAny (model prog w) A (tryCompare (.ref x) "__ne__" b) (fun r s' => ∃ k, r = some (.bool k) ∧ Q (.bool k) s') E s := by
    have fin : wpAny (model prog w) A (call (.builtin "object.__ne__") ([.ref x] ++ [b]) >>= fun v => pure (some v)) (fun r s' => ∃ k, r = some (.bool k) ∧ Q (.bool k) s') E s :=
      wpAny_bind (ne_object (Q := fun v s' => wpAny (model prog w) A (pure (some v)) (fun r s' => ∃ k, r = some (.bool k) ∧ Q (.bool k) s') E s') hu X I hob hs hf (wpAny_mono h (fun v s' hv => by
        obtain ⟨k, e, q⟩ := hv
        exact ⟨k, e, wpAny_pure ⟨_, rfl, q⟩⟩) fun _ _ e => e))
    have fin2 : wpAny (model prog w) A (callSpecialIfBound? (.ref x) "__ne__" [b]) (fun r s' => ∃ k, r = some (.bool k) ∧ Q (.bool k) s') E s := by
      simp only [callSpecialIfBound?, bindSpecialIfBound?]
      refine wpAny_holding (wpAny_bind (wpAny_bind ?_))
      refine wpAny_bind (I.type.here ?_)
      refine (looks_findIn X hne).here ?_
      simp only [PySem.F.slot_object_ne.bind]
      refine wpAny_bind (wpAny_askSetting (wpAny_ite ?_))
      split
      · exact wpAny_bind (wpAny_pure (wpAny_pure (by exact fin)))
      · exact wpAny_tryCatch (wpAny_bind (wpAny_pure (wpAny_pure (by exact fin))))
    unfold tryCompare
    refine wpAny_bind (wpAny_mono fin2 (fun r s' hr => ?_) fun _ _ e => e)
    obtain ⟨k, rfl, q⟩ := hr
    exact wpAny_pure ⟨k, rfl, q⟩
  unfold richCompare
  simp only [oneThing_ref]
  refine wpAny_holding (wpAny_bind (wpAny_cRoomFor (by omega) ?_))
  refine wpAny_bind (I.type.here ?_)
  refine wpAny_bind (hb.here ?_)
  have tail : wpAny (model prog w) A (tryCompare (.ref x) (cmpInfo .NotEq).2.1 b) (fun r s' => ∃ v, r = some v ∧ Q v s') E s := wpAny_mono key (fun r s' hr => by
    obtain ⟨k, e, q⟩ := hr
    exact ⟨_, e, q⟩) fun _ _ e => e
  by_cases q : (Value.ref C != tb) = true
  · rw [if_pos q]
    have e : subIn K tb (.ref C) = some false := by
      unfold notFirst at hn
      rw [Bool.or_eq_true] at hn
      rcases hn with e | e
      · rw [eq_of_beq e] at q; simp at q
      · exact eq_of_beq e
    refine wpAny_bind ((looks_subIn X e).here ?_)
    rw [if_neg Bool.false_ne_true]
    refine wpAny_bind (wpAny_mono tail (fun r s' z => ?_) fun _ _ e => e)
    obtain ⟨v, rfl, hq⟩ := z
    exact wpAny_pure hq
  · rw [if_neg q]
    refine wpAny_bind (wpAny_pure ?_)
    rw [if_neg Bool.false_ne_true]
    refine wpAny_bind (wpAny_mono tail (fun r s' z => ?_) fun _ _ e => e)
    obtain ⟨v, rfl, hq⟩ := z
    exact wpAny_pure hq
end
section
variable {X : Cx} {S : Su} {W : WX} {e o a b : Expr} {es : List Expr} {kws : List Keyword} {pos p kpos apos : Pos} {k n : Nat} {f C : Addr} {fd : FuncData} {ps ks : List Str} {x nm : Str} {ix : List Src} {dvs : List V} {ds : List D} {m : En → R Tk} {fa fk : En → R (List Ar)}
def notR (r : R Tk) : R Tk := r.bind fun t e => match t with
  | .val (.bl b) => .ok (.val (.bl (!b))) e
  | _ => .no
def ownNe (c mn : Str) (m : En → R Tk) (t s : Tk) (e : En) : R Tk := (mAr false t e).bind fun a e1 => (mAr false s e1).bind fun b e2 => bif isRecv c mn (arD e2 a) && okR c (arD e2 b) then notR (callS m [a, b] e2) else .no
/-- != where the class has an own == only -/
theorem neM_own {c : Str} (o : OwnF X c "__eq__" C f k m) (hne : PySem.W.findIn X.K (.ref C) "__ne__" = some (some (.builtin "object.__ne__"))) (hn : ∀ d t, okR c (some d) = true → tyD X.mg d = some t → PySem.W.notFirst X.K C t = true) (hr : Rm (k + 1) X.A) (tk : Takes X W) : OpM X S W (compareOp .NotEq) (ownNe c "__eq__" m) := by
  intro pins s σ F H env O x y v u Q t t' I rx ry w tk1 tk2 p
  obtain ⟨F1, e1, a, b, t1, w1, ra, q⟩ := two_ar w tk1 tk2 p
  cases z : isRecv c "__eq__" (arD e1 a) && okR c (arD e1 b) with
  | false => rw [z] at q; exact q.elim
  | true =>
    rw [z] at q
    rw [Bool.and_eq_true] at z
    have ra1 : ArOk X.K X.mg F1 σ [x] [a] := by
      cases a with
      | d d => exact ⟨ra.1, trivial⟩
      | mv i => exact ⟨ra.1, trivial⟩
    have rb1 : ArOk X.K X.mg F1 σ [y] [b] := by
      cases a with
      | d d => exact ra.2
      | mv i => exact ra.2
    obtain ⟨p1, dx, vs, e3, e5, e6⟩ := recv_ok o.hC w1 ra1 z.1
    subst e3
    obtain rfl : v = Value.ref p1 := rx
    obtain ⟨mA, J, _⟩ := ins_get I.hok e5
    obtain ⟨od, J, _⟩ := J.look
    cases qb : arD e1 b with
    | none => rw [qb] at z; cases z.2
    | some d =>
      rw [qb] at z
      have hd : d.insIn [c] = true := by cases d <;> first | exact z.2 | cases z.2
      have hty : ∃ t, tyD X.mg d = some t := by
        cases d <;> first | exact ⟨_, rfl⟩ | (cases z.2; done) | skip
        · rename_i c' fs
          have : c' = c := by simpa [D.insIn] using hd
          subst this
          exact ⟨_, o.hC⟩
        all_goals cases z.2
      obtain ⟨t0, ht0⟩ := hty
      have L := looks_ty I ry (ty_ok o.insOk w1 (arD_ok w1 rb1 qb) hd ht0)
      show wpAny (model X.prog X.w) X.A (richCompare .NotEq (.ref p1) u) (EP X pins σ Q) X.xe s
      have q2 : PostE X.K X.mg S O W F1 H σ (callS m [a, b] e1) (fun F' H' e' t => ∀ v, TkOk X.K X.mg O F' H' σ e' v t → ∃ k, v = .bl k ∧ Q (.bl (!k)) H') := PostE.mono (PostE.bind q) fun F2 H2 e2 t2 _ w2 q3 v tkv => by
        cases t2 with
        | val d =>
          cases d <;> first | exact q3.elim | skip
          cases (show Rep X.K X.mg F2 (.bl _) v from tkv)
          exact ⟨_, rfl, PostE.ok w2 q3 _ (.bl _)⟩
        | nw d => exact q3.elim
        | nm i => exact q3.elim
      have hu : X.A.units + 1 < cLine := by have := hr.r.un; omega
      have hu1 : Rm k X.A.in1 := hr.in1
      refine rc_ne hu I.kIn J L (hn d t0 z.2 ht0) (by show PySem.W.mroIn X.K C _ = _; exact o.ins.hm) hne o.at_ o.fn (thn (own_callA o hu1 I.env0.in1 tk I (show RelV (V.ref p1) (Value.ref p1) from rfl) ry w1 ra q2) fun v s' hh => ?_)
      obtain ⟨v', H', I', rv, kb, ev, qq⟩ := hh
      subst ev
      cases rv
      exact ⟨kb, rfl, .bl (!kb), H', I', rfl, qq⟩
/-! ### -x -/
def mNegO (c mn : Str) (m : En → R Tk) (g : D → Option Tk) (f : En → R Tk) (e : En) : R Tk := (f e).bind fun t e1 => bif insOf c (pk t e1) then (mAr false t e1).bind fun a e2 => bif isRecv c mn (arD e2 a) then callS m [a] e2 else .no
  else match pk t e1 with
  | some d => match g d with
    | some t => .ok t e1
    | none => .no
  | none => .no
structure OwnF1 (X : Cx) (c mn : Str) (C f : Addr) (k : Nat) (m : En → R Tk) : Prop where
  hC : X.mg c = some (.ref C)
  at_ : PySem.W.findIn X.K (.ref C) mn = some (some (.ref f))
  fn : PySem.W.isFn X.K (.ref f) = true
  ok : ∃ fd ps, FnG X.prog X.w X.K X.mg X.base (L2.CX X.prog X.w) k f fd ps (SpM X.K X.mg 1 m) ∧ Bnd X.K fd ps 1 [] [.p 0] []
  good : MGood m
theorem me_negO {c : Str} {fa : En → R Tk} (o : OwnF1 X c "__neg__" C f k m) (hr : Rm k X.A) (tk : Takes X W) (ha : ME X S W a fa) : ME X S W (.UnaryOp .USub a pos) (mNegO c "__neg__" m dNeg fa) := by
  refine ⟨fun pins s σ H Q I ⟨F, env, O, w, p⟩ => ?_⟩
  have q0 : tM X S W fa σ H (fun x H1 => ∃ F1 e1 t, Wf X.K X.mg S O F1 H1 σ e1 ∧ TkOk X.K X.mg O F1 H1 σ e1 x t ∧ PostE X.K X.mg S O W F1 H1 σ (bif insOf c (pk t e1) then (mAr false t e1).bind fun a e2 => bif isRecv c "__neg__" (arD e2 a) then callS m [a] e2 else .no
      else match pk t e1 with
      | some d => match dNeg d with
        | some t => .ok t e1
        | none => .no
      | none => .no) (fun F' H' e' t => ∀ v, TkOk X.K X.mg O F' H' σ e' v t → Q v H')) :=
    ⟨F, env, O, w, PostE.mono (PostE.bind p) fun F1 H1 e1 t t1 w1 q v tk => ⟨F1, e1, t, w1, tk, q⟩⟩
  refine PyProof.Rows.UnaryOp_ (thn (ha.run pins s σ H _ I q0) fun v s1 hh => ?_)
  obtain ⟨x, H1, I1, rx, F1, e1, t, w1, tkx, q⟩ := hh
  cases z : insOf c (pk t e1) with
  | false =>
    rw [z] at q
    simp only [cond_false] at q
    cases z1 : pk t e1 with
    | none => rw [z1] at q; exact q.elim
    | some d =>
      rw [z1] at q
      simp only at q
      cases z2 : dNeg d with
      | none => rw [z2] at q; exact q.elim
      | some t2 =>
        rw [z2] at q
        exact un_neg pins s1 σ H1 x v Q I1 rx (pop_neg (S := S) (W := W) F1 H1 σ e1 O x d t2 Q w1 (pk_ok w1 tkx z1) z2 q)
  | true =>
    rw [z] at q
    simp only [cond_true] at q
    obtain ⟨F2, e2, a, t2, w2, ra, q2⟩ := mAr_ok w1 tkx q
    cases z2 : isRecv c "__neg__" (arD e2 a) with
    | false => rw [z2] at q2; exact q2.elim
    | true =>
      rw [z2] at q2
      obtain ⟨p1, dx, vs, e3, e5, e6⟩ := recv_ok o.hC w2 ra z2
      subst e3
      obtain rfl : v = Value.ref p1 := rx
      obtain ⟨mA, J, _⟩ := ins_get I1.hok e5
      obtain ⟨od, J, _⟩ := J.look
      obtain ⟨m', hF⟩ := I1.fr
      obtain ⟨fd, ps, Fn, hb⟩ := o.ok
      have hq : SpM X.K X.mg 1 m [.ref p1] H1 Q (fun c d H' => W c d σ H') := call_ok w2 ra rfl o.good q2
      exact PySem.W.ksp_neg hF I1.ok.mod.kin J o.at_ o.fn (wpAny_call (runM (ix := [.p 0]) (dvs := []) (vs := [.ref p1]) (zs := []) (us := [.ref p1]) (ws := []) Fn hr hb tk I1 (.cons rfl .nil) .nil rfl rfl hq))

/-! ### e.f, a property -/
def propR (m : En → R Tk) (as : List Ar) (e : En) : R Tk := match callS m as e with
  | .er _ _ _ => .no
  | r => r
def mProp (c fn : Str) (m : En → R Tk) (f : En → R Tk) (e : En) : R Tk := (f e).bind fun t e1 => (mAr false t e1).bind fun a e2 => bif isRecv c fn (arD e2 a) then propR m [a] e2 else .no
/-- a property, read: the getter's promise -/
theorem prop_go {pins : List (Addr × Obj)} {σ : St} {H : Hp} {s : Shared} {Q : VK} {bb : Bool} {E' : Value → Shared → Prop} {P g p1 dx : Addr} {fs : List (Str × V)} {fn : Str} {sp : Sp} (I : Inv X pins σ H s) (ea : H p1 = some (.ins C dx fs)) (c : Cls X.K C) (hp : PropOf X.K C fn P g)
    (F : FnG X.prog X.w X.K X.mg X.base (L2.CX X.prog X.w) k g fd ps sp) (hr : Rm (k + 1) X.A) (hb : Binds X.K fd ps []) (h : sp [.ref p1] H Q (fun _ _ _ => False)) : wpAny (model X.prog X.w) X.A (getAttr (.ref p1) fn bb) (EP X pins σ Q) E' s := by
  obtain ⟨mA, O, _⟩ := ins_get I.hok ea
  obtain ⟨od, J, _⟩ := O.look
  obtain ⟨rest, hrec⟩ := hp.rec_
  have It := I.tok (s.toks + 1)
  obtain ⟨cd, hcd, _⟩ := PySem.W.any_some c.hd
  have isC : (PySem.W.clsIn X.K C).isSome = true := by rw [hcd]; rfl
  have nl : ([Value.ref p1] ++ ([] : List Value)).length = ps.length := by rw [← F.len _ _ _ _ h]; rfl
  refine PySem.W.get_bind I.kIn J (PySem.W.plainGet_of (c.get fn)).1 (PySem.W.findObj_data isC hp.at_ hp.get hp.tak) (PySem.W.plainGet_of (c.get fn)).2 ?_
  refine wpAny_call (PySem.W.prop_get (s := { s with toks := s.toks + 1 }) I.kIn hrec ?_)
  refine codeAny_mono (F.run X.A.in1 X.stack { s with toks := s.toks + 1 } H ⟨[.ref p1], []⟩ [.ref p1] [.ref p1] Q _ hr.in1 It.env0.in1 (hb _ [.ref p1] It.kIn nl) (.cons rfl .nil) h) fun r s' hq => ?_
  cases r with
  | error er => obtain ⟨_, _, _, _, _, _, _, _, _, _, _, _, z⟩ := hq; exact z.elim
  | ok fl =>
    cases fl <;> first | exact False.elim hq | skip
    obtain ⟨v, H1, I3, rv, q3⟩ := It.after hq
    simp only [PySem.W.handedOut_of (handed_of rv)]
    exact wpAny_pure (show EP X pins σ Q _ _ from ⟨v, H1, I3, rv, q3⟩)
theorem me_prop {c fn : Str} {P g : Addr} {fx : En → R Tk} (hC : X.mg c = some (.ref C)) (cl : Cls X.K C) (hp : PropOf X.K C fn P g) (Fn : FnG X.prog X.w X.K X.mg X.base (L2.CX X.prog X.w) k g fd ps (SpM X.K X.mg 1 m)) (G : MGood m) (hr : Rm (k + 1) X.A) (hb : Binds X.K fd ps []) (ha : ME X S W a fx)
    (hab : attributeBase a fn X.env (eval a X.env) = eval a X.env := by rfl) : ME X S W (.Attribute a fn pos) (mProp c fn m fx) := by
  refine ⟨fun pins s σ H Q I ⟨F, env, O, w, p⟩ => ?_⟩
  have q0 : tM X S W fx σ H (fun x H1 => ∃ F1 e1 a, Wf X.K X.mg S O F1 H1 σ e1 ∧ ArOk X.K X.mg F1 σ [x] [a] ∧ isRecv c fn (arD e1 a) = true ∧ PostE X.K X.mg S O W F1 H1 σ (propR m [a] e1) (fun F' H' e' t => ∀ v, TkOk X.K X.mg O F' H' σ e' v t → Q v H')) := by
    refine ⟨F, env, O, w, PostE.mono (PostE.bind p) fun F1 H1 e1 t t1 w1 q v tk => ?_⟩
    obtain ⟨F2, e2, a, t2, w2, ra, q2⟩ := mAr_ok w1 tk q
    cases z : isRecv c fn (arD e2 a) with
    | false => rw [z] at q2; exact q2.elim
    | true => rw [z] at q2; exact ⟨F2, e2, a, w2, ra, z, q2⟩
  refine attr_of hab (thn (ha.run pins s σ H _ I q0) fun u s1 hh => ?_)
  obtain ⟨v, H1, I1, rx, F1, e1, a, w1, ra, hz, q⟩ := hh
  obtain ⟨p1, dx, vs, e3, e5, e6⟩ := recv_ok hC w1 ra hz
  subst e3
  obtain rfl : u = Value.ref p1 := rx
  have q2 : PostE X.K X.mg S O (fun _ _ _ _ => False) F1 H1 σ (callS m [a] e1) (fun F' H' e' t => ∀ v, TkOk X.K X.mg O F' H' σ e' v t → Q v H') := by
    unfold propR at q
    cases z : callS m [a] e1 with
    | no => rw [z] at q; exact q.elim
    | er c x e => rw [z] at q; exact q.elim
    | ok t e => rw [z] at q; exact q
  have hq : SpM X.K X.mg 1 m [.ref p1] H1 Q (fun c d H' => False) := call_ok (W := fun _ _ _ _ => False) w1 ra rfl G q2
  exact prop_go I1 e5 cl hp Fn hr hb hq

/-! ### e.m(..), e a class and m a classmethod -/
def mCMeth (c : Str) (n nk : Nat) (ix : List Src) (ds : List D) (m : En → R Tk) (fa fk : En → R (List Ar)) (e : En) : R Tk := (fa e).bind fun as e2 => (fk e2).bind fun bs e3 => chkS n nk ix ds m (.d (.cls c) :: as) bs e3
theorem me_cmeth (c mn : Str) {mc : Value} {P g : Addr} {fo : En → R Tk} {pl : Sem Bool} (hC : X.mg c = some (.ref C)) (rd : ClX.CRead X.K C mc) (cm : ClX.CMet X.K C mc mn P g) (Fn : FnG X.prog X.w X.K X.mg X.base (L2.CX X.prog X.w) k g fd ps (SpM X.K X.mg ix.length m)) (G : MGood m) (hr : Rm k X.A)
    (hb : Bnd X.K fd ps (n + 1) ks ix dvs) (hd : DfOk X.K X.mg ds dvs) (tk : Takes X W) (hg : Gl X c) (ha : MA X S W es fa) (hkw : MK X S W kws fk) (sta : StarOk X es := by first | exact rfl | exact trivial) (hall : (backToKw pos (keywordEach kws X.env)).all (·.1.isSome) = true := by rfl)
    (hks : (backToKw pos (keywordEach kws X.env)).filterMap (·.1) = ks := by rfl) (hpl : ((backTo pos (starEach es X.env)).any (·.1) || (backToKw pos (keywordEach kws X.env)).any (·.1.isNone)) = false := by rfl) (hdb : (c == ("__debug__" : Str)) = false := by decide)
    (ht : eval (.Call (.Attribute (.Name c p) mn apos) es kws pos) X.env = (do
      let ov ← eval (.Name c p) X.env
      standAt apos.atName
      let (f, first) ← holding [ov] (getMethod ov mn pl)
      callWith pos f first (backTo pos (starEach es X.env)) (backToKw pos (keywordEach kws X.env))) := by rfl) : ME X S W (.Call (.Attribute (.Name c p) mn apos) es kws pos)
      (mCMeth c (n + 1) ks.length ix ds m fa fk) := by
  refine ⟨fun pins s σ H Q I ⟨F, env, O, w, q⟩ => ?_⟩
  refine PySem.W.methodCall_KW (pl := pl) (ld_glob I hg hC ?_ hdb) ht
  refine ClX.getmethcm_ok I rd cm fun s2 I2 => ?_
  have hP : ∀ H s', Inv X ((s.heap.objs.size, PySem.W.methodObj (.ref g) (.ref C)) :: pins) σ H s' → PySem.W.MethP X.K s.heap.objs.size g (.ref C) s'.heap := fun H s' I => ⟨ClX.pin_at I, I.kIn⟩
  refine args_go (first := []) (PySem.W.keeps_M cm.fi) hP ha hkw sta hall hks hpl I2 w q fun F' H' e' as bs vs zs s' us ws t1 w2 ra rb q2 I3 rv rz => ?_
  have ra' : ArOk X.K X.mg F' σ (.ref C :: vs) (.d (.cls c) :: as) := ⟨.cls hC, ra⟩
  have z : wpAny (model X.prog X.w) X.A (call (.ref s.heap.objs.size) us (ks.zip ws)) (EP X ((s.heap.objs.size, PySem.W.methodObj (.ref g) (.ref C)) :: pins) σ Q) X.xe s' :=
    wpAny_call (PySem.W.method_call (ClX.pin_at I3) (chk_goC (vs := .ref C :: vs) (us := .ref C :: us) Fn G hr hb hd tk w2 ra' rb q2 I3 (.cons rfl rv) rz))
  exact thn z fun _ _ y => ClX.unpinE y
/-! ### x(..), x a name that holds a class -/
def isCls (c : Str) (e : En) (i : Nat) : Bool := match e[i]? with
  | some (.sh (.cls c')) => c' == c
  | _ => false
def mMakeL (c : Str) (i n nk : Nat) (ix : List Src) (ds : List D) (m : En → R Tk) (fa fk : En → R (List Ar)) (e : En) : R Tk := bif isCls c e i then mMake c n nk ix ds m fa fk e else .no
theorem me_makeL {c x : Str} {i : Nat} (hC : X.mg c = some (.ref C)) (M : Mk X.K C f) (Fn : FnG X.prog X.w X.K X.mg X.base (L2.CX X.prog X.w) k f fd ps (SpM X.K X.mg (ix.length + 1) m)) (G : MGood m) (hr : Rm (k + 1) X.A) (hv : PE X (.Name x p) (tVar i))
    (hb : Bnd X.K fd ps (n + 1) ks (.p 0 :: ix.map Src.up) dvs) (hd : DfOk X.K X.mg ds dvs) (tk : Takes X W) (ha : MA X S W es fa) (hkw : MK X S W kws fk) (sta : StarOk X es := by first | exact rfl | exact trivial) (hall : (backToKw pos (keywordEach kws X.env)).all (·.1.isSome) = true := by rfl)
    (hks : (backToKw pos (keywordEach kws X.env)).filterMap (·.1) = ks := by rfl) (hpl : ((backTo pos (starEach es X.env)).any (·.1) || (backToKw pos (keywordEach kws X.env)).any (·.1.isNone)) = false := by rfl) :
    ME X S W (.Call (.Name x p) es kws pos) (mMakeL c i n ks.length ix ds m fa fk) := by
  refine ⟨fun pins s σ H Q I ⟨F, env, O, w, q⟩ => ?_⟩
  unfold mMakeL at q
  cases z : isCls c env i with
  | false => rw [z] at q; exact q.elim
  | true =>
    rw [z] at q
    have hs : σ[i]? = some (some (.ref C)) := by
      unfold isCls at z
      cases e : env[i]? with
      | none => rw [e] at z; cases z
      | some s =>
        rw [e] at z
        cases s <;> first | (cases z; done) | skip
        rename_i d
        cases d <;> first | (cases z; done) | skip
        rename_i c'
        have ec : c' = c := by simpa using z
        subst ec
        obtain ⟨v, hv, x, ex, r⟩ := w.sl i _ e
        subst ex
        cases r with
        | cls hC' =>
          rw [hC] at hC'
          cases hC'
          exact hv
    refine wpAny_Call_Name_kw (thn (hv.run pins s σ H (fun v H1 => v = .ref C ∧ H1 = H) I ⟨.ref C, hs, rfl, rfl⟩) fun u s1 ⟨v, H1, I1, r1, q1⟩ => ?_)
    obtain ⟨rfl, rfl⟩ := q1
    cases r1
    exact argsK (first := []) M.kp ha hkw sta hall hks hpl I1 w q fun F' H' e' as bs vs zs s' us ws t1 w1 ra rb q I1 rv rz => make_go hC M Fn G hr hb hd tk w1 ra rb (PostE.mono q fun _ _ _ _ _ _ z => z) I1 rv rz
/-! ### a class, a constant of the module -/
theorem me_cls {c : Str} (hg : Gl X c) (hC : X.mg c = some (.ref C)) (hdb : (c == ("__debug__" : Str)) = false := by decide) : ME X S W (.Name c pos) (mC (.cls c)) := me_c (x := .ref C) (pe_glob hg hC rfl hdb) fun _ => .cls hC
end
end MM

set_option Elab.async false
set_option linter.all false
set_option maxRecDepth 100000
set_option maxHeartbeats 2000000
/-! M10: raise, try. -/
namespace MM
open PySem L2
/-! ### what clauses wish, names among them -/
/-- a clause: the class, the name's slot, the suite's reading -/
abbrev Cls1 := Value × Option Nat × (Addr → Value → Option Addr → TS)
def dEnds (D : Ends) : Option Nat → Ends
  | none => D
  | some i => { nx := fun σ' H' => D.nx (σ'.set i none) H', rt := D.rt, bk := fun σ' H' => D.bk (σ'.set i none) H', ct := fun σ' H' => D.ct (σ'.set i none) H' }
def sSet (σ : St) (a : Addr) : Option Nat → St
  | none => σ
  | some i => σ.set i (some (.ref a))
def wCl (K : PySem.W.Frag) (Wout : WX) (D : Ends) : List Cls1 → WX
  | [] => Wout
  | h :: r => fun cls d σ H => ∃ b, PySem.W.exmOne K cls h.1 = some b ∧ (b = true → ∀ a, H a = none → h.2.2 a cls d (dEnds D h.2.1) (sSet σ a h.2.1) H) ∧ (b = false → wCl K Wout D r cls d σ H)
/-- the name of a clause: its slot -/
def NmOk (X : Cx) : Option Str → Option Nat → Prop
  | none, none => True
  | some n, some i => X.N[i]? = some n ∧ X.env.kindOf n = some .local
  | _, _ => False
inductive ClsOk (X : Cx) : List ExceptHandler → List Cls1 → Prop
  | nil : ClsOk X [] []
  | cons {x : Str} {n : Option Str} {c : Value} {i : Option Nat} {ts : Addr → Value → Option Addr → TS} {b₀ : Stmt} {suite : List Stmt} {np pos' : Pos} {hds : List ExceptHandler} {l : List Cls1} (hc : Names X x c) (hn : NmOk X n i)
      (hsu : ∀ (a : Addr) (oe : Obj) (cls : Value) (d : Option Addr) (pn : List (Addr × Obj)), Zc cls d oe → (∃ vs, oe.data = .fields vs) → PSs (X.suite a ((a, oe) :: pn)) (b₀ :: suite) (ts a cls d)) (r : ClsOk X hds l) :
      ClsOk X (.ExceptHandler (some (.Name x np)) n (b₀ :: suite) pos' :: hds) ((c, i, ts) :: l)
section
variable {X : Cx} {body : List Stmt} {h₀ : ExceptHandler} {hds : List ExceptHandler} {l : List Cls1} {pos : Pos} {tb : WX → TS} {Wout : WX}
theorem ps_tryN (hs : X.stack = X.env :: X.outer) (hf : X.env.frame = some X.env.locals) (hN : X.N.Nodup) (tk : Takes X Wout)
    (hb : ∀ (W : WX) (pn : List (Addr × Obj)) (xe : Value → Shared → Prop), Takes (X.tr pn xe) W → PassesOwn (model X.prog X.w) X.A X.env xe → PSs (X.tr pn xe) body (tb W)) (hh : ClsOk X (h₀ :: hds) l) : PS X (.Try body (h₀ :: hds) [] [] pos) (fun D σ H => tb (wCl X.K Wout D l) D σ H) := by
  refine ⟨fun pins s σ H D I h => ?_⟩
  have ok := I.ok
  have frs0 : X.A.frames = some (X.env :: X.outer) := by rw [ok.frames, hs]
  -- behind the body: on as it ends
  have done : ∀ {f : Flow} {s1 : Shared} {xe : Value → Shared → Prop}, SP (X.tr (X.pn ++ pins) xe) [] D f s1 → SP X pins D f s1 := by
    intro f s1 xe hsp
    cases f with
    | ret u => obtain ⟨v, σ', H', J, r, q⟩ := hsp; exact ⟨v, σ', H', J.ofTry ok, r, q⟩
    | next => obtain ⟨σ', H', J, q⟩ := hsp; exact ⟨σ', H', J.ofTry ok, q⟩
    | brk => obtain ⟨σ', H', J, q⟩ := hsp; exact ⟨σ', H', J.ofTry ok, q⟩
    | cont => obtain ⟨σ', H', J, q⟩ := hsp; exact ⟨σ', H', J.ofTry ok, q⟩
  have caught : ∀ (u : Value) (s' : Shared), XE (X.tr (X.pn ++ pins) (fun e s₁ => wpAny (model X.prog X.w) X.A (noteFrame e X.env) (fun _ s₂ => wpAny (model X.prog X.w) X.A (setFlight e none) (fun _ s₃ =>
      wpAny (model X.prog X.w) X.A (handleBy e X.env (h₀ :: hds)) (SP X pins D) X.xe s₃) X.xe s₂) X.xe s₁)) (wCl X.K Wout D l) u s' →
      wpAny (model X.prog X.w) X.A (noteFrame u X.env) (fun _ s₂ => wpAny (model X.prog X.w) X.A (setFlight u none) (fun _ s₃ => wpAny (model X.prog X.w) X.A (handleBy u X.env (h₀ :: hds)) (SP X pins D) X.xe s₃) X.xe s₂) X.xe s' := by
    intro u s' xx
    obtain ⟨a, B, sI, pins', σ', H', cls, d, rfl, J', nb, up, sky, na, os, ag, wish⟩ := xx
    have J : Inv X pins σ' H' sI := J'.ofTry ok
    rw [show (X.tr (X.pn ++ pins) _).stack = X.env :: X.outer from hs] at sky
    refine Sky.land Zc.steady frs0 hf sky fun h3 fl3 up3 => ?_
    have J3 : Inv X pins σ' H' { s' with heap := h3 } := J.landed nb fl3.1 (up.trans up3) os ag
    obtain ⟨oe3, vs3, he3, hz3, hd3⟩ := fl3.there
    have aNo : a ∉ frs (X.env :: X.outer) := fun hm => by
      obtain ⟨_, o', e', hnf⟩ := fl3.2.2.1.mem hm
      rw [he3] at e'
      cases e'
      exact hnf _ hd3
    have nL : a ≠ X.env.locals := fun z => aNo (List.mem_filterMap.mpr ⟨X.env, List.mem_cons_self, by rw [hf, z]⟩)
    have nF : a ∉ X.fs := fun hm => by
      obtain ⟨e, he, q⟩ := List.mem_filterMap.mp hm
      exact aNo (List.mem_filterMap.mpr ⟨e, List.mem_cons_of_mem _ he, q⟩)
    have S3 := J3.suite he3 hd3 na nL nF
    have ty : PySem.W.Looks (model X.prog X.w) h3 (typeOf (.ref a)) cls := fun A Q E s k q => wpAny_typeOf_ref (k _ _ he3) (by rw [hz3.1]; exact q)
    have go : ∀ {hd' : List ExceptHandler} {l' : List Cls1}, ClsOk X hd' l' → wCl X.K Wout D l' cls d σ' H' → wpAny (model X.prog X.w) X.A (handleBy (.ref a) X.env hd') (SP X pins D) X.xe { s' with heap := h3 } := by
      intro hd' l' hk
      induction hk with
      | nil =>
        intro wd
        refine wpAny_handleBy_nil ?_
        obtain ⟨_, _, _, oe, vs, T, _, _, he, _, hd, h1, _⟩ := id fl3
        unfold PySem.passOn
        refine wpAny_bind (wpAny_field he hd h1 ?_)
        rw [if_neg (show ¬ ((Value.ref T == Value.none) = true) from by simp)]
        have out : wpAny (model X.prog X.w) X.A (setFlight (.ref a) X.env.frame) (fun _ s4 => wpAny (model X.prog X.w) X.A (throw (.ref a) : Sem Flow) (SP X pins D) X.xe s4) X.xe { s' with heap := h3 } := by
          rw [hf]
          refine HandSPX.setFlight_upZ fl3 fun h4 hh4 up4 => wpAny_throw (tk _ _ ?_)
          exact ⟨a, B, sI, pins, σ', H', cls, d, rfl, J, nb, (up.trans up3).trans up4, .inr (.inr (by rw [hs]; exact hh4)), na, os, ag, wd⟩
        first
          | exact wpAny_bind (wpAny_pure (wpAny_bind out))
          | exact wpAny_bind out
      | @cons x n c i ts b₀ suite np pos' hd2 l2 hc hn hsu r ih =>
        intro wd
        obtain ⟨b, hb1, yes, no⟩ := wd
        refine wpAny_handleBy_cons (codeAny_handlers_test ?_) (by intro q; cases q)
        have LM := PySem.W.exm_one (M := model X.prog X.w) (J3.kIn) ty hb1
        have named : ∀ {Q : Value → Shared → Prop} {E : Value → Shared → Prop}, Q c { s' with heap := h3 } → wpAny (model X.prog X.w) (X.A.mark (some (.ref a))) (eval (.Name x np) X.env) Q E { s' with heap := h3 } := fun {Q E} q => by
          obtain ⟨hg, hdb, hm | ⟨hm, hv, hnn⟩⟩ := hc
          · exact ld_glob (X := X.suite a ((a, oe3) :: (X.pn ++ pins))) S3 hg hm q hdb
          · exact ld_blt (X := X.suite a ((a, oe3) :: (X.pn ++ pins))) S3 hg hm hv q hnn hdb
        refine named (LM.here ?_)
        cases b with
        | false =>
          show wpAny _ X.A (handleBy (.ref a) X.env hd2) _ _ _
          exact ih (no rfl)
        | true =>
          have y := yes rfl a na
          cases n with
          | none =>
            cases i with
            | some i => exact hn.elim
            | none =>
              refine codeAny_handlers_suite (HandSPX.lands_againZ fl3 fun h4 fl4 up4 => ?_)
              have J4 : Inv X pins σ' H' { s' with heap := h4 } := J.landed nb fl4.1 ((up.trans up3).trans up4) os ag
              obtain ⟨oe4, vs4, he4, hz4, hd4⟩ := fl4.there
              refine wpAny_mono ((hsu a oe4 cls d (X.pn ++ pins) hz4 ⟨_, hd4⟩).run [] _ _ H' _ (J4.suite he4 hd4 na nL nF) y) (fun f s6 hsp => ?_) (fun _ _ z => False.elim z)
              cases f with
              | ret u => obtain ⟨v6, σ6, H6, S6, r6, q6⟩ := hsp; exact ⟨_, _, _, S6.unsuite ok, r6, q6⟩
              | next => obtain ⟨σ6, H6, S6, q6⟩ := hsp; exact ⟨_, _, S6.unsuite ok, q6⟩
              | brk => obtain ⟨σ6, H6, S6, q6⟩ := hsp; exact ⟨_, _, S6.unsuite ok, q6⟩
              | cont => obtain ⟨σ6, H6, S6, q6⟩ := hsp; exact ⟨_, _, S6.unsuite ok, q6⟩
          | some n =>
            cases i with
            | none => exact hn.elim
            | some i =>
              obtain ⟨hi, hln⟩ := hn
              refine codeAny_handlers_suite_as (HandSPX.lands_againZ fl3 fun h4 fl4 up4 => ?_)
              have J4 : Inv X pins σ' H' { s' with heap := h4 } := J.landed nb fl4.1 ((up.trans up3).trans up4) os ag
              obtain ⟨oe4, vs4, he4, hz4, hd4⟩ := fl4.there
              refine store_ok (X := X.suite a ((a, oe4) :: (X.pn ++ pins))) (v := .ref a) (J4.suite he4 hd4 na nL nF) hN hi (.inl hln) rfl (fun s5 S5 => ?_) (.inr hln)
              refine wpAny_mono ((hsu a oe4 cls d (X.pn ++ pins) hz4 ⟨_, hd4⟩).run [] s5 _ H' _ S5 y) (fun f s6 hsp => ?_) (fun _ _ z => False.elim z)
              have off : ∀ {σ6 : St} {H6 : Hp} {Q : Shared → Prop}, Inv (X.suite a ((a, oe4) :: (X.pn ++ pins))) [] σ6 H6 s6 → (∀ s7, Inv X pins (σ6.set i none) H6 s7 → Q s7) →
                  wpAny (model X.prog X.w) X.A (do bindName X.env n .none; unbindBehindTheSuite X.env n pos') (fun _ s7 => Q s7) X.xe s6 := fun {σ6 H6 Q} S6 hq => gone_ok (S6.unsuite ok) hN hi hln hq
              cases f with
              | ret u => obtain ⟨v6, σ6, H6, S6, r6, q6⟩ := hsp; exact off S6 fun s7 J7 => ⟨_, _, _, J7, r6, q6⟩
              | next => obtain ⟨σ6, H6, S6, q6⟩ := hsp; exact off S6 fun s7 J7 => ⟨_, _, J7, q6⟩
              | brk => obtain ⟨σ6, H6, S6, q6⟩ := hsp; exact off S6 fun s7 J7 => ⟨_, _, J7, q6⟩
              | cont => obtain ⟨σ6, H6, S6, q6⟩ := hsp; exact off S6 fun s7 J7 => ⟨_, _, J7, q6⟩
    exact go hh wish
  refine wpAny_Try_except (wpAny_mono ((hb (wCl X.K Wout D l) (X.pn ++ pins) _ caught PassesOwn.looking).run [] s σ H D (I.toTry _) h) (fun f s1 hsp => ?_) (fun e s1 he => he))
  have z := done hsp
  cases f with
  | next => exact wpAny_execs_nil z
  | _ => exact z
end

/-! ### raise -/
section
variable {X : Cx} {S : Su} {W : WX} {e : Expr} {es : List Expr} {pos p pos' : Pos} {k : Nat} {C fI : Addr} {c f : Str}
/-- X(), an own class without __init__ -/
theorem pmk_own0 {bmB : List Value} {B newId initId : String} (F : ExcBaseFacts B newId initId bmB) (q : PySem.W.excIn X.K C bmB newId = true) (gC : X.mg c = some (.ref C)) (kC : PySem.W.keepIn X.K (.ref C) = true) (r : Raises X (.ref C)) (hg : Gl X c)
    (hdb : (c == ("__debug__" : Str)) = false := by decide) : PMk X (.Call (.Name c p) [] [] pos) (fun _ H Q => Q (.ref C) none H) := by
  intro pins s σ H Q I h
  refine wpAny_Call_Name_kw (ld_glob I hg gC ?_ hdb)
  refine PySem.W.callWith_K0 I.kIn kC ?_
  show wpAny _ _ (call (.ref C) []) _ _ _
  obtain ⟨bm, N, nm, qn, bs, hdct, sn, sub, ab, col, dd, k0, k1, k2, k3, k5, mN, hC, hN, hni, T⟩ := exc_obj I.kIn q
  exact wpAny_call_exc_subT F T hC hN hni (fun h' e hm => mk_of I hm r h (I.hok.gone hm.new)) (by show 0 ≤ sizeLine; omega)
def mRaise0 (c : Str) (e : En) : R Fl := .er c none e
theorem ms_raise0 {bmB : List Value} {B newId initId : String} (hcal : X.calm = true) (tk : Takes X W) (F : ExcBaseFacts B newId initId bmB) (q : PySem.W.excIn X.K C bmB newId = true) (gC : X.mg c = some (.ref C)) (kC : PySem.W.keepIn X.K (.ref C) = true) (r : Raises X (.ref C)) (hg : Gl X c)
    (hdb : (c == ("__debug__" : Str)) = false := by decide) : MS X S W (.Raise (some (.Call (.Name c p) [] [] pos)) none pos') (mRaise0 c) := (ps_raise hcal tk (pmk_own0 F q gC kC r hg hdb)).wk fun D σ H ⟨F, env, O, w, p⟩ =>
  p σ F H (.ref C) none Tr.refl w ⟨C, gC, rfl, rfl⟩
/-- the __init__ that keeps its one argument under the name f -/
def spIni (C : Addr) (f : Str) : Sp := fun vs H Q _ => ∃ a v, vs = [.ref a, v] ∧ H a = some (exo a C none) ∧ ∀ dx, H dx = none → dx ≠ a → Q .non (upd (upd H dx (exd dx [(f, v)])) a (exo a C (some dx)))
/-- what an own class with such an __init__ has -/
structure ExF (X : Cx) (c f : Str) (C fI : Addr) (k : Nat) : Prop where
  hC : X.mg c = some (.ref C)
  T : OexC X.K C
  iC : PySem.W.findIn X.K (.ref C) "__init__" = some (some (.ref fI))
  tI : PySem.W.typeIn X.K (.ref fI) = some (.type "function")
  ok : ∃ fd ps, FnOk X.prog X.w X.K X.mg X.base (L2.CX X.prog X.w) k fI fd ps (spIni C f) ∧ Binds X.K fd ps []
def mRaise1 (c f : Str) (g : En → R Tk) (e : En) : R Fl := (g e).bind fun t e1 => (frc t e1).bind fun d e2 => .er c (some (f, d)) e2
theorem ms_raise1 {g : En → R Tk} (hcal : X.calm = true) (tk : Takes X W) (x : ExF X c f C fI k) (hr : Rm (k + 1) X.A) (hg : Gl X c) (ha : ME X S W e g)
    (hdb : (c == ("__debug__" : Str)) = false := by decide) (he : starEach (e :: []) X.env = (false, eval e X.env) :: starEach [] X.env := by rfl) : MS X S W (.Raise (some (.Call (.Name c p) [e] [] pos)) none pos') (mRaise1 c f g) := by
  obtain ⟨fd, ps, Fn, hb⟩ := x.ok
  refine (ps_raise hcal tk (pmk_oex (dvs := []) (ds := []) x.T x.iC x.tI Fn hr.r hb .nil (fun _ _ _ _ _ _ _ z => by obtain ⟨_, _, _, _, _, _, _, _, _, _, _, _, z⟩ := z; exact z.elim) hg x.hC (pa_cons ha pa_nil he) hdb he (by rfl))).wk fun D σ H ⟨F, env, O, w, p⟩ => ?_
  refine ⟨F, env, O, w, PostE.mono (Post.toE p) fun F1 H1 e1 t t1 w1 q v tkv => ?_⟩
  obtain ⟨F2, e2, d, t2, w2, rd, q2⟩ := frc_k w1 tkv (Post.toE q)
  refine ⟨by show 1 ≤ 1000; omega, fun a ha => ⟨a, v, rfl, upd_same, fun dx h1 h2 => ⟨rfl, dx, [(f, v)], upd_same, ?_, ?_, ?_⟩⟩⟩
  · rw [upd_ne h2, upd_same]
  · rw [upd_ne h2] at h1; exact h1
  · have hd : H1 dx = none := by rw [upd_ne h2] at h1; exact h1
    have eH : upd (del (upd (upd (upd H1 a (exo a C none)) dx (exd dx [(f, v)])) a (exo a C (some dx))) a) dx (.xd [(f, v)]) = upd H1 dx (.xd [(f, v)]) := by
      funext b
      by_cases e1 : b = dx
      · subst e1; rw [upd_same, upd_same]
      · rw [upd_ne e1, upd_ne e1]
        by_cases e2 : b = a
        · subst e2; rw [del_same, ha]
        · rw [del_ne e2, upd_ne e2, upd_ne e1, upd_ne e2]
    rw [eH]
    exact q2 σ F2 _ (.ref C) (some dx) (Tr.new w2 hd _) (w2.new hd _) ⟨C, x.hC, rfl, dx, v, rfl, upd_same, rd⟩
/-- such an __init__ keeps its promise -/
theorem fn_ini {P : Program} {w : World} {K : PySem.W.Frag} {mg : Str → Option Value} {base : Heap} {x qual sn gn : Str} {params : Arguments} {body : List Stmt} {scope : Scope} {kws : List (Str × V)} {fI C : Addr} {fd : FuncData} {N : List Str} {p1 p2 p3 p4 : Pos} (Fn : FunD K x qual params body scope [] kws fI fd) (Sc : FnScope N [sn, gn] scope)
    (T : OexC K C) (hno : PySem.W.findIn K (.ref C) f = some none) (h0 : N[0]? = some sn) (h1 : N[1]? = some gn) (hb : body = [.Assign [.Attribute (.Name sn p1) f p2] (.Name gn p3) p4]) (d1 : (sn == ("__debug__" : Str)) = false := by decide) (d2 : (gn == ("__debug__" : Str)) = false := by decide)
    (c1 : (sn == ("__classdict__" : Str)) = false := by decide) (c2 : (gn == ("__classdict__" : Str)) = false := by decide) : FnOk P w K mg base (L2.CX P w) (k + 1) fI fd [sn, gn] (spIni C f) := by
  refine Fn.ok Sc (fun vs H Q E h => ?_) (fun cdv A outer s H vs Q E hr h => ?_)
  · obtain ⟨a, v, e, _⟩ := h
    rw [e]
    rfl
  · obtain ⟨a, v, e, ha, q⟩ := h
    subst e
    subst hb
    have vis : ∀ x ∈ [sn, gn], Vis scope x := fun x hx => (Sc.par x hx).elim (fun z => .inl z) (fun z => .inr (.inl z))
    refine ⟨_, pss_one (ps_ost (pe_var (i := 0) h0 (vis sn (by simp)) d1 c1) (pe_var (i := 1) h1 (vis gn (by simp)) d2 c2) rfl), ?_⟩
    have g0 : (L2.start N [V.ref a, v])[0]? = some (some (.ref a)) := by rw [start_get]; simp
    have g1 : (L2.start N [V.ref a, v])[1]? = some (some v) := by rw [start_get]; simp
    exact ⟨v, g1, .ref a, g0, a, C, rfl, T, hno, .inl ⟨ha, fun dx n ne => q dx n ne⟩⟩
end

/-! ### try -/
/-- a clause: which classes it takes; its name's slot; the suite -/
structure MCl where
  g : Str → Option Bool
  i : Option Nat
  s : En → R Fl
def Sl.isEx : Sl → Bool
  | .ex _ _ => true
  | _ => false
def noEx (e : En) : Bool := e.all fun s => !s.isEx
def exS : Option (Str × D) → Sl
  | some (f, d) => .ex f d
  | none => .no
/-- into the suite -/
def exIn (i : Option Nat) (x : Option (Str × D)) (e : En) : En := match i with
  | none => e
  | some i => e.set i (exS x)
def exOut (i : Option Nat) (e : En) : En := match i with
  | none => e
  | some i => e.set i .no
def Tk.nmIs (i : Option Nat) : Tk → Bool
  | .nm j => i == some j
  | _ => false
def flNm (i : Option Nat) : Fl → Bool
  | .rt t => t.nmIs i
  | _ => false
def clR (i : Option Nat) : R Fl → R Fl
  | .ok fl e => bif noEx (exOut i e) && !(flNm i fl) then .ok fl (exOut i e) else .no
  | _ => .no
def mHds : List MCl → Str → Option (Str × D) → En → R Fl
  | [], c, x, e => .er c x e
  | h :: r, c, x, e => match h.g c with
    | some true => bif noEx e then clR h.i (h.s (exIn h.i x e)) else .no
    | some false => mHds r c x e
    | none => .no
def tryR (l : List MCl) : R Fl → R Fl
  | .er c x e => mHds l c x e
  | r => r
def mTry (gb : En → R Fl) (l : List MCl) (e : En) : R Fl := tryR l (gb e)
/-- the suite's exception -/
def suS (S : Su) (a : Addr) (d : Option Addr) : Su := ⟨d.map fun dd => (a, dd), S.lent⟩
section
variable {K : PySem.W.Frag} {mg : Str → Option Value} {S S' : Su} {O : Addr → Prop} {W : WX} {F H F' H' : Hp} {σ σ' : St} {env : En}
theorem noEx_get {e : En} {i : Nat} {f : Str} {d : D} (h : noEx e = true) (g : e[i]? = some (.ex f d)) : False := by
  have z := List.all_eq_true.mp h _ (List.mem_of_getElem? g)
  cases z
/-- no name holds an exception: whose it is doesn't matter -/
theorem Wf.reS (w : Wf K mg S O F H σ env) (h : noEx env = true) (hl : S'.lent = S.lent) : Wf K mg S' O F H σ env :=
  ⟨w.fz, fun i s e => by
    obtain ⟨v, hv, ok⟩ := w.sl i s e
    refine ⟨v, hv, ?_⟩
    cases s with
    | ex f d => exact (noEx_get h e).elim
    | io d => obtain ⟨p, o, el, r⟩ := ok; exact ⟨p, o, by rw [hl]; exact el, r⟩
    | _ => exact ok, w.ds, w.oh, w.ow, w.od⟩
theorem Wf.setNo (w : Wf K mg S O F H σ env) (i : Nat) (x : Option V) : Wf K mg S O F H (σ.set i x) (env.set i .no) where
  fz := w.fz
  sl := fun j s h => by
    rcases en_set h with ⟨e, e2, l⟩ | ⟨ne, h1⟩
    · subst e; subst e2
      obtain ⟨u, hu, _⟩ := w.sl i (env[i]) (List.getElem?_eq_getElem l)
      have l2 : i < σ.length := (List.getElem?_eq_some_iff.mp hu).1
      exact ⟨x, by rw [List.getElem?_set_self l2], trivial⟩
    · obtain ⟨u, hu, ok⟩ := w.sl j s h1
      exact ⟨u, by rw [List.getElem?_set_ne ne]; exact hu, ok⟩
  ds := fun a b s u p h1 h2 q1 q2 z1 z2 => by
    rcases en_set h1 with ⟨e, e2, l⟩ | ⟨n1, h1⟩
    · subst e2; cases q1
    · rcases en_set h2 with ⟨e, e2, l⟩ | ⟨n2, h2⟩
      · subst e2; cases q2
      · rw [List.getElem?_set_ne n1] at z1
        rw [List.getElem?_set_ne n2] at z2
        exact w.ds a b s u p h1 h2 q1 q2 z1 z2
  oh := w.oh
  ow := fun a q => by
    obtain ⟨j, u, h1, h2, h3⟩ := q
    rcases en_set h1 with ⟨e, e2, _⟩ | ⟨ne, h1⟩
    · subst e2; cases h2
    · rw [List.getElem?_set_ne ne] at h3
      exact w.ow a ⟨j, u, h1, h2, h3⟩
  od := w.od
theorem Wf.setEx (w : Wf K mg S O F H σ env) {a dd : Addr} {f : Str} {d : D} {x : V} (hS : S.ex = some (a, dd)) (hd : H dd = some (.xd [(f, x)])) (r : Rep K mg F d x) (i : Nat) : Wf K mg S O F H (σ.set i (some (.ref a))) (env.set i (.ex f d)) where
  fz := w.fz
  sl := fun j s h => by
    rcases en_set h with ⟨e, e2, l⟩ | ⟨ne, h1⟩
    · subst e; subst e2
      obtain ⟨u, hu, _⟩ := w.sl i (env[i]) (List.getElem?_eq_getElem l)
      have l2 : i < σ.length := (List.getElem?_eq_some_iff.mp hu).1
      exact ⟨some (.ref a), by rw [List.getElem?_set_self l2], a, dd, x, hS, rfl, hd, r⟩
    · obtain ⟨u, hu, ok⟩ := w.sl j s h1
      exact ⟨u, by rw [List.getElem?_set_ne ne]; exact hu, ok⟩
  ds := fun a b s u p h1 h2 q1 q2 z1 z2 => by
    rcases en_set h1 with ⟨e, e2, l⟩ | ⟨n1, h1⟩
    · subst e2; cases q1
    · rcases en_set h2 with ⟨e, e2, l⟩ | ⟨n2, h2⟩
      · subst e2; cases q2
      · rw [List.getElem?_set_ne n1] at z1
        rw [List.getElem?_set_ne n2] at z2
        exact w.ds a b s u p h1 h2 q1 q2 z1 z2
  oh := w.oh
  ow := fun a q => by
    obtain ⟨j, u, h1, h2, h3⟩ := q
    rcases en_set h1 with ⟨e, e2, _⟩ | ⟨ne, h1⟩
    · subst e2; cases h2
    · rw [List.getElem?_set_ne ne] at h3
      exact w.ow a ⟨j, u, h1, h2, h3⟩
  od := w.od
theorem Wf.exIn {c : Str} {x : Option (Str × D)} {cls : Value} {d : Option Addr} {a : Addr} {i : Option Nat} (w : Wf K mg S O F H σ env) (h : noEx env = true) (eo : ErOk K mg F H c x cls d) : Wf K mg (suS S a d) O F H (sSet σ a i) (exIn i x env) := by
  have w1 : Wf K mg (suS S a d) O F H σ env := w.reS h rfl
  cases i with
  | none => exact w1
  | some i =>
    cases x with
    | none => exact w1.setNo i _
    | some fd =>
      obtain ⟨f, d0⟩ := fd
      obtain ⟨C, _, _, dd, v, rfl, h1, r⟩ := eo
      exact w1.setEx (dd := dd) rfl h1 r i
theorem Own.noEx {p : Addr} {i : Nat} (h : Own (σ.set i none) (env.set i .no) p) : Own σ env p := by
  obtain ⟨j, u, h1, h2, h3⟩ := h
  rcases en_set h1 with ⟨e, e2, _⟩ | ⟨ne, h1⟩
  · subst e2; cases h2
  · rw [List.getElem?_set_ne ne] at h3
    exact ⟨j, u, h1, h2, h3⟩
end
inductive MHds (X : Cx) (S : Su) : List ExceptHandler → List MCl → Prop
  | nil : MHds X S [] []
  | cons {x : Str} {n : Option Str} {c : Value} {g : Str → Option Bool} {i : Option Nat} {b₀ : Stmt} {suite : List Stmt} {s : En → R Fl} {np pos' : Pos} {hds : List ExceptHandler} {l : List MCl} (hc : Names X x c) (hn : NmOk X n i)
      (hg : ∀ c' b C', g c' = some b → X.mg c' = some (.ref C') → PySem.W.exmOne X.K (.ref C') c = some b)
      (hsu : ∀ (a : Addr) (oe : Obj) (c' : Str) (C' : Addr) (d : Option Addr) (pn : List (Addr × Obj)), g c' = some true → X.mg c' = some (.ref C') → Zc (.ref C') d oe → (∃ vs, oe.data = .fields vs) → MSs (X.suite a ((a, oe) :: pn)) (suS S a d) (fun _ _ _ _ => False) (b₀ :: suite) s) (r : MHds X S hds l) :
      MHds X S (.ExceptHandler (some (.Name x np)) n (b₀ :: suite) pos' :: hds) (⟨g, i, s⟩ :: l)
/-- a block's ends -/
def endK (K : PySem.W.Frag) (mg : Str → Option Value) (O : Addr → Prop) (D : Ends) : St → Hp → Hp → En → Fl → Prop := fun σ' F' H' e' fl => match fl with
  | .nx => D.nx σ' H'
  | .bk => D.bk σ' H'
  | .ct => D.ct σ' H'
  | .rt t => ∀ v, TkOk K mg O F' H' σ' e' v t → D.rt v H'
section
variable {X : Cx} {S : Su} {W : WX}
theorem clR_ok {O : Addr → Prop} {F H : Hp} {En' : Ends} {i : Option Nat} {r : R Fl} {a : Addr} {d : Option Addr} (p : Post X.K X.mg S O W F H (clR i r) (endK X.K X.mg O En')) : Post X.K X.mg (suS S a d) O (fun _ _ _ _ => False) F H r (endK X.K X.mg O (dEnds En' i)) := by
  cases r with
  | no => exact p
  | er c x e => exact p.elim
  | ok fl e2 =>
    unfold clR at p
    simp only at p
    cases z : (noEx (exOut i e2) && !(flNm i fl)) with
    | false => rw [z] at p; exact p.elim
    | true =>
      rw [z] at p
      rw [Bool.and_eq_true] at z
      intro σ' F' H' t1 w1
      cases i with
      | none =>
        have q := p σ' F' H' t1 (w1.reS z.1 rfl)
        cases fl <;> exact q
      | some i =>
        have q := p (σ'.set i none) F' H' t1 ((w1.setNo i none).reS z.1 rfl)
        cases fl with
        | nx => exact q
        | bk => exact q
        | ct => exact q
        | rt t =>
          intro v tk
          refine q v ?_
          cases t with
          | val d0 => exact tk
          | nw d0 =>
            obtain ⟨p0, o, e, hf, hn, r⟩ := tk
            exact ⟨p0, o, e, hf, fun y => hn y.noEx, r⟩
          | nm j =>
            have ne : i ≠ j := fun e => by
              subst e
              have := z.2
              simp [flNm, Tk.nmIs] at this
            show (σ'.set i none)[j]? = some (some v)
            rw [List.getElem?_set_ne ne]
            exact tk
theorem MHds.cls {hds : List ExceptHandler} {l : List MCl} (h : MHds X S hds l) : ∃ l' : List Cls1, ClsOk X hds l' ∧ ∀ (En' : Ends) (O : Addr → Prop) (F H : Hp) (σ : St) (env : En) (c : Str) (x : Option (Str × D)) (cls : Value) (d : Option Addr), Wf X.K X.mg S O F H σ env → ErOk X.K X.mg F H c x cls d →
    Post X.K X.mg S O W F H (mHds l c x env) (endK X.K X.mg O En') → wCl X.K W En' l' cls d σ H := by
  induction h with
  | nil => exact ⟨[], .nil, fun En' O F H σ env c x cls d w eo p => p σ F H cls d Tr.refl w eo⟩
  | @cons x n cv g i b₀ suite s np pos' hds l hc hn hg hsu r ih =>
    obtain ⟨l', h1, h2⟩ := ih
    refine ⟨(cv, i, fun a cls d En' σ H => (∃ c' C', g c' = some true ∧ X.mg c' = some (.ref C') ∧ cls = .ref C') ∧ tMS X (suS S a d) (fun _ _ _ _ => False) s En' σ H) :: l', .cons hc hn (fun a oe cls d pn hz hf => ⟨fun pins st σ H En' I q => by
      obtain ⟨⟨c', C', e1, e2, e3⟩, q⟩ := q
      subst e3
      exact (hsu a oe c' C' d pn e1 e2 hz hf).run pins st σ H En' I q⟩) h1, fun En' O F H σ env c x cls d w eo p => ?_⟩
    obtain ⟨C', e1, e2, e3⟩ := id eo
    subst e2
    unfold mHds at p
    dsimp only at p
    cases z : g c with
    | none => rw [z] at p; exact p.elim
    | some b =>
      rw [z] at p
      refine ⟨b, hg c b C' z e1, fun hb a ha => ?_, fun hb => ?_⟩
      · subst hb
        simp only at p
        cases z2 : noEx env with
        | false => rw [z2] at p; exact p.elim
        | true =>
          rw [z2] at p
          exact ⟨⟨c, C', z, e1, rfl⟩, F, exIn i x env, O, w.exIn z2 eo, clR_ok p⟩
      · subst hb
        exact h2 En' O F H σ env c x _ d w eo p
theorem ms_try {body : List Stmt} {h₀ : ExceptHandler} {hds : List ExceptHandler} {l : List MCl} {pos : Pos} {gb : En → R Fl} (hs : X.stack = X.env :: X.outer) (hf : X.env.frame = some X.env.locals) (hN : X.N.Nodup) (tk : Takes X W)
    (hb : ∀ (W : WX) (pn : List (Addr × Obj)) (xe : Value → Shared → Prop), Takes (X.tr pn xe) W → PassesOwn (model X.prog X.w) X.A X.env xe → MSs (X.tr pn xe) S W body gb) (hh : MHds X S (h₀ :: hds) l) : MS X S W (.Try body (h₀ :: hds) [] [] pos) (mTry gb l) := by
  obtain ⟨l', h1, h2⟩ := MHds.cls (W := W) hh
  refine (ps_tryN (tb := fun W => tMS X S W gb) hs hf hN tk (fun W' pn xe tk' po => hb W' pn xe tk' po) h1).wk fun D σ H ⟨F, env, O, w, p⟩ => ?_
  refine ⟨F, env, O, w, ?_⟩
  have p' : Post X.K X.mg S O W F H (tryR l (gb env)) (endK X.K X.mg O D) := p
  cases q : gb env with
  | no => rw [q] at p'; exact p'
  | ok fl e => rw [q] at p'; exact p'
  | er c x e =>
    rw [q] at p'
    exact fun σ' F' H' cls dd t1 w1 eo => h2 D O F' H' σ' e c x cls dd w1 eo (Post.on p' t1)
end

/-! ### e.f, e the exception that the suite holds -/
def mExF (i : Nat) (f : Str) (e : En) : R Tk := match e[i]? with
  | some (.ex g d) => if g = f then .ok (.val d) e else .no
  | _ => .no
section
variable {X : Cx} {W : WX}
/-- what an own exception's class has for its fields to be read -/
structure ExR (K : PySem.W.Frag) (C : Addr) (f : Str) : Prop extends XfC K C where
  noF : PySem.W.findIn K (.ref C) f = some none
theorem me_exf {S : Su} {a : Addr} {oe : Obj} {C : Addr} {d : Option Addr} {pn : List (Addr × Obj)} {f n : Str} {i : Nat} {p pos : Pos} (x : ExR X.K C f) (hz : Zc (.ref C) d oe) (hf : ∃ vs, oe.data = .fields vs) (hv : PE (X.suite a ((a, oe) :: pn)) (.Name n p) (tVar i))
    (hb : attributeBase (.Name n p) f X.env (eval (.Name n p) X.env) = eval (.Name n p) X.env := by rfl) : ME (X.suite a ((a, oe) :: pn)) (suS S a d) W (.Attribute (.Name n p) f pos) (mExF i f) := by
  refine ⟨fun pins s σ H Q I ⟨F, env, O, w, q⟩ => ?_⟩
  unfold mExF at q
  cases e : env[i]? with
  | none => rw [e] at q; exact q.elim
  | some sl =>
    rw [e] at q
    cases sl <;> first | exact q.elim | skip
    rename_i g d0
    obtain ⟨v, hv2, a', dd, u, es, ev, hd, r⟩ := w.sl i _ e
    subst ev
    simp only at q
    split at q
    · rename_i eg
      subst eg
      cases d with
      | none => cases es
      | some d1 =>
        cases es
        refine attr_of hb (thn (hv.run pins s σ H (fun v H1 => v = .ref a ∧ H1 = H) I ⟨.ref a, hv2, rfl, rfl⟩) fun u1 s1 hh => ?_)
        obtain ⟨x1, H1, I1, rx, ex, eH⟩ := hh
        subst ex
        subst eH
        obtain rfl : u1 = Value.ref a := rx
        obtain ⟨ha, _⟩ := I1.pin (a, oe) (List.mem_append_left _ List.mem_cons_self)
        obtain ⟨vs, hdat⟩ := hf
        obtain ⟨mA, hns, hr⟩ := (show ObjOk X.prog X.w H1 s1.heap dd (.xd [(g, u)]) from I1.hok dd _ hd)
        obtain ⟨od, ho, hl⟩ := lookIn_ns hns
        obtain ⟨u2, hu, ru⟩ := RelO.some_of (v := u) (o := mA g) (by
          have z := hr g
          simp [List.lookup] at z
          exact z)
        have J : PySem.W.InstAt s1.heap a oe C (some od) := ⟨ha, hz.1, by unfold PySem.W.notCls; rw [hdat] <;> rfl, by rw [hz.2]; exact ho⟩
        exact HandSPX.exc_get I1.kIn J x.ga x.gg x.exC (PySem.W.findObj_own x.hdC x.noF rfl (by rw [hl, hu])) (handed_of ru) ⟨u, H1, I1.tok _, ru, PostE.ok w q u r⟩
    · exact q.elim
end
end MM

set_option Elab.async false
set_option linter.all false
set_option maxRecDepth 100000
set_option maxHeartbeats 2000000
/-! M11: what is walked; targets; for. -/
namespace MM
open PySem L2
/-- the data that an iterator walks; lk: what must stand in the heap -/
structure ItM (K : PySem.W.Frag) (mg : Str → Option Value) (J : It) (F0 : Hp) (lk : Hp → Prop) (ds : List D) : Prop where
  go : ∀ (S : Su) (O : Addr → Prop) (F H : Hp) (σ : St) (env : En) (i : Nat), Sub F0 F → Wf K mg S O F H σ env → lk H → i < ds.length → J.go i H
  stop : ∀ (S : Su) (O : Addr → Prop) (F H : Hp) (σ : St) (env : En) (i : Nat), Sub F0 F → Wf K mg S O F H σ env → lk H → ds.length ≤ i → J.stop i H
  yld : ∀ (S : Su) (O : Addr → Prop) (F H : Hp) (σ : St) (env : En) (i : Nat) (x : V) (H' : Hp), Sub F0 F → Wf K mg S O F H σ env → lk H → i < ds.length → J.yld i H x H' →
    ∃ d, ds[i]? = some d ∧ ((H' = H ∧ Rep K mg F d x) ∨ (∃ T xs es, x = .ref T ∧ H T = none ∧ H' = upd H T (.tup xs) ∧ d = .tup es ∧ Reps K mg F es xs) ∨ ∃ T xs es, x = .ref T ∧ H' = H ∧ H T = some (.tup xs) ∧ d = .tup es ∧ Reps K mg F es xs)
def noLk (_ : Hp) : Prop := True
section
variable {K : PySem.W.Frag} {mg : Str → Option Value} {S : Su} {O : Addr → Prop} {W : WX} {F F0 H F' H' : Hp} {σ σ' : St} {env env' : En} {v : V} {d : D} {ds : List D}
/-- the item of a turn, frozen -/
theorem ItM.item {J : It} {lk : Hp → Prop} (m : ItM K mg J F0 lk ds) (s : Sub F0 F) (w : Wf K mg S O F H σ env) (hl : lk H) {i : Nat} {x : V} (hi : i < ds.length) (y : J.yld i H x H') : ∃ d F', ds[i]? = some d ∧ Tr O F H F' H' ∧ Wf K mg S O F' H' σ env ∧ Rep K mg F' d x := by
  obtain ⟨d, h1, h2⟩ := m.yld S O F H σ env i x H' s w hl hi y
  rcases h2 with ⟨rfl, r⟩ | ⟨T, xs, es, rfl, hT, rfl, rfl, r⟩ | ⟨T, xs, es, rfl, rfl, hT, rfl, r⟩
  · exact ⟨d, F, h1, Tr.refl, w, r⟩
  · have w1 := w.new hT (.tup xs)
    have w2 : Wf K mg S O (upd F T (.tup xs)) (upd H T (.tup xs)) σ env := w1.freeze upd_same (w.nOwn hT) (fun _ _ z => nomatch z) (w.gone hT) (w.nO hT)
    have t2 : Tr O F (upd H T (.tup xs)) (upd F T (.tup xs)) (upd H T (.tup xs)) := Tr.freeze (w.gone hT) (w.nO hT)
    exact ⟨_, _, h1, (Tr.new w hT (.tup xs)).trans t2, w2, .tup (.inl (.inl upd_same)) (r.mono t2.fz)⟩
  · cases hf : F T with
    | some u =>
      rcases w.fz T u hf with z | ⟨o, _, _, z⟩
      · rw [hT] at z; cases z
        exact ⟨_, F, h1, Tr.refl, w, .tup (.inl (.inl hf)) r⟩
      · rw [hT] at z; cases z
    | none =>
      have nO : ¬ O T := fun q => by
        obtain ⟨u, hu, nu⟩ := w.oh T q
        rw [hT] at hu; cases hu; cases nu
      have nOw : ¬ Own σ env T := fun q => by
        obtain ⟨_, o, d2, ho, ht⟩ := Own.top w q
        rw [hT] at ho; cases ho; cases ht
      have w2 := w.freeze hT nOw (fun _ _ z => nomatch z) hf nO
      have t2 : Tr O F H' (upd F T (.tup xs)) H' := Tr.freeze hf nO
      exact ⟨_, _, h1, t2, w2, .tup (.inl (.inl upd_same)) (r.mono t2.fz)⟩
theorem Wf.sqLF (w : Wf K mg S O F H σ env) (s : Sub F0 F) {a : Addr} {xs : List V} (h : SqL K F0 a xs) : SqL K H a xs := w.sqL (s.sqL h)
theorem itm_list {a : Addr} {xs : List V} (h : SqL K F0 a xs) (r : Reps K mg F0 ds xs) : ItM K mg (Itl K a) F0 noLk ds where
  go := fun S O F H σ env i s w _ hi => by
    obtain ⟨v, hv, _⟩ := r.get' (List.getElem?_eq_getElem hi)
    exact ⟨xs, v, w.sqLF s h, hv⟩
  stop := fun S O F H σ env i s w _ hi => ⟨xs, w.sqLF s h, by rw [r.length]; exact hi⟩
  yld := fun S O F H σ env i x H' s w _ hi y => by
    obtain ⟨e, y⟩ := y
    obtain ⟨d, h1, h2⟩ := r.get (y xs (w.sqLF s h))
    exact ⟨d, h1, .inl ⟨e, h2.mono s⟩⟩
theorem itm_tup {a : Addr} {xs : List V} (h : SqT K F0 a xs) (r : Reps K mg F0 ds xs) : ItM K mg (Itt K a) F0 noLk ds where
  go := fun S O F H σ env i s w _ hi => by
    obtain ⟨v, hv, _⟩ := r.get' (List.getElem?_eq_getElem hi)
    exact ⟨xs, v, w.sqT (s.sqT h), hv⟩
  stop := fun S O F H σ env i s w _ hi => ⟨xs, w.sqT (s.sqT h), by rw [r.length]; exact hi⟩
  yld := fun S O F H σ env i x H' s w _ hi y => by
    obtain ⟨e, y⟩ := y
    obtain ⟨d, h1, h2⟩ := r.get (y xs (w.sqT (s.sqT h)))
    exact ⟨d, h1, .inl ⟨e, h2.mono s⟩⟩
def chD (s : Str) : List D := s.cps.toList.map fun c => .str ⟨#[c]⟩
theorem itm_str {s : Str} : ItM K mg (Its s) F0 noLk (chD s) where
  go := fun S O F H σ env i _ w _ hi => by
    show i < s.cps.size
    simpa [chD] using hi
  stop := fun S O F H σ env i _ w _ hi => by
    show s.cps.size ≤ i
    simpa [chD] using hi
  yld := fun S O F H σ env i x H' _ w _ hi y => by
    obtain ⟨e, c, h1, h2⟩ := y
    subst h2
    exact ⟨.str ⟨#[c]⟩, by simp [chD, h1], .inl ⟨e, .str _⟩⟩
def rngD (lo hi : Int) : List D := (List.range (hi - lo).toNat).map fun i => .int (lo + (i : Nat))
theorem itm_rng {lo hi : Int} : ItM K mg (Itr lo (hi - lo).toNat) F0 noLk (rngD lo hi) where
  go := fun S O F H σ env i _ w _ h => by
    show i < (hi - lo).toNat
    unfold rngD at h
    rw [List.length_map, List.length_range] at h
    exact h
  stop := fun S O F H σ env i _ w _ h => by
    show (hi - lo).toNat ≤ i
    unfold rngD at h
    rw [List.length_map, List.length_range] at h
    exact h
  yld := fun S O F H σ env i x H' _ w _ h y => by
    obtain ⟨e, h2⟩ := y
    subst h2
    have h' : i < (hi - lo).toNat := by
      unfold rngD at h
      rw [List.length_map, List.length_range] at h
      exact h
    exact ⟨.int (lo + (i : Nat)), by simp [rngD, h'], .inl ⟨e, .int _⟩⟩
/-- the keys of the dict that is locked -/
def keysD (kvs : List (Key × D)) : List D := kvs.map fun kv => match kv.1 with
  | .inl i => .int i
  | .inr s => .str s
def kD : Key → D
  | .inl i => .int i
  | .inr s => .str s
theorem keysD_eq (kvs : List (Key × D)) : keysD kvs = kvs.map fun kv => kD kv.1 := by
  unfold keysD
  refine congrArg (fun f => kvs.map f) ?_
  funext kv
  cases kv.1 <;> rfl
theorem rep_kD (k : Key) : Rep K mg F (kD k) (kV k) := by cases k with
  | inl i => exact .int i
  | inr s => exact .str s
theorem RepK.get : ∀ {kvs : List (Key × D)} {ks : List (Key × V)} {i : Nat} {k : Key} {v : V}, RepK K mg F kvs ks → ks[i]? = some (k, v) → ∃ d, kvs[i]? = some (k, d) ∧ Rep K mg F d v
  | _, _, _, _, _, .nil, e => by simp at e
  | _, _, 0, _, _, .cons h _, e => by simp at e; obtain ⟨rfl, rfl⟩ := e; exact ⟨_, rfl, h⟩
  | _, _, i + 1, k, v, .cons _ r, e => by
    obtain ⟨d, h1, h2⟩ := RepK.get (i := i) (k := k) (v := v) r (by simpa using e)
    exact ⟨d, by simpa using h1, h2⟩
def lkD (a : Addr) (o : Obj) (ks : List (Key × V)) (H : Hp) : Prop := H a = some (.frz o (.dK ks))
theorem itm_keys {a : Addr} {o : Obj} {ks : List (Key × V)} {kvs : List (Key × D)} (r : RepK K mg F0 kvs ks) : ItM K mg (Itk a o ks) F0 (lkD a o ks) (kvs.map fun kv => kD kv.1) where
  go := fun S O F H σ env i _ w hl h => ⟨hl, by rw [r.length]; simpa using h⟩
  stop := fun S O F H σ env i _ w hl h => ⟨hl, by rw [r.length]; simpa using h⟩
  yld := fun S O F H σ env i x H' _ w _ h y => by
    obtain ⟨e, k, v, h1, h2⟩ := y
    subst h2
    obtain ⟨d, h3, _⟩ := r.get h1
    exact ⟨kD k, by simp [h3], .inl ⟨e, rep_kD k⟩⟩
theorem itm_vals {a : Addr} {o : Obj} {ks : List (Key × V)} {kvs : List (Key × D)} (r : RepK K mg F0 kvs ks) : ItM K mg (Itd a o ks) F0 (lkD a o ks) (kvs.map fun kv => kv.2) where
  go := fun S O F H σ env i _ w hl h => ⟨hl, by rw [r.length]; simpa using h⟩
  stop := fun S O F H σ env i _ w hl h => ⟨hl, by rw [r.length]; simpa using h⟩
  yld := fun S O F H σ env i x H' s w _ h y => by
    obtain ⟨e, k, h1⟩ := y
    obtain ⟨d, h3, h4⟩ := r.get h1
    exact ⟨d, by simp [h3], .inl ⟨e, h4.mono s⟩⟩
theorem itm_items {a : Addr} {o : Obj} {ks : List (Key × V)} {kvs : List (Key × D)} (r : RepK K mg F0 kvs ks) : ItM K mg (Iti a o ks) F0 (lkD a o ks) (kvs.map fun kv => .tup [kD kv.1, kv.2]) where
  go := fun S O F H σ env i _ w hl h => ⟨hl, by rw [r.length]; simpa using h⟩
  stop := fun S O F H σ env i _ w hl h => ⟨hl, by rw [r.length]; simpa using h⟩
  yld := fun S O F H σ env i x H' s w _ h y => by
    obtain ⟨T, k, v, h1, h2, h3, h4⟩ := y
    obtain ⟨d, h5, h6⟩ := r.get h1
    exact ⟨.tup [kD k, d], by simp [h5], .inr (.inl ⟨T, _, _, h2, h3, h4, rfl, .cons (rep_kD k) (.cons (h6.mono s) .nil)⟩)⟩
end

section
variable {X : Cx} {S : Su} {W : WX} {e o a b tg : Expr} {es : List Expr} {kws : List Keyword} {pos p kpos apos : Pos}
def tMI (X : Cx) (S : Su) (W : WX) (fi : En → R (List D)) : TI := fun σ H Q => ∃ F env O, Wf X.K X.mg S O F H σ env ∧ PostE X.K X.mg S O W F H σ (fi env) (fun F' H' e' ds => ∀ J, ItM X.K X.mg J F' noLk ds → Q J H')
abbrev MI (X : Cx) (S : Su) (W : WX) (tg e : Expr) (fi : En → R (List D)) : Prop := PI X tg e (tMI X S W fi)
theorem _root_.L2.PI.wk {t t' : TI} (h : PI X tg e t) (k : ∀ σ H Q, t' σ H Q → t σ H Q) : PI X tg e t' := ⟨fun pins s σ H R I q => h.run pins s σ H R I (k σ H R q)⟩
theorem _root_.L2.PI.or {t t' : TI} (h : PI X tg e t) (h' : PI X tg e t') : PI X tg e (fun σ H R => t σ H R ∨ t' σ H R) := ⟨fun pins s σ H R I q => q.elim (h.run pins s σ H R I) (h'.run pins s σ H R I)⟩
/-- what of data is walked -/
def itD : D → Option (List D)
  | .lst ds => some ds
  | .frl ds => some ds
  | .tup ds => some ds
  | .str s => some (chD s)
  | _ => none
def mIt (f : En → R Tk) (e : En) : R (List D) := (f e).bind fun t e1 => (frc t e1).bind fun d e2 => match itD d with
  | some ds => .ok ds e2
  | none => .no
def rIt (K : PySem.W.Frag) (x : V) (H1 : Hp) (R : It → Hp → Prop) : Prop := (∃ a, x = .ref a ∧ (∃ xs, SqL K H1 a xs) ∧ R (Itl K a) H1) ∨ (∃ a, x = .ref a ∧ (∃ xs, SqT K H1 a xs) ∧ R (Itt K a) H1) ∨ ∃ y, x = .str y ∧ R (Its y) H1
theorem pi_any {te : TE} (hl : PE X e te) : PI X tg e (fun σ H R => te σ H fun x H1 => rIt X.K x H1 R) := by
  refine ⟨fun pins s σ H R I h => thn (hl.run pins s σ H _ I h) fun v s1 hh => ?_⟩
  obtain ⟨x, H1, I1, r1, q⟩ := hh
  rcases q with ⟨a, rfl, ⟨xs, hq⟩, q⟩ | ⟨a, rfl, ⟨xs, hq⟩, q⟩ | ⟨y, rfl, q⟩
  · cases r1
    obtain ⟨its, rv, p, hz⟩ := I1.list hq
    exact wpAny_pyIter_list p.isList (pi_one (tk := s1.toks) I1 _ (turn_list a _) ⟨_, Heap.get?_push_size _ rfl, rfl, rfl⟩ q)
  · cases r1
    obtain ⟨its, rv, p, hz⟩ := I1.tuple hq
    exact wpAny_pyIter_tuple (show s1.heap.IsTuple a its.toArray from p) (pi_one (tk := s1.toks) I1 _ (turn_tuple a _) ⟨_, Heap.get?_push_size _ rfl, rfl, rfl⟩ q)
  · obtain ⟨t, rfl⟩ := r1
    cases ha : y.cps.all (· < 128)
    · exact wpAny_pyIter_wide ha (pi_one (tk := s1.toks) I1 _ (turn_str _ y t "str_iterator" (.inr rfl)) ⟨_, Heap.get?_push_size _ rfl, rfl, rfl⟩ q)
    · exact wpAny_pyIter_ascii ha (pi_one (tk := s1.toks) I1 _ (turn_str _ y t "str_ascii_iterator" (.inl rfl)) ⟨_, Heap.get?_push_size _ rfl, rfl, rfl⟩ q)
theorem mi_any {f : En → R Tk} (h : ME X S W e f) : MI X S W tg e (mIt f) := (pi_any h).wk fun σ H R ⟨F, env, O, w, p⟩ => by
  refine ⟨F, env, O, w, PostE.mono (PostE.bind p) fun F1 H1 e1 t t1 w1 q v tk => ?_⟩
  obtain ⟨F2, e2, d, t2, w2, rd, q2⟩ := frc_k w1 tk (PostE.bind q)
  cases z : itD d with
  | none => rw [z] at q2; exact q2.elim
  | some ds =>
    rw [z] at q2
    cases d <;> first | (cases z; done) | skip
    · cases z
      cases rd with
      | str s => exact .inr (.inr ⟨_, rfl, PostE.ok w2 q2 _ itm_str⟩)
    · cases z
      cases rd with
      | lst hp r => exact .inl ⟨_, rfl, ⟨_, .inl (.inl (w2.get hp fun _ z => nomatch z))⟩, PostE.ok w2 q2 _ (itm_list (.inl (.inl hp)) r)⟩
    · cases z
      cases rd with
      | frl hp r => exact .inl ⟨_, rfl, ⟨_, w2.sqL hp⟩, PostE.ok w2 q2 _ (itm_list hp r)⟩
    · cases z
      cases rd with
      | tup hp r => exact .inr (.inl ⟨_, rfl, ⟨_, w2.sqT hp⟩, PostE.ok w2 q2 _ (itm_tup hp r)⟩)
/-! ### range -/
def dRng1 : List D → Option (List D)
  | [.int j] => if -(2 ^ 62) ≤ j ∧ j < 2 ^ 62 then some (rngD 0 j) else none
  | _ => none
def dRng2 : List D → Option (List D)
  | [.int i, .int j] => if -(2 ^ 62) ≤ i ∧ i < 2 ^ 62 ∧ -(2 ^ 62) ≤ j ∧ j < 2 ^ 62 then some (rngD i j) else none
  | _ => none
theorem dRng1_inv {l ds : List D} (h : dRng1 l = some ds) : ∃ j, l = [.int j] ∧ (-(2 ^ 62) ≤ j ∧ j < 2 ^ 62) ∧ ds = rngD 0 j := by
  unfold dRng1 at h
  split at h
  · split at h
    · rename_i j hb
      cases h
      exact ⟨j, rfl, hb, rfl⟩
    · cases h
  · cases h
theorem dRng2_inv {l ds : List D} (h : dRng2 l = some ds) : ∃ i j, l = [.int i, .int j] ∧ (-(2 ^ 62) ≤ i ∧ i < 2 ^ 62 ∧ -(2 ^ 62) ≤ j ∧ j < 2 ^ 62) ∧ ds = rngD i j := by
  unfold dRng2 at h
  split at h
  · split at h
    · rename_i i j hb
      cases h
      exact ⟨i, j, rfl, hb, rfl⟩
    · cases h
  · cases h
/-- .. of arguments -/
def mItA (g : List D → Option (List D)) (f : En → R (List Ar)) (e : En) : R (List D) := (f e).bind fun as e1 => match (dsOf as).bind g with
  | some ds => .ok ds e1
  | none => .no
theorem mItA_k {g : List D → Option (List D)} {f : En → R (List Ar)} {σ : St} {F H : Hp} {env : En} {O : Addr → Prop} {R' : It → Hp → Prop} {r : List V → Hp → Prop} (h : MA X S W es f) (w : Wf X.K X.mg S O F H σ env)
    (q : PostE X.K X.mg S O W F H σ (mItA g f env) (fun F' H' e' ds => ∀ J, ItM X.K X.mg J F' noLk ds → R' J H')) (fin : ∀ F H env vs l ds, Wf X.K X.mg S O F H σ env → Reps X.K X.mg F l vs → g l = some ds → (∀ J, ItM X.K X.mg J F noLk ds → R' J H) → r vs H) : tMA X S W f σ H r := by
  refine ⟨F, env, O, w, PostE.mono (PostE.bind q) fun F1 H1 e1 as t1 w1 q vs ra => ?_⟩
  cases z : (dsOf as).bind g with
  | none => rw [z] at q; exact q.elim
  | some ds =>
    rw [z] at q
    obtain ⟨l, h1, h2⟩ := Option.bind_eq_some_iff.mp z
    exact fin F1 H1 e1 vs l ds w1 (dsOf_ok ra h1) h2 (PostE.ok w1 q)
theorem mi_range1 {f : En → R (List Ar)} (hg : Gl X "range") (hm : X.mg "range" = none) (ha : MA X S W [a] f) (hs : starEach [a] X.env = [(false, eval a X.env)] := by rfl) : MI X S W tg (.Call (.Name "range" p) [a] [] pos) (mItA dRng1 f) :=
  (pi_range1 hg hm ha hs).wk fun σ H R ⟨F, env, O, w, q⟩ => mItA_k ha w q fun F H env vs l ds w r h fin => by
    obtain ⟨j, rfl, hb, rfl⟩ := dRng1_inv h
    cases r with
    | cons rd rr =>
      cases rr
      cases rd
      refine ⟨_, rfl, hb.1, hb.2, ?_⟩
      have := fin _ (itm_rng (lo := 0) (hi := j))
      simpa using this
theorem mi_range2 {f : En → R (List Ar)} (hg : Gl X "range") (hm : X.mg "range" = none) (ha : MA X S W [a, b] f) (hs : starEach [a, b] X.env = [(false, eval a X.env), (false, eval b X.env)] := by rfl) (hs2 : starEach [b] X.env = [(false, eval b X.env)] := by rfl) : MI X S W tg (.Call (.Name "range" p) [a, b] [] pos) (mItA dRng2 f) :=
  (pi_range2 hg hm ha hs hs2).wk fun σ H R ⟨F, env, O, w, q⟩ => mItA_k ha w q fun F H env vs l ds w r h fin => by
    obtain ⟨i, j, rfl, hb, rfl⟩ := dRng2_inv h
    cases r with
    | cons rd rr =>
      cases rr with
      | cons rd2 rr =>
        cases rr
        cases rd
        cases rd2
        exact ⟨_, _, rfl, hb, fin _ itm_rng⟩
/-! ### zip, enumerate: lists -/
def listD : D → Option (List D)
  | .lst ds => some ds
  | .frl ds => some ds
  | _ => none
def dZip : List D → Option (List D)
  | [a, b] => (listD a).bind fun xs => (listD b).map fun ys => xs.zipWith (fun x y => .tup [x, y]) ys
  | _ => none
def dEnum (n : Int) : List D → Option (List D)
  | [a] => (listD a).map fun xs => xs.mapIdx fun i x => .tup [.int (n + (i : Nat)), x]
  | _ => none
theorem listD_ok {K : PySem.W.Frag} {mg : Str → Option Value} {F : Hp} {d : D} {v : V} {ds : List D} (r : Rep K mg F d v) (e : listD d = some ds) : ∃ a xs, v = .ref a ∧ SqL K F a xs ∧ Reps K mg F ds xs := by
  cases d <;> first | (cases e; done) | skip
  · cases e
    cases r with
    | lst hp r => exact ⟨_, _, rfl, .inl (.inl hp), r⟩
  · cases e
    cases r with
    | frl hp r => exact ⟨_, _, rfl, hp, r⟩
theorem itm_zip {K : PySem.W.Frag} {mg : Str → Option Value} {F0 : Hp} {a b : Addr} {xs ys : List V} {ds es : List D} (h : SqL K F0 a xs) (r : Reps K mg F0 ds xs) (h2 : SqL K F0 b ys) (r2 : Reps K mg F0 es ys) : ItM K mg (Itz K a b) F0 noLk (ds.zipWith (fun x y => .tup [x, y]) es) where
  go := fun S O F H σ env i s w _ hi => by
    rw [List.length_zipWith] at hi
    obtain ⟨v, hv, _⟩ := r.get' (List.getElem?_eq_getElem (show i < ds.length by omega))
    obtain ⟨u, hu, _⟩ := r2.get' (List.getElem?_eq_getElem (show i < es.length by omega))
    exact ⟨xs, ys, v, u, w.sqLF s h, w.sqLF s h2, hv, hu⟩
  stop := fun S O F H σ env i s w _ hi => by
    rw [List.length_zipWith] at hi
    exact ⟨xs, ys, w.sqLF s h, w.sqLF s h2, by rw [r.length, r2.length]; omega⟩
  yld := fun S O F H σ env i x H' s w _ hi y => by
    obtain ⟨T, x1, y1, e, hT, eH, z1, z2⟩ := y
    obtain ⟨d, d1, d2⟩ := r.get (z1 xs (w.sqLF s h))
    obtain ⟨d', d3, d4⟩ := r2.get (z2 ys (w.sqLF s h2))
    exact ⟨.tup [d, d'], by rw [List.getElem?_zipWith, d1, d3], .inr (.inl ⟨T, _, _, e, hT, eH, rfl, .cons (d2.mono s) (.cons (d4.mono s) .nil)⟩)⟩
theorem itm_enum {K : PySem.W.Frag} {mg : Str → Option Value} {F0 : Hp} {a : Addr} {xs : List V} {ds : List D} (h : SqL K F0 a xs) (r : Reps K mg F0 ds xs) : ItM K mg (Ite K a) F0 noLk (ds.mapIdx fun i x => .tup [.int (0 + (i : Nat)), x]) where
  go := fun S O F H σ env i s w _ hi => by
    rw [List.length_mapIdx] at hi
    obtain ⟨v, hv, _⟩ := r.get' (List.getElem?_eq_getElem hi)
    exact ⟨xs, v, w.sqLF s h, hv⟩
  stop := fun S O F H σ env i s w _ hi => by
    rw [List.length_mapIdx] at hi
    exact ⟨xs, w.sqLF s h, by rw [r.length]; omega⟩
  yld := fun S O F H σ env i x H' s w _ hi y => by
    obtain ⟨T, x1, e, hT, eH, z1⟩ := y
    obtain ⟨d, d1, d2⟩ := r.get (z1 xs (w.sqLF s h))
    exact ⟨.tup [.int (i : Nat), d], by rw [List.getElem?_mapIdx, d1]; simp, .inr (.inl ⟨T, _, _, e, hT, eH, rfl, .cons (.int _) (.cons (d2.mono s) .nil)⟩)⟩
theorem mi_zip {elts : List Expr} {kk : Nat} {tpos : Pos} {f : En → R (List Ar)} (hg : Gl X "zip") (hm : X.mg "zip" = none) (ha : MA X S W [a, b] f) (hs : starEach [a, b] X.env = (false, eval a X.env) :: starEach [b] X.env := by rfl) (hpl : (backTo pos (starEach [b] X.env)).any (·.1) = false := by rfl) :
    MI X S W (.Tuple elts kk tpos) (.Call (.Name "zip" p) [a, b] [] pos) (mItA dZip f) :=
  (pi_zip hg hm ha hs hpl).wk fun σ H R ⟨F, env, O, w, q⟩ => mItA_k ha w q fun F H env vs l ds w r h fin => by
    match l, vs, r, h with
    | [d1, d2], _, .cons r1 (.cons r2 .nil), h =>
      obtain ⟨xs, h1, h2⟩ := Option.bind_eq_some_iff.mp (show (listD d1).bind (fun xs => (listD d2).map fun ys => xs.zipWith (fun x y => D.tup [x, y]) ys) = some ds from h)
      obtain ⟨ys, h3, rfl⟩ := Option.map_eq_some_iff.mp h2
      obtain ⟨a1, v1, rfl, s1, p1⟩ := listD_ok r1 h1
      obtain ⟨a2, v2, rfl, s2, p2⟩ := listD_ok r2 h3
      exact ⟨a1, a2, v1, v2, rfl, w.sqL s1, w.sqL s2, fin _ (itm_zip s1 p1 s2 p2)⟩
theorem mi_enum {elts : List Expr} {kk : Nat} {tpos : Pos} {f : En → R (List Ar)} (hg : Gl X "enumerate") (hm : X.mg "enumerate" = none) (ha : MA X S W [a] f) (hs : starEach [a] X.env = [(false, eval a X.env)] := by rfl) :
    MI X S W (.Tuple elts kk tpos) (.Call (.Name "enumerate" p) [a] [] pos) (mItA (dEnum 0) f) :=
  (pi_enum hg hm ha hs).wk fun σ H R ⟨F, env, O, w, q⟩ => mItA_k ha w q fun F H env vs l ds w r h fin => by
    match l, vs, r, h with
    | [d1], _, .cons r1 .nil, h =>
      obtain ⟨xs, h1, rfl⟩ := Option.map_eq_some_iff.mp (show (listD d1).map (fun xs => xs.mapIdx fun i x => D.tup [.int (0 + (i : Nat)), x]) = some ds from h)
      obtain ⟨a1, v1, rfl, s1, p1⟩ := listD_ok r1 h1
      exact ⟨a1, v1, rfl, w.sqL s1, fin _ (itm_enum s1 p1)⟩

/-! ### targets -/
/-- js: the slots that may change -/
def MGk (K : PySem.W.Frag) (mg : Str → Option Value) (S : Su) (js : List Nat) (a : D → En → R Unit) (g : TG) : Prop := ∀ (O : Addr → Prop) (F H : Hp) (σ : St) (env : En) (x : V) (d : D) (e' : En) (Q : St → Hp → Prop), Wf K mg S O F H σ env → Rep K mg F d x → a d env = .ok () e' →
  (∀ σ', Wf K mg S O F H σ' e' → (∀ vs : List Nat, (∀ j ∈ js, j ∈ vs) → wipe σ' vs = wipe σ vs) → Q σ' H) → g x σ H Q
def MG (X : Cx) (S : Su) (tg : Expr) (js : List Nat) (a : D → En → R Unit) (g : TG) : Prop := PG X tg g ∧ MGk X.K X.mg S js a g
def mTgN (i : Nat) (d : D) (e : En) : R Unit := asg i (.val d) e
theorem wipe_get {σ : St} : ∀ {vs : List Nat} {i : Nat}, (wipe σ vs)[i]? = if i ∈ vs then (σ[i]?).map (fun _ => none) else σ[i]?
  | [], i => by simp [wipe]
  | v :: vs, i => by
    unfold wipe
    rw [List.getElem?_set, wipe_length, wipe_get]
    by_cases e : v = i
    · subst e
      simp only [if_true, List.mem_cons, true_or]
      by_cases l : v < σ.length
      · rw [if_pos l, List.getElem?_eq_getElem l]; rfl
      · rw [if_neg l, List.getElem?_eq_none (by omega)]; rfl
    · rw [if_neg e]
      have : (i ∈ v :: vs) ↔ i ∈ vs := by
        constructor
        · intro h
          rcases List.mem_cons.mp h with h | h
          · exact absurd h.symm e
          · exact h
        · exact fun h => List.mem_cons_of_mem _ h
      simp only [this]
theorem wipe_set {σ : St} {vs : List Nat} {i : Nat} {x : Option V} (h : i ∈ vs) : wipe (σ.set i x) vs = wipe σ vs := by
  apply List.ext_getElem?
  intro j
  rw [wipe_get, wipe_get]
  by_cases e : i = j
  · subst e
    rw [if_pos h, if_pos h, List.getElem?_set]
    by_cases l : i < σ.length
    · rw [if_pos rfl, if_pos l, List.getElem?_eq_getElem l]; rfl
    · rw [if_pos rfl, if_neg l, List.getElem?_eq_none (by omega)]
  · rw [List.getElem?_set_ne e]
theorem mgk_name {K : PySem.W.Frag} {mg : Str → Option Value} {i : Nat} : MGk K mg S [i] (mTgN i) (gName i) := fun O F H σ env x d e' Q w r e fin => by
    obtain ⟨F', t1, w1⟩ := asg_ok (t := .val d) w r e
    have e2 : asgS i (.val d) env (env[i]?) = .ok () e' := e
    have ee : e' = env.set i (.sh d) := by
      cases q : env[i]? with
      | none => rw [q] at e2; cases e2
      | some s => rw [q] at e2; cases s <;> cases e2 <;> rfl
    subst ee
    exact fin _ (w.put_sh r) fun vs h => wipe_set (h i (by simp))
theorem mg_name {i : Nat} {x : Str} (hN : X.N.Nodup) (hi : X.N[i]? = some x) (hx : Loc X.env.scope x) (hf : X.fn x = true ∨ X.env.scope.names.lookup x = some .local := by first | exact .inl rfl | exact .inr rfl | assumption) : MG X S (.Name x pos) [i] (mTgN i) (gName i) := ⟨pg_name hN hi hx hf, mgk_name⟩
/-- several, of a tuple -/
def mTgs : List (D → En → R Unit) → List D → En → R Unit
  | [], [], e => .ok () e
  | a :: as, d :: ds, e => (a d e).bind fun _ e1 => mTgs as ds e1
  | _, _, _ => .no
def mTgT (as : List (D → En → R Unit)) (d : D) (e : En) : R Unit := match d with
  | .tup ds => mTgs as ds e
  | _ => .no
def MGks (K : PySem.W.Frag) (mg : Str → Option Value) (S : Su) (js : List Nat) (as : List (D → En → R Unit)) (g : TGs) : Prop := ∀ (O : Addr → Prop) (F H : Hp) (σ : St) (env : En) (xs : List V) (ds : List D) (e' : En) (Q : St → Hp → Prop), Wf K mg S O F H σ env → Reps K mg F ds xs → mTgs as ds env = .ok () e' →
  (∀ σ', Wf K mg S O F H σ' e' → (∀ vs : List Nat, (∀ j ∈ js, j ∈ vs) → wipe σ' vs = wipe σ vs) → Q σ' H) → xs.length = as.length ∧ g xs σ H Q
def MGs (X : Cx) (S : Su) (ts : List Expr) (js : List Nat) (as : List (D → En → R Unit)) (g : TGs) : Prop := PGs X ts g ∧ MGks X.K X.mg S js as g
section
variable {K : PySem.W.Frag} {mg : Str → Option Value}
theorem mgks_nil : MGks K mg S [] [] gNil := fun O F H σ env xs ds e' Q w r e fin => by
  cases r with
  | nil => cases e; exact ⟨rfl, rfl, fin σ w fun _ _ => rfl⟩
  | cons _ _ => cases e
theorem mgks_cons {js js' : List Nat} {a : D → En → R Unit} {as : List (D → En → R Unit)} {g : TG} {gs : TGs} (k1 : MGk K mg S js a g) (k2 : MGks K mg S js' as gs) : MGks K mg S (js ++ js') (a :: as) (gCons g gs) := fun O F H σ env xs ds e' Q w r e fin => by
  cases r with
  | nil => cases e
  | cons rd rr =>
    rename_i d v ds vs
    have e0 : (a d env).bind (fun _ e1 => mTgs as ds e1) = .ok () e' := e
    cases z : a d env with
    | no => rw [z] at e0; cases e0
    | er c x e1 => rw [z] at e0; cases e0
    | ok u e1 =>
      rw [z] at e0
      -- the length, by the rest
      have hl : vs.length = as.length := by
        have key : ∀ (as : List (D → En → R Unit)) (ds : List D) (e e' : En), mTgs as ds e = .ok () e' → ds.length = as.length := by
          intro as
          induction as with
          | nil => intro ds e e' h; cases ds <;> first | rfl | cases h
          | cons a as ih =>
            intro ds e e' h
            cases ds with
            | nil => cases h
            | cons d ds =>
              have h' : (a d e).bind (fun _ e1 => mTgs as ds e1) = .ok () e' := h
              cases q : a d e with
              | no => rw [q] at h'; cases h'
              | er _ _ _ => rw [q] at h'; cases h'
              | ok _ e1 => rw [q] at h'; exact congrArg Nat.succ (ih ds e1 e' h')
        rw [rr.length]
        exact key as ds e1 e' e0
      refine ⟨congrArg Nat.succ hl, v, vs, rfl, k1 O F H σ env v d e1 _ w rd z fun σ1 w1 wi1 => ?_⟩
      refine (k2 O F H σ1 e1 vs ds e' Q w1 rr e0 fun σ2 w2 wi2 => fin σ2 w2 fun vs' hv => ?_).2
      rw [wi2 vs' fun j hj => hv j (List.mem_append_right _ hj), wi1 vs' fun j hj => hv j (List.mem_append_left _ hj)]
theorem mgk_tup {js : List Nat} {as : List (D → En → R Unit)} {g : TGs} (k1 : MGks K mg S js as g) : MGk K mg S js (mTgT as) (gTup K as.length g) := fun O F H σ env x d e' Q w r e fin => by
  cases d <;> first | (cases e; done) | skip
  cases r with
  | tup hp rr =>
    obtain ⟨hl, q⟩ := k1 O F H σ env _ _ e' Q w rr e fin
    exact ⟨_, _, rfl, w.sqT hp, hl, q⟩
end
theorem mgs_nil : MGs X S [] [] [] gNil := ⟨pgs_nil, mgks_nil⟩
theorem mgs_cons {ts : List Expr} {js js' : List Nat} {a : D → En → R Unit} {as : List (D → En → R Unit)} {g : TG} {gs : TGs} (h1 : MG X S tg js a g) (h2 : MGs X S ts js' as gs) (hs : (assignEach (tg :: ts) X.env).map (·.2) = assign tg X.env :: (assignEach ts X.env).map (·.2) := by rfl) : MGs X S (tg :: ts) (js ++ js') (a :: as) (gCons g gs) :=
  ⟨pgs_cons h1.1 h2.1 hs, mgks_cons h1.2 h2.2⟩
theorem mg_tup {ts : List Expr} {k : Nat} {js : List Nat} {as : List (D → En → R Unit)} {g : TGs} (hc : X.calm = true) (h : MGs X S ts js as g) (hn : (assignEach ts X.env).length = as.length := by rfl) (hst : (assignEach ts X.env).findIdx? (·.1) = none := by rfl) : MG X S (.Tuple ts k pos) js (mTgT as) (gTup X.K as.length g) :=
  ⟨pg_tup hc h.1 hn hst, mgk_tup h.2⟩
def okU {β : Type} (r : R Unit) (k : En → R β) : R β := match r with
  | .ok _ e => k e
  | _ => .no
/-- a, b = e -/
def mAsgT (a : D → En → R Unit) (f : En → R Tk) (e : En) : R Fl := (f e).bind fun t e1 => (frc t e1).bind fun d e2 => okU (a d e2) fun e3 => .ok .nx e3
theorem ms_asg {js : List Nat} {at_ : D → En → R Unit} {f : En → R Tk} {g : TG} (h : ME X S W e f) (hg : MG X S tg js at_ g) (hs : swapsWithSole [tg] e pos.line X.env = pure false := by rfl) (hw : swappedStores [tg] e X.env = pure none := by rfl)
    (h1 : (assignEach [tg] X.env).map (·.2) = [assign tg X.env] := by rfl) : MS X S W (.Assign [tg] e pos) (mAsgT at_ f) := by
  obtain ⟨p, k⟩ := hg
  refine (ps_asg h p hs hw h1).wk fun D σ H ⟨F, env, O, w, q⟩ => ?_
  refine ⟨F, env, O, w, PostE.mono (Post.toE q) fun F1 H1 e1 t t1 w1 q v tk => ?_⟩
  obtain ⟨F2, e2, d, t2, w2, rd, q2⟩ := frc_k w1 tk (Post.toE q)
  cases z : at_ d e2 with
  | no => rw [z] at q2; exact q2.elim
  | er c x e3 => rw [z] at q2; exact q2.elim
  | ok u e3 =>
    rw [z] at q2
    exact k O F2 H1 σ e2 v d e3 _ w2 rd z fun σ' w3 _ => q2 σ' F2 H1 Tr.refl w3

/-! ### for -/
def aft : R Fl → (En → R Fl) → R Fl
  | .ok .nx e, k => k e
  | .ok .ct e, k => k e
  | .ok .bk e, _ => .ok .nx e
  | .ok (.rt t) e, _ => .ok (.rt t) e
  | .er c x e, _ => .er c x e
  | .no, _ => .no
def loopF (a : D → En → R Unit) (g : En → R Fl) : List D → En → R Fl
  | [], e => .ok .nx e
  | d :: ds, e => okU (a d e) fun e1 => aft (g e1) (loopF a g ds)
def mFor (fi : En → R (List D)) (a : D → En → R Unit) (g : En → R Fl) (e : En) : R Fl := (fi e).bind fun ds e1 => loopF a g ds e1
theorem aft_ok {O : Addr → Prop} {F H : Hp} {r : R Fl} {k : En → R Fl} {En' : Ends} {N : St → Hp → Prop} (p : Post X.K X.mg S O W F H (aft r k) (endK X.K X.mg O En')) (hN : ∀ e σ' F' H', Tr O F H F' H' → Wf X.K X.mg S O F' H' σ' e → Post X.K X.mg S O W F' H' (k e) (endK X.K X.mg O En') → N σ' H') :
    Post X.K X.mg S O W F H r (endK X.K X.mg O { En' with nx := N, ct := N, bk := En'.nx }) := by
  cases r with
  | no => exact p
  | er c x e => exact p
  | ok fl e =>
    cases fl with
    | nx => exact fun σ' F' H' t w => hN e σ' F' H' t w (Post.on p t)
    | ct => exact fun σ' F' H' t w => hN e σ' F' H' t w (Post.on p t)
    | bk => exact p
    | rt t => exact p
theorem for_core {J : It} {lk : Hp → Prop} {F H : Hp} {ds : List D} {O : Addr → Prop} {σ : St} {env : En} {js : List Nat} {a : D → En → R Unit} {gb : En → R Fl} {g : TG} {En' : Ends} (m : ItM X.K X.mg J F lk ds) (hl : lk H) (hlk : ∀ F H F' H', Tr O F H F' H' → lk H → lk H') (w : Wf X.K X.mg S O F H σ env)
    (p : Post X.K X.mg S O W F H (loopF a gb ds env) (endK X.K X.mg O En'))
    (k : MGk X.K X.mg S js a g) :
    ∃ Wn : Nat → Nat → St → Hp → Prop, (∃ m, Wn 0 m σ H) ∧ ∀ i m σ H, Wn i m σ H → (J.stop i H ∧ En'.nx σ H) ∨ (J.go i H ∧ ∃ N : St → Hp → Prop, (∀ σ' H', N σ' H' → ∃ m', m' < m ∧ Wn (i + 1) m' σ' H') ∧ ∀ x H', J.yld i H x H' →
      g x σ H' fun σ2 H2 => tMS X S W gb { En' with nx := N, ct := N, bk := En'.nx } σ2 H2) := by
  refine ⟨fun i n σ' H' => n = ds.length - i ∧ i ≤ ds.length ∧ lk H' ∧ ∃ F' env', Sub F F' ∧ Wf X.K X.mg S O F' H' σ' env' ∧ Post X.K X.mg S O W F' H' (loopF a gb (ds.drop i) env') (endK X.K X.mg O En'), ⟨ds.length, by simp, Nat.zero_le _, hl, F, env, Sub.rfl', w, p⟩, ?_⟩
  rintro i n σ1 H1 ⟨rfl, hi, hl1, F1, e1, s1, w1, p1⟩
  by_cases hlt : i < ds.length
  · refine .inr ⟨m.go S O F1 H1 σ1 e1 i s1 w1 hl1 hlt, fun σ' H' => lk H' ∧ ∃ F' env', Sub F F' ∧ Wf X.K X.mg S O F' H' σ' env' ∧ Post X.K X.mg S O W F' H' (loopF a gb (ds.drop (i + 1)) env') (endK X.K X.mg O En'), fun σ' H' hN => ⟨ds.length - (i + 1), by omega, rfl, hlt, hN⟩, fun x H2 y => ?_⟩
    obtain ⟨d, F2, h1, t2, w2, rd⟩ := m.item s1 w1 hl1 hlt y
    have e0 : ds.drop i = d :: ds.drop (i + 1) := by
      rw [List.drop_eq_getElem_cons hlt]
      rw [List.getElem?_eq_getElem hlt] at h1
      rw [Option.some.inj h1]
    rw [e0] at p1
    have p2 : Post X.K X.mg S O W F1 H1 (okU (a d e1) fun e2 => aft (gb e2) (loopF a gb (ds.drop (i + 1)))) (endK X.K X.mg O En') := p1
    cases z : a d e1 with
    | no => rw [z] at p2; exact p2.elim
    | er c x e => rw [z] at p2; exact p2.elim
    | ok u e2 =>
      rw [z] at p2
      refine k O F2 H2 σ1 e1 x d e2 _ w2 rd z fun σ' w3 _ => ⟨F2, e2, O, w3, ?_⟩
      exact aft_ok (Post.on p2 t2) fun e σ'' F' H' t w4 q => ⟨hlk _ _ _ _ (t2.trans t) hl1, F', e, (s1.trans t2.fz).trans t.fz, w4, q⟩
  · have e : i = ds.length := by omega
    subst e
    refine .inl ⟨m.stop S O F1 H1 σ1 e1 _ s1 w1 hl1 (Nat.le_refl _), ?_⟩
    rw [List.drop_length] at p1
    exact p1 σ1 F1 H1 Tr.refl w1
theorem ms_for {iter : Expr} {body : List Stmt} {js : List Nat} {fi : En → R (List D)} {a : D → En → R Unit} {gb : En → R Fl} {g : TG} (hp : PassesOwn (model X.prog X.w) X.A X.env X.xe) (hc : X.calm = true) (hi : MI X S W tg iter fi) (hg : MG X S tg js a g) (hb : MSs X S W body gb)
    (hs : ∀ x, foldedSetIterable iter X.env x = pure x := by intro _; rfl) : MS X S W (.For tg iter body [] pos) (mFor fi a gb) := by
  obtain ⟨pg, k⟩ := hg
  refine (ps_for hp hc hi pg hb hs).wk fun D σ H ⟨F, env, O, w, p⟩ => ?_
  refine ⟨F, env, O, w, PostE.mono (Post.toE p) fun F1 H1 e1 ds t1 w1 q J m => ?_⟩
  exact for_core m trivial (fun _ _ _ _ _ h => h) w1 q k
/-! ### over a dict -/
/-- the same heap, or with the dict at a locked -/
def LkH (H : Hp) (a : Addr) (ks : List (Key × V)) (H2 : Hp) : Prop := H2 = H ∨ ∃ od, H2 = upd H a (.frz od (.dK ks))
/-- an expression that reads a dict: where it stands -/
def DR (X : Cx) (S : Su) (e : Expr) (fd : En → R (List (Key × D))) : Prop := ∃ td : TE, PE X e td ∧ ∀ (O : Addr → Prop) (F H : Hp) (σ : St) (env : En) (W : WX) (k : Hp → Hp → En → List (Key × D) → Prop), Wf X.K X.mg S O F H σ env → PostE X.K X.mg S O W F H σ (fd env) k →
  ∃ F' e' kvs a ks, Tr O F H F' H ∧ Wf X.K X.mg S O F' H σ e' ∧ F' a = some (.dK ks) ∧ RepK X.K X.mg F' kvs ks ∧ k F' H e' kvs ∧ ∀ (Q : VK) (H2 : Hp), LkH H a ks H2 → Q (.ref a) H2 → td σ H2 Q
def dctD : D → Option (List (Key × D))
  | .dct kvs => some kvs
  | _ => none
def okD (e : En) : Option (List (Key × D)) → R (List (Key × D))
  | some kvs => .ok kvs e
  | none => .no
def mDRn (i : Nat) (e : En) : R (List (Key × D)) := (frc (.nm i) e).bind fun d e1 => okD e1 (dctD d)
theorem dr_name {x : Str} {i : Nat} (h : PE X (.Name x pos) (tVar i)) : DR X S (.Name x pos) (mDRn i) := ⟨tVar i, h, fun O F H σ env W k w p => by
  -- what stands in the slot
  have hv : ∃ v, σ[i]? = some (some v) := by
    unfold mDRn at p
    have e0 : frc (.nm i) env = frcS i env (env[i]?) := rfl
    cases e : env[i]? with
    | none => rw [e0, e] at p; exact p.elim
    | some s =>
      rw [e0, e] at p
      obtain ⟨u, hu, ok⟩ := w.sl i s e
      cases s with
      | sh d => obtain ⟨x, ex, _⟩ := ok; exact ⟨x, by rw [hu, ex]⟩
      | ow d => obtain ⟨q, o, ex, _⟩ := ok; exact ⟨_, by rw [hu, ex]⟩
      | no => exact p.elim
      | io d => exact p.elim
      | ex f d => exact p.elim
  obtain ⟨v, hv⟩ := hv
  obtain ⟨F', e', d, t1, w1, rd, q⟩ := frc_k (t := .nm i) w hv (PostE.bind p)
  cases d <;> first | exact q.elim | skip
  rename_i kvs
  cases rd with
  | dct hp r => exact ⟨F', e', kvs, _, _, t1, w1, hp, r, PostE.ok w1 q, fun Q H2 _ qq => ⟨_, hv, qq⟩⟩⟩
def fldDct (cs : List Str) (f : Str) : Option D → Option (List (Key × D))
  | some d => (fldD cs f d).bind dctD
  | none => none
def mDRf (i : Nat) (cs : List Str) (f : Str) (e : En) : R (List (Key × D)) := okD e (fldDct cs f ((e[i]?).bind Sl.pk))
theorem dr_fld {x f : Str} {i : Nat} {cs : List Str} {pos' : Pos} (hc : FldOk X cs f) (h : PE X (.Name x pos) (tVar i)) (hb : attributeBase (.Name x pos) f X.env (eval (.Name x pos) X.env) = eval (.Name x pos) X.env := by rfl) : DR X S (.Attribute (.Name x pos) f pos') (mDRf i cs f) := ⟨tFld X.K (tVar i) f, pe_fld h hb, fun O F H σ env W k w p => by
  unfold mDRf at p
  cases e : (env[i]?).bind Sl.pk with
  | none => rw [e] at p; exact p.elim
  | some d =>
    rw [e] at p
    obtain ⟨s, e1, e2⟩ := Option.bind_eq_some_iff.mp e
    obtain ⟨u, hu, ok⟩ := w.sl i s e1
    have hv : ∃ v, u = some v := by
      cases s with
      | sh d => obtain ⟨x, ex, _⟩ := ok; exact ⟨_, ex⟩
      | ow d => obtain ⟨q, o, ex, _⟩ := ok; exact ⟨_, ex⟩
      | io d => obtain ⟨q, o, _, ex, _⟩ := ok; exact ⟨_, ex⟩
      | no => cases e2
      | ex f d => cases e2
    obtain ⟨v, rfl⟩ := hv
    have pk := ok.pk e2 rfl
    unfold fldDct at p
    simp only at p
    cases z : fldD cs f d with
    | none => rw [z] at p; exact p.elim
    | some d2 =>
      rw [z] at p
      simp only [Option.bind_some] at p
      cases d2 <;> first | exact p.elim | skip
      rename_i kvs
      cases d <;> first | (cases z; done) | skip
      rename_i c fs
      simp only [fldD] at z
      split at z
      · rename_i hm
        obtain ⟨p1, C, dx, vs, ev, hC, hp, r⟩ := pk.ins w
        obtain ⟨c1, c2⟩ := hc c (by simpa using hm) C hC
        rcases r.lookup f with ⟨z1, _⟩ | ⟨d', v', z1, z2, z3⟩
        · rw [z1] at z; cases z
        · rw [z1] at z
          cases z
          cases z3 with
          | @dct a ks _ ha rr =>
            refine ⟨F, env, kvs, a, ks, Tr.refl, w, ha, rr, PostE.ok w p, fun Q H2 l qq => ?_⟩
            have hne : p1 ≠ a := fun e => by
              subst e
              rcases w.fz p1 _ ha with y | ⟨o, ks', _, y⟩
              · rw [hp] at y; cases y
              · rw [hp] at y; cases y
            have h2 : H2 p1 = some (.ins C dx vs) := by
              rcases l with rfl | ⟨od, rfl⟩
              · exact hp
              · rw [upd_ne hne]; exact hp
            exact ⟨v, hu, p1, C, dx, vs, .ref a, ev, h2, c1, c2, z2, qq⟩
      · cases z⟩
theorem Wf.lock {K : PySem.W.Frag} {mg : Str → Option Value} {O : Addr → Prop} {F H : Hp} {σ : St} {env : En} {a : Addr} {u0 : HO} {od : Obj} (w : Wf K mg S O F H σ env) (ha : F a = some u0) (hH : H a = some u0) (hu0 : dk u0 = true := by rfl) :
    Wf K mg S (fun b => O b ∨ b = a) F (upd H a (.frz od u0)) σ env ∧ Tr O F H F (upd H a (.frz od u0)) := by
  have hO : ¬ O a := fun q => by
    obtain ⟨o, e⟩ := w.od a _ q ha hu0
    rw [hH] at e; cases e
  have nf : ∀ {b : Addr}, F b = none → b ≠ a := fun h e => by subst e; rw [ha] at h; cases h
  refine ⟨⟨fun b u h => ?_, fun i s h => ?_, w.ds, fun b q => ?_, fun b q => ?_, fun b ks' q h hd => ?_⟩, ⟨Sub.rfl', fun b q => upd_ne fun e => hO (by rw [← e]; exact q), fun _ _ => rfl, fun b u q => ?_⟩⟩
  · by_cases e : b = a
    · subst e
      rw [ha] at h; cases h
      exact .inr ⟨od, (), hu0, upd_same⟩
    · rw [upd_ne e]; exact w.fz b u h
  · obtain ⟨v, hv, ok⟩ := w.sl i s h
    refine ⟨v, hv, ?_⟩
    cases s with
    | no => trivial
    | sh d => exact ok
    | ow d => obtain ⟨p, o, ex, hf, ho, ht⟩ := ok; exact ⟨p, o, ex, hf, by rw [upd_ne (nf hf)]; exact ho, ht⟩
    | io d => obtain ⟨p, o, el, ex, hf, ho, ht⟩ := ok; exact ⟨p, o, el, ex, hf, by rw [upd_ne (nf hf)]; exact ho, ht⟩
    | ex f d =>
      obtain ⟨p, dd, x, es, ev, hd, r⟩ := ok
      have ne : dd ≠ a := fun e => by subst e; rw [hH] at hd; cases hd; cases hu0
      exact ⟨p, dd, x, es, ev, by rw [upd_ne ne]; exact hd, r⟩
  · rcases q with q | q
    · obtain ⟨u, hu⟩ := w.oh b q
      exact ⟨u, by rw [upd_ne (fun e => hO (by rw [← e]; exact q))]; exact hu.1, hu.2⟩
    · subst q; exact ⟨_, upd_same, rfl⟩
  · intro z
    rcases z with z | z
    · exact w.ow b q z
    · subst z
      obtain ⟨hf, _⟩ := Own.top w q
      rw [ha] at hf; cases hf
  · rcases q with q | q
    · obtain ⟨o, e⟩ := w.od b ks' q h hd
      exact ⟨o, by rw [upd_ne (fun e => hO (by rw [← e]; exact q))]; exact e⟩
    · subst q
      rw [ha] at h; cases h
      exact ⟨od, upd_same⟩
  · by_cases e : b = a
    · subst e; exact ⟨_, upd_same⟩
    · exact ⟨u, by rw [upd_ne e]; exact q⟩
/-- let go again -/
theorem Wf.unlock {K : PySem.W.Frag} {mg : Str → Option Value} {O : Addr → Prop} {F H : Hp} {σ : St} {env : En} {a : Addr} {u0 : HO} {od : Obj} (w : Wf K mg S (fun b => O b ∨ b = a) F H σ env) (ha : F a = some u0) (hH : H a = some (.frz od u0)) (hO : ¬ O a) (hu0 : dk u0 = true := by rfl) :
    Wf K mg S O F (upd H a u0) σ env := by
  have nf : ∀ {b : Addr}, F b = none → b ≠ a := fun h e => by subst e; rw [ha] at h; cases h
  refine ⟨fun b u h => ?_, fun i s h => ?_, w.ds, fun b q => ?_, fun b q z => w.ow b q (.inl z), fun b ks' q h hd => ?_⟩
  · by_cases e : b = a
    · subst e
      rw [ha] at h; cases h
      exact .inl upd_same
    · rw [upd_ne e]; exact w.fz b u h
  · obtain ⟨v, hv, ok⟩ := w.sl i s h
    refine ⟨v, hv, ?_⟩
    cases s with
    | no => trivial
    | sh d => exact ok
    | ow d => obtain ⟨p, o, ex, hf, ho, ht⟩ := ok; exact ⟨p, o, ex, hf, by rw [upd_ne (nf hf)]; exact ho, ht⟩
    | io d => obtain ⟨p, o, el, ex, hf, ho, ht⟩ := ok; exact ⟨p, o, el, ex, hf, by rw [upd_ne (nf hf)]; exact ho, ht⟩
    | ex f d =>
      obtain ⟨p, dd, x, es, ev, hd, r⟩ := ok
      have ne : dd ≠ a := fun e => by subst e; rw [hH] at hd; cases hd
      exact ⟨p, dd, x, es, ev, by rw [upd_ne ne]; exact hd, r⟩
  · obtain ⟨u, hu⟩ := w.oh b (.inl q)
    exact ⟨u, by rw [upd_ne (fun e => hO (by rw [← e]; exact q))]; exact hu.1, hu.2⟩
  · obtain ⟨o, e⟩ := w.od b ks' (.inl q) h hd
    exact ⟨o, by rw [upd_ne (fun e => hO (by rw [← e]; exact q))]; exact e⟩
theorem Wf.hold {K : PySem.W.Frag} {mg : Str → Option Value} {O : Addr → Prop} {F H : Hp} {σ : St} {env : En} {a : Addr} {u0 : HO} {od : Obj} (w : Wf K mg S O F H σ env) (ha : F a = some u0) (hH : H a = some (.frz od u0)) (hu0 : dk u0 = true := by rfl) : Wf K mg S (fun b => O b ∨ b = a) F H σ env :=
  w.more fun b q => by
    rcases q with q | q
    · exact .inl q
    · subst q
      refine .inr ⟨⟨_, hH, rfl⟩, fun z => ?_, fun ks' e _ => ?_⟩
      · obtain ⟨hf, _⟩ := Own.top w z
        rw [ha] at hf; cases hf
      · rw [ha] at e; cases e
        exact ⟨od, hH⟩
theorem Post.wideE {O O' : Addr → Prop} {F H : Hp} {r : R Fl} {En' : Ends} (p : Post X.K X.mg S O W F H r (endK X.K X.mg O En')) (h : ∀ a, O a → O' a) : Post X.K X.mg S O' W F H r (endK X.K X.mg O' En') := by
  cases r with
  | no => exact p
  | er c x e => exact fun σ' F' H' cls dd t w eo => p σ' F' H' cls dd (t.weak h) (w.weak h) eo
  | ok fl e =>
    intro σ' F' H' t w
    have q := p σ' F' H' (t.weak h) (w.weak h)
    cases fl with
    | nx => exact q
    | bk => exact q
    | ct => exact q
    | rt t0 =>
      intro v tk
      refine q v ?_
      cases t0 with
      | val d => exact tk
      | nm i => exact tk
      | nw d => obtain ⟨a, o, e, hf, hn, hO, z⟩ := tk; exact ⟨a, o, e, hf, hn, fun y => hO (h a y), z⟩
def lockEnds (D : Ends) (a : Addr) (u : HO) (od : Obj) : Ends := ⟨fun σ' H' => H' a = some (.frz od u) ∧ D.nx σ' (upd H' a u), fun v H' => H' a = some (.frz od u) ∧ D.rt v (upd H' a u), fun σ' H' => H' a = some (.frz od u) ∧ D.bk σ' (upd H' a u), fun σ' H' => H' a = some (.frz od u) ∧ D.ct σ' (upd H' a u)⟩
/-- what happens while the dict is locked -/
theorem Post.locked {O : Addr → Prop} {F H : Hp} {σ : St} {env : En} {r : R Fl} {En' : Ends} {a : Addr} {u0 : HO} {od : Obj} (w : Wf X.K X.mg S O F H σ env) (ha : F a = some u0) (hH : H a = some u0) (p : Post X.K X.mg S O W F H r (endK X.K X.mg O En')) (hu0 : dk u0 = true := by rfl) :
    Post X.K X.mg S (fun b => O b ∨ b = a) W F (upd H a (.frz od u0)) r (endK X.K X.mg (fun b => O b ∨ b = a) (lockEnds En' a u0 od)) := by
  have hO : ¬ O a := fun q => by
    obtain ⟨o, e⟩ := w.od a _ q ha hu0
    rw [hH] at e; cases e
  obtain ⟨w1, t1⟩ := w.lock (od := od) ha hH hu0
  cases r with
  | no => exact p
  | er c x e => exact fun σ' F' H' cls dd t w2 eo => p σ' F' H' cls dd (t1.trans (t.weak fun b q => .inl q)) (w2.weak fun b q => .inl q) eo
  | ok fl e =>
    intro σ' F' H' t w2
    have hk : H' a = some (.frz od u0) := (t.kp a (.inr rfl)).trans upd_same
    have hf' : F' a = some u0 := t.fz a _ ha
    have w3 := w2.unlock hf' hk hO hu0
    have t3 : Tr O F H F' (upd H' a u0) := ⟨t.fz, fun b q => by
      have ne : b ≠ a := fun e => hO (by rw [← e]; exact q)
      rw [upd_ne ne, t.kp b (.inl q), upd_ne ne], fun b q => t.fr b (.inl q), fun b u q => by
      by_cases e : b = a
      · subst e; exact ⟨_, upd_same⟩
      · rw [upd_ne e]; exact t.al b u (by rw [upd_ne e]; exact q)⟩
    have q := p σ' F' _ t3 w3
    cases fl with
    | nx => exact ⟨hk, q⟩
    | bk => exact ⟨hk, q⟩
    | ct => exact ⟨hk, q⟩
    | rt t0 =>
      intro v tk
      refine ⟨hk, q v ?_⟩
      cases t0 with
      | val d => exact tk
      | nm i => exact tk
      | nw d =>
        obtain ⟨b, o, e, hf, hn, hOb, ho, z⟩ := tk
        have ne : b ≠ a := fun e => by subst e; rw [hf'] at hf; cases hf
        exact ⟨b, o, e, hf, hn, fun y => hOb (.inl y), by rw [upd_ne ne]; exact ho, z⟩
def mForD (fd : En → R (List (Key × D))) (pr : List (Key × D) → List D) (a : D → En → R Unit) (g : En → R Fl) (e : En) : R Fl := (fd e).bind fun kvs e1 => loopF a g (pr kvs) e1
theorem _root_.L2.PS.or {st : Stmt} {t t' : TS} (h : PS X st t) (h' : PS X st t') : PS X st (fun D σ H => t D σ H ∨ t' D σ H) := ⟨fun pins s σ H D I q => q.elim (h.run pins s σ H D I) (h'.run pins s σ H D I)⟩
/-- how such an iterator comes of the dict's reading -/
def DIt (X : Cx) (tg e iter : Expr) (pr : List (Key × D) → List D) : Prop := ∃ J : Addr → Obj → List (Key × V) → It, (∀ (K : PySem.W.Frag) (mg : Str → Option Value) (F : Hp) (a : Addr) (o : Obj) (ks : List (Key × V)) (kvs : List (Key × D)), RepK K mg F kvs ks → ItM K mg (J a o ks) F (lkD a o ks) (pr kvs)) ∧
  ∀ td, PE X e td → PI X tg iter (fun σ H R => td σ H fun x H1 => ∃ d o kvs, x = .ref d ∧ H1 d = some (.frz o (.dK kvs)) ∧ R (J d o kvs) H1)
def prK (kvs : List (Key × D)) : List D := kvs.map fun kv => kD kv.1
def prV (kvs : List (Key × D)) : List D := kvs.map fun kv => kv.2
def prI (kvs : List (Key × D)) : List D := kvs.map fun kv => .tup [kD kv.1, kv.2]
theorem PI.keys1 {td : TE} (h : PE X e td) : PI X tg e (fun σ H R => td σ H fun x H1 => ∃ d o kvs, x = .ref d ∧ H1 d = some (.frz o (.dK kvs)) ∧ R (Itk d o kvs) H1) := by
  refine ⟨fun pins s σ H R I h' => thn (h.run pins s σ H _ I h') fun u s1 hh => ?_⟩
  obtain ⟨x, H1, I1, rx, d, o, kvs, ex, hd, q⟩ := hh
  subst ex
  obtain rfl : u = Value.ref d := rx
  obtain ⟨hs, hgd, hx, es, ep, vs, hdt, hsz, kv, hm⟩ := I1.frzK hd
  refine iter_keys hs hgd hx hdt (pi_one (tk := s1.toks) I1 _ (turn_keys _ hdt) ⟨_, Heap.get?_push_size _ rfl, rfl, ?_⟩ q)
  rw [hsz] <;> rfl
theorem dit_keys : DIt X tg e e prK := ⟨Itk, fun K mg F a o ks kvs r => itm_keys r, fun td h => PI.keys1 h⟩
theorem dit_keysM {cpos : Pos} (hbase : attributeBase e "keys" X.env (eval e X.env) = eval e X.env := by rfl) (hline : (apos.endLine == cpos.line) = true := by rfl) : DIt X tg e (.Call (.Attribute e "keys" apos) [] [] cpos) prK := ⟨Itk, fun K mg F a o ks kvs r => itm_keys r, fun td h => pi_keysM h hbase hline⟩
theorem dit_values {cpos : Pos} (hbase : attributeBase e "values" X.env (eval e X.env) = eval e X.env := by rfl) (hline : (apos.endLine == cpos.line) = true := by rfl) : DIt X tg e (.Call (.Attribute e "values" apos) [] [] cpos) prV := ⟨Itd, fun K mg F a o ks kvs r => itm_vals r, fun td h => pi_values h hbase hline⟩
theorem dit_items {elts : List Expr} {kk : Nat} {tpos cpos : Pos} (hbase : attributeBase e "items" X.env (eval e X.env) = eval e X.env := by rfl) (hline : (apos.endLine == cpos.line) = true := by rfl) : DIt X (.Tuple elts kk tpos) e (.Call (.Attribute e "items" apos) [] [] cpos) prI := ⟨Iti, fun K mg F a o ks kvs r => itm_items r, fun td h => pi_items h hbase hline⟩
theorem ms_forD {iter : Expr} {body : List Stmt} {js : List Nat} {fd : En → R (List (Key × D))} {pr : List (Key × D) → List D} {a : D → En → R Unit} {gb : En → R Fl} {g : TG} (hp : PassesOwn (model X.prog X.w) X.A X.env X.xe) (hc : X.calm = true) (hd : DR X S e fd) (hi : DIt X tg e iter pr) (hg : MG X S tg js a g) (hb : MSs X S W body gb)
    (hs : ∀ x, foldedSetIterable iter X.env x = pure x := by intro _; rfl) : MS X S W (.For tg iter body [] pos) (mForD fd pr a gb) := by
  obtain ⟨pg, k⟩ := hg
  obtain ⟨J, j1, j2⟩ := hi
  obtain ⟨td, d1, d2⟩ := hd
  have st := ps_for (pos := pos) hp hc (j2 td d1) pg hb hs
  refine ((ps_lock st).or st).wk fun En' σ H ⟨F, env, O, w, p⟩ => ?_
  have p' : Post X.K X.mg S O W F H (mForD fd pr a gb env) (endK X.K X.mg O En') := p
  obtain ⟨F1, e1, kvs, ad, ks, t1, w1, hF, rk, q, rd⟩ := d2 O F H σ env W _ w (Post.toE (σ := σ) p')
  rcases w1.fz ad _ hF with hH | ⟨o, ks', e, hH⟩
  · refine .inl ⟨ad, .dK ks, hH, trivial, fun od => ?_⟩
    obtain ⟨w2, t2⟩ := w1.lock (od := od) hF hH
    refine rd _ _ (.inr ⟨od, rfl⟩) ⟨ad, od, ks, rfl, upd_same, ?_⟩
    exact for_core (En' := lockEnds En' ad (.dK ks) od) (j1 X.K X.mg F1 ad od ks kvs rk) (show lkD ad od ks _ from upd_same) (fun F H F' H' t l => (t.kp ad (.inr rfl)).trans l) w2 (Post.locked w1 hF hH q) k
  · cases e
    refine .inr (rd _ _ (.inl rfl) ⟨ad, o, ks, rfl, hH, ?_⟩)
    exact for_core (j1 X.K X.mg F1 ad o ks kvs rk) (show lkD ad o ks _ from hH) (fun F H F' H' t l => (t.kp ad (.inr rfl)).trans l) (w1.hold hF hH) (Post.wideE q fun b z => .inl z) k
end
end MM

set_option Elab.async false
set_option linter.all false
set_option maxRecDepth 100000
set_option maxHeartbeats 2000000
/-! M12: while; comprehensions. -/
namespace MM
open PySem L2
/-! ### while -/
def runW (c : En → R Bool) (g : En → R Fl) : Nat → En → R Fl
  | 0, _ => .no
  | n + 1, e => (c e).bind fun b e1 => bif b then aft (g e1) (runW c g n) else .ok .nx e1
theorem aft_no {r : R Fl} {k k' : En → R Fl} (h : ∀ e, k e ≠ .no → k' e = k e) (h2 : aft r k ≠ .no) : aft r k' = aft r k := by
  cases r with
  | no => rfl
  | er c x e => rfl
  | ok fl e => cases fl <;> first | rfl | exact h e h2
theorem runW_mono {c : En → R Bool} {g : En → R Fl} : ∀ (n k : Nat) (e : En), runW c g n e ≠ .no → runW c g (n + k) e = runW c g n e
  | 0, k, e, h => (h rfl).elim
  | n + 1, k, e, h => by
    rw [show n + 1 + k = (n + k) + 1 by omega]
    unfold runW at h ⊢
    cases q : c e with
    | no => rfl
    | er c x e => rfl
    | ok b e1 =>
      rw [q] at h
      cases b with
      | false => rfl
      | true => exact aft_no (fun e => runW_mono n k e) h
open Classical in
noncomputable def mWhile (c : En → R Bool) (g : En → R Fl) (e : En) : R Fl := if h : ∃ n, runW c g n e ≠ .no then runW c g h.choose e else .no
theorem mWhile_of {c : En → R Bool} {g : En → R Fl} {n : Nat} {e : En} (h : runW c g n e ≠ .no) : mWhile c g e = runW c g n e := by
  have hx : ∃ n, runW c g n e ≠ .no := ⟨n, h⟩
  unfold mWhile
  rw [dif_pos hx]
  have h2 := hx.choose_spec
  rw [← runW_mono n hx.choose e h, Nat.add_comm, runW_mono hx.choose n e h2]
theorem mWhile_no {c : En → R Bool} {g : En → R Fl} {e : En} (h : ∀ n, runW c g n e = .no) : mWhile c g e = .no := by
  unfold mWhile
  rw [dif_neg fun ⟨n, q⟩ => q (h n)]
theorem mWhile_eq (c : En → R Bool) (g : En → R Fl) (e : En) : mWhile c g e = (c e).bind fun b e1 => bif b then aft (g e1) (mWhile c g) else .ok .nx e1 := by
  have up : ∀ n e, runW c g n e ≠ .no → mWhile c g e = runW c g n e := fun n e h => mWhile_of h
  by_cases hx : ∃ n, runW c g n e ≠ .no
  · obtain ⟨n, h⟩ := hx
    rw [mWhile_of h]
    cases n with
    | zero => exact (h rfl).elim
    | succ n =>
      unfold runW at h ⊢
      cases q : c e with
      | no => rfl
      | er c x e => rfl
      | ok b e1 =>
        rw [q] at h
        cases b with
        | false => rfl
        | true => exact (aft_no (fun e => up n e) h).symm
  · have hn : ∀ n, runW c g n e = .no := fun n => Classical.byContradiction fun q => hx ⟨n, q⟩
    rw [mWhile_no hn]
    cases q : c e with
    | no => rfl
    | er c' x e1 => have z := hn 1; unfold runW at z; rw [q] at z; cases z
    | ok b e1 =>
      cases b with
      | false => have z := hn 1; unfold runW at z; rw [q] at z; cases z
      | true =>
        show R.no = aft (g e1) (mWhile c g)
        have z : ∀ n, aft (g e1) (runW c g n) = .no := fun n => by
          have y := hn (n + 1)
          unfold runW at y
          rw [q] at y
          exact y
        cases q2 : g e1 with
        | no => rfl
        | er c x e => have y := z 0; rw [q2] at y; cases y
        | ok fl e2 =>
          cases fl with
          | nx => exact (mWhile_no fun n => by have y := z n; rw [q2] at y; exact y).symm
          | ct => exact (mWhile_no fun n => by have y := z n; rw [q2] at y; exact y).symm
          | bk => have y := z 0; rw [q2] at y; cases y
          | rt t => have y := z 0; rw [q2] at y; cases y
section
variable {X : Cx} {S : Su} {W : WX} {e o a b tg c : Expr} {es : List Expr} {kws : List Keyword} {pos p kpos apos : Pos}
theorem ms_while {body : List Stmt} {fc : En → R Bool} {gb : En → R Fl} (hp : PassesOwn (model X.prog X.w) X.A X.env X.xe) (hc : MT X S W c fc) (hb : MSs X S W body gb) : MS X S W (.While c body [] pos) (mWhile fc gb) := (ps_while hp hc hb).wk fun En' σ H ⟨F, env, O, w, p⟩ => by
  have p' : Post X.K X.mg S O W F H (mWhile fc gb env) (endK X.K X.mg O En') := p
  have hx : ∃ n, runW fc gb n env ≠ .no := Classical.byContradiction fun q => by
    rw [mWhile_no fun n => Classical.byContradiction fun y => q ⟨n, y⟩] at p'
    exact p'
  obtain ⟨n, hn⟩ := hx
  rw [mWhile_of hn] at p'
  refine ⟨fun m σ' H' => ∃ F' env', Wf X.K X.mg S O F' H' σ' env' ∧ Post X.K X.mg S O W F' H' (runW fc gb m env') (endK X.K X.mg O En'), ⟨n, F, env, w, p'⟩, ?_⟩
  rintro m σ1 H1 ⟨F1, e1, w1, p1⟩
  cases m with
  | zero => exact p1.elim
  | succ m =>
    unfold runW at p1
    refine ⟨F1, e1, O, w1, PostE.mono (Post.toE p1) fun F2 H2 e2 b t2 w2 q => ?_⟩
    cases b with
    | false => exact q σ1 F2 H2 Tr.refl w2
    | true =>
      rw [if_pos rfl]
      refine ⟨fun σ' H' => ∃ F' env', Wf X.K X.mg S O F' H' σ' env' ∧ Post X.K X.mg S O W F' H' (runW fc gb m env') (endK X.K X.mg O En'), fun σ' H' hN => ⟨m, Nat.lt_succ_self m, hN⟩, F2, e2, O, w2, ?_⟩
      exact aft_ok q fun e σ'' F' H' t w4 z => ⟨F', e, w4, z⟩
end
/-! ### the names of a comprehension -/
def wipeE : List Nat → En → En
  | [], e => e
  | v :: vs, e => (wipeE vs e).set v .no
theorem wipeE_no {env : En} : ∀ {vs : List Nat} {v : Nat}, v ∈ vs → (wipeE vs env)[v]? = none ∨ (wipeE vs env)[v]? = some .no
  | u :: vs, v, h => by
    unfold wipeE
    rw [List.getElem?_set]
    by_cases e : u = v
    · subst e
      rw [if_pos rfl]
      split
      · exact .inr rfl
      · exact .inl rfl
    · rw [if_neg e]
      rcases List.mem_cons.mp h with h | h
      · exact absurd h.symm e
      · exact wipeE_no h
section
variable {K : PySem.W.Frag} {mg : Str → Option Value} {S : Su} {O O' : Addr → Prop} {W : WX} {F H F' H' : Hp} {σ σ' : St} {env env' : En}
theorem Wf.wipe (w : Wf K mg S O F H σ env) : ∀ vs : List Nat, Wf K mg S O F H (L2.wipe σ vs) (wipeE vs env)
  | [] => w
  | v :: vs => (Wf.wipe w vs).setNo v none
theorem Wf.unwipe {vs : List Nat} (w : Wf K mg S O F H (L2.wipe σ vs) env) (h : ∀ v ∈ vs, env[v]? = none ∨ env[v]? = some .no) : Wf K mg S O F H σ env := by
  have out : ∀ {i : Nat} {s : Sl}, env[i]? = some s → s ≠ .no → i ∉ vs := fun {i s} e ne q => by
    rcases h i q with z | z
    · rw [z] at e; cases e
    · rw [z] at e; cases e; exact ne rfl
  have same : ∀ {i : Nat}, i ∉ vs → (L2.wipe σ vs)[i]? = σ[i]? := fun {i} n => by rw [wipe_get, if_neg n]
  refine ⟨w.fz, fun i s e => ?_, fun i j s t p e1 e2 o1 o2 z1 z2 => ?_, w.oh, fun a q => ?_, w.od⟩
  · obtain ⟨v, hv, ok⟩ := w.sl i s e
    by_cases q : i ∈ vs
    · rcases h i q with z | z
      · rw [z] at e; cases e
      · rw [z] at e; cases e
        rw [wipe_get, if_pos q] at hv
        cases y : σ[i]? with
        | none => rw [y] at hv; cases hv
        | some u => exact ⟨u, rfl, trivial⟩
    · rw [same q] at hv
      exact ⟨v, hv, ok⟩
  · have n1 := out e1 (fun y => by subst y; cases o1)
    have n2 := out e2 (fun y => by subst y; cases o2)
    exact w.ds i j s t p e1 e2 o1 o2 (by rw [same n1]; exact z1) (by rw [same n2]; exact z2)
  · obtain ⟨i, s, e, o, z⟩ := q
    have n1 := out e (fun y => by subst y; cases o)
    exact w.ow a ⟨i, s, e, o, by rw [same n1]; exact z⟩
/-- a new object of ours, written; nothing of the frame's -/
theorem Wf.setD (w : Wf K mg S O F H σ env) {D : Addr} {o o' : HO} (hf : F D = none) (hH : H D = some o) (hx : ∀ fs, o ≠ .xd fs) (hn : ¬ Own σ env D) (hnt : nt o' = true := by rfl) : Wf K mg S O F (upd H D o') σ env := by
  have nd : ∀ {b : Addr} {u : HO}, F b = some u → b ≠ D := fun h e => by subst e; rw [hf] at h; cases h
  refine ⟨fun b u h => by rw [upd_ne (nd h)]; exact w.fz b u h, fun i s h => ?_, w.ds, fun b q => ?_, w.ow, fun b ks q h hd => ?_⟩
  · obtain ⟨v, hv, ok⟩ := w.sl i s h
    refine ⟨v, hv, ?_⟩
    cases s with
    | no => trivial
    | sh d => exact ok
    | ow d =>
      obtain ⟨p, u, ex, h2, h3, h4⟩ := ok
      have ne : p ≠ D := fun e => by subst e; subst ex; exact hn ⟨i, _, h, rfl, hv⟩
      exact ⟨p, u, ex, h2, by rw [upd_ne ne]; exact h3, h4⟩
    | io d =>
      obtain ⟨p, u, el, ex, h2, h3, h4⟩ := ok
      have ne : p ≠ D := fun e => by subst e; subst ex; exact hn ⟨i, _, h, rfl, hv⟩
      exact ⟨p, u, el, ex, h2, by rw [upd_ne ne]; exact h3, h4⟩
    | ex f d =>
      obtain ⟨p, dd, x, es, ev, hd, r⟩ := ok
      have ne : dd ≠ D := fun e => by subst e; rw [hH] at hd; cases hd; exact hx _ rfl
      exact ⟨p, dd, x, es, ev, by rw [upd_ne ne]; exact hd, r⟩
  · obtain ⟨u, hu⟩ := w.oh b q
    by_cases e : b = D
    · subst e; exact ⟨_, upd_same, hnt⟩
    · exact ⟨u, by rw [upd_ne e]; exact hu.1, hu.2⟩
  · obtain ⟨o2, e⟩ := w.od b ks q h hd
    exact ⟨o2, by rw [upd_ne (nd h)]; exact e⟩
end
/-- no exception is let out -/
def noEr {α : Type} : R α → R α
  | .er _ _ _ => .no
  | r => r
theorem noEr_ok {K : PySem.W.Frag} {mg : Str → Option Value} {S : Su} {O : Addr → Prop} {W W' : WX} {F H : Hp} {σ : St} {α : Type} {r : R α} {k : Hp → Hp → En → α → Prop} (h : PostE K mg S O W F H σ (noEr r) k) : PostE K mg S O W' F H σ r k := by
  cases r with
  | ok a e => exact h
  | er c x e => exact h.elim
  | no => exact h
def W0 : WX := fun _ _ _ _ => False
/-- what comes of the items -/
def compL (a : D → En → R Unit) (t : En → R Bool) (g : En → R Tk) (vs : List Nat) : List D → En → R (List D)
  | [], e => .ok [] e
  | d :: ds, e => okU (a d e) fun e1 => (noEr (t e1)).bind fun b e2 => bif b then (noEr (g e2)).bind fun tk e3 => (frc tk e3).bind fun y e4 => (compL a t g vs ds (wipeE vs e4)).bind fun ys e5 => .ok (y :: ys) e5
    else compL a t g vs ds (wipeE vs e2)
def endL (acc : List D) (ys : List D) (e : En) : R Tk := .ok (.nw (.lst (acc ++ ys))) e
def compE (a : D → En → R Unit) (t : En → R Bool) (g : En → R Tk) (vs : List Nat) (ds : List D) (e : En) : R Tk := if ds.length ≤ 16777216 then (compL a t g vs ds (wipeE vs e)).bind (endL []) else .no
abbrev MTs (X : Cx) (S : Su) (W : WX) (ifs : List Expr) (t : En → R Bool) : Prop := PTs X ifs (tMT X S W t)
theorem _root_.L2.PTs.wk {X : Cx} {ifs : List Expr} {t t' : TT} (h : PTs X ifs t) (k : ∀ σ H Q, t' σ H Q → t σ H Q) : PTs X ifs t' := ⟨fun pins s σ H Q I q => h.run pins s σ H Q I (k σ H Q q)⟩
def mYes (e : En) : R Bool := .ok true e
/-- the names outside are as they were -/
def backE (e0 : En) : List Nat → En → En
  | [], e => e
  | v :: vs, e => match e0[v]? with
    | some (.sh d) => (backE e0 vs e).set v (.sh d)
    | _ => backE e0 vs e
section
variable {K : PySem.W.Frag} {mg : Str → Option Value} {S : Su} {O : Addr → Prop} {W : WX} {F H F' H' : Hp} {σ : St} {env e0 : En}
theorem backE_own {p : Addr} : ∀ {vs : List Nat}, Own σ (backE e0 vs env) p → Own σ env p
  | [], h => h
  | v :: vs, h => by
    unfold backE at h
    split at h
    · exact backE_own (h.of_set rfl)
    · exact backE_own h
theorem Wf.backE {F0 H0 : Hp} (w0 : Wf K mg S O F0 H0 σ e0) (s : Sub F0 F) (w : Wf K mg S O F H σ env) : ∀ vs : List Nat, Wf K mg S O F H σ (MM.backE e0 vs env)
  | [] => w
  | v :: vs => by
    unfold MM.backE
    split
    · rename_i d e
      obtain ⟨x, hx, ok⟩ := w0.sl v _ e
      obtain ⟨y, ey, r⟩ := ok
      subst ey
      exact (Wf.backE w0 s w vs).share hx (r.mono s)
    · exact Wf.backE w0 s w vs
theorem TkOk.backE {v : V} {t : Tk} {vs : List Nat} (h : TkOk K mg O F H σ env v t) : TkOk K mg O F H σ (MM.backE e0 vs env) v t := by
  cases t with
  | val d => exact h
  | nm i => exact h
  | nw d =>
    obtain ⟨p, o, e, hf, hn, hO, ho, ht⟩ := h
    exact ⟨p, o, e, hf, fun q => hn (backE_own q), hO, ho, ht⟩
theorem PostE.backE {r : R Tk} {vs : List Nat} {Q : VK} (w0 : Wf K mg S O F H σ e0) (p : PostE K mg S O W F H σ (r.bind fun t e2 => .ok t (MM.backE e0 vs e2)) (fun F' H' e' t => ∀ v, TkOk K mg O F' H' σ e' v t → Q v H')) :
    PostE K mg S O W F H σ r (fun F' H' e' t => ∀ v, TkOk K mg O F' H' σ e' v t → Q v H') :=
  PostE.mono (PostE.bind p) fun F1 H1 e1 t t1 w1 q v tk => q F1 H1 Tr.refl (Wf.backE w0 t1.fz w1 vs) v tk.backE
end
theorem mts_nil {X : Cx} {S : Su} {W : WX} : MTs X S W [] mYes := pts_nil.wk fun σ H Q ⟨F, env, O, w, p⟩ => PostE.ok w p
theorem mts_one {X : Cx} {S : Su} {W : WX} {c : Expr} {t : En → R Bool} (h : MT X S W c t) : MTs X S W [c] t := pts_one h
section
variable {X : Cx} {S : Su} {W : WX} {e o tg c elt iter : Expr} {pos p : Pos}
theorem compL_inv {a : D → En → R Unit} {t : En → R Bool} {g : En → R Tk} {vs : List Nat} {d : D} {ds ys : List D} {e ef : En} (h : compL a t g vs (d :: ds) e = .ok ys ef) : ∃ e1 b e2, a d e = .ok () e1 ∧ t e1 = .ok b e2 ∧
    (b = true → ∃ tk e3 y e4 ys', g e2 = .ok tk e3 ∧ frc tk e3 = .ok y e4 ∧ compL a t g vs ds (wipeE vs e4) = .ok ys' ef ∧ ys = y :: ys') ∧ (b = false → compL a t g vs ds (wipeE vs e2) = .ok ys ef) := by
  unfold compL at h
  cases q1 : a d e with
  | no => rw [q1] at h; cases h
  | er _ _ _ => rw [q1] at h; cases h
  | ok u e1 =>
    rw [q1] at h
    simp only [okU] at h
    cases q2 : t e1 with
    | no => rw [q2] at h; cases h
    | er _ _ _ => rw [q2] at h; cases h
    | ok b e2 =>
      rw [q2] at h
      refine ⟨e1, b, e2, rfl, q2, fun hb => ?_, fun hb => ?_⟩
      · subst hb
        simp only [noEr, R.bind_ok, cond_true] at h
        cases q3 : g e2 with
        | no => rw [q3] at h; cases h
        | er _ _ _ => rw [q3] at h; cases h
        | ok tk e3 =>
          rw [q3] at h
          simp only [R.bind_ok] at h
          cases q4 : frc tk e3 with
          | no => rw [q4] at h; cases h
          | er _ _ _ => rw [q4] at h; cases h
          | ok y e4 =>
            rw [q4] at h
            simp only [R.bind_ok] at h
            cases q5 : compL a t g vs ds (wipeE vs e4) with
            | no => rw [q5] at h; cases h
            | er _ _ _ => rw [q5] at h; cases h
            | ok ys' e5 =>
              rw [q5] at h
              cases h
              exact ⟨tk, e3, y, e4, ys', rfl, q4, q5, rfl⟩
      · subst hb
        exact h
theorem wipe_wipe {σ : St} {vs : List Nat} : wipe (wipe σ vs) vs = wipe σ vs := by
  apply List.ext_getElem?
  intro j
  rw [wipe_get, wipe_get]
  by_cases q : j ∈ vs
  · rw [if_pos q, if_pos q]
    cases σ[j]? <;> rfl
  · rw [if_neg q, if_neg q]
theorem PostE.of {K : PySem.W.Frag} {mg : Str → Option Value} {S : Su} {O : Addr → Prop} {W : WX} {F H : Hp} {σ : St} {α : Type} {r : R α} {v : α} {e : En} {k : Hp → Hp → En → α → Prop} (h : r = .ok v e) (hk : ∀ F' H', Tr O F H F' H' → Wf K mg S O F' H' σ e → k F' H' e v) : PostE K mg S O W F H σ r k := by
  subst h
  exact hk
theorem lcM_core {J : It} {lk : Hp → Prop} {F H : Hp} {ds : List D} {O : Addr → Prop} {σ : St} {env : En} {js vs : List Nat} {a : D → En → R Unit} {t : En → R Bool} {ge : En → R Tk} {g : TG} {Q : VK} (m : ItM X.K X.mg J F lk ds) (hl : lk H) (hlk : ∀ F H F' H', Tr O F H F' H' → lk H → lk H') (w : Wf X.K X.mg S O F H σ env) (hjs : ∀ j ∈ js, j ∈ vs)
    (p : PostE X.K X.mg S O W F H σ (compE a t ge vs ds env) (fun F' H' e' t => ∀ v, TkOk X.K X.mg O F' H' σ e' v t → Q v H'))
    (k : MGk X.K X.mg S js a g) :
    ∀ D, H D = none → ∃ Wn : Nat → Nat → Hp → Prop, (∃ m, Wn 0 m (upd H D (.lst []))) ∧ ∀ i m H, Wn i m H → (J.stop i H ∧ Q (.ref D) H) ∨ (J.go i H ∧ ∃ Nx : Hp → Prop, (∀ H', Nx H' → ∃ m', m' < m ∧ Wn (i + 1) m' H') ∧ ∀ x H', J.yld i H x H' →
      g x (wipe σ vs) H' fun σ2 H2 => wipe σ2 vs = wipe σ vs ∧ tMT X S W0 t σ2 H2 fun b H3 => if b = true then tM X S W0 ge σ2 H3 fun y H4 => ∃ acc, H4 D = some (.lst acc) ∧ acc.length < sizeLine ∧ Nx (upd H4 D (.lst (acc ++ [y]))) else Nx H3) := by
  intro D hD
  unfold compE at p
  split at p
  · rename_i hlen
    have hO : ¬ O D := w.nO hD
    cases hc : compL a t ge vs ds (wipeE vs env) with
    | no => rw [hc] at p; exact p.elim
    | er c x e =>
      exfalso
      -- never
      have key : ∀ (ds : List MM.D) (e : En) (c : Str) (x : Option (Str × MM.D)) (e' : En), compL a t ge vs ds e ≠ .er c x e' := by
        intro ds
        induction ds with
        | nil => intro e c x e' h; cases h
        | cons d ds ih =>
          intro e c x e' h
          unfold compL at h
          cases q1 : a d e with
          | no => rw [q1] at h; cases h
          | er _ _ _ => rw [q1] at h; cases h
          | ok u e1 =>
            rw [q1] at h
            simp only [okU] at h
            cases q2 : t e1 with
            | no => rw [q2] at h; cases h
            | er _ _ _ => rw [q2] at h; cases h
            | ok b e2 =>
              rw [q2] at h
              cases b with
              | false => exact ih _ _ _ _ h
              | true =>
                simp only [noEr, R.bind_ok, cond_true] at h
                cases q3 : ge e2 with
                | no => rw [q3] at h; cases h
                | er _ _ _ => rw [q3] at h; cases h
                | ok tk e3 =>
                  rw [q3] at h
                  simp only [R.bind_ok] at h
                  cases q4 : frc tk e3 with
                  | no => rw [q4] at h; cases h
                  | er _ _ _ =>
                    cases tk with
                    | val _ => cases q4
                    | nw _ => cases q4
                    | nm j =>
                      have q4' : frcS j e3 (e3[j]?) = _ := q4
                      cases y : e3[j]? with
                      | none => rw [y] at q4'; cases q4'
                      | some s => rw [y] at q4'; cases s <;> cases q4'
                  | ok y e4 =>
                    rw [q4] at h
                    simp only [R.bind_ok] at h
                    cases q5 : compL a t ge vs ds (wipeE vs e4) with
                    | no => rw [q5] at h; cases h
                    | er _ _ _ => exact ih _ _ _ _ q5
                    | ok ys' e5 => rw [q5] at h; cases h
      exact key _ _ _ _ _ hc
    | ok ys ef =>
      rw [hc] at p
      have pfin : ∀ F' H', Tr O F H F' H' → Wf X.K X.mg S O F' H' σ ef → ∀ v, TkOk X.K X.mg O F' H' σ ef v (.nw (.lst ys)) → Q v H' := p
      -- a state ahead of the i-th turn
      let St1 : Nat → Hp → Prop := fun i H' => lk H' ∧ ∃ F' env' acc accD ys', Tr O F H F' H' ∧ Wf X.K X.mg S (fun b => O b ∨ b = D) F' H' (wipe σ vs) env' ∧ F' D = none ∧ H' D = some (.lst acc) ∧ Reps X.K X.mg F' accD acc ∧ accD.length ≤ i ∧ (∀ v ∈ vs, env'[v]? = none ∨ env'[v]? = some .no) ∧
        compL a t ge vs (ds.drop i) env' = .ok ys' ef ∧ accD ++ ys' = ys
      refine ⟨fun i n H' => n = ds.length - i ∧ i ≤ ds.length ∧ St1 i H', ⟨ds.length, by simp, Nat.zero_le _, hlk F H F _ (Tr.new w hD _) hl, F, wipeE vs env, [], [], ys, Tr.new w hD _, ?_, w.gone hD, upd_same, .nil, Nat.le_refl _, fun v hv => wipeE_no hv, hc, rfl⟩, ?_⟩
      · refine ((w.wipe vs).new hD (.lst [])).more fun b q => ?_
        rcases q with q | q
        · exact .inl q
        · subst q
          exact .inr ⟨⟨_, upd_same, rfl⟩, (w.wipe vs).nOwn hD, fun ks z => by rw [w.gone hD] at z; cases z⟩
      · rintro i n H1 ⟨rfl, hi, hl1, F1, e1, acc, accD, ys1, t1, w1, hf1, hD1, ra, hla, hno, hc1, hys⟩
        have w1' := w1.weak (O := O) fun b q => .inl q
        by_cases hlt : i < ds.length
        · refine .inr ⟨m.go S _ F1 H1 _ e1 i t1.fz w1 hl1 hlt, St1 (i + 1), fun H' q => ⟨ds.length - (i + 1), by omega, rfl, hlt, q⟩, fun x H2 y => ?_⟩
          obtain ⟨d, F2, h1, t2, w2, rd⟩ := m.item t1.fz w1 hl1 hlt y
          have e0 : ds.drop i = d :: ds.drop (i + 1) := by
            rw [List.drop_eq_getElem_cons hlt]
            rw [List.getElem?_eq_getElem hlt] at h1
            rw [Option.some.inj h1]
          rw [e0] at hc1
          obtain ⟨e2, b, e3, q1, q2, q3, q4⟩ := compL_inv hc1
          refine k _ F2 H2 _ e1 x d e2 _ w2 rd q1 fun σ2 w3 hw => ?_
          have hw2 : wipe σ2 vs = wipe σ vs := by rw [hw vs hjs, wipe_wipe]
          refine ⟨hw2, F2, e2, _, w3, PostE.of q2 fun F3 H3 t3 w4 => ?_⟩
          -- behind the turn
          have again : ∀ {F' H' : Hp} {e' : En}, Tr (fun b => O b ∨ b = D) F1 H1 F' H' → Wf X.K X.mg S (fun b => O b ∨ b = D) F' H' σ2 e' → Wf X.K X.mg S (fun b => O b ∨ b = D) F' H' (wipe σ vs) (wipeE vs e') := fun {F' H' e'} t w => by
            have z := w.wipe vs
            rw [hw2] at z
            exact z
          cases b with
          | false =>
            show St1 (i + 1) H3
            have tt := t2.trans t3
            exact ⟨hlk _ _ _ _ (tt.weak fun b q => .inl q) hl1, F3, wipeE vs e3, acc, accD, ys1, t1.trans (tt.weak fun b q => .inl q), again tt w4, (tt.fr D (.inr rfl)).trans hf1, (tt.kp D (.inr rfl)).trans hD1, ra.mono tt.fz, Nat.le_succ_of_le hla, fun v hv => wipeE_no hv, q4 rfl, hys⟩
          | true =>
            show tM X S W0 ge σ2 H3 fun y H4 => ∃ acc, H4 D = some (.lst acc) ∧ acc.length < sizeLine ∧ St1 (i + 1) (upd H4 D (.lst (acc ++ [y])))
            obtain ⟨tk, e4, y1, e5, ys2, g1, g2, g3, g4⟩ := q3 rfl
            refine ⟨F3, e3, _, w4, PostE.of g1 fun F4 H4 t4 w5 v tkv => ?_⟩
            obtain ⟨F5, t5, w6, ry⟩ := frc_ok' w5 tkv g2
            have tt := ((t2.trans t3).trans t4).trans t5
            have hD5 : H4 D = some (.lst acc) := (tt.kp D (.inr rfl)).trans hD1
            have hf5 : F5 D = none := (tt.fr D (.inr rfl)).trans hf1
            have w7 := again tt w6
            have ts : Tr O F5 H4 F5 (upd H4 D (.lst (acc ++ [v]))) := ⟨Sub.rfl', fun b q => upd_ne fun e => hO (by rw [← e]; exact q), fun _ _ => rfl, fun b u q => by
              by_cases e : b = D
              · subst e; exact ⟨_, upd_same⟩
              · exact ⟨u, by rw [upd_ne e]; exact q⟩⟩
            have tall := (tt.weak (O := O) fun b q => .inl q).trans ts
            refine ⟨acc, hD5, ?_, hlk _ _ _ _ tall hl1, F5, wipeE vs e5, acc ++ [v], accD ++ [y1], ys2, t1.trans tall, ?_, hf5, upd_same, (ra.mono tt.fz).append (.cons ry .nil), ?_, fun v hv => wipeE_no hv, g3, ?_⟩
            · rw [ra.length, sizeLine_eq]; omega
            · exact w7.setD hf5 hD5 (fun fs z => nomatch z) fun q => w7.ow D q (.inr rfl)
            · rw [List.length_append]; simp; omega
            · rw [← hys, g4]; simp
        · have e : i = ds.length := by omega
          subst e
          refine .inl ⟨m.stop S _ F1 H1 _ e1 _ t1.fz w1 hl1 (Nat.le_refl _), ?_⟩
          rw [List.drop_length] at hc1
          cases hc1
          rw [List.append_nil] at hys
          subst hys
          have w4 := w1'.unwipe hno
          refine pfin F1 H1 t1 w4 (.ref D) ⟨D, _, rfl, hf1, fun q => ?_, hO, hD1, .lst ra⟩
          obtain ⟨j, s, a1, a2, a3⟩ := q
          have nj : j ∉ vs := fun q => by
            rcases hno j q with z | z
            · rw [z] at a1; cases a1
            · rw [z] at a1; cases a1; cases a2
          exact w1.ow D ⟨j, s, a1, a2, by rw [wipe_get, if_neg nj]; exact a3⟩ (.inr rfl)
  · exact p.elim
/-! ### list comprehensions -/
def mLc (fi : En → R (List D)) (a : D → En → R Unit) (t : En → R Bool) (ge : En → R Tk) (vs : List Nat) (e : En) : R Tk := (fi e).bind fun ds e1 => (compE a t ge vs ds e1).bind fun t e2 => .ok t (backE e1 vs e2)
theorem lc_read {fi : En → R (List D)} {a : D → En → R Unit} {t : En → R Bool} {ge : En → R Tk} {vs js : List Nat} {g : TG} {σ : St} {H : Hp} {Q : VK} (k : MGk X.K X.mg S js a g) (hjs : ∀ j ∈ js, j ∈ vs) (h : tM X S W (mLc fi a t ge vs) σ H Q) : tLc (tMI X S W fi) g (tMT X S W0 t) (tM X S W0 ge) vs σ H Q := by
  obtain ⟨F, env, O, w, p⟩ := h
  refine ⟨F, env, O, w, PostE.mono (PostE.bind p) fun F1 H1 e1 ds t1 w1 q J m => ?_⟩
  exact lcM_core m trivial (fun _ _ _ _ _ h => h) w1 hjs (PostE.backE w1 q) k
/-- in the comprehension's block -/
abbrev Blk (X : Cx) (scope : Scope) (P : Cx → Prop) : Prop := ∀ (s : Shared) (H : Hp) (C : Addr) (cl : List (Str × Addr)) (fp : List Addr), P (X.blk s H scope (compEnvC scope cl C X.env) fp)
theorem me_lc {ifs : List Expr} {scope : Scope} (own : List (Str × Nat)) {fi : En → R (List D)} {a : D → En → R Unit} {t : En → R Bool} {ge : En → R Tk} {js : List Nat} {g : TG} (hc : X.calm = true) (hN : X.N.Nodup) (hi : MI X S W tg iter fi) (ok : BlkOk X.N X.env.scope scope own)
    (hg : Blk X scope fun Y => PG Y tg g) (hk : MGk X.K X.mg S js a g) (ht : Blk X scope fun Y => MTs Y S W0 ifs t) (he : Blk X scope fun Y => ME Y S W0 elt ge) (hjs : ∀ j ∈ js, j ∈ own.map (·.2) := by decide) (hs : ∀ x, foldedSetIterable iter X.env x = pure x := by intro _; rfl) :
    ME X S W (.ListComp elt [⟨tg, iter, ifs, 0⟩] scope pos) (mLc fi a t ge (own.map (·.2))) :=
  (pe_lc hc hN hi ok (fun s H C cl fp => hg s H C cl fp) (fun s H C cl fp => ht s H C cl fp) (fun s H C cl fp => he s H C cl fp) hs).wk fun σ H Q h => lc_read hk hjs h
theorem _root_.L2.PE.or {t t' : TE} (h : PE X e t) (h' : PE X e t') : PE X e (fun σ H Q => t σ H Q ∨ t' σ H Q) := ⟨fun pins s σ H Q I q => q.elim (h.run pins s σ H Q I) (h'.run pins s σ H Q I)⟩
/-- a value that is wanted while the dict is locked -/
theorem PostE.locked {O : Addr → Prop} {F H : Hp} {σ : St} {env : En} {r : R Tk} {Q : VK} {a : Addr} {u0 : HO} {od : Obj} (w : Wf X.K X.mg S O F H σ env) (ha : F a = some u0) (hH : H a = some u0) (p : PostE X.K X.mg S O W F H σ r (fun F' H' e' t => ∀ v, TkOk X.K X.mg O F' H' σ e' v t → Q v H')) (hu0 : dk u0 = true := by rfl) :
    PostE X.K X.mg S (fun b => O b ∨ b = a) W F (upd H a (.frz od u0)) σ r (fun F' H' e' t => ∀ v, TkOk X.K X.mg (fun b => O b ∨ b = a) F' H' σ e' v t → H' a = some (.frz od u0) ∧ Q v (upd H' a u0)) := by
  have hO : ¬ O a := fun q => by
    obtain ⟨o, e⟩ := w.od a _ q ha hu0
    rw [hH] at e; cases e
  obtain ⟨w1, t1⟩ := w.lock (od := od) ha hH hu0
  cases r with
  | no => exact p
  | er c x e => exact fun F' H' cls dd t w2 eo => p F' H' cls dd (t1.trans (t.weak fun b q => .inl q)) (w2.weak fun b q => .inl q) eo
  | ok t0 e =>
    intro F' H' t w2 v tk
    have hk : H' a = some (.frz od u0) := (t.kp a (.inr rfl)).trans upd_same
    have hf' : F' a = some u0 := t.fz a _ ha
    have w3 := w2.unlock hf' hk hO hu0
    have t3 : Tr O F H F' (upd H' a u0) := ⟨t.fz, fun b q => by
      have ne : b ≠ a := fun e => hO (by rw [← e]; exact q)
      rw [upd_ne ne, t.kp b (.inl q), upd_ne ne], fun b q => t.fr b (.inl q), fun b u q => by
      by_cases e : b = a
      · subst e; exact ⟨_, upd_same⟩
      · rw [upd_ne e]; exact t.al b u (by rw [upd_ne e]; exact q)⟩
    refine ⟨hk, p F' _ t3 w3 v ?_⟩
    cases t0 with
    | val d => exact tk
    | nm i => exact tk
    | nw d =>
      obtain ⟨b, o, e, hf, hn, hOb, ho, z⟩ := tk
      have ne : b ≠ a := fun e => by subst e; rw [hf'] at hf; cases hf
      exact ⟨b, o, e, hf, hn, fun y => hOb (.inl y), by rw [upd_ne ne]; exact ho, z⟩
theorem PostE.wideT {O O' : Addr → Prop} {F H : Hp} {σ : St} {r : R Tk} {Q : VK} (p : PostE X.K X.mg S O W F H σ r (fun F' H' e' t => ∀ v, TkOk X.K X.mg O F' H' σ e' v t → Q v H')) (h : ∀ a, O a → O' a) : PostE X.K X.mg S O' W F H σ r (fun F' H' e' t => ∀ v, TkOk X.K X.mg O' F' H' σ e' v t → Q v H') :=
  PostE.mono (PostE.wide p h) fun F' H' e' t _ _ z v tk => z.2.2 v (by
    cases t with
    | val d => exact tk
    | nm i => exact tk
    | nw d => obtain ⟨a, o, e, hf, hn, hO, q⟩ := tk; exact ⟨a, o, e, hf, hn, fun y => hO (h a y), q⟩)
/-- the iterator's reading, by the dict's -/
def wiD (td : TE) (J : Addr → Obj → List (Key × V) → It) : TI := fun σ H R => td σ H fun x H1 => ∃ d o kvs, x = .ref d ∧ H1 d = some (.frz o (.dK kvs)) ∧ R (J d o kvs) H1
def DRk (X : Cx) (S : Su) (fd : En → R (List (Key × D))) (td : TE) : Prop := ∀ (O : Addr → Prop) (F H : Hp) (σ : St) (env : En) (W : WX) (k : Hp → Hp → En → List (Key × D) → Prop), Wf X.K X.mg S O F H σ env → PostE X.K X.mg S O W F H σ (fd env) k →
  ∃ F' e' kvs a ks, Tr O F H F' H ∧ Wf X.K X.mg S O F' H σ e' ∧ F' a = some (.dK ks) ∧ RepK X.K X.mg F' kvs ks ∧ k F' H e' kvs ∧ ∀ (Q : VK) (H2 : Hp), LkH H a ks H2 → Q (.ref a) H2 → td σ H2 Q
def mLcD (fd : En → R (List (Key × D))) (pr : List (Key × D) → List D) (a : D → En → R Unit) (t : En → R Bool) (ge : En → R Tk) (vs : List Nat) (e : En) : R Tk := (fd e).bind fun kvs e1 => (compE a t ge vs (pr kvs) e1).bind fun t e2 => .ok t (backE e1 vs e2)
theorem lc_readD {fd : En → R (List (Key × D))} {pr : List (Key × D) → List D} {td : TE} {J : Addr → Obj → List (Key × V) → It} {a : D → En → R Unit} {t : En → R Bool} {ge : En → R Tk} {vs js : List Nat} {g : TG} {σ : St} {H : Hp} {Q : VK} (d2 : DRk X S fd td)
    (j1 : ∀ (K : PySem.W.Frag) (mg : Str → Option Value) (F : Hp) (a : Addr) (o : Obj) (ks : List (Key × V)) (kvs : List (Key × D)), RepK K mg F kvs ks → ItM K mg (J a o ks) F (lkD a o ks) (pr kvs)) (k : MGk X.K X.mg S js a g) (hjs : ∀ j ∈ js, j ∈ vs)
    (h : tM X S W (mLcD fd pr a t ge vs) σ H Q) : tLockE (tLc (wiD td J) g (tMT X S W0 t) (tM X S W0 ge) vs) σ H Q ∨ tLc (wiD td J) g (tMT X S W0 t) (tM X S W0 ge) vs σ H Q := by
  obtain ⟨F, env, O, w, p⟩ := h
  obtain ⟨F1, e1, kvs, ad, ks, t1, w1, hF, rk, q, rd⟩ := d2 O F H σ env W _ w (PostE.bind p)
  rcases w1.fz ad _ hF with hH | ⟨o, ks', e, hH⟩
  · refine .inl ⟨ad, .dK ks, hH, trivial, fun od => ?_⟩
    obtain ⟨w2, t2⟩ := w1.lock (od := od) hF hH
    refine rd _ _ (.inr ⟨od, rfl⟩) ⟨ad, od, ks, rfl, upd_same, ?_⟩
    exact lcM_core (Q := fun v H' => H' ad = some (.frz od (.dK ks)) ∧ Q v (upd H' ad (.dK ks))) (j1 X.K X.mg F1 ad od ks kvs rk) (show lkD ad od ks _ from upd_same) (fun F H F' H' t l => (t.kp ad (.inr rfl)).trans l) w2 hjs (PostE.locked w1 hF hH (PostE.backE w1 q)) k
  · cases e
    refine .inr (rd _ _ (.inl rfl) ⟨ad, o, ks, rfl, hH, ?_⟩)
    exact lcM_core (j1 X.K X.mg F1 ad o ks kvs rk) (show lkD ad o ks _ from hH) (fun F H F' H' t l => (t.kp ad (.inr rfl)).trans l) (w1.hold hF hH) hjs (PostE.wideT (PostE.backE w1 q) fun b z => .inl z) k
theorem me_lcD {d0 : Expr} {ifs : List Expr} {scope : Scope} (own : List (Str × Nat)) {fd : En → R (List (Key × D))} {pr : List (Key × D) → List D} {a : D → En → R Unit} {t : En → R Bool} {ge : En → R Tk} {js : List Nat} {g : TG} (hc : X.calm = true) (hN : X.N.Nodup) (hd : DR X S d0 fd) (hi : DIt X tg d0 iter pr) (ok : BlkOk X.N X.env.scope scope own)
    (hg : Blk X scope fun Y => PG Y tg g) (hk : MGk X.K X.mg S js a g) (ht : Blk X scope fun Y => MTs Y S W0 ifs t) (he : Blk X scope fun Y => ME Y S W0 elt ge) (hjs : ∀ j ∈ js, j ∈ own.map (·.2) := by decide) (hs : ∀ x, foldedSetIterable iter X.env x = pure x := by intro _; rfl) :
    ME X S W (.ListComp elt [⟨tg, iter, ifs, 0⟩] scope pos) (mLcD fd pr a t ge (own.map (·.2))) := by
  obtain ⟨td, d1, d2⟩ := hd
  obtain ⟨J, j1, j2⟩ := hi
  have z := pe_lc (elt := elt) (pos := pos) (tt := tMT X S W0 t) (te := tM X S W0 ge) hc hN (j2 td d1) ok (fun s H C cl fp => hg s H C cl fp) (fun s H C cl fp => ht s H C cl fp) (fun s H C cl fp => he s H C cl fp) hs
  exact ((pe_lock z).or z).wk fun σ H Q h => lc_readD d2 j1 hk hjs h
/-- name = [..], on one line -/
theorem asg_read {f : En → R Tk} {i : Nat} {D : Ends} {σ : St} {H : Hp} (h : tMS X S W (mSet i f) D σ H) : tM X S W f σ H fun x H1 => gName i x σ H1 D.nx := by
  obtain ⟨F, env, O, w, p⟩ := h
  refine ⟨F, env, O, w, PostE.mono (Post.toE p) fun F1 H1 e1 t t1 w1 q v tk => ?_⟩
  obtain ⟨F2, e2, t2, w2, _, q2⟩ := asg_post w1 tk q
  exact q2 _ F2 H1 Tr.refl w2
theorem ms_setLc {i : Nat} {y : Str} {py spos : Pos} {ifs : List Expr} {scope : Scope} (own : List (Str × Nat)) {fi : En → R (List D)} {a : D → En → R Unit} {t : En → R Bool} {ge : En → R Tk} {js : List Nat} {g : TG} (hc : X.calm = true) (hN : X.N.Nodup) (hy : X.N[i]? = some y) (hyl : X.env.scope.names.lookup y = some .local)
    (hsw : swapsWith (.ListComp elt [⟨tg, iter, ifs, 0⟩] scope pos) (some (.Name y py)) spos.line X.env = pure true) (hi : MI X S W tg iter fi) (ok : BlkOk X.N X.env.scope scope own)
    (hg : Blk X scope fun Y => PG Y tg g) (hk : MGk X.K X.mg S js a g) (ht : Blk X scope fun Y => MTs Y S W0 ifs t) (he : Blk X scope fun Y => ME Y S W0 elt ge) (hjs : ∀ j ∈ js, j ∈ own.map (·.2) := by decide) (hs : ∀ x, foldedSetIterable iter X.env x = pure x := by intro _; rfl) :
    MS X S W (.Assign [.Name y py] (.ListComp elt [⟨tg, iter, ifs, 0⟩] scope pos) spos) (mSet i (mLc fi a t ge (own.map (·.2)))) :=
  (ps_setLc hc hN hy hyl hsw hi ok (fun s H C cl fp => hg s H C cl fp) (fun s H C cl fp => ht s H C cl fp) (fun s H C cl fp => he s H C cl fp) hs).wk fun D σ H h => lc_read hk hjs (asg_read h)
theorem ms_setLcD {d0 : Expr} {i : Nat} {y : Str} {py spos : Pos} {ifs : List Expr} {scope : Scope} (own : List (Str × Nat)) {fd : En → R (List (Key × D))} {pr : List (Key × D) → List D} {a : D → En → R Unit} {t : En → R Bool} {ge : En → R Tk} {js : List Nat} {g : TG} (hc : X.calm = true) (hN : X.N.Nodup) (hy : X.N[i]? = some y) (hyl : X.env.scope.names.lookup y = some .local)
    (hsw : swapsWith (.ListComp elt [⟨tg, iter, ifs, 0⟩] scope pos) (some (.Name y py)) spos.line X.env = pure true) (hd : DR X S d0 fd) (hi : DIt X tg d0 iter pr) (ok : BlkOk X.N X.env.scope scope own)
    (hg : Blk X scope fun Y => PG Y tg g) (hk : MGk X.K X.mg S js a g) (ht : Blk X scope fun Y => MTs Y S W0 ifs t) (he : Blk X scope fun Y => ME Y S W0 elt ge) (hjs : ∀ j ∈ js, j ∈ own.map (·.2) := by decide) (hs : ∀ x, foldedSetIterable iter X.env x = pure x := by intro _; rfl) :
    MS X S W (.Assign [.Name y py] (.ListComp elt [⟨tg, iter, ifs, 0⟩] scope pos) spos) (mSet i (mLcD fd pr a t ge (own.map (·.2)))) := by
  obtain ⟨td, d1, d2⟩ := hd
  obtain ⟨J, j1, j2⟩ := hi
  have z := ps_setLc (elt := elt) (spos := spos) (py := py) (tt := tMT X S W0 t) (te := tM X S W0 ge) hc hN hy hyl hsw (j2 td d1) ok (fun s H C cl fp => hg s H C cl fp) (fun s H C cl fp => ht s H C cl fp) (fun s H C cl fp => he s H C cl fp) hs
  refine ((ps_lock z).or z).wk fun D σ H h => ?_
  rcases lc_readD d2 j1 hk hjs (asg_read h) with ⟨d, u, h1, h2, h3⟩ | q
  · refine .inl ⟨d, u, h1, h2, fun od => ?_⟩
    exact h3 od
  · exact .inr q
end
/-! ### dict comprehensions -/
def compD (a : D → En → R Unit) (t : En → R Bool) (gk gv : En → R Tk) (vs : List Nat) : List D → List (Key × D) → En → R (List (Key × D))
  | [], acc, e => .ok acc e
  | d :: ds, acc, e => okU (a d e) fun e1 => (noEr (t e1)).bind fun b e2 => bif b then (noEr (gk e2)).bind fun tk e3 => match (pk tk e3).bind keyD with
    | some k => (noEr (gv e3)).bind fun tv e4 => (frc tv e4).bind fun y e5 => compD a t gk gv vs ds (putD acc k y) (wipeE vs e5)
    | none => .no
    else compD a t gk gv vs ds acc (wipeE vs e2)
def compDE (a : D → En → R Unit) (t : En → R Bool) (gk gv : En → R Tk) (vs : List Nat) (ds : List D) (e : En) : R Tk := if ds.length ≤ 16777216 then (compD a t gk gv vs ds [] (wipeE vs e)).bind fun kvs e1 => .ok (.nw (.dct kvs)) e1 else .no
end MM

set_option Elab.async false
set_option linter.all false
set_option maxRecDepth 100000
set_option maxHeartbeats 2000000
/-! M13: built-in functions. -/
namespace MM
open PySem L2
section
variable {X : Cx} {S : Su} {W : WX} {a b : Expr} {p pos : Pos} {f g : En → R Tk} {fa : En → R (List Ar)} {nm : Str}
/-- one argument that is read, nothing new -/
theorem cb1 {id : String} {r : List V → Hp → VK → Prop} {dg : D → Option Tk} (hc : CallR X (.builtin id) r) (hg : Gl X nm) (hm : X.mg nm = none) (hv : bootBuiltins nm = some (.builtin id)) (hp : Pop1 X S W (fun v H Q => r [v] H Q) dg) (h : ME X S W a f)
    (hs : starEach (a :: []) X.env = (false, eval a X.env) :: starEach [] X.env := by rfl) (hn : nm ≠ "__name__" := by decide) (hdb : (nm == ("__debug__" : Str)) = false := by decide) : ME X S W (.Call (.Name nm p) [a] [] pos) (mOp1 f dg) :=
  me_cb1 (r := r) (fun t ht => pe_callB hc hg hm hv ht hn hdb hs) h hp hs
theorem cty1 {id : String} {r : List V → Hp → VK → Prop} {dg : D → Option Tk} (hc : CallR X (.type id) r) (hg : Gl X nm) (hm : X.mg nm = none) (hv : bootBuiltins nm = some (.type id)) (hp : Pop1 X S W (fun v H Q => r [v] H Q) dg) (h : ME X S W a f)
    (hs : starEach (a :: []) X.env = (false, eval a X.env) :: starEach [] X.env := by rfl) (hn : nm ≠ "__name__" := by decide) (hdb : (nm == ("__debug__" : Str)) = false := by decide) : ME X S W (.Call (.Name nm p) [a] [] pos) (mOp1 f dg) :=
  me_cb1 (r := r) (fun t ht => pe_callTy hc hg hm hv ht hn hdb hs) h hp hs
theorem cb2 {id : String} {r : List V → Hp → VK → Prop} {dg : List D → Option Tk} (hc : CallR X (.builtin id) r) (hg : Gl X nm) (hm : X.mg nm = none) (hv : bootBuiltins nm = some (.builtin id)) (hp : PopN X S W r dg) {es : List Expr} (h : MA X S W (a :: es) fa)
    (hs : starEach (a :: es) X.env = (false, eval a X.env) :: starEach es X.env := by rfl) (hpl : (backTo pos (starEach es X.env)).any (·.1) = false := by rfl) (hn : nm ≠ "__name__" := by decide) (hdb : (nm == ("__debug__" : Str)) = false := by decide) : ME X S W (.Call (.Name nm p) (a :: es) [] pos) (mCB fa dg) :=
  me_cb (r := r) (fun t ht => pe_callB hc hg hm hv ht hn hdb hs hpl) h hp

theorem call_lenRd {X : Cx} : CallR X (.builtin "len") (fun xs H Q => ∃ a kvs, xs = [V.ref a] ∧ Rd H a (.dK kvs) ∧ Q (.int kvs.length) H) := by
  rintro pins s σ H _ _ Q I r ⟨a, kvs, rfl, ha, q⟩
  cases r with
  | cons ru rest =>
    cases rest
    cases ru
    exact d_len I ha fun t _ I1 => ⟨.int kvs.length, H, I1, ⟨t, rfl⟩, q⟩
theorem cr_strS {X : Cx} : CallR X (.type "str") (fun xs H Q => ∃ a, xs = [.str a] ∧ Q (.str a) H) := by
  rintro pins s σ H _ _ Q I r ⟨a, rfl, q⟩
  cases r with
  | cons ru rest =>
    cases rest
    obtain ⟨t, rfl⟩ := ru
    exact PySem.P.str_of_str ⟨.str a, H, I, ⟨t, rfl⟩, q⟩
theorem boot_abs : bootBuiltins "abs" = some (.builtin "abs") := by decide +kernel
theorem boot_max : bootBuiltins "max" = some (.builtin "max") := by decide +kernel
theorem boot_min : bootBuiltins "min" = some (.builtin "min") := by decide +kernel
theorem boot_repr : bootBuiltins "repr" = some (.builtin "repr") := by decide +kernel
theorem boot_sorted : bootBuiltins "sorted" = some (.builtin "sorted") := by decide +kernel
theorem boot_len' : bootBuiltins "len" = some (.builtin "len") := by decide +kernel
theorem boot_int' : bootBuiltins "int" = some (.type "int") := by decide +kernel
theorem boot_bool' : bootBuiltins "bool" = some (.type "bool") := by decide +kernel
theorem boot_tuple' : bootBuiltins "tuple" = some (.type "tuple") := by decide +kernel
theorem boot_str' : bootBuiltins "str" = some (.type "str") := by decide +kernel
theorem boot_list' : bootBuiltins "list" = some (.type "list") := by decide +kernel
theorem boot_dict' : bootBuiltins "dict" = some (.type "dict") := by decide +kernel

def dAbs : D → Option Tk
  | .int i => some (.val (.int (if i < 0 then -i else i)))
  | _ => none
theorem me_abs (hg : Gl X "abs") (hm : X.mg "abs" = none) (h : ME X S W a f) (hs : starEach (a :: []) X.env = (false, eval a X.env) :: starEach [] X.env := by rfl) : ME X S W (.Call (.Name "abs" p) [a] [] pos) (mOp1 f dAbs) :=
  cb1 call_abs hg hm boot_abs (fun F H σ env O v x t Q w k e p => by
    cases x <;> first | cases e | skip
    have e1 := k.int
    subst e1
    exact ⟨_, rfl, flatE w p (.int _)⟩) h hs
/-- int(..) of an int, a bool, a text -/
def dInt : D → Option Tk
  | .int i => some (.val (.int i))
  | .bl b => some (.val (.int (if b then 1 else 0)))
  | .str s => if s.length ≤ 640 then (PySem.intText? s).map fun n => .val (.int n) else none
  | _ => none
theorem CallR.or {f : Value} {r r' : List V → Hp → VK → Prop} (h : CallR X f r) (h' : CallR X f r') : CallR X f (fun xs H Q => r xs H Q ∨ r' xs H Q) := fun pins s σ H xs us Q I rv q => q.elim (h pins s σ H xs us Q I rv) (h' pins s σ H xs us Q I rv)
theorem me_toInt (hg : Gl X "int") (hm : X.mg "int" = none) (h : ME X S W a f) (hs : starEach (a :: []) X.env = (false, eval a X.env) :: starEach [] X.env := by rfl) : ME X S W (.Call (.Name "int" p) [a] [] pos) (mOp1 f dInt) :=
  cty1 (CallR.or call_int1 call_int_str) hg hm boot_int' (fun F H σ env O v x t Q w k e p => by
    cases x <;> first | cases e | skip
    · have e1 := k.bl
      subst e1
      exact .inl (.inr ⟨_, rfl, flatE w p (.int _)⟩)
    · have e1 := k.int
      subst e1
      exact .inl (.inl ⟨_, rfl, flatE w p (.int _)⟩)
    · simp only [dInt] at e
      split at e
      · rename_i hl
        obtain ⟨n, h1, rfl⟩ := Option.map_eq_some_iff.mp e
        have e1 := k.str
        subst e1
        exact .inr ⟨_, n, rfl, h1, hl, flatE w p (.int _)⟩
      · cases e) h hs
/-- str(..) of an int, a text -/
def dStr : D → Option Tk
  | .int i => if i.natAbs.log2 < 1920 then some (.val (.str (toString i))) else none
  | .str s => some (.val (.str s))
  | _ => none
theorem me_toStr (hg : Gl X "str") (hm : X.mg "str" = none) (h : ME X S W a f) (hs : starEach (a :: []) X.env = (false, eval a X.env) :: starEach [] X.env := by rfl) : ME X S W (.Call (.Name "str" p) [a] [] pos) (mOp1 f dStr) :=
  cty1 (CallR.or call_str_int cr_strS) hg hm boot_str' (fun F H σ env O v x t Q w k e p => by
    cases x <;> first | cases e | skip
    · simp only [dStr] at e
      split at e
      · rename_i hl
        cases e
        have e1 := k.int
        subst e1
        exact .inl ⟨_, rfl, hl, flatE w p (.str _)⟩
      · cases e
    · have e1 := k.str
      subst e1
      exact .inr ⟨_, rfl, flatE w p (.str _)⟩) h hs
def dMax : List D → Option Tk
  | [.int i, .int j] => some (.val (.int (if j > i then j else i)))
  | _ => none
def dMin : List D → Option Tk
  | [.int i, .int j] => some (.val (.int (if j < i then j else i)))
  | _ => none
def dGcd : List D → Option Tk
  | [.int i, .int j] => some (.val (.int ((Nat.gcd i.natAbs j.natAbs : Nat) : Int)))
  | _ => none
theorem reps2 {K : PySem.W.Frag} {mg : Str → Option Value} {F : Hp} {a b : D} {vs : List V} (h : Reps K mg F [a, b] vs) : ∃ u v, vs = [u, v] ∧ Rep K mg F a u ∧ Rep K mg F b v := by
  cases h with
  | cons h1 h2 => cases h2 with
    | cons h3 h4 => cases h4; exact ⟨_, _, rfl, h1, h3⟩
theorem two_ints {K : PySem.W.Frag} {mg : Str → Option Value} {F : Hp} {ds : List D} {vs : List V} {g : Int → Int → D} {dg : List D → Option Tk} {t : Tk} (hd : ∀ ds t, dg ds = some t → ∃ i j, ds = [.int i, .int j] ∧ t = .val (g i j)) (h : Reps K mg F ds vs) (e : dg ds = some t) : ∃ i j, vs = [.int i, .int j] ∧ t = .val (g i j) := by
  obtain ⟨i, j, rfl, rfl⟩ := hd _ _ e
  obtain ⟨u, v, rfl, h1, h2⟩ := reps2 h
  cases h1; cases h2
  exact ⟨i, j, rfl, rfl⟩
theorem dMax_i (ds : List D) (t : Tk) (e : dMax ds = some t) : ∃ i j, ds = [.int i, .int j] ∧ t = .val (.int (if j > i then j else i)) := by
  unfold dMax at e
  split at e
  · cases e; exact ⟨_, _, rfl, rfl⟩
  · cases e
theorem dMin_i (ds : List D) (t : Tk) (e : dMin ds = some t) : ∃ i j, ds = [.int i, .int j] ∧ t = .val (.int (if j < i then j else i)) := by
  unfold dMin at e
  split at e
  · cases e; exact ⟨_, _, rfl, rfl⟩
  · cases e
theorem dGcd_i (ds : List D) (t : Tk) (e : dGcd ds = some t) : ∃ i j, ds = [.int i, .int j] ∧ t = .val (.int ((Nat.gcd i.natAbs j.natAbs : Nat) : Int)) := by
  unfold dGcd at e
  split at e
  · cases e; exact ⟨_, _, rfl, rfl⟩
  · cases e
theorem me_max (hc : X.calm = true) (hg : Gl X "max") (hm : X.mg "max" = none) {es : List Expr} (h : MA X S W (a :: es) fa) (hs : starEach (a :: es) X.env = (false, eval a X.env) :: starEach es X.env := by rfl) (hpl : (backTo pos (starEach es X.env)).any (·.1) = false := by rfl) :
    ME X S W (.Call (.Name "max" p) (a :: es) [] pos) (mCB fa dMax) := cb2 (call_max2 hc) hg hm boot_max (fun F H σ env O vs ds t Q w r e p => by
    obtain ⟨i, j, rfl, rfl⟩ := two_ints dMax_i r e
    exact ⟨i, j, rfl, flatE w p (.int _)⟩) h hs hpl
theorem me_min (hc : X.calm = true) (hg : Gl X "min") (hm : X.mg "min" = none) {es : List Expr} (h : MA X S W (a :: es) fa) (hs : starEach (a :: es) X.env = (false, eval a X.env) :: starEach es X.env := by rfl) (hpl : (backTo pos (starEach es X.env)).any (·.1) = false := by rfl) :
    ME X S W (.Call (.Name "min" p) (a :: es) [] pos) (mCB fa dMin) := cb2 (call_min2 hc) hg hm boot_min (fun F H σ env O vs ds t Q w r e p => by
    obtain ⟨i, j, rfl, rfl⟩ := two_ints dMin_i r e
    exact ⟨i, j, rfl, flatE w p (.int _)⟩) h hs hpl
theorem me_gcd (hg : Gl X nm) (hm : X.mg nm = some (.builtin "math.gcd")) {es : List Expr} (h : MA X S W (a :: es) fa) (hs : starEach (a :: es) X.env = (false, eval a X.env) :: starEach es X.env := by rfl) (hpl : (backTo pos (starEach es X.env)).any (·.1) = false := by rfl)
    (hdb : (nm == ("__debug__" : Str)) = false := by decide) : ME X S W (.Call (.Name nm p) (a :: es) [] pos) (mCB fa dGcd) :=
  me_cb (r := rGcd) (fun t ht => pe_callBfun cr_gcd hg hm ht hdb hs hpl) h fun F H σ env O vs ds t Q w r e p => by
    obtain ⟨i, j, rfl, rfl⟩ := two_ints dGcd_i r e
    exact ⟨i, j, rfl, flatE w p (.int _)⟩
/-- len -/
theorem me_len (hg : Gl X "len") (hm : X.mg "len" = none) (h : ME X S W a f) (hs : starEach (a :: []) X.env = (false, eval a X.env) :: starEach [] X.env := by rfl) : ME X S W (.Call (.Name "len" p) [a] [] pos) (mOp1 f dLen) :=
  cb1 (CallR.or (CallR.or call_len_seq call_len_str) call_lenRd) hg hm boot_len' (fun F H σ env O v x t Q w k e p => by
    obtain ⟨n, h1, rfl⟩ := Option.map_eq_some_iff.mp (show (lenD x).map (fun (n : Nat) => Tk.val (.int (n : Int))) = some t from e)
    cases x <;> first | (cases h1; done) | skip
    · simp only [lenD, Option.ite_none_right_eq_some, Option.some.injEq] at h1
      obtain ⟨h1, rfl⟩ := h1
      exact .inl (.inr ⟨_, congrArg (fun z => [z]) k.str, line16 h1, flatE w p (.int _)⟩)
    · cases h1
      obtain ⟨p1, xs, rfl, h2, r⟩ := k.lst w
      refine .inl (.inl ⟨p1, xs, rfl, .inl (.inl (.inl h2)), ?_⟩)
      rw [r.length]
      exact flatE w p (.int _)
    · cases h1
      obtain ⟨p1, xs, rfl, h2, r⟩ := k.frl w
      refine .inl (.inl ⟨p1, xs, rfl, .inl h2, ?_⟩)
      rw [r.length]
      exact flatE w p (.int _)
    · cases h1
      obtain ⟨p1, xs, rfl, h2, r⟩ := k.tup w
      refine .inl (.inl ⟨p1, xs, rfl, .inr h2, ?_⟩)
      rw [r.length]
      exact flatE w p (.int _)
    · cases h1
      obtain ⟨p1, xs, rfl, h2, r⟩ := k.dct w
      refine .inr ⟨p1, xs, rfl, h2, ?_⟩
      rw [r.length]
      exact flatE w p (.int _)) h hs
end
/-! ### repr -/
def keyP : Key → PyData
  | .inl i => .int i
  | .inr s => .str s
/-- an atom -/
def atP : D → Option PyData
  | .non => some .none
  | .bl b => some (.bool b)
  | .int i => some (.int i)
  | .str s => some (.str s)
  | _ => none
def atK : List (Key × D) → Option (List (PyData × PyData))
  | [] => some []
  | (k, d) :: r => (atP d).bind fun x => (atK r).map fun xs => (keyP k, x) :: xs
def shP (x : PyData) : Option Tk := if x.showable = true ∧ x.shown.length ≤ 16777216 ∧ x.depth ≤ 60 then some (.val (.str x.shown)) else none
def dRepr (d : D) : Option Tk := match d with
  | .dct kvs => (atK kvs).bind fun xs => shP (.dict xs)
  | d => (pyd d).bind fun x => if x.hasDict = false then shP x else none
/-- what is shown: data without dicts; a dict of atoms -/
def ShV (K : PySem.W.Frag) (H : Hp) (v : V) (x : PyData) : Prop := (Dp K H v x ∧ x.hasDict = false) ∨ ∃ p ks kvs F mg, v = .ref p ∧ Rd H p (.dK ks) ∧ RepK K mg F kvs ks ∧ ∃ xs, atK kvs = some xs ∧ x = .dict xs
def rRepr (K : PySem.W.Frag) : List V → Hp → VK → Prop := fun vs H Q => ∃ v x, vs = [v] ∧ ShV K H v x ∧ x.showable = true ∧ x.shown.length ≤ 16777216 ∧ x.depth ≤ 60 ∧ Q (.str x.shown) H
section
variable {X : Cx} {S : Su} {W : WX} {O : Addr → Prop} {F H : Hp} {σ σ0 : St} {env : En} {pins : List (Addr × Obj)} {s : Shared} {a b : Expr} {p pos : Pos} {f : En → R Tk}
theorem atP_reads {K : PySem.W.Frag} {mg : Str → Option Value} {h : Heap} {d : D} {v : V} {x : PyData} {u : Value} (r : Rep K mg F d v) (e : atP d = some x) (ru : RelV v u) : Reads h u x [] := by
  cases r <;> first | (cases e; done) | skip
  · cases e; cases ru; exact .none
  · cases e; cases ru; exact .bool _
  · cases e; obtain ⟨t, rfl⟩ := ru; exact .int _ t
  · cases e; obtain ⟨t, rfl⟩ := ru; exact .str _ t
theorem keyP_reads {h : Heap} {k : Key} {u : Value} (r : keyIs k u = true) : Reads h u (keyP k) [] := by
  rcases keyIs_shape r with ⟨i, t, rfl, rfl⟩ | ⟨x, t, rfl, rfl⟩
  · exact .int i t
  · exact .str x t
theorem atK_reads {K : PySem.W.Frag} {mg : Str → Option Value} {P : Program} {w : World} {h : Heap} : ∀ {kvs : List (Key × D)} {ks : List (Key × V)} {vs : List (Key × Value)} {es : List DictEntry} {xs : List (PyData × PyData)}, RepK K mg F kvs ks → KV ks vs → Pairs (mixKind P w) es vs → atK kvs = some xs →
    ReadsAll h (es.map (·.key)) (xs.map (·.1)) [] ∧ ReadsAll h (es.map (·.val)) (xs.map (·.2)) []
  | _, _, _, _, _, .nil, kv, pr, e => by
    cases e; cases kv; cases pr
    exact ⟨.nil, .nil⟩
  | _, _, _, _, _, .cons hd tl, kv, pr, e => by
    cases kv with
    | cons k1 k2 =>
      cases pr with
      | cons p1 pv p2 =>
        simp only [atK, Option.bind_eq_some_iff, Option.map_eq_some_iff] at e
        obtain ⟨x, e1, ys, e2, rfl⟩ := e
        obtain ⟨q1, q2⟩ := atK_reads (h := h) tl k2 p2 e2
        refine ⟨.cons (as := []) (keyP_reads ?_) q1, .cons (as := []) (atP_reads hd e1 ?_) q2⟩
        · have e3 := k1.1
          simp only at e3
          subst e3
          exact p1
        · show RelV _ (DictEntry.val _)
          rw [pv]
          exact k1.2
theorem cr_repr (hgd : X.A.guards = some []) (hu : X.A.units + 62 < cLine) : CallR X (.builtin "repr") (rRepr X.K) := by
  intro pins s σ H xs us Q I rv h
  obtain ⟨v, x, rfl, hv, h1, h2, h3, q⟩ := h
  obtain ⟨u, rfl, ru⟩ := vals1 rv
  have fin : ∀ {c : Addr} {as : List Addr}, u = .ref c → Reads s.heap u x as → (x.hasDict = true → sysModules ∉ as) → wpAny (model X.prog X.w) X.A (call (.builtin "repr") [u]) (EP X pins σ Q) X.xe s := by
    intro c as e r hs
    subst e
    exact repr_of_reads' r h1 hs hgd (by omega) (fun _ _ e => e) (fun h' u tk hk => ⟨.str x.shown, H, I.kept hk, ⟨u, rfl⟩, q⟩) (line16 h2)
  rcases hv with ⟨hd, hn⟩ | ⟨p, ks, kvs, F, mg, rfl, hr, rk, ys, hy, rfl⟩
  · cases hd with
    | non => cases ru; exact PySem.P.repr_of_none ⟨.str PyData.none.shown, H, I.tok _, ⟨s.toks, rfl⟩, q⟩
    | bl b => cases ru; exact PySem.P.repr_of_bool ⟨.str (PyData.bool b).shown, H, I.tok _, ⟨s.toks, rfl⟩, q⟩
    | int i => obtain ⟨t, rfl⟩ := ru; exact PySem.P.repr_of_int (by simpa [PyData.showable] using h1) ⟨.str (PyData.int i).shown, H, I.tok _, ⟨s.toks, rfl⟩, q⟩
    | str z => obtain ⟨t, rfl⟩ := ru; exact PySem.P.repr_of_str ⟨.str (PyData.str z).shown, H, I.tok _, ⟨s.toks, rfl⟩, q⟩ (line16 h2)
    | lst hs ha => obtain ⟨as, r⟩ := Dp.reads I _ _ u (.lst hs ha) ru; cases ru; exact fin rfl r (PyData.noDict_hsm hn)
    | tup hs ha => obtain ⟨as, r⟩ := Dp.reads I _ _ u (.tup hs ha) ru; cases ru; exact fin rfl r (PyData.noDict_hsm hn)
  · cases ru
    obtain ⟨z, hd, vs, rel, o, es, ep, ho, hx, hdt, hk, hp, hnd⟩ := dk_rd I.hok hr
    obtain ⟨q1, q2⟩ := atK_reads (h := s.heap) rk rel hp hy
    refine fin rfl (Reads.dict ho hx.1 hdt q1 q2) fun _ hm => ?_
    simp at hm
    rw [hm] at hd
    simp at hd
theorem me_repr (hgd : X.A.guards = some []) (hu : X.A.units + 62 < cLine) (hg : Gl X "repr") (hm : X.mg "repr" = none) (h : ME X S W a f) (hs : starEach (a :: []) X.env = (false, eval a X.env) :: starEach [] X.env := by rfl) : ME X S W (.Call (.Name "repr" p) [a] [] pos) (mOp1 f dRepr) :=
  cb1 (cr_repr hgd hu) hg hm boot_repr (fun F H σ env O v x t Q w k e p => by
    have sh : ∀ {y : PyData}, shP y = some t → ShV X.K H v y → rRepr X.K [v] H Q := by
      intro y e2 h2
      unfold shP at e2
      split at e2
      · rename_i hc
        cases e2
        exact ⟨v, y, rfl, h2, hc.1, hc.2.1, hc.2.2, flatE w p (.str _)⟩
      · cases e2
    have other : (pyd x).bind (fun y => if y.hasDict = false then shP y else none) = some t → rRepr X.K [v] H Q := by
      intro e
      obtain ⟨y, h1, h2⟩ := Option.bind_eq_some_iff.mp e
      split at h2
      · rename_i hn
        exact sh h2 (.inl ⟨k.dp w h1, hn⟩)
      · cases h2
    cases x with
    | dct kvs =>
      obtain ⟨ys, h1, h2⟩ := Option.bind_eq_some_iff.mp (show (atK kvs).bind (fun xs => shP (.dict xs)) = some t from e)
      obtain ⟨p1, ks, rfl, hr, r⟩ := k.dct w
      exact sh h2 (.inr ⟨p1, ks, kvs, F, X.mg, rfl, hr, r, ys, h1, rfl⟩)
    | _ => exact other e) h hs
end
end MM

set_option Elab.async false
set_option linter.all false
set_option maxRecDepth 100000
set_option maxHeartbeats 2000000
/-! M14: o[i] = e; a, b = x, y; append. -/
namespace MM
open PySem L2
theorem PSet.or {X : Cx} {t t' : TSet} (h : PSet X t) (h' : PSet X t') : PSet X (fun o i v H Q => t o i v H Q ∨ t' o i v H Q) := fun pins s σ H o i v ov iv u Q I r1 r2 r3 q => q.elim (h pins s σ H o i v ov iv u Q I r1 r2 r3) (h' pins s σ H o i v ov iv u Q I r1 r2 r3)
def putP (x d : D) : D → Option D
  | .lst ds => match x with
    | .int k => (ixN ds.length k).map fun j => .lst (ds.set j d)
    | _ => none
  | .dct kvs => if kvs.length < 16777216 then (keyD x).map fun k => .dct (putD kvs k d) else none
  | _ => none
def mPut (fv fo fi : En → R Tk) (e : En) : R Fl := (fv e).bind fun t e1 => (frc t e1).bind fun d e2 => (fo e2).bind fun u e3 => (fi e3).bind fun s e4 => match pk s e4 with
  | some x => (mutT (putP x d) u e4).bind fun _ e5 => .ok .nx e5
  | none => .no
section
variable {X : Cx} {S : Su} {W : WX} {a b o i value : Expr} {p pos pos' : Pos} {f g fv fo fi : En → R Tk} {fa : En → R (List Ar)} {nm : Str}
theorem ms_put (hu : X.A.units + 1 < cLine) (ho : ME X S W o fo) (hi : ME X S W i fi) (hv : ME X S W value fv) (hs : swapsWithSole [.Subscript o i pos'] value pos.line X.env = pure false := by rfl) (hw : swappedStores [.Subscript o i pos'] value X.env = pure none := by rfl)
    (h1 : (assignEach [.Subscript o i pos'] X.env).map (·.2) = [assign (.Subscript o i pos') X.env] := by rfl)
    (ha : ∀ v, assign (.Subscript o i pos') X.env v = (do
      let ov ← holding [v] (eval o X.env)
      let iv ← holding [v, ov] (eval i X.env)
      standAt pos'
      holding [v, ov, iv] (setItem ov iv v)
      release [v, ov, iv] []) := by intro _; rfl) : MS X S W (.Assign [.Subscript o i pos'] value pos) (mPut fv fo fi) :=
  (ps_asg hv (pg_sub ho hi (PSet.or set_list (set_dict hu)) ha) hs hw h1).wk fun D σ H ⟨F, env, O, w, p⟩ => by
    refine ⟨F, env, O, w, PostE.mono (Post.toE p) fun F1 H1 e1 t t1 w1 q v tk => ?_⟩
    obtain ⟨F2, e2, d, t2, w2, rd, q2⟩ := frc_k w1 tk (Post.toE q)
    refine ⟨F2, e2, O, w2, PostE.mono (Post.toE q2) fun F3 H3 e3 u t3 w3 q3 x tku => ?_⟩
    refine ⟨F3, e3, Pd O u x, tku.pd w3, PostE.mono (PostE.wide (Post.toE q3) (Pd.up (O := O) (t := u) (v := x))) fun F4 H4 e4 s t4 w4 q4 y tks => ?_⟩
    obtain ⟨t5, w5, q5⟩ := q4
    cases z : pk s e4 with
    | none => rw [z] at q5; exact q5.elim
    | some dx =>
      rw [z] at q5
      have ky := pk_ok w4 tks z
      obtain ⟨p1, ob, d0, d', e6, ex, hob, ht, hg, fin⟩ := mut_k (w5.weak Pd.up) (tku.tr t5 w5) (Post.toE q5)
      unfold putP at hg
      cases ht with
      | lst r =>
        simp only at hg
        cases dx <;> first | (cases hg; done) | skip
        obtain ⟨j, hj, rfl⟩ := Option.map_eq_some_iff.mp hg
        obtain ⟨w7, t7, q7⟩ := fin _ (.lst (r.set j (rd.mono (t3.fz.trans t5.fz))))
        exact .inl ⟨p1, _, _, j, ex, ky.int, hob, by rw [r.length]; exact hj, q7 σ _ _ Tr.refl w7⟩
      | dct r =>
        simp only at hg
        split at hg
        · rename_i hl
          obtain ⟨k, hk, rfl⟩ := Option.map_eq_some_iff.mp hg
          obtain ⟨w7, t7, q7⟩ := fin _ (.dct (RepK.put k (rd.mono (t3.fz.trans t5.fz)) r))
          have ey := keyD_ok ky hk
          subst ey
          exact .inr ⟨p1, _, ex, DPut.k hob (by rw [sizeLine_eq, r.length]; exact hl), q7 σ _ _ Tr.refl w7⟩
        · cases hg
      | dcT _ => cases hg
      | ins _ _ => cases hg
/-! ### a, b = x, y -/
def mPar (i j : Nat) (f : En → R (List Ar)) (e : En) : R Fl := (f e).bind fun as e1 => match as with
  | [.d a, .d b] => (asg i (.val a) e1).bind fun _ e2 => (asg j (.val b) e2).bind fun _ e3 => .ok .nx e3
  | _ => .no
theorem ms_par {i j : Nat} {st : Stmt} (hp : ∀ ta, PA X [a, b] ta → PS X st (tPar i j ta)) (h : MA X S W [a, b] fa) : MS X S W st (mPar i j fa) :=
  (hp _ h).wk fun D σ H ⟨F, env, O, w, p⟩ => by
    refine ⟨F, env, O, w, PostE.mono (Post.toE p) fun F1 H1 e1 as t1 w1 q vs ra => ?_⟩
    match as, vs, ra with
    | [.d x, .d y], [u, v], ⟨r1, r2, _⟩ =>
      obtain ⟨F2, e2, t2, w2, _, q2⟩ := asg_post (i := i) w1 (show TkOk X.K X.mg O F1 H1 σ e1 u (.val x) from r1) q
      obtain ⟨F3, e3, t3, w3, _, q3⟩ := asg_post (i := j) w2 (show TkOk X.K X.mg O F2 H1 _ e2 v (.val y) from r2.mono t2.fz) q2
      exact ⟨u, v, rfl, q3 _ _ _ Tr.refl w3⟩
    | [], _, _ => exact q.elim
    | [.d _], _, _ => exact q.elim
    | [.d _, .mv _], _, _ => exact q.elim
    | .mv _ :: _, _, _ => exact q.elim
    | .d _ :: .d _ :: _ :: _, _, _ => exact q.elim
    | .d _ :: .mv _ :: _ :: _, _, _ => exact q.elim
    | [.d _, .d _], [], ra => exact ra.elim
    | [.d _, .d _], [_], ra => exact ra.2.elim
    | [.d _, .d _], _ :: _ :: _ :: _, ra => exact ra.2.2.elim
end
end MM

set_option Elab.async false
set_option linter.all false
set_option maxRecDepth 100000
set_option maxHeartbeats 2000000
/-! M15: the law's end, from the outcome of its def at the script. -/
namespace MM
open PySem L2 PySem.Spec PyProof.Rows PySem.W PySem.Calls
section
variable {P : Program} {w : World} {K : PySem.W.Frag} {mg mb : Str → Option Value} {k : Nat} {fa a : Addr} {fd : FuncData} {x : Str} {m : En → R Tk} {s1 : Shared} {vs : List Value} {ns : List Int}
/-- what the law must say -/
def Holds1 (m : En → R Tk) (ns : List Int) : Prop := ∃ e, m [.sh (.frl (ns.map .int))] = .ok (.val (.bl true)) e
theorem reps_ints {K : PySem.W.Frag} {mg : Str → Option Value} {F : Hp} : ∀ ns : List Int, Reps K mg F (ns.map .int) (ns.map V.int)
  | [] => .nil
  | n :: ns => .cons (.int n) (reps_ints ns)
/-- the script's heap -/
def scH (a : Addr) (t : Bool) (vs : List Value) (ns : List Int) : Hp := fun b => if b = a ∧ t = true then some (.frz { cls := .type "list", data := .seq vs.toArray } (.lst (ns.map V.int))) else none
theorem scH_some {a b : Addr} {t : Bool} {vs : List Value} {ns : List Int} {o : HO} (h : scH a t vs ns b = some o) : b = a ∧ t = true ∧ o = .frz { cls := .type "list", data := .seq vs.toArray } (.lst (ns.map V.int)) := by
  unfold scH at h
  split at h
  · rename_i q; cases h; exact ⟨q.1, q.2, rfl⟩
  · cases h
theorem spec_of {E : XK} {H : Hp} (hS : SqL K H a (ns.map V.int)) (hH : ∀ b ks, H b ≠ some (.dK ks)) (h : Holds1 m ns) : SpM K mg 1 m [.ref a] H (fun v _ => v = .bl true) E := by
  obtain ⟨e, he⟩ := h
  refine ⟨rfl, fun _ => none, H, [.sh (.frl (ns.map .int))], fun _ => False, rfl, ⟨fun b u q => .inl q, fun i s q => ?_, fun i j s t p q1 _ o1 => ?_, fun _ z => z.elim, fun _ _ z => z, fun _ _ z => z.elim⟩, ?_⟩
  · cases i with
    | zero => cases q; exact ⟨_, rfl, _, rfl, .frl hS (reps_ints ns)⟩
    | succ i => simp at q
  · cases i with
    | zero => cases q1; cases o1
    | succ i => simp at q1
  · rw [he]
    intro F' H' _ _ v tk
    cases tk
    rfl
/-- the law's def, called with the script -/
theorem run_law (KX : K.In s1.heap) (hns : s1.heap.Ns mainGlobals mg) (hb : s1.heap.Ns builtinsNs mb) (hbb : ∀ x : Str, x ≠ "__name__" → mb x = bootBuiltins x) (hlim : s1.heap.NoLimit) (hg : s1.gens = #[])
    (ha : s1.heap.get? a = some { cls := .type "list", data := .seq vs.toArray }) (hi : IntsAre vs ns) (hl : ns.length ≤ sizeLine) (hr : Rm k callerA)
    (F : ∀ base : Heap, K.In base → base.Ns mainGlobals mg → FnG P w K mg base (L2.CX P w) k fa fd [x] (SpM K mg 1 m)) (hbind : ∀ (s : Shared) (u : Value), BindsTo s fd ⟨[u], []⟩ [(x, u)]) (hm : Holds1 m ns) :
    codeAny (model P w) callerA (.call (.ref fa) ⟨[.ref a], []⟩) (fun r s' => r = .ok (.ret (.bool true)) ∧ OldK s1.heap s'.heap ∧ s'.os = s1.os ∧ AllBare s'.gens) s1 := by
  have rv : Vals (ns.map V.int) vs := vals_ints hi
  have hlv : vs.length = ns.length := hi.length
  obtain ⟨t, ht⟩ : ∃ t : Bool, t = (K.lookup a).isNone := ⟨_, rfl⟩
  have hok : HOk P w (scH a t vs ns) s1.heap := fun b u z => by
    obtain ⟨rfl, _, rfl⟩ := scH_some z
    exact ⟨ha, by rw [List.length_map]; exact hl, vs, _, rv, ha⟩
  have hS : SqL K (scH a t vs ns) a (ns.map V.int) := by
    cases hk : K.lookup a with
    | none => exact .inl (.inr ⟨_, if_pos ⟨rfl, by rw [ht, hk]; rfl⟩⟩)
    | some o =>
      have e := (KX a o hk).symm.trans ha
      cases e
      exact .inr ⟨_, vs.toArray, _, hk, rfl, rfl, rfl, by rw [List.size_toArray, hlv]; exact hl, by simpa using rv⟩
  have other : ∀ {b : Addr} {o : Obj}, s1.heap.get? b = some o → (b = a → K.lookup a = none → False) → scH a t vs ns b = none := fun {b o} e ne => by
    cases z : scH a t vs ns b with
    | none => rfl
    | some u =>
      obtain ⟨e1, e2, _⟩ := scH_some z
      exact (ne e1 (by rw [ht] at e2; exact Option.isNone_iff_eq_none.mp e2)).elim
  have ns' : ∀ {b : Addr} {mm : Str → Option Value}, s1.heap.Ns b mm → (hidT s1.heap (scH a t vs ns)).Ns b mm := fun {b mm} ⟨o, es, ep, e, d, r⟩ =>
    ⟨o, es, ep, hidT_get e (other e fun e1 _ => by rw [e1, ha] at e; cases e; cases d), d, r⟩
  have hK : K.In (hidT s1.heap (scH a t vs ns)) := fun b o e => hidT_get (KX b o e) (other (KX b o e) fun e1 e2 => by rw [e1, e2] at e; cases e)
  have hMod : Mod K mg (hidT s1.heap (scH a t vs ns)) := by
    obtain ⟨mc, c1, c2⟩ := hlim
    exact ⟨hK, ns' hns, ⟨mb, ns' hb, hbb⟩, ⟨mc, ns' c1, c2⟩⟩
  have none' : ∀ b ∈ frs ([] : List Env), scH a t vs ns b = none := fun b z => by cases z
  have e0 : Env0 P w K mg (hidT s1.heap (scH a t vs ns)) callerA [] s1 (scH a t vs ns) := ⟨rfl, hMod, fun b o e => of_hidT e, by rw [hidT_size]; exact Nat.le_refl _, trivial, none', hok, .of_eq hg⟩
  have sp : SpM K mg 1 m [.ref a] (scH a t vs ns) (fun v _ => v = .bl true) (fun _ _ _ => False) := spec_of hS (fun b ks z => by obtain ⟨_, _, z⟩ := scH_some z; cases z) hm
  have R0 := (F _ hK (ns' hns)).run callerA [] s1 (scH a t vs ns) ⟨[.ref a], []⟩ [.ref a] [.ref a] _ _ hr e0 (hbind s1 _) (.cons rfl .nil) sp
  refine codeAny_mono R0 fun r s' z => ?_
  cases r with
  | error e =>
    obtain ⟨_, _, _, _, _, _, _, _, _, _, _, _, no⟩ := z
    exact no.elim
  | ok fl =>
    cases fl with
    | ret u =>
      obtain ⟨v, H', os, bare, un, hok', rv', q⟩ := z
      subst q
      cases rv'
      refine ⟨rfl, OldK.of_keep fun b o e => ?_, os, bare⟩
      cases z : scH a t vs ns b with
      | none => exact un.keep b o e z (fun y => by cases y) (fun y => by cases y)
      | some u =>
        obtain ⟨rfl, _, rfl⟩ := scH_some z
        have k1 := (hok' b _ (un.frzs b _ _ z)).1
        rw [ha] at e
        cases e
        exact k1
    | next => exact z.elim
    | brk => exact z.elim
    | cont => exact z.elim
end
/-- the walk, from the outcome -/
theorem walkM {l : PySem.W.OpenLaw} {n k : Nat} {q : Program} {loose : List Str} {XP : (Str → Option Value) → Heap → Prop} {YP : World → Heap → Prop} {d : DefRec} {x : Str} {m : En → R Tk}
    (hn : l.most = some n) (hn2 : n ≤ sizeLine) (hdf : d.params.defaults = []) (hr : Rm k callerA)
    (F : ∀ (w : World) (mg : Str → Option Value) (fa : Addr) (h : Heap), YP w h → h.Ns mainGlobals mg → mg d.name = some (.ref fa) →
      ∃ (K : PySem.W.Frag) (fd : FuncData), K.In h ∧ (∀ (s : Shared) (u : Value), BindsTo s fd ⟨[u], []⟩ [(x, u)]) ∧ ∀ base : Heap, K.In base → base.Ns mainGlobals mg → FnG l.prog w K mg base (L2.CX l.prog w) k fa fd [x] (SpM K mg 1 m))
    (hm : ∀ ns : List Int, ns.length ≤ n → Holds1 m ns) : PySem.W.WalkO q loose XP YP l.row.toRowW d [] (fun f vs => PySem.call f vs) := by
  refine Att.attach_call hn hdf fun w _ s1 mg _ fa _ _ _ _ a _ ns G Y _ _ _ hmg hobj hints hlen hg => ?_
  obtain ⟨K, fd, KX, hb, hF⟩ := F w mg fa _ Y G.T.g hmg
  exact run_law KX G.T.g G.T.b G.T.builtins G.T.nolimit hg hobj hints (Nat.le_trans hlen hn2) hr hF hb (hm ns hlen)
theorem rm_caller {k : Nat} (h : Room k callerA) : Rm k callerA := ⟨h, rfl⟩
end MM

set_option Elab.async false
set_option linter.all false
set_option maxRecDepth 100000
set_option maxHeartbeats 2000000
/-! M16: facts of the module behind its top, as one computed observation. -/
namespace MM
open PySem PySem.Spec PyProof.Rows L2 PySem.W
/-- where a def stands: a name of the module; a class's own; a property's getter; a classmethod's def -/
inductive At where
  | g (x : Str) | m (x y : Str) | pr (x y : Str) | cm (x y : Str)
def fstOf (o : Option (List Value)) : Addr := match o with
  | some (.ref a :: _) => a
  | _ => 0
def prA (K : Frag) (x y : Str) : Addr := He.ma K (He.ga K x) y
def At.ad (K : Frag) : At → Addr
  | .g x => He.ga K x
  | .m x y => prA K x y
  | .pr x y => fstOf (recIn K (prA K x y) "property")
  | .cm x y => fstOf (recIn K (prA K x y) "classmethod")
def datOf (K : Frag) (a : Addr) : Option FuncData := match K.lookup a with
  | some ⟨_, _, .func fd, _⟩ => some fd
  | _ => none
structure Df where
  at_ : At
  name : Str
  qual : Str
  st : Stmt
  dfl : List He.Dv := []
def rowOf (fd : FuncData) : He.FnW := some (fd.name, fd.qualname, fd.params, fd.body, fd.scope, fd.globals, fd.closure, fd.builtins)
def Df.want (d : Df) : He.FnW := some (d.name, d.qual, defArgs d.st, .stmts (defBody d.st), defScope d.st, mainGlobals, [], builtinsNs)
def Df.seen (K : Frag) (d : Df) : He.FnW := (datOf K (d.at_.ad K)).bind rowOf
def Df.dvs (K : Frag) (d : Df) : List V := d.dfl.map (He.Dv.v K)
def Df.good (K : Frag) (d : Df) : Bool := keepIn K (.ref (d.at_.ad K)) && (match datOf K (d.at_.ad K) with
  | some fd => codeIn K fd.code d.qual && He.dflB K fd.defaults (d.dvs K)
  | none => false)
abbrev FnD (K : Frag) (d : Df) (fd : FuncData) : Prop := FunD K d.name d.qual (defArgs d.st) (defBody d.st) (defScope d.st) (d.dvs K) [] (d.at_.ad K) fd
theorem Df.fun_ {K : Frag} {d : Df} (e : d.seen K = d.want) (c : d.good K = true) : ∃ fd, FnD K d fd := by
  unfold Df.good at c
  rw [Bool.and_eq_true] at c
  obtain ⟨kp, c⟩ := c
  unfold Df.seen at e
  unfold datOf at c e
  split at c
  · rename_i fd hfd
    rw [hfd] at e
    split at hfd
    · rename_i oc od fd' osl hk
      cases hfd
      obtain ⟨n1, n2, n3, n4, n5, n6, n7, n8, n9, n10, n11, n12, n13, n14, n15⟩ := fd
      simp only [Option.bind_some, rowOf, Df.want, Option.some.injEq, Prod.mk.injEq] at e
      obtain ⟨h1, h2, h3, h4, h5, h6, h7, h8⟩ := e
      subst h1 h2 h3 h4 h5 h6 h7 h8
      rw [Bool.and_eq_true] at c
      exact ⟨_, ⟨oc, od, n8, n9, n10, n11, n12, n13, n14, osl, rfl, hk, c.1, He.dflB_ok c.2, .inl rfl⟩, kp⟩
    · cases hfd
  · cases c
abbrev Fac : Type := Frag → Bool
abbrev Ob : Type := Bool × List He.FnW
def obM (fa : List Fac) (fn : List Df) (K : Frag) : Ob := ((fa.all fun f => f K) && fn.all fun d => d.good K, fn.map fun d => d.seen K)
def vaM (fn : List Df) : Ob := (true, fn.map Df.want)
def Told (fa : List Fac) (fn : List Df) (K : Frag) : Prop := obM fa fn K = vaM fn
/-- what is looked at: what the module's names lead to, and the statics -/
def asM (g : Addr → Option Obj) : Nat → List Addr
  | 0 => [mainGlobals, cStatics]
  | n + 1 => He.growD g (asM g n)
def obG (n : Nat) (fa : List Fac) (fn : List Df) (g : Addr → Option Obj) : Ob := obM fa fn (He.frG g (asM g n))
def hookM (n : Nat) (fa : List Fac) (fn : List Df) : Hook := ⟨Ob, fun s => obG n fa fn s.heap.get?, fun _ => vaM fn, fun _ h => ∃ K : Frag, K.In h ∧ Told fa fn K, fun _ _ e => ⟨_, He.frG_in, e⟩, fun _ _ _ ⟨K, hK, c⟩ k => ⟨K, Frag.In.keeps hK k, c⟩⟩
theorem obG_eq {n : Nat} {fa : List Fac} {fn : List Df} (s : SharedT) : obG n fa fn (HandSHeadRun.getT s) = (hookM n fa fn).obs s.abs := by
  have e : HandSHeadRun.getT s = s.abs.heap.get? := funext fun a => HandSHeadRun.getT_eq s a
  show obG n fa fn (HandSHeadRun.getT s) = obG n fa fn s.abs.heap.get?
  rw [e]
/-- the facts, and the module's names -/
structure Ctx (fa : List Fac) (fn : List Df) (K : Frag) (mg : Str → Option Value) : Prop where
  told : Told fa fn K
  ns : ∃ h : Heap, K.In h ∧ h.Ns mainGlobals mg
section
variable {fa : List Fac} {fn : List Df} {K : Frag} {mg : Str → Option Value}
theorem Ctx.fact (c : Ctx fa fn K mg) {f : Fac} (i : Nat) (h : fa[i]? = some f) : f K = true := by
  have c1 : ((fa.all fun f => f K) && fn.all fun d => d.good K) = true := congrArg (fun z : Ob => z.1) c.told
  rw [Bool.and_eq_true] at c1
  exact List.all_eq_true.mp c1.1 f (List.mem_of_getElem? h)
theorem Ctx.df (c : Ctx fa fn K mg) {d : Df} (i : Nat) (h : fn[i]? = some d) : ∃ fd, FnD K d fd := by
  have c1 : ((fa.all fun f => f K) && fn.all fun d => d.good K) = true := congrArg (fun z : Ob => z.1) c.told
  rw [Bool.and_eq_true] at c1
  have e : (fn.map fun d => d.seen K)[i]? = (fn.map Df.want)[i]? := congrArg (fun z : Ob => z.2[i]?) c.told
  rw [List.getElem?_map, List.getElem?_map, h] at e
  exact Df.fun_ (Option.some.inj e) (List.all_eq_true.mp c1.2 d (List.mem_of_getElem? h))
/-! ### facts in use -/
def fGlo (x : Str) : Fac := fun K => decide (nsIn K mainGlobals x = some (some (.ref (He.ga K x))))
def fFree (x : Str) : Fac := fun K => decide (nsIn K mainGlobals x = some none)
def fVal (x : Str) (v : Value) : Fac := fun K => decide (nsIn K mainGlobals x = some (some v))
theorem Ctx.glo (c : Ctx fa fn K mg) {x : Str} (i : Nat) (h : fa[i]? = some (fGlo x)) : mg x = some (.ref (He.ga K x)) := by
  obtain ⟨hp, X, G⟩ := c.ns
  exact mg_of X G (of_decide_eq_true (c.fact i h))
theorem Ctx.free (c : Ctx fa fn K mg) {x : Str} (i : Nat) (h : fa[i]? = some (fFree x)) : mg x = none := by
  obtain ⟨hp, X, G⟩ := c.ns
  exact mg_none_of X G (of_decide_eq_true (c.fact i h))
theorem Ctx.val (c : Ctx fa fn K mg) {x : Str} {v : Value} (i : Nat) (h : fa[i]? = some (fVal x v)) : mg x = some v := by
  obtain ⟨hp, X, G⟩ := c.ns
  exact mg_of X G (of_decide_eq_true (c.fact i h))
/-- an own class: plain, its instances looked at by isinstance -/
def fCls (x : Str) : Fac := fun K => plainGet K (He.ga K x) Str.empty && hasDictIn K (He.ga K x) && plainOver K (He.ga K x) && decide (findIn K (.ref (He.ga K x)) "__setattr__" = some (some (.builtin "object.__setattr__")))
  && decide (findIn K (.ref (He.ga K x)) "__class__" = some (some (.builtin "object.__class__"))) && decide (specialIn K (.builtin "object.__class__") "__get__" = some (some (.builtin "getset_descriptor.__get__")))
  && decide (takesIn K (.builtin "object.__class__") = some true) && decide (mroIn K (He.ga K x) (.type "object") = some true) && selfFirst K (He.ga K x)
theorem fCls_ok {x : Str} (h : fCls x K = true) : ClI K (He.ga K x) ∧ selfFirst K (He.ga K x) = true := by
  unfold fCls at h
  simp only [Bool.and_eq_true, decide_eq_true_eq] at h
  obtain ⟨⟨⟨⟨⟨⟨⟨⟨h1, h2⟩, h3⟩, h4⟩, h5⟩, h6⟩, h7⟩, h8⟩, h9⟩ := h
  exact ⟨⟨⟨h1, h2, h3, h4⟩, h5, h6, h7, h8⟩, h9⟩
def fNo (x f : Str) : Fac := fun K => decide (findIn K (.ref (He.ga K x)) f = some none)
theorem fNo_ok {x f : Str} (h : fNo x f K = true) : NoAttr K (He.ga K x) f := of_decide_eq_true (p := findIn K (.ref (He.ga K x)) f = some none) h
def fMeth (x m : Str) : Fac := fun K => decide (findIn K (.ref (He.ga K x)) m = some (some (.ref (prA K x m)))) && isFn K (.ref (prA K x m)) && keepIn K (.ref (prA K x m))
theorem fMeth_ok {x m : Str} (h : fMeth x m K = true) : Meth K (He.ga K x) m (prA K x m) := by
  unfold fMeth at h
  simp only [Bool.and_eq_true, decide_eq_true_eq] at h
  exact ⟨h.1.1, h.1.2, h.2⟩
def fMk (x : Str) : Fac := fun K => makesIn K (He.ga K x) && decide (findIn K (.ref (He.ga K x)) "__init__" = some (some (.ref (prA K x "__init__")))) && isFn K (.ref (prA K x "__init__")) && keepIn K (.ref (He.ga K x))
theorem fMk_ok {x : Str} (h : fMk x K = true) : Mk K (He.ga K x) (prA K x "__init__") := by
  unfold fMk at h
  simp only [Bool.and_eq_true, decide_eq_true_eq] at h
  exact ⟨h.1.1.1, h.1.1.2, h.1.2, h.2⟩
def fProp (x f : Str) : Fac := fun K => decide (findIn K (.ref (He.ga K x)) f = some (some (.ref (prA K x f)))) && decide (specialIn K (.ref (prA K x f)) "__get__" = some (some (.builtin "property.__get__"))) && decide (takesIn K (.ref (prA K x f)) = some true)
  && (match recIn K (prA K x f) "property" with
    | some (.ref _ :: _) => true
    | _ => false)
theorem fst_ok {o : Option (List Value)} (h : (match o with
    | some (.ref _ :: _) => true
    | _ => false) = true) : ∃ rest, o = some (.ref (fstOf o) :: rest) := by
  split at h
  · rename_i a r; exact ⟨r, rfl⟩
  · cases h
theorem fProp_ok {x f : Str} (h : fProp x f K = true) : PropOf K (He.ga K x) f (prA K x f) ((At.pr x f).ad K) := by
  unfold fProp at h
  rw [Bool.and_eq_true] at h
  obtain ⟨h1, h2⟩ := h
  simp only [Bool.and_eq_true, decide_eq_true_eq] at h1
  exact ⟨h1.1.1, h1.1.2, h1.2, fst_ok h2⟩
/-- an own error -/
def veB : List Value := [.type "ValueError", .type "Exception", .type "BaseException", .type "object"]
def fExc (x : Str) : Fac := fun K => excIn K (He.ga K x) veB "ValueError.__new__" && keepIn K (.ref (He.ga K x)) && decide (subIn K (.ref (He.ga K x)) (.type "BaseException") = some true) && decide (typeIn K (.ref (He.ga K x)) = some (.type "type"))
theorem fExc_ok {x : Str} (h : fExc x K = true) : excIn K (He.ga K x) veB "ValueError.__new__" = true ∧ keepIn K (.ref (He.ga K x)) = true ∧ subIn K (.ref (He.ga K x)) (.type "BaseException") = some true ∧ typeIn K (.ref (He.ga K x)) = some (.type "type") := by
  unfold fExc at h
  simp only [Bool.and_eq_true, decide_eq_true_eq] at h
  exact ⟨h.1.1.1, h.1.1.2, h.1.2, h.2⟩
/-- .. that keeps a field -/
def fOex (x f : Str) : Fac := fun K => excInitIn K (He.ga K x) veB "ValueError.__new__" && (match K.lookup (He.ga K x) with
    | some ⟨_, _, .cls cd, _⟩ => cd.hasDict && PySem.HandSPX.refsVE cd.mro.tail
    | _ => false) && decide (findIn K (.ref (He.ga K x)) "__setattr__" = some (some (.builtin "object.__setattr__"))) && decide (subIn K (.ref (He.ga K x)) (.type "BaseException") = some true) && decide (typeIn K (.ref (He.ga K x)) = some (.type "type")) && keepIn K (.ref (He.ga K x))
  && decide (findIn K (.ref (He.ga K x)) "__init__" = some (some (.ref (prA K x "__init__")))) && decide (typeIn K (.ref (prA K x "__init__")) = some (.type "function"))
  && decide (findIn K (.ref (He.ga K x)) "__getattribute__" = some (some (.builtin "BaseException.__getattribute__"))) && decide (findIn K (.ref (He.ga K x)) "__getattr__" = some none) && hasDictIn K (He.ga K x) && decide (findIn K (.ref (He.ga K x)) f = some none)
theorem fOex_ok (c : Ctx fa fn K mg) {x f : Str} (h : fOex x f K = true) : OexC K (He.ga K x) ∧ findIn K (.ref (He.ga K x)) "__init__" = some (some (.ref (prA K x "__init__"))) ∧ typeIn K (.ref (prA K x "__init__")) = some (.type "function") ∧ ExR K (He.ga K x) f := by
  unfold fOex at h
  simp only [Bool.and_eq_true, decide_eq_true_eq] at h
  obtain ⟨⟨⟨⟨⟨⟨⟨⟨⟨⟨⟨h1, h2⟩, h3⟩, h4⟩, h5⟩, h6⟩, h7⟩, h8⟩, h9⟩, h10⟩, h11⟩, h12⟩ := h
  refine ⟨⟨?_, h3, h4, h5, h6⟩, h7, h8, ⟨h9, h10, h4, h11⟩, h12⟩
  obtain ⟨hp, X, _⟩ := c.ns
  obtain ⟨nm, N, qn, bs, bm, hdct, sn, sub, ab, col, dd, k0, k1, k2, k3, k5, ho, _⟩ := excInit_of X h1
  split at h2
  · rename_i oc od cd sl hl
    have e := (X _ _ hl).symm.trans ho
    cases e
    rw [Bool.and_eq_true] at h2
    obtain ⟨e1, e2⟩ := h2
    have e1' : hdct = true := e1
    subst e1'
    exact ⟨nm, qn, N, bs, bm, sn, sub, ab, col, dd, k0, k1, k2, k3, k5, hl, e2⟩
  · cases h2
def fExm (x y : Str) (b : Bool) : Fac := fun K => decide (exmOne K (.ref (He.ga K x)) (.ref (He.ga K y)) = some b)
theorem fExm_ok {x y : Str} {b : Bool} (h : fExm x y b K = true) : exmOne K (.ref (He.ga K x)) (.ref (He.ga K y)) = some b := of_decide_eq_true h
end
end MM

set_option Elab.async false
set_option linter.all false
set_option maxRecDepth 100000
set_option maxHeartbeats 2000000
/-! M17: the rules, fed by facts. -/
namespace MM
open PySem PySem.Spec PyProof.Rows L2 PySem.W
def tyNs : List String := ["NoneType", "bool", "int", "str", "list", "tuple", "dict"]
/-- is T above the type named s -/
def isTy (T s : String) : Bool := s == T || (T == "int" && s == "bool")
def D.tyN : D → Option String
  | .non => some "NoneType"
  | .bl _ => some "bool"
  | .int _ => some "int"
  | .str _ => some "str"
  | .lst _ => some "list"
  | .frl _ => some "list"
  | .tup _ => some "tuple"
  | .dct _ => some "dict"
  | .dcT _ => none
  | .ins _ _ => none
  | .cls _ => none
  | .exn0 _ => none
  | .exn1 _ _ _ => none
def gTy (T : String) (cs : List Str) : D → Option Bool
  | .ins c _ => if cs.contains c then some false else none
  | d => d.tyN.map (isTy T)
def gCl (y : Str) (cs : List Str) : D → Option Bool
  | .ins c _ => if cs.contains c then some (c == y) else none
  | d => d.tyN.map fun _ => false
def fIsT (T : String) (cs : List Str) : Fac := fun K => (tyNs.all fun s => decide (kitOne K (.type s) (.type T) = some (isTy T s))) && cs.all fun x => decide (kitOne K (.ref (He.ga K x)) (.type T) = some false)
def fIsC (y : Str) (cs : List Str) : Fac := fun K => (tyNs.all fun s => decide (kitOne K (.type s) (.ref (He.ga K y)) = some false)) && cs.all fun x => decide (kitOne K (.ref (He.ga K x)) (.ref (He.ga K y)) = some (x == y))
section
variable {fa : List Fac} {fn : List Df} {X : Cx} {S : Su} {W : WX} {a b : Expr} {p p' pos : Pos} {f g : En → R Tk}
theorem tyN_mem {d : D} {s : String} (h : d.tyN = some s) : s ∈ tyNs := by
  cases d <;> cases h <;> decide
theorem tyN_ty {mg : Str → Option Value} {d : D} {s : String} (h : d.tyN = some s) : tyD mg d = some (.type s) := by
  cases d <;> cases h <;> rfl
theorem tyN_in {cs : List Str} {d : D} {s : String} (h : d.tyN = some s) : d.insIn cs = true := by
  cases d <;> cases h <;> rfl
theorem gTy_cases {T : String} {cs : List Str} {d : D} {b : Bool} (e : gTy T cs d = some b) : (∃ s, d.tyN = some s ∧ b = isTy T s) ∨ ∃ c fs, d = .ins c fs ∧ c ∈ cs ∧ b = false := by
  cases d with
  | ins c fs =>
    simp only [gTy] at e
    split at e
    · rename_i hc
      cases e
      exact .inr ⟨c, fs, rfl, by simpa using hc, rfl⟩
    · cases e
  | cls c => cases e
  | exn0 c => cases e
  | exn1 c f d => cases e
  | dcT _ => cases e
  | _ => cases e; exact .inl ⟨_, rfl, rfl⟩
theorem gCl_cases {y : Str} {cs : List Str} {d : D} {b : Bool} (e : gCl y cs d = some b) : (∃ s, d.tyN = some s ∧ b = false) ∨ ∃ c fs, d = .ins c fs ∧ c ∈ cs ∧ b = (c == y) := by
  cases d with
  | ins c fs =>
    simp only [gCl] at e
    split at e
    · rename_i hc
      cases e
      exact .inr ⟨c, fs, rfl, by simpa using hc, rfl⟩
    · cases e
  | cls c => cases e
  | exn0 c => cases e
  | exn1 c f d => cases e
  | dcT _ => cases e
  | _ => cases e; exact .inl ⟨_, rfl, rfl⟩
theorem isT_ok {T : String} {cs : List Str} (hm : ∀ x ∈ cs, X.mg x = some (.ref (He.ga X.K x))) (h : fIsT T cs X.K = true) : IsiT X (.type T) cs (gTy T cs) := by
  unfold fIsT at h
  rw [Bool.and_eq_true, List.all_eq_true, List.all_eq_true] at h
  obtain ⟨h1, h2⟩ := h
  refine ⟨fun d t b e e2 => ?_, fun d b e => ?_⟩
  · rcases gTy_cases e with ⟨s, e1, rfl⟩ | ⟨c, fs, rfl, mc, rfl⟩
    · rw [tyN_ty e1] at e2
      cases e2
      exact of_decide_eq_true (h1 s (tyN_mem e1))
    · have e3 : X.mg c = some t := e2
      rw [hm c mc] at e3
      cases e3
      exact of_decide_eq_true (h2 c mc)
  · rcases gTy_cases e with ⟨s, e1, rfl⟩ | ⟨c, fs, rfl, mc, rfl⟩
    · exact ⟨_, tyN_ty e1, tyN_in e1⟩
    · exact ⟨_, hm c mc, by simpa [D.insIn] using mc⟩
theorem isC_ok {y : Str} {cs : List Str} (hm : ∀ x ∈ cs, X.mg x = some (.ref (He.ga X.K x))) (h : fIsC y cs X.K = true) : IsiT X (.ref (He.ga X.K y)) cs (gCl y cs) := by
  unfold fIsC at h
  rw [Bool.and_eq_true, List.all_eq_true, List.all_eq_true] at h
  obtain ⟨h1, h2⟩ := h
  refine ⟨fun d t b e e2 => ?_, fun d b e => ?_⟩
  · rcases gCl_cases e with ⟨s, e1, rfl⟩ | ⟨c, fs, rfl, mc, rfl⟩
    · rw [tyN_ty e1] at e2
      cases e2
      exact of_decide_eq_true (h1 s (tyN_mem e1))
    · have e3 : X.mg c = some t := e2
      rw [hm c mc] at e3
      cases e3
      exact of_decide_eq_true (h2 c mc)
  · rcases gCl_cases e with ⟨s, e1, rfl⟩ | ⟨c, fs, rfl, mc, rfl⟩
    · exact ⟨_, tyN_ty e1, tyN_in e1⟩
    · exact ⟨_, hm c mc, by simpa [D.insIn] using mc⟩
theorem insOk_of {cs : List Str} (hm : ∀ x ∈ cs, X.mg x = some (.ref (He.ga X.K x))) (h : ∀ x ∈ cs, fCls x X.K = true) : InsOk X cs := fun x hx C e => by
  rw [hm x hx] at e
  cases e
  exact (fCls_ok (h x hx)).1
theorem fldOk_of {cs : List Str} {f : Str} (hm : ∀ x ∈ cs, X.mg x = some (.ref (He.ga X.K x))) (h : ∀ x ∈ cs, fCls x X.K = true) (hn : ∀ x ∈ cs, fNo x f X.K = true) : FldOk X cs f := fun x hx C e => by
  rw [hm x hx] at e
  cases e
  exact ⟨(fCls_ok (h x hx)).1.cl, fNo_ok (hn x hx)⟩
/-- isinstance(x, T) -/
theorem me_isT {T : String} {cs : List Str} (hm : ∀ x ∈ cs, X.mg x = some (.ref (He.ga X.K x))) (hc : ∀ x ∈ cs, fCls x X.K = true) (hf : fIsT T cs X.K = true) (hg : Gl X "isinstance") (hi : X.mg "isinstance" = none) {nm : Str} (hg2 : Gl X nm) (hi2 : X.mg nm = none) (hv : bootBuiltins nm = some (.type T)) (ha : ME X S W a f)
    (hs : starEach [a, .Name nm p'] X.env = (false, eval a X.env) :: starEach [.Name nm p'] X.env := by rfl) (hn : nm ≠ "__name__" := by decide) (hd : (nm == ("__debug__" : Str)) = false := by decide) : ME X S W (.Call (.Name "isinstance" p) [a, .Name nm p'] [] pos) (mOp1 f (dIsi (gTy T cs))) :=
  me_isi (insOk_of hm hc) (isT_ok hm hf) hg hi (pe_bltn hg2 hi2 hv (show RelV (.ty T) (.type T) from rfl) hn hd) (.ty T) ha hs
/-- isinstance(x, C) -/
theorem me_isC {y : Str} {cs : List Str} (hm : ∀ x ∈ cs, X.mg x = some (.ref (He.ga X.K x))) (hc : ∀ x ∈ cs, fCls x X.K = true) (hf : fIsC y cs X.K = true) (hg : Gl X "isinstance") (hi : X.mg "isinstance" = none) (hg2 : Gl X y) (hy : X.mg y = some (.ref (He.ga X.K y))) (ha : ME X S W a f)
    (hs : starEach [a, .Name y p'] X.env = (false, eval a X.env) :: starEach [.Name y p'] X.env := by rfl) (hd : (y == ("__debug__" : Str)) = false := by decide) : ME X S W (.Call (.Name "isinstance" p) [a, .Name y p'] [] pos) (mOp1 f (dIsi (gCl y cs))) :=
  me_isi (insOk_of hm hc) (isC_ok hm hf) hg hi (pe_glob hg2 hy (show RelV (.ref (He.ga X.K y)) (.ref (He.ga X.K y)) from rfl) hd) (.own _) ha hs
/-! ### own operators -/
def fOrd (x : Str) : Fac := fun K => (tyNs.all fun s => notFirst K (He.ga K x) (.type s)) && notFirst K (He.ga K x) (.ref (He.ga K x))
theorem fOrd_ok {x : Str} (hm : X.mg x = some (.ref (He.ga X.K x))) (h : fOrd x X.K = true) : ∀ d t, okR x (some d) = true → tyD X.mg d = some t → notFirst X.K (He.ga X.K x) t = true := by
  unfold fOrd at h
  rw [Bool.and_eq_true, List.all_eq_true] at h
  intro d t h1 h2
  cases d with
  | ins c fs =>
    have e : c = x := by
      have h3 : [x].contains c = true := h1
      simpa using h3
    subst e
    have e3 : X.mg c = some t := h2
    rw [hm] at e3
    cases e3
    exact h.2
  | cls c => cases h1
  | exn0 c => cases h1
  | exn1 c f d => cases h1
  | dcT _ => cases h1
  | _ =>
    cases h2
    exact h.1 _ (by decide)
theorem ownF_of {c mn : Str} {k : Nat} {m : En → R Tk} (hm : X.mg c = some (.ref (He.ga X.K c))) (hc : fCls c X.K = true) (hM : fMeth c mn X.K = true) (hf : ∃ fd ps, FnG X.prog X.w X.K X.mg X.base (L2.CX X.prog X.w) k (prA X.K c mn) fd ps (SpM X.K X.mg 2 m) ∧ Bnd X.K fd ps 2 [] [.p 0, .p 1] []) (G : MGood m) : OwnF X c mn (He.ga X.K c) (prA X.K c mn) k m :=
  ⟨hm, (fCls_ok hc).1, (fMeth_ok hM).at_, (fMeth_ok hM).fn, hf, G⟩
theorem ownF1_of {c mn : Str} {k : Nat} {m : En → R Tk} (hm : X.mg c = some (.ref (He.ga X.K c))) (hM : fMeth c mn X.K = true) (hf : ∃ fd ps, FnG X.prog X.w X.K X.mg X.base (L2.CX X.prog X.w) k (prA X.K c mn) fd ps (SpM X.K X.mg 1 m) ∧ Bnd X.K fd ps 1 [] [.p 0] []) (G : MGood m) : OwnF1 X c mn (He.ga X.K c) (prA X.K c mn) k m :=
  ⟨hm, (fMeth_ok hM).at_, (fMeth_ok hM).fn, hf, G⟩
def fNe (x : Str) : Fac := fun K => decide (findIn K (.ref (He.ga K x)) "__ne__" = some (some (.builtin "object.__ne__")))
def fBin (x a r : Str) : Fac := fun K => decide (findIn K (.ref (He.ga K x)) r = some none) && (findIn K (.type "int") a).isSome && (findIn K (.type "int") r).isSome && decide (subIn K (.type "int") (.ref (He.ga K x)) = some false)
/-- + - * of own instances -/
def ownBin (c mn : Str) (m : En → R Tk) (t s : Tk) (e : En) : R Tk := (mAr false t e).bind fun a e1 => (mAr false s e1).bind fun b e2 => bif isRecv c mn (arD e2 a) && (match arD e2 b with | some (.int _) => true | d => insOf c d) then callS m [a, b] e2 else .no
theorem bin_of {c mn r : Str} {op : Operator} {k : Nat} {m : En → R Tk} (o : OwnF X c mn (He.ga X.K c) (prA X.K c mn) k m) (hop : PySem.dunder op.info.2 = mn) (hr' : dunderR op.info.2 = r) (hc : fCls c X.K = true) (hb : fBin c mn r X.K = true) (hr : Rm k X.A) (tk : Takes X W) : OpM X S W (binaryOp op) (ownBin c mn m) := by
  subst hop hr'
  unfold fBin at hb
  simp only [Bool.and_eq_true, decide_eq_true_eq] at hb
  obtain ⟨fo, h1⟩ := Option.isSome_iff_exists.mp hb.1.1.2
  obtain ⟨ro, h2⟩ := Option.isSome_iff_exists.mp hb.1.2
  exact binopM_own o rfl (fCls_ok hc).2 hb.1.1.1 (.inl rfl) h1 h2 hb.2 hr tk
/-- an own error's __init__ that keeps its argument -/
theorem exF_of {c f : Str} {d : Df} (cx : Ctx fa fn X.K X.mg) {sn gn : Str} {N : List Str} {p1 p2 p3 p4 : Pos} (hm : X.mg c = some (.ref (He.ga X.K c))) (hx : fOex c f X.K = true) (hd : ∃ fd, FnD X.K d fd) (ha : d.at_ = .m c "__init__") (hdf : d.dfl = []) (Sc : FnScope N [sn, gn] (defScope d.st)) (h0 : N[0]? = some sn) (h1 : N[1]? = some gn)
    (hb : defBody d.st = [.Assign [.Attribute (.Name sn p1) f p2] (.Name gn p3) p4]) (hbd : ∀ (kV doc pm : Value) (an : Option Addr) (cdv ct : Value) (us : List Value), us.length = 2 → bindArgs (fnOf d.name d.qual (defArgs d.st) (defBody d.st) (defScope d.st) .none kV doc pm an cdv ct) ⟨us, []⟩ = pure ([sn, gn].zip us)) (d1 : (sn == ("__debug__" : Str)) = false := by decide)
    (d2 : (gn == ("__debug__" : Str)) = false := by decide) (c1 : (sn == ("__classdict__" : Str)) = false := by decide) (c2 : (gn == ("__classdict__" : Str)) = false := by decide) : ExF X c f (He.ga X.K c) (prA X.K c "__init__") 1 := by
  obtain ⟨T, iC, tI, R⟩ := fOex_ok cx hx
  obtain ⟨fd, F⟩ := hd
  have e1 : d.dvs X.K = [] := by unfold Df.dvs; rw [hdf]; rfl
  have e2 : d.at_.ad X.K = prA X.K c "__init__" := by rw [ha]; rfl
  unfold FnD at F
  rw [e1, e2] at F
  refine ⟨hm, T, iC, tI, fd, _, fn_ini F Sc T R.noF h0 h1 hb d1 d2 c1 c2, F.bindsN fun kV doc pm an cdv ct us hl => ?_⟩
  exact hbd kV doc pm an cdv ct us hl
end
end MM

set_option Elab.async false
set_option linter.all false
set_option maxRecDepth 100000
set_option maxHeartbeats 2000000
/-! M18: what the written rules name. -/
namespace MM
open PySem PySem.Spec PyProof.Rows L2 PySem.W
theorem Rm.u1 {k : Nat} {A : Around} (r : Rm k A) : A.units + 1 < cLine := by have := r.r.un; omega
theorem Rm.u62 {k : Nat} {A : Around} (r : Rm k A) : A.units + 62 < cLine := by have := r.r.un; omega
theorem Rm.u65 {k : Nat} {A : Around} (r : Rm k A) : A.units + 65 < cLine := by have := r.r.un; omega
theorem veFacts : ExcBaseFacts "ValueError" "ValueError.__new__" "ValueError.__init__" veB := PySem.F.excBase_ValueError
section
variable {P : Program} {w : World} {K : Frag} {mg : Str → Option Value} {base : Heap} {N : List Str} {qual : Str} {scope : Scope} {f : Addr} {cdv : Value} {A : Around} {outer : List Env} {s : Shared} {H : Hp} {E : XK}
theorem tkD : Takes (cxOf (L2.CX P w) P w K mg base N qual scope f cdv A outer s H E) (dWish E) := takes_of rfl rfl rfl rfl
theorem poD : PassesOwn (model (cxOf (L2.CX P w) P w K mg base N qual scope f cdv A outer s H E).prog (cxOf (L2.CX P w) P w K mg base N qual scope f cdv A outer s H E).w) (cxOf (L2.CX P w) P w K mg base N qual scope f cdv A outer s H E).A (cxOf (L2.CX P w) P w K mg base N qual scope f cdv A outer s H E).env (cxOf (L2.CX P w) P w K mg base N qual scope f cdv A outer s H E).xe := passes_of rfl
end
section
variable {p : Str → Prop} {x : Str} {xs : List Str}
theorem allN : ∀ y ∈ ([] : List Str), p y := fun _ z => by cases z
theorem allC (h : p x) (r : ∀ y ∈ xs, p y) : ∀ y ∈ x :: xs, p y := fun y z => (List.mem_cons.mp z).elim (fun e => e ▸ h) (r y)
theorem all1 (h : p x) : ∀ y ∈ [x], p y := allC h allN
end
theorem fnD_det {K : Frag} {d : Df} {fd fd2 : FuncData} (D : FnD K d fd) (D2 : FnD K d fd2) : fd2 = fd := by
  obtain ⟨_, _, _, _, _, _, _, _, _, _, _, l1, _⟩ := D.ex
  obtain ⟨_, _, _, _, _, _, _, _, _, _, _, l2, _⟩ := D2.ex
  rw [l1] at l2
  cases l2
  rfl
/-! ### clauses -/
def exG (tb : List (Str × Bool)) (c : Str) : Option Bool := tb.lookup c
def ExL (X : Cx) (cv : Value) (tb : List (Str × Bool)) : Prop := ∀ p ∈ tb, X.mg p.1 = some (.ref (He.ga X.K p.1)) ∧ exmOne X.K (.ref (He.ga X.K p.1)) cv = some p.2
theorem exN {X : Cx} {cv : Value} : ExL X cv [] := fun _ z => by cases z
theorem exC {X : Cx} {cv : Value} {c : Str} {b : Bool} {tb : List (Str × Bool)} (h1 : X.mg c = some (.ref (He.ga X.K c))) (h2 : exmOne X.K (.ref (He.ga X.K c)) cv = some b) (r : ExL X cv tb) : ExL X cv ((c, b) :: tb) := fun p z => (List.mem_cons.mp z).elim (fun e => by rw [e]; exact ⟨h1, h2⟩) (r p)
theorem lookup_mem {c : Str} {b : Bool} : ∀ {tb : List (Str × Bool)}, tb.lookup c = some b → (c, b) ∈ tb
  | [], h => by cases h
  | (c', b') :: tb, h => by
    rw [List.lookup_cons] at h
    cases e : (c == c') with
    | true =>
      rw [e] at h
      cases h
      rw [eq_of_beq e]
      exact List.mem_cons_self
    | false =>
      rw [e] at h
      exact List.mem_cons_of_mem _ (lookup_mem h)
theorem exOk {X : Cx} {cv : Value} {tb : List (Str × Bool)} (h : ExL X cv tb) : ∀ (c' : Str) (b : Bool) (C' : Addr), exG tb c' = some b → X.mg c' = some (.ref C') → exmOne X.K (.ref C') cv = some b := fun c' b C' e1 e2 => by
  obtain ⟨h1, h2⟩ := h (c', b) (lookup_mem e1)
  simp only at h1 h2
  rw [h1] at e2
  cases e2
  exact h2
theorem exG_one {x c : Str} (h : exG [(x, true)] c = some true) : x = c := by
  have z := lookup_mem h
  simp at z
  exact z.symm
theorem exC1 {mg : Str → Option Value} {c : Str} {a b : Addr} (h1 : mg c = some (.ref a)) (h2 : mg c = some (.ref b)) : a = b := by
  rw [h1] at h2; cases h2; rfl
/-! ### a comprehension's names -/
def blkB (N : List Str) (sc scope : Scope) (own : List (Str × Nat)) : Bool := decide (scope.kind = .function) && (scope.names.all fun y => decide (scope.names.lookup y.1 = some y.2)) && (own.all fun p => decide (N[p.2]? = some p.1))
  && (scope.names.all fun y => !decide (y.2 = .free) || decide (sc.names.lookup y.1 = some .cell) || decide (sc.names.lookup y.1 = some .free)) && (scope.names.all fun y => !(decide (y.2 = .local) || decide (y.2 = .cell)) || (own.map (·.1)).contains y.1 || !N.contains y.1)
theorem blkOk_of {N : List Str} {sc scope : Scope} {own : List (Str × Nat)} (h : blkB N sc scope own = true) : BlkOk N sc scope own := by
  unfold blkB at h
  simp only [Bool.and_eq_true, List.all_eq_true, Bool.or_eq_true, decide_eq_true_eq, Bool.not_eq_true', decide_eq_false_iff_not] at h
  obtain ⟨⟨⟨⟨h1, h2⟩, h3⟩, h4⟩, h5⟩ := h
  refine ⟨h1, h2, h3, fun y hy e => ?_, fun y hy e => ?_⟩
  · rcases h4 y hy with (z | z) | z
    · exact absurd e z
    · exact .inl z
    · exact .inr z
  · rcases h5 y hy with (z | z) | z
    · have z2 : (decide (y.2 = .local) || decide (y.2 = .cell)) = true := by simpa using e
      rw [z2] at z; cases z
    · exact .inl (by simpa using z)
    · exact .inr (by simpa using z)
/-! ### {} -/
def mDct0 (e : En) : R Tk := .ok (.nw (.dct [])) e
theorem me_dct0 {X : Cx} {S : Su} {W : WX} {pos : Pos} : ME X S W (.Dict [] [] pos) mDct0 := pe_dnewK.wk fun σ H Q ⟨F, env, O, w, p⟩ => new_obj w (.dct .nil) p
/-! ### comparisons, as values and as tests -/
section
variable {X : Cx} {S : Su} {W : WX} {a b : Expr} {pos : Pos} {f g : En → R Tk}
theorem o_lt : OpM X S W (compareOp .Lt) (pop2 fun x y => (dLtI x y).orElse fun _ => dLtS x y) := .of (op_lt.or op_lt_str) (pop_ltI.or pop_ltS).op
theorem o_le : OpM X S W (compareOp .LtE) (pop2 dLeI) := .of op_le pop_leI.op
theorem o_gt : OpM X S W (compareOp .Gt) (pop2 (dSw dLtI)) := .of op_gt pop_gtI.op
theorem o_ge : OpM X S W (compareOp .GtE) (pop2 (dSw dLeI)) := .of op_ge pop_geI.op
theorem o_eq (hu : X.A.units + 64 < cLine) : OpM X S W (compareOp .Eq) (pop2 dEq) := .of (op_eq.or (op_eqD hu)) (pop_eqS.or pop_eqD).op
theorem o_ne (hu : X.A.units + 64 < cLine) : OpM X S W (compareOp .NotEq) (pop2 dNe) := .of (op_ne.or (op_neD hu)) pop_ne.op
theorem o_isN : OpM X S W (compareOp .Is) (pop2 dIsN) := .of op_isN pop_isN.op
theorem o_notN : OpM X S W (compareOp .IsNot) (pop2 dNotN) := .of op_notN pop_notN.op
theorem o_in (hu : X.A.units + 65 < cLine) : OpM X S W (compareOp .In) (pop2 dIn) := .of (op_in_all hu) pop_in.op
theorem o_notIn (hu : X.A.units + 65 < cLine) : OpM X S W (compareOp .NotIn) (pop2 dNotIn) := .of (op_notIn_all hu) pop_notIn.op
theorem mt_cmpM {o : CmpOp} {op : Tk → Tk → En → R Tk} {fa fb : En → R Tk} (h : OpM X S W (compareOp o) op) (ha : ME X S W a fa) (hb : ME X S W b fb) (hm : behindInMarks o b = false) : MT X S W (.Compare a [o] [b] pos) (mTb (mOp2 fa fb op)) :=
  ⟨fun pins s σ H Q I ⟨F, env, O, w, p⟩ => by
    have q : tM X S W (mOp2 fa fb op) σ H (fun x H1 => ∃ k, x = .bl k ∧ Q k H1) := ⟨F, env, O, w, PostE.mono (PostE.bind p) fun F1 H1 e1 t t1 w1 q v tk => by
      unfold tkB at q
      cases z : pk t e1 with
      | none => rw [z] at q; exact q.elim
      | some d =>
        rw [z] at q
        cases d with
        | bl b => exact ⟨b, (pk_ok w1 tk z).bl, PostE.ok w1 q⟩
        | _ => exact q.elim⟩
    refine wpAny_isTrue_Compare1 (thn (binM h ha hb I q) fun v s1 h1 => thn h1 fun u s2 h2 => thn h2 fun c s3 h3 => ?_) hm
    obtain ⟨x, H1, I1, r1, k, e, q1⟩ := h3
    subst e
    cases r1
    exact wpAny_truthy_bool ⟨H1, I1, q1⟩⟩
end
end MM

set_option Elab.async false
set_option linter.all false
set_option maxRecDepth 100000
set_option maxHeartbeats 2000000
/-! M19: methods of texts, f-strings. -/
namespace MM
open PySem PySem.Spec PyProof.Rows L2 PySem.W
section
variable {X : Cx} {S : Su} {W : WX} {e o e1 : Expr} {es : List Expr} {pos apos : Pos}
/-- a text -/
def dStr1 : D → Option Str
  | .str s => some s
  | _ => none
theorem dStr1_ok {K : PySem.W.Frag} {mg : Str → Option Value} {F H : Hp} {x : D} {v : V} {a : Str} (h : Pk K mg F H x v) (e : dStr1 x = some a) : x = .str a ∧ v = .str a := by
  cases x <;> first | (cases e; done) | skip
  cases e
  exact ⟨rfl, h.str⟩
/-- s.m() -/
theorem me_sm0 {id : String} {name : Str} {r : V → List V → Hp → VK → Prop} {f : En → R Tk} {g : Str → Option Tk} (slot : Slot "str" name id) (ty : typeOf (.builtin id) = pure (.type "method_descriptor")) (rule : MtR X id r) (ha : ME X S W o f)
    (hr : ∀ (F H : Hp) (σ : L2.St) (env : En) (O : Addr → Prop) (a : Str) (t : Tk) (Q : VK), Wf X.K X.mg S O F H σ env → g a = some t → PostE X.K X.mg S O W F H σ (.ok t env) (fun F' H' e' t => ∀ v, TkOk X.K X.mg O F' H' σ e' v t → Q v H') → r (.str a) [] H Q)
    (hbase : attributeBase o name X.env (eval o X.env) = eval o X.env := by rfl) (hline : (apos.endLine == pos.line) = true := by rfl) : ME X S W (.Call (.Attribute o name apos) [] [] pos) (mOp1 f fun d => (dStr1 d).bind g) :=
  me_op1 (r := fun x H Q => (∃ a, x = .str a) ∧ r x [] H Q) (fun ta h => pe_m0 slot ty rule h hbase hline) ha fun F H σ env O v x t Q w k e p => by
    obtain ⟨a, h1, h2⟩ := Option.bind_eq_some_iff.mp e
    obtain ⟨rfl, rfl⟩ := dStr1_ok k h1
    exact ⟨⟨a, rfl⟩, hr F H σ env O a t Q w h2 p⟩
def dIsascii (a : Str) : Option Tk := some (.val (.bl (Txt.isascii a)))
def dIsdigit (a : Str) : Option Tk := some (.val (.bl (Txt.isdigit a)))
def dIsalpha (a : Str) : Option Tk := some (.val (.bl (Txt.isalpha a)))
def dIslower (a : Str) : Option Tk := some (.val (.bl (Txt.islower a)))
theorem me_isascii {f : En → R Tk} (ha : ME X S W o f) (hbase : attributeBase o "isascii" X.env (eval o X.env) = eval o X.env := by rfl) (hline : (apos.endLine == pos.line) = true := by rfl) : ME X S W (.Call (.Attribute o "isascii" apos) [] [] pos) (mOp1 f fun d => (dStr1 d).bind dIsascii) :=
  me_sm0 F.slot_str_isascii F.type_str_isascii mt_isascii ha (fun F H σ env O a t Q w e p => by cases e; exact ⟨a, rfl, rfl, trivial, flatE w p (.bl _)⟩) hbase hline
theorem me_isdigit {f : En → R Tk} (ha : ME X S W o f) (hbase : attributeBase o "isdigit" X.env (eval o X.env) = eval o X.env := by rfl) (hline : (apos.endLine == pos.line) = true := by rfl) : ME X S W (.Call (.Attribute o "isdigit" apos) [] [] pos) (mOp1 f fun d => (dStr1 d).bind dIsdigit) :=
  me_sm0 F.slot_str_isdigit F.type_str_isdigit mt_isdigit ha (fun F H σ env O a t Q w e p => by cases e; exact ⟨a, rfl, rfl, trivial, flatE w p (.bl _)⟩) hbase hline
theorem me_isalpha {f : En → R Tk} (ha : ME X S W o f) (hbase : attributeBase o "isalpha" X.env (eval o X.env) = eval o X.env := by rfl) (hline : (apos.endLine == pos.line) = true := by rfl) : ME X S W (.Call (.Attribute o "isalpha" apos) [] [] pos) (mOp1 f fun d => (dStr1 d).bind dIsalpha) :=
  me_sm0 F.slot_str_isalpha F.type_str_isalpha mt_isalpha ha (fun F H σ env O a t Q w e p => by cases e; exact ⟨a, rfl, rfl, trivial, flatE w p (.bl _)⟩) hbase hline
theorem me_islower {f : En → R Tk} (ha : ME X S W o f) (hbase : attributeBase o "islower" X.env (eval o X.env) = eval o X.env := by rfl) (hline : (apos.endLine == pos.line) = true := by rfl) : ME X S W (.Call (.Attribute o "islower" apos) [] [] pos) (mOp1 f fun d => (dStr1 d).bind dIslower) :=
  me_sm0 F.slot_str_islower F.type_str_islower mt_islower ha (fun F H σ env O a t Q w e p => by cases e; exact ⟨a, rfl, rfl, trivial, flatE w p (.bl _)⟩) hbase hline
/-- s.m(e) -/
def sm1K (g : En → R Tk) (op : Str → D → Option Tk) (e1 : En) : Option Str → R Tk
  | some a => (g e1).bind fun u e2 => match (pk u e2).bind (op a) with
    | some t => .ok t e2
    | none => .no
  | none => .no
def mSM1 (f g : En → R Tk) (op : Str → D → Option Tk) (e : En) : R Tk := (f e).bind fun t e1 => sm1K g op e1 ((pk t e1).bind dStr1)
theorem me_sm1 {id : String} {name : Str} {r : V → List V → Hp → VK → Prop} {f g : En → R Tk} {op : Str → D → Option Tk} (slot : Slot "str" name id) (ty : typeOf (.builtin id) = pure (.type "method_descriptor")) (rule : MtR X id r) (ha : ME X S W o f) (hb : ME X S W e1 g)
    (hr : ∀ (F H : Hp) (σ : L2.St) (env : En) (O : Addr → Prop) (a : Str) (y : D) (u : V) (t : Tk) (Q : VK), Wf X.K X.mg S O F H σ env → Pk X.K X.mg F H y u → op a y = some t → PostE X.K X.mg S O W F H σ (.ok t env) (fun F' H' e' t => ∀ v, TkOk X.K X.mg O F' H' σ e' v t → Q v H') → r (.str a) [u] H Q)
    (hs : starEach [e1] X.env = [(false, eval e1 X.env)] := by rfl) (hbase : attributeBase o name X.env (eval o X.env) = eval o X.env := by rfl) (hline : (apos.endLine == pos.line) = true := by rfl) :
    ME X S W (.Call (.Attribute o name apos) [e1] [] pos) (mSM1 f g op) := (pe_m1 slot ty rule ha hb hs hbase hline).wk fun σ H Q ⟨F, env, O, w, p⟩ => by
  refine ⟨F, env, O, w, PostE.mono (PostE.bind p) fun F1 H1 e1 t t1 w1 q v tk => ?_⟩
  cases z : (pk t e1).bind dStr1 with
  | none => rw [z] at q; exact q.elim
  | some a =>
    rw [z] at q
    obtain ⟨x, z1, z2⟩ := Option.bind_eq_some_iff.mp z
    obtain ⟨rfl, rfl⟩ := dStr1_ok (pk_ok w1 tk z1) z2
    refine ⟨⟨a, rfl⟩, F1, e1, O, w1, PostE.mono (PostE.bind q) fun F2 H2 e2 u t2 w2 q2 v2 tk2 => ?_⟩
    cases z3 : (pk u e2).bind (op a) with
    | none => rw [z3] at q2; exact q2.elim
    | some t3 =>
      rw [z3] at q2
      obtain ⟨y, y1, y2⟩ := Option.bind_eq_some_iff.mp z3
      exact hr F2 H2 σ e2 O a y v2 t3 Q w2 (pk_ok w2 tk2 y1) y2 q2
def dStarts (a : Str) : D → Option Tk
  | .str b => some (.val (.bl (Txt.startswith a b)))
  | _ => none
def dRemPre (a : Str) : D → Option Tk
  | .str b => if a.length ≤ 16777216 then some (.val (.str (Txt.removeprefix a b))) else none
  | _ => none
def dSplit (a : Str) : D → Option Tk
  | .str b => if b.length ≠ 0 ∧ a.length + 2 ≤ 16777216 then some (.nw (.lst ((Txt.split a b).map .str))) else none
  | _ => none
def dPart (a : Str) : D → Option Tk
  | .str b => if b.length ≠ 0 ∧ a.length ≤ 16777216 then some (.val (.tup [.str (Txt.partition a b).1, .str (Txt.partition a b).2.1, .str (Txt.partition a b).2.2])) else none
  | _ => none
theorem reps_strs {K : PySem.W.Frag} {mg : Str → Option Value} {F : Hp} : ∀ ys : List Str, Reps K mg F (ys.map .str) (ys.map V.str)
  | [] => .nil
  | y :: ys => .cons (.str y) (reps_strs ys)
theorem me_startswith {f g : En → R Tk} (ha : ME X S W o f) (hb : ME X S W e1 g) (hs : starEach [e1] X.env = [(false, eval e1 X.env)] := by rfl) (hbase : attributeBase o "startswith" X.env (eval o X.env) = eval o X.env := by rfl) (hline : (apos.endLine == pos.line) = true := by rfl) :
    ME X S W (.Call (.Attribute o "startswith" apos) [e1] [] pos) (mSM1 f g dStarts) :=
  me_sm1 F.slot_str_startswith F.type_str_startswith mt_startswith ha hb (fun F H σ env O a y u t Q w k e p => by
    cases y <;> first | (cases e; done) | skip
    cases e
    have e1 := k.str
    subst e1
    exact ⟨a, _, rfl, rfl, flatE w p (.bl _)⟩) hs hbase hline
theorem me_removeprefix {f g : En → R Tk} (ha : ME X S W o f) (hb : ME X S W e1 g) (hs : starEach [e1] X.env = [(false, eval e1 X.env)] := by rfl) (hbase : attributeBase o "removeprefix" X.env (eval o X.env) = eval o X.env := by rfl) (hline : (apos.endLine == pos.line) = true := by rfl) :
    ME X S W (.Call (.Attribute o "removeprefix" apos) [e1] [] pos) (mSM1 f g dRemPre) :=
  me_sm1 F.slot_str_removeprefix F.type_str_removeprefix mt_removeprefix ha hb (fun F H σ env O a y u t Q w k e p => by
    cases y <;> first | (cases e; done) | skip
    simp only [dRemPre] at e
    split at e
    · rename_i hl
      cases e
      have e1 := k.str
      subst e1
      exact ⟨a, _, rfl, rfl, line16 hl, flatE w p (.str _)⟩
    · cases e) hs hbase hline
theorem me_split {f g : En → R Tk} (ha : ME X S W o f) (hb : ME X S W e1 g) (hs : starEach [e1] X.env = [(false, eval e1 X.env)] := by rfl) (hbase : attributeBase o "split" X.env (eval o X.env) = eval o X.env := by rfl) (hline : (apos.endLine == pos.line) = true := by rfl) :
    ME X S W (.Call (.Attribute o "split" apos) [e1] [] pos) (mSM1 f g dSplit) :=
  me_sm1 F.slot_str_split F.type_str_split mt_split ha hb (fun F H σ env O a y u t Q w k e p => by
    cases y <;> first | (cases e; done) | skip
    simp only [dSplit] at e
    split at e
    · rename_i hl
      cases e
      have e1 := k.str
      subst e1
      exact ⟨a, _, rfl, rfl, by simpa using hl.1, line16 hl.2, new_obj w (.lst (reps_strs _)) p⟩
    · cases e) hs hbase hline
theorem me_partition {f g : En → R Tk} (ha : ME X S W o f) (hb : ME X S W e1 g) (hs : starEach [e1] X.env = [(false, eval e1 X.env)] := by rfl) (hbase : attributeBase o "partition" X.env (eval o X.env) = eval o X.env := by rfl) (hline : (apos.endLine == pos.line) = true := by rfl) :
    ME X S W (.Call (.Attribute o "partition" apos) [e1] [] pos) (mSM1 f g dPart) :=
  me_sm1 F.slot_str_partition F.type_str_partition mt_partition ha hb (fun F H σ env O a y u t Q w k e p => by
    cases y <;> first | (cases e; done) | skip
    simp only [dPart] at e
    split at e
    · rename_i hl
      cases e
      have e1 := k.str
      subst e1
      exact ⟨a, _, rfl, rfl, by simpa using hl.1, line16 hl.2, new_tup w (.cons (.str _) (.cons (.str _) (.cons (.str _) .nil))) p⟩
    · cases e) hs hbase hline
/-- all of a sequence, if they are texts -/
def strsD : List D → Option (List Str)
  | [] => some []
  | d :: ds => (dStr1 d).bind fun s => (strsD ds).map fun r => s :: r
theorem strsD_ok {K : PySem.W.Frag} {mg : Str → Option Value} {F : Hp} : ∀ {ds : List D} {vs : List V} {ys : List Str}, Reps K mg F ds vs → strsD ds = some ys → vs = ys.map V.str
  | _, _, ys, .nil, e => by cases e; rfl
  | _, _, ys, .cons (d := d) (v := v) h r, e => by
    obtain ⟨s, e1, e2⟩ := Option.bind_eq_some_iff.mp (show (dStr1 _).bind _ = _ from e)
    obtain ⟨r', e3, rfl⟩ := Option.map_eq_some_iff.mp e2
    have ih := strsD_ok r e3
    cases d <;> first | (cases e1; done) | skip
    cases e1
    cases h
    rw [ih]; rfl
def joinR (a : Str) (ds : List D) : Option Tk := (strsD ds).bind fun ys => if (ys.map (·.length)).sum + ys.length * a.length ≤ 16777216 then some (.val (.str (Txt.join a ys))) else none
def dJoin (a : Str) : D → Option Tk
  | .lst ds => joinR a ds
  | .frl ds => joinR a ds
  | .tup ds => joinR a ds
  | _ => none
theorem me_join {f g : En → R Tk} (ha : ME X S W o f) (hb : ME X S W e1 g) (hs : starEach [e1] X.env = [(false, eval e1 X.env)] := by rfl) (hbase : attributeBase o "join" X.env (eval o X.env) = eval o X.env := by rfl) (hline : (apos.endLine == pos.line) = true := by rfl) :
    ME X S W (.Call (.Attribute o "join" apos) [e1] [] pos) (mSM1 f g dJoin) :=
  me_sm1 F.slot_str_join F.type_str_join mt_join ha hb (fun F H σ env O a y u t Q w k e p => by
    have go : ∀ {ds : List D} {p1 : Addr} {xs : List V}, u = .ref p1 → (SqL X.K H p1 xs ∨ SqT X.K H p1 xs) → Reps X.K X.mg F ds xs → joinR a ds = some t → ∃ a' p', ∃ ys : List Str, V.str a = .str a' ∧ [u] = [V.ref p'] ∧ (SqL X.K H p' (ys.map V.str) ∨ SqT X.K H p' (ys.map V.str)) ∧
        (ys.map (·.length)).sum + ys.length * a'.length ≤ 16777216 ∧ Q (.str (Txt.join a' ys)) H := by
      intro ds p1 xs eu hq r e
      obtain ⟨ys, e1, e2⟩ := Option.bind_eq_some_iff.mp (show (strsD ds).bind _ = _ from e)
      split at e2
      · rename_i hl
        cases e2
        have ex := strsD_ok r e1
        subst ex; subst eu
        exact ⟨a, p1, ys, rfl, rfl, hq, hl, flatE w p (.str _)⟩
      · cases e2
    cases y <;> first | (cases e; done) | skip
    · obtain ⟨p1, xs, e1, h1, r⟩ := k.lst w
      exact go e1 (.inl (.inl (.inl h1))) r e
    · obtain ⟨p1, xs, e1, h1, r⟩ := k.frl w
      exact go e1 (.inl h1) r e
    · obtain ⟨p1, xs, e1, h1, r⟩ := k.tup w
      exact go e1 (.inr h1) r e) hs hbase hline

/-! ### f'..' -/
def dFmt : D → Option Tk
  | .str y => if y.length ≤ 16777216 then some (.val (.str y)) else none
  | .int i => if i.natAbs.log2 < 1920 then some (.val (.str (toString i))) else none
  | _ => none
theorem me_fmt {f : En → R Tk} (ha : ME X S W e f) : ME X S W (.FormattedValue e (-1) none pos) (mOp1 f dFmt) :=
  me_op1 (r := fun x H Q => (∃ y : Str, x = .str y ∧ y.length ≤ sizeLine ∧ Q (.str y) H) ∨ ∃ i : Int, x = .int i ∧ i.natAbs.log2 < 1920 ∧ Q (.str (toString i)) H) (fun ta h => pe_fmt h) ha fun F H σ env O v x t Q w k e p => by
    cases x <;> first | (cases e; done) | skip
    · rename_i i
      simp only [dFmt] at e
      split at e
      · rename_i hl
        cases e
        have e1 := k.int
        subst e1
        exact .inr ⟨i, rfl, hl, flatE w p (.str _)⟩
      · cases e
    · rename_i y
      simp only [dFmt] at e
      split at e
      · rename_i hl
        cases e
        have e1 := k.str
        subst e1
        exact .inl ⟨y, rfl, line16 hl, flatE w p (.str _)⟩
      · cases e
/-- the parts, one behind the other -/
def mFs : List (En → R Tk) → Str → En → R Tk
  | [], acc, e => .ok (.val (.str acc)) e
  | f :: fs, acc, e => (f e).bind fun t e1 => match (pk t e1).bind dStr1 with
    | some y => if (acc ++ y).length ≤ 16777216 then mFs fs (acc ++ y) e1 else .no
    | none => .no
inductive MJ (X : Cx) (S : Su) (W : WX) : List Expr → List (En → R Tk) → Prop
  | nil : MJ X S W [] []
  | cons {e : Expr} {f : En → R Tk} {es : List Expr} {fs : List (En → R Tk)} : ME X S W e f → MJ X S W es fs → MJ X S W (e :: es) (f :: fs)
theorem MJ.pj {es : List Expr} {fs : List (En → R Tk)} (h : MJ X S W es fs) : PJ X es (fs.map fun f => tM X S W f) := by
  induction h with
  | nil => exact .nil
  | cons h _ ih => exact .cons h ih
theorem fs_read : ∀ {fs : List (En → R Tk)} {acc : Str} {σ : L2.St} {H : Hp} {Q : VK}, tM X S W (mFs fs acc) σ H Q → tJs (fs.map fun f => tM X S W f) acc σ H fun out H1 => Q (.str out) H1
  | [], acc, σ, H, Q, ⟨F, env, O, w, p⟩ => flatE w p (.str acc)
  | f :: fs, acc, σ, H, Q, ⟨F, env, O, w, p⟩ => by
    refine ⟨F, env, O, w, PostE.mono (PostE.bind p) fun F1 H1 e1 t t1 w1 q v tk => ?_⟩
    cases z : (pk t e1).bind dStr1 with
    | none => rw [z] at q; exact q.elim
    | some y =>
      rw [z] at q
      simp only at q
      obtain ⟨x, z1, z2⟩ := Option.bind_eq_some_iff.mp z
      obtain ⟨rfl, rfl⟩ := dStr1_ok (pk_ok w1 tk z1) z2
      split at q
      · rename_i hl
        exact ⟨y, rfl, line16 hl, fs_read ⟨F1, e1, O, w1, q⟩⟩
      · exact q.elim
theorem me_fstr {v1 v2 : Expr} {rest : List Expr} {fs : List (En → R Tk)} (h : MJ X S W (v1 :: v2 :: rest) fs) : ME X S W (.JoinedStr (v1 :: v2 :: rest) pos) (mFs fs Str.empty) := (pe_joined h.pj).wk fun σ H Q h => fs_read h
end
end MM

set_option Elab.async false
set_option linter.all false
set_option maxRecDepth 100000
set_option maxHeartbeats 2000000
/-! M20: facts of classmethods. -/
namespace MM
open PySem PySem.Spec PyProof.Rows L2 PySem.W
section
variable {K : Frag}
def fCRead (x : Str) : Fac := fun K => readsIn K (He.ga K x) (.type "type") && decide (specialIn K (.ref (He.ga K x)) "__getattribute__" = some (some (.builtin "type.__getattribute__")))
theorem fCRead_ok {x : Str} (h : fCRead x K = true) : ClX.CRead K (He.ga K x) (.type "type") := by
  unfold fCRead at h
  simp only [Bool.and_eq_true, decide_eq_true_eq] at h
  exact ⟨h.1, h.2⟩
def isGet (o : Option CFound) (a b c d : Value) : Bool := match o with
  | some (.get a' b' c' d') => decide (a' = a) && (decide (b' = b) && (decide (c' = c) && decide (d' = d)))
  | _ => false
theorem isGet_ok {o : Option CFound} {a b c d : Value} (h : isGet o a b c d = true) : o = some (.get a b c d) := by
  unfold isGet at h
  split at h
  · simp only [Bool.and_eq_true, decide_eq_true_eq] at h
    obtain ⟨rfl, rfl, rfl, rfl⟩ := h
    rfl
  · cases h
def fCMet (x m : Str) : Fac := fun K => isGet (findCls K (.ref (He.ga K x)) (.type "type") m) (.builtin "classmethod.__get__") (.ref (prA K x m)) .none (.ref (He.ga K x)) && fnIn K ((At.cm x m).ad K)
  && (match recIn K (prA K x m) "classmethod" with
    | some (.ref _ :: _) => true
    | _ => false)
theorem fCMet_ok {x m : Str} (h : fCMet x m K = true) : ClX.CMet K (He.ga K x) (.type "type") m (prA K x m) ((At.cm x m).ad K) := by
  unfold fCMet at h
  rw [Bool.and_eq_true] at h
  obtain ⟨h1, h2⟩ := h
  rw [Bool.and_eq_true] at h1
  exact ⟨isGet_ok h1.1, fst_ok h2, h1.2⟩
end
end MM

set_option Elab.async false
set_option linter.all false
set_option maxRecDepth 100000
set_option maxHeartbeats 4000000
/-! M21: own errors as values: made (by place, by keyword, bare), their field read, asked for their class. -/
namespace PySem
namespace HandSPX
open Builtin Builtin.ObjectAttr
section
variable {M : Model} {A : Around} {E : Value → Shared → Prop} {hp : Heap} {gs : Array GenState} {dw : Drawn} {tk : Nat} {os : OsState} {prog : Program} {w : World} {R : Result → Shared → Prop}
variable {nm q : Str} {C N : Addr} {bs bm bmB : List Value} {hdct : Bool} {sn : List Str} {sub : List Value} {ab : Bool} {col : Option Bool} {dd : Option Addr} {k0 k1 k2 k3 k5 : Option Value} {B newId initId : String} {us : List Value} {kw : List (Str × Value)} {fI : Addr}
/-- what __new__ asks of its arguments, keywords among them -/
theorem kw_check (F : ExcBaseFacts B newId initId bmB) (top : ∀ X : String, bm.contains (.type X) = bmB.contains (.type X)) {Q : Unit → Shared → Prop} (cls : hp.get? C = some (excClassObj nm q C N bs bm hdct sn sub ab col dd k0 k1 k2 k3 k5 newId)) (fin : Q () ⟨hp, gs, dw, tk, os⟩) :
    wpAny M A (checkBuiltinCall newId ⟨.ref C :: us, kw⟩) Q E ⟨hp, gs, dw, tk, os⟩ := by
  have inB : (Value.ref C :: bm).contains (.type B) = true := by (rw [List.contains_cons, top]; rw [F.hasB]; exact Bool.or_true _)
  have ns := F.noStar
  simp only [checkBuiltinCall, F.newSplit, F.newRow, F.newKind]
  repeat (first | refine wpAny_loadPart_at cls ?_ | (refine wpAny_isSubtype_exc cls ?_; rw [inB]) | refine wpAny_staticBase_exc cls ?_ | refine wpAny_madeBy_exc cls ?_ | simp only [Bool.false_eq_true, bne_self_eq_false, if_false] | wp_step)
  exact fin
/-- __new__ itself -/
theorem kw_new (F : ExcBaseFacts B newId initId bmB) (top : ∀ X : String, bm.contains (.type X) = bmB.contains (.type X)) (cls : hp.get? C = some (excClassObj nm q C N bs bm hdct sn sub ab col dd k0 k1 k2 k3 k5 newId))
    (fin : R (.ok (.ret (.ref (hp.objs.size + 1)))) ⟨(hp.push (W.kdv_tup us)).push (excO C hp.objs.size), gs, dw, tk, os⟩) (few : us.length ≤ sizeLine) : codeAny (model prog w) A (.builtin newId ⟨.ref C :: us, kw⟩) R ⟨hp, gs, dw, tk, os⟩ := by
  have ends := F.ends
  have inB : (Value.ref C :: bm).contains (.type B) = true := by (rw [List.contains_cons, top]; rw [F.hasB]; exact Bool.or_true _)
  have inA : (Value.ref C :: bm).contains (.type "AttributeError") = false := by (rw [List.contains_cons, top]; rw [F.noAttr]; rfl)
  have inN : (Value.ref C :: bm).contains (.type "NameError") = false := by (rw [List.contains_cons, top]; rw [F.noName]; rfl)
  refine codeAny_builtinAt F.entry ?_; unfold Builtin.«BaseException.__new__»
  refine wpAt_bind ?_; show wpAt _ _ _ (stack >>= _) _ _ _
  refine wpAt_bind (wpAt_stack fun _ _ => wpAt_of_wpAny ?_); wp_walk
  refine wpAt_of_wpAny ?_; rw [F.owner]
  repeat (first | with_reducible refine wpAny_madeHere_exc F.canon cls ?_ | with_reducible refine wpAny_loadPart_at cls ?_ | (with_reducible refine wpAny_isSubtype_exc cls ?_; first | rw [inB] | rw [inA] | rw [inN]) | wp_step)
  show R _ _; rw [Heap.size_push]; exact fin
/-- type.__call__ on the class -/
theorem kw_type {Q : Fin → Shared → Prop} (F : ExcBaseFacts B newId initId bmB) (top : ∀ X : String, bm.contains (.type X) = bmB.contains (.type X)) (cls : hp.get? C = some (excClassObj nm q C N bs bm hdct sn sub ab col dd k0 k1 k2 k3 k5 newId)) (few : us.length ≤ sizeLine)
    (look : W.Looks (model prog w) hp (typeLookup (.ref C) "__init__") (some (.ref fI))) (bind : ∀ self, W.Looks (model prog w) hp (bindSpecial (.ref fI) self) (.ref fI, [self]))
    (run : codeAny (model prog w) A (.call (.ref fI) ⟨.ref (hp.objs.size + 1) :: us, kw⟩) (fun r s' => match r with | .ok (.ret v) => v = .none ∧ Q (.done (.ret (.ref (hp.objs.size + 1)))) s' | .ok _ => False | .error e => E e s') ⟨(hp.push (W.kdv_tup us)).push (excO C hp.objs.size), gs, dw, tk, os⟩) :
    wpAny (model prog w) A (Builtin.«type.__call__» ⟨.ref C :: us, kw⟩) Q E ⟨hp, gs, dw, tk, os⟩ := by
  have kp : ∀ b o, hp.get? b = some o → ((hp.push (W.kdv_tup us)).push (excO C hp.objs.size)).get? b = some o := fun b o z => Heap.get?_push_of_some _ (Heap.get?_push_of_some _ z)
  have cls2 := kp _ _ cls
  have new : ((hp.push (W.kdv_tup us)).push (excO C hp.objs.size)).get? (hp.objs.size + 1) = some (excO C hp.objs.size) := by heap_get
  have inC : (Value.ref C :: bm).contains (.ref C) = true := by simp
  have l2 := look.keeps kp
  have b2 := (bind (.ref (hp.objs.size + 1))).keeps kp
  repeat (first | with_reducible refine wpAny_loadPart_at cls ?_ | with_reducible refine wpAny_madeBy_exc cls ?_ | wp_step)
  refine codeAny_call_builtin_code (Code.quiet_builtin _ F.quiet) (kw_check F top cls (kw_new F top cls ?_ few))
  show wpAny _ _ _ _ _ _; unfold isInstance
  repeat (first | with_reducible refine wpAny_loadPart_at new ?_ | (with_reducible refine wpAny_isSubtype_exc cls2 ?_; rw [inC]) | wp_step)
  show wpAny _ _ (typeLookup (.ref C) _) _ _ _; refine l2.at ?_
  refine wpAny_holding (wpAny_bind (b2.at ?_))
  refine wpAny_bind (wpAny_call (codeAny_mono run fun r s' z => ?_))
  rcases r with _ | (_ | _ | _ | _) <;> first | exact z | exact z.elim | (obtain ⟨rfl, z⟩ := z; first | exact wpAny_pure (wpAny_pure z) | (wp_walk; exact z))
/-- C(..): made, then its own __init__ -/
theorem kw_call (F : ExcBaseFacts B newId initId bmB) (top : ∀ X : String, bm.contains (.type X) = bmB.contains (.type X)) (cls : hp.get? C = some (excClassObj nm q C N bs bm hdct sn sub ab col dd k0 k1 k2 k3 k5 newId)) (few : us.length ≤ sizeLine)
    (look : W.Looks (model prog w) hp (typeLookup (.ref C) "__init__") (some (.ref fI))) (bind : ∀ self, W.Looks (model prog w) hp (bindSpecial (.ref fI) self) (.ref fI, [self]))
    (run : codeAny (model prog w) (A.under (.builtin "type.__call__" ⟨.ref C :: us, kw⟩)) (.call (.ref fI) ⟨.ref (hp.objs.size + 1) :: us, kw⟩) (W.InitBack (hp.objs.size + 1) R) ⟨(hp.push (W.kdv_tup us)).push (excO C hp.objs.size), gs, dw, tk, os⟩) :
    codeAny (model prog w) A (.call (.ref C) ⟨us, kw⟩) R ⟨hp, gs, dw, tk, os⟩ := by
  have g1 := tc_lookup; have g2 := tc_bind (.ref C)
  have isT : (⟨hp, gs, dw, tk, os⟩ : Shared).TypeIs (.ref C) "type" := ⟨_, cls, rfl⟩
  refine codeAny_of_tree ?_; show wpAny _ _ (callAny (.ref C) _) _ _ _
  repeat (any_goals (first | assumption | with_reducible refine wpAny_loadPart_at cls ?_ | wp_step))
  refine ⟨rfl, codeAny_call_builtin_at (Code.quiet_builtin _ (by decide +kernel)) entry_typeCall (wpAny_check_type_call_sub cls (kw_type F top cls few look bind ?_))⟩
  exact codeAny_mono run fun r s' z => by rcases r with _ | (_ | _ | _ | _) <;> exact z
end
end HandSPX
end PySem

namespace MM
open PySem PySem.Spec PyProof.Rows L2 PySem.W
section
variable {X : Cx} {S : Su} {W : WX} {e o a : Expr} {es : List Expr} {kws : List Keyword} {pos p kpos apos : Pos} {k n : Nat} {fI C : Addr} {fd : FuncData} {ps ks : List Str} {c f : Str} {ix : List Src} {fa fk : En → R (List Ar)}
/-- what an own class with an __init__ of one field has, for calls of this form -/
structure ExB (X : Cx) (c f : Str) (C fI : Addr) (k n : Nat) (ks : List Str) (ix : List Src) : Prop where
  hC : X.mg c = some (.ref C)
  T : OexC X.K C
  iC : findIn X.K (.ref C) "__init__" = some (some (.ref fI))
  tI : typeIn X.K (.ref fI) = some (.type "function")
  ok : ∃ fd ps, FnOk X.prog X.w X.K X.mg X.base (L2.CX X.prog X.w) k fI fd ps (spIni C f) ∧ Bnd X.K fd ps (n + 1) ks ix []
theorem exd_frz' {dx : Addr} {fs : List (Str × V)} : ∀ (o : Addr → Prop) (q : Obj) (u : HO), exd dx fs ≠ .frz q u := fun _ _ _ z => by
  have z' : HO.ext _ = HO.frz _ _ := z
  cases z'
/-- the call, run -/
theorem run_exn {pins : List (Addr × Obj)} {σ : L2.St} {H : Hp} {s : Shared} {Q : VK} {us ws : List Value} {vs zs : List V} {v : V} (x : ExB X c f C fI k n ks ix) (hr : Rm (k + 1) X.A) (tk : Takes X W) (I : Inv X pins σ H s) (rv : Vals vs us) (rz : Vals zs ws) (l1 : vs.length = n) (l2 : zs.length = ks.length) (l3 : n ≤ 1)
    (hp : ∀ b : V, pickL .non ix (b :: vs) zs [] = [b, v])
    (h : ∀ b dx, H b = none → H dx = none → dx ≠ b → Q (.ref b) (upd (upd (upd H b (exo b C none)) dx (exd dx [(f, v)])) b (exo b C (some dx)))) : wpAny (model X.prog X.w) X.A (call (.ref C) us (ks.zip ws)) (EP X pins σ Q) X.xe s := by
  obtain ⟨fd, ps, Fn, hb⟩ := x.ok
  obtain ⟨nm, q, N, bs, bm, sn, sub, ab, col, dd, k0, k1, k2, k3, k5, hC, hbm⟩ := x.T.cls
  obtain ⟨hp0, g, dr, tk0, os⟩ := s
  have n1 : H (hp0.objs.size + 1) = none := I.hok.fresh (Nat.le_succ _)
  have kk : ∀ b o, hp0.get? b = some o → ((hp0.push (kdv_tup us)).push (HandSPX.excO C hp0.objs.size)).get? b = some o := fun b o e => Heap.get?_push_of_some _ (Heap.get?_push_of_some _ e)
  have hget : ((hp0.push (kdv_tup us)).push (HandSPX.excO C hp0.objs.size)).get? (hp0.objs.size + 1) = some (HandSPX.excO C hp0.objs.size) := by heap_get
  have I2 : Inv X pins σ (upd H (hp0.objs.size + 1) (exo (hp0.objs.size + 1) C none)) ⟨(hp0.push (kdv_tup us)).push (HandSPX.excO C hp0.objs.size), g, dr, tk0, os⟩ :=
    I.laid (t' := tk0) (a := hp0.objs.size + 1) (o := exo (hp0.objs.size + 1) C none) (h' := (hp0.push (kdv_tup us)).push (HandSPX.excO C hp0.objs.size)) kk (Nat.le_succ _) (exo_ok hget)
  obtain ⟨its, rd, bt⟩ := hb.ex
  have r1 : Vals (V.ref (hp0.objs.size + 1) :: vs) (Value.ref (hp0.objs.size + 1) :: us) := .cons rfl rv
  have r2 := pick_vals (ix := ix) r1 rz rd
  rw [hp] at r2
  have e1 : (Value.ref (hp0.objs.size + 1) :: us).length = n + 1 := r1.length.symm.trans (congrArg Nat.succ l1)
  have e2 : ws.length = ks.length := rz.length.symm.trans l2
  have hus : us.length ≤ sizeLine := by
    rw [← Paired.length rv, l1, sizeLine_eq]; omega
  have hq : spIni C f [.ref (hp0.objs.size + 1), v] (upd H (hp0.objs.size + 1) (exo (hp0.objs.size + 1) C none)) (fun u H2 => u = .non ∧ Q (.ref (hp0.objs.size + 1)) H2) (fun c d H' => W c d σ H') :=
    ⟨_, v, rfl, upd_same, fun dx d1 d2 => ⟨rfl, h _ dx n1 (by rw [upd_ne d2] at d1; exact d1) d2⟩⟩
  refine wpAny_call (HandSPX.kw_call F.excBase_ValueError (fun Y => HandSPX.refsVE_contains Y bm hbm) (I.kIn _ _ hC) hus (looks_findIn I.kIn x.iC) (fun self => bind_fn I.kIn self x.tI)
    (codeAny_mono (Fn.run _ X.stack _ _ ⟨Value.ref (hp0.objs.size + 1) :: us, ks.zip ws⟩ _ _ _ (fun c d H' => W c d σ H') (hr.make C us (ks.zip ws)).r (I2.env0.make C us (ks.zip ws)) (bt _ (Value.ref (hp0.objs.size + 1) :: us) ws I2.kIn e1 e2) r2 hq) fun r s' hq' => ?_))
  rcases r with er | (_ | _ | _ | _) <;> first | exact hq'.elim | skip
  · exact passAt tk σ pins _ _ er s' I2 hq'
  · obtain ⟨_, H2, I3, rv2, rfl, q3⟩ := I2.after hq'
    exact ⟨rv2, .ref (hp0.objs.size + 1), H2, I3, rfl, q3⟩
theorem ArOk.app {K : PySem.W.Frag} {mg : Str → Option Value} {F : Hp} {σ : L2.St} : ∀ {vs zs : List V} {as bs : List Ar}, ArOk K mg F σ vs as → ArOk K mg F σ zs bs → ArOk K mg F σ (vs ++ zs) (as ++ bs)
  | [], _, [], _, _, h => h
  | _ :: _, _, .d _ :: _, _, g, h => ⟨g.1, ArOk.app g.2 h⟩
  | _ :: _, _, .mv _ :: _, _, g, h => ⟨g.1, ArOk.app g.2 h⟩
  | [], _, _ :: _, _, g, _ => g.elim
  | _ :: _, _, [], _, g, _ => g.elim
def exnV (c f : Str) (e : En) : List Ar → R Tk
  | [.d d] => .ok (.val (.exn1 c f d)) e
  | _ => .no
def exnR (c f : Str) (n nk : Nat) (as bs : List Ar) (e : En) : R Tk := if as.length = n ∧ bs.length = nk then exnV c f e (as ++ bs) else .no
def mExn (c f : Str) (n nk : Nat) (fa fk : En → R (List Ar)) (e : En) : R Tk := (fa e).bind fun as e1 => (fk e1).bind fun bs e2 => exnR c f n nk as bs e2
/-- an error made, frozen with its field -/
theorem fz_exn {F H : Hp} {σ : L2.St} {env : En} {O : Addr → Prop} {Q : VK} {d : D} {v : V} (hC : X.mg c = some (.ref C)) (w : Wf X.K X.mg S O F H σ env) (r : Rep X.K X.mg F d v) (q : PostE X.K X.mg S O W F H σ (.ok (.val (.exn1 c f d)) env) (fun F' H' e' t => ∀ v, TkOk X.K X.mg O F' H' σ e' v t → Q v H')) :
    ∀ b dx, H b = none → H dx = none → dx ≠ b → Q (.ref b) (upd (upd (upd H b (exo b C none)) dx (exd dx [(f, v)])) b (exo b C (some dx))) := by
  intro b dx hb hd ne
  have eH : upd (upd (upd H b (exo b C none)) dx (exd dx [(f, v)])) b (exo b C (some dx)) = upd (upd H dx (exd dx [(f, v)])) b (exo b C (some dx)) := by
    funext y
    by_cases e1 : y = b
    · subst e1; rw [upd_same, upd_same]
    · rw [upd_ne e1, upd_ne e1]
      by_cases e2 : y = dx
      · subst e2; rw [upd_same, upd_same]
      · rw [upd_ne e2, upd_ne e2, upd_ne e1]
  rw [eH]
  have w1 := w.new hd (exd dx [(f, v)])
  have hb1 : upd H dx (exd dx [(f, v)]) b = none := by rw [upd_ne (Ne.symm ne)]; exact hb
  have w2 := w1.new hb1 (exo b C (some dx))
  have t1 := Tr.new w hd (exd dx [(f, v)])
  have t2 := Tr.new w1 hb1 (exo b C (some dx))
  have hd2 : upd (upd H dx (exd dx [(f, v)])) b (exo b C (some dx)) dx = some (exd dx [(f, v)]) := by rw [upd_ne ne, upd_same]
  have w3 := w2.freeze (p := dx) hd2 (w.nOwn hd) (exd_frz' (fun _ => True)) (w.gone hd) (w.nO hd)
  have t3 : Tr O F _ (upd F dx (exd dx [(f, v)])) _ := Tr.freeze (H := upd (upd H dx (exd dx [(f, v)])) b (exo b C (some dx))) (w.gone hd) (w.nO hd)
  have fb : upd F dx (exd dx [(f, v)]) b = none := by rw [upd_ne (Ne.symm ne)]; exact w.gone hb
  have w4 := w3.freeze (p := b) (o := exo b C (some dx)) upd_same (w.nOwn hb) (fun _ _ => exo_frz) fb (w.nO hb)
  have t4 : Tr O (upd F dx (exd dx [(f, v)])) _ (upd (upd F dx (exd dx [(f, v)])) b (exo b C (some dx))) _ := Tr.freeze (H := upd (upd H dx (exd dx [(f, v)])) b (exo b C (some dx))) fb (w.nO hb)
  exact q _ _ (((t1.trans t2).trans t3).trans t4) w4 (.ref b) (.exn1 hC upd_same (by rw [upd_ne ne, upd_same]) (r.mono (t3.fz.trans t4.fz)))
/-- C(x), C(f=x), as values -/
theorem me_exn (x : ExB X c f C fI k n ks ix) (hr : Rm (k + 1) X.A) (tk : Takes X W) (hg : Gl X c) (l3 : n ≤ 1) (hix : ∀ (vs zs : List V) (b v : V), vs.length = n → zs.length = ks.length → vs ++ zs = [v] → pickL .non ix (b :: vs) zs [] = [b, v]) (ha : MA X S W es fa) (hkw : MK X S W kws fk)
    (sta : StarOk X es := by first | exact rfl | exact trivial) (hall : (backToKw pos (keywordEach kws X.env)).all (·.1.isSome) = true := by rfl) (hks : (backToKw pos (keywordEach kws X.env)).filterMap (·.1) = ks := by rfl)
    (hpl : ((backTo pos (starEach es X.env)).any (·.1) || (backToKw pos (keywordEach kws X.env)).any (·.1.isNone)) = false := by rfl) (hdb : (c == ("__debug__" : Str)) = false := by decide) : ME X S W (.Call (.Name c p) es kws pos) (mExn c f n ks.length fa fk) := by
  refine ⟨fun pins s σ H Q I ⟨F, env, O, w, q⟩ => ?_⟩
  refine wpAny_Call_Name_kw (ld_glob I hg x.hC ?_ hdb)
  refine argsK (first := []) x.T.kC ha hkw sta hall hks hpl I w q fun F' H' e' as bs vs zs s' us ws t1 w1 ra rb q1 I1 rv rz => ?_
  unfold exnR at q1
  split at q1
  · rename_i hl
    have lv := ra.length.trans hl.1
    have lz := rb.length.trans hl.2
    have rab : ArOk X.K X.mg F' σ (vs ++ zs) (as ++ bs) := ra.app rb
    unfold exnV at q1
    split at q1
    · rename_i d ed
      rw [ed] at rab
      cases hv : vs ++ zs with
      | nil => rw [hv] at rab; exact rab.elim
      | cons v r =>
        rw [hv] at rab
        cases r with
        | cons _ _ => exact rab.2.elim
        | nil => exact run_exn x hr tk I1 rv rz lv lz l3 (fun b => hix vs zs b v lv lz hv) (fz_exn x.hC w1 rab.1 q1)
    · exact q1.elim
  · exact q1.elim
/-- C(), as a value -/
def mExn0 (c : Str) (e : En) : R Tk := .ok (.val (.exn0 c)) e
theorem me_exn0 {bmB : List Value} {B newId initId : String} (F0 : ExcBaseFacts B newId initId bmB) (q0 : excIn X.K C bmB newId = true) (gC : X.mg c = some (.ref C)) (kC : keepIn X.K (.ref C) = true) (hg : Gl X c) (hdb : (c == ("__debug__" : Str)) = false := by decide) :
    ME X S W (.Call (.Name c p) [] [] pos) (mExn0 c) := by
  refine ⟨fun pins s σ H Q I ⟨F, env, O, w, q⟩ => ?_⟩
  refine wpAny_Call_Name_kw (ld_glob I hg gC ?_ hdb)
  refine callWith_K0 I.kIn kC ?_
  show wpAny _ _ (call (.ref C) []) _ _ _
  obtain ⟨bm, N, nm, qn, bs, hdct, sn, sub, ab, col, dd, k0, k1, k2, k3, k5, mN, hC, hN, hni, T⟩ := exc_obj I.kIn q0
  refine wpAny_call_exc_subT F0 T hC hN hni (fun h' e hm => ?_) (by show 0 ≤ sizeLine; omega)
  have hn : H e = none := I.hok.gone hm.new
  obtain ⟨t, he, _, _⟩ := hm.there
  have I2 : Inv X pins σ (upd H e (exo e C none)) { s with heap := h', toks := s.toks } := I.laidN hm.keeps hm.new hn (exo_ok he)
  have w1 := w.new hn (exo e C none)
  have t1 := Tr.new w hn (exo e C none)
  have w2 := w1.freeze (p := e) upd_same (w.nOwn hn) (fun _ _ => exo_frz) (w.gone hn) (w.nO hn)
  have t2 : Tr O F (upd H e (exo e C none)) (upd F e (exo e C none)) (upd H e (exo e C none)) := Tr.freeze (w.gone hn) (w.nO hn)
  exact ⟨.ref e, _, I2, rfl, q _ _ (t1.trans t2) w2 (.ref e) (.exn0 gC upd_same)⟩
/-- x.f, x an error -/
def dExF (cs : List Str) (f : Str) : D → Option Tk
  | .exn1 c g d => if cs.contains c ∧ g = f then some (.val d) else none
  | _ => none
theorem me_exAt {cs : List Str} {fo : En → R Tk} (hx : ∀ c ∈ cs, ∀ C, X.mg c = some (.ref C) → ExR X.K C f) (ho : ME X S W o fo) (hb : attributeBase o f X.env (eval o X.env) = eval o X.env := by rfl) : ME X S W (.Attribute o f pos) (mOp1 fo (dExF cs f)) :=
  me_op1 (r := fun x H Q => ∃ b C dx v, x = .ref b ∧ H b = some (exo b C (some dx)) ∧ H dx = some (exd dx [(f, v)]) ∧ ExR X.K C f ∧ Q v H) (fun ta hta => ⟨fun pins s σ H Q I h => by
    refine attr_of hb (thn (hta.run pins s σ H _ I h) fun u s1 hh => ?_)
    obtain ⟨x, H1, I1, rx, b, C, dx, v, ex, hE, hD, R, q⟩ := hh
    subst ex
    obtain rfl : u = Value.ref b := rx
    obtain ⟨t1, he⟩ := exo_at I1.hok hE
    obtain ⟨mA, hns, hr⟩ := exd_at I1.hok hD
    obtain ⟨od, ho, hl⟩ := lookIn_ns hns
    obtain ⟨u2, hu, ru⟩ := RelO.some_of (v := v) (o := mA f) (by
      have z := hr f
      simp [List.lookup] at z
      exact z)
    exact HandSPX.exc_get I1.kIn (⟨he, rfl, rfl, ho⟩ : InstAt s1.heap b _ C (some od)) R.ga R.gg R.exC (findObj_own R.hdC R.noF rfl (by rw [hl, hu])) (handed_of ru) ⟨v, H1, I1.tok _, ru, q⟩⟩) ho fun F H σ env O v x t Q w k e p => by
    cases x <;> first | (cases e; done) | skip
    rename_i c g d
    simp only [dExF] at e
    split at e
    · rename_i hc
      obtain ⟨h1, rfl⟩ := hc
      cases e
      rcases k with k | ⟨_, _, _, _, kt⟩
      · cases k with
        | exn1 m h g r => exact ⟨_, _, _, _, rfl, w.get h (fun _ z => Bool.noConfusion (show false = true from z)), w.get g (fun _ z => Bool.noConfusion (show false = true from z)), hx _ (by simpa using h1) _ m, flatE w p r⟩
      · cases kt
    · cases e
/-- what an own error's class has for isinstance -/
structure ExiC (K : PySem.W.Frag) (C : Addr) : Prop where
  cl : (clsIn K C).isSome = true
  ga : findIn K (.ref C) "__getattribute__" = some (some (.builtin "BaseException.__getattribute__"))
  gg : findIn K (.ref C) "__getattr__" = some none
  sb : subIn K (.ref C) (.type "BaseException") = some true
  ca : findIn K (.ref C) "__class__" = some (some (.builtin "object.__class__"))
  cg : specialIn K (.builtin "object.__class__") "__get__" = some (some (.builtin "getset_descriptor.__get__"))
  ct : takesIn K (.builtin "object.__class__") = some true
  mo : mroIn K C (.type "object") = some true
def rIsX (K : PySem.W.Frag) : List V → Hp → VK → Prop := fun xs H Q => ∃ (b C : Addr) (dx : Option Addr) (c : V) (cv : Value) (k : Bool), xs = [.ref b, c] ∧ H b = some (exo b C dx) ∧ (∀ dd, dx = some dd → ∃ fs, H dd = some (exd dd fs)) ∧ ExiC K C ∧ (∀ u, RelV c u → u = cv) ∧ kitOne K (.ref C) cv = some k ∧ Q (.bl k) H
theorem call_isX : CallR X (.builtin "isinstance") (rIsX X.K) := by
  intro pins s σ H xs us Q I r h
  obtain ⟨b, C, dx, c, cv, k, rfl, hb, hd, E, hcv, e, q⟩ := h
  cases r with
  | cons rx rr =>
    cases rr with
    | cons rt rr =>
      cases rr
      cases rx
      have ec := hcv _ rt
      subst ec
      obtain ⟨t1, he⟩ := exo_at I.hok hb
      have J : ∃ od, InstAt s.heap b { cls := .ref C, dict := dx, data := .fields #[.ref t1, .none, .none, .none, .bool false, .none] } C od := by
        cases dx with
        | none => exact ⟨none, he, rfl, rfl, trivial⟩
        | some dd =>
          obtain ⟨fs, hD⟩ := hd dd rfl
          obtain ⟨mA, hns, hr⟩ := exd_at I.hok hD
          obtain ⟨od, ho, hl⟩ := lookIn_ns hns
          exact ⟨some od, he, rfl, rfl, ho⟩
      obtain ⟨od, J⟩ := J
      exact kia_one (kitx_exc E.cl E.ga E.gg E.sb E.ca E.cg E.ct E.mo) I.kIn J e (fun z => nomatch z) fun tk => ⟨.bl k, H, I.kept (t' := tk) fun _ _ z => z, rfl, q⟩
/-- of an error, by a table of classes -/
def gEx (tb : List (Str × Bool)) : D → Option Bool
  | .exn0 c => tb.lookup c
  | .exn1 c _ _ => tb.lookup c
  | _ => none
theorem me_isE {ci : Expr} {cv : V} {cl : Value} {tb : List (Str × Bool)} {fx : En → R Tk} (hx : ∀ y b, tb.lookup y = some b → ∀ C, X.mg y = some (.ref C) → ExiC X.K C ∧ kitOne X.K (.ref C) cl = some b) (hg : Gl X "isinstance") (hm : X.mg "isinstance" = none) (hc : PE X ci (tC cv)) (hcv : ∀ u, RelV cv u → u = cl) (ha : ME X S W a fx)
    (hs : starEach [a, ci] X.env = (false, eval a X.env) :: starEach [ci] X.env := by rfl) (hs2 : starEach [ci] X.env = (false, eval ci X.env) :: starEach [] X.env := by rfl) : ME X S W (.Call (.Name "isinstance" p) [a, ci] [] pos) (mOp1 fx (dIsi (gEx tb))) :=
  me_op1 (r := fun x H Q => rIsX X.K [x, cv] H Q) (fun ta hta => pe_callB (t := tCons ta (tCons (tC cv) tNil)) call_isX hg hm (by decide +kernel) (pa_cons hta (pa_cons hc pa_nil hs2) hs) (he := hs) (hpl := by rw [hs2]; rfl)) ha fun F H σ env O v x t Q w k e q => by
    obtain ⟨b, h1, rfl⟩ := Option.map_eq_some_iff.mp e
    have nd : ∀ {p : Addr} {C : Addr} {d : Option Addr} (_ : Unit), dk (exo p C d) ≠ true := fun _ z => Bool.noConfusion (show false = true from z)
    have nd2 : ∀ {p : Addr} {fs : List (Str × V)} (_ : Unit), dk (exd p fs) ≠ true := fun _ z => Bool.noConfusion (show false = true from z)
    cases x <;> first | (cases h1; done) | skip
    · rename_i y
      rcases k with k | ⟨_, _, _, _, kt⟩
      · cases k with
        | exn0 m h =>
          obtain ⟨z1, z2⟩ := hx y b h1 _ m
          exact ⟨_, _, none, cv, cl, b, rfl, w.get h nd, (fun _ z => nomatch z), z1, hcv, z2, flatE w q (.bl _)⟩
      · cases kt
    · rename_i y g d
      rcases k with k | ⟨_, _, _, _, kt⟩
      · cases k with
        | exn1 m h g r =>
          obtain ⟨z1, z2⟩ := hx y b h1 _ m
          exact ⟨_, _, some _, cv, cl, b, rfl, w.get h nd, (fun dd z => by cases z; exact ⟨_, w.get g nd2⟩), z1, hcv, z2, flatE w q (.bl _)⟩
      · cases kt
end
end MM

set_option Elab.async false
set_option linter.all false
set_option maxRecDepth 100000
set_option maxHeartbeats 4000000
/-! M22: displays of dicts; facts of own errors as values. -/
namespace MM
open PySem PySem.Spec PyProof.Rows L2 PySem.W
section
variable {X : Cx} {S : Su} {W : WX} {pos : Pos}
abbrev DPair := (En → R Tk) × (En → R Tk)
def dpK (g : En → R Tk) (r : En → R (List (Key × D))) (e1 : En) : Option Key → R (List (Key × D))
  | some k => (g e1).bind fun u e2 => (frc u e2).bind fun d e3 => (r e3).bind fun kvs e4 => .ok ((k, d) :: kvs) e4
  | none => .no
def mDp : List DPair → En → R (List (Key × D))
  | [], e => .ok [] e
  | fg :: r, e => (fg.1 e).bind fun t e1 => dpK fg.2 (mDp r) e1 ((pk t e1).bind keyD)
def mDisp (ps : List DPair) (e : En) : R Tk := (mDp ps e).bind fun kvs e1 => if kvs.length ≤ 15 then .ok (.nw (.dct (kvs.foldl (fun a kv => putD a kv.1 kv.2) []))) e1 else .no
inductive MP (X : Cx) (S : Su) (W : WX) : List (Option Expr) → List Expr → List DPair → Prop
  | nil : MP X S W [] [] []
  | cons {k v : Expr} {f g : En → R Tk} {ks : List (Option Expr)} {vs : List Expr} {ps : List DPair} : ME X S W k f → ME X S W v g → MP X S W ks vs ps → MP X S W (some k :: ks) (v :: vs) ((f, g) :: ps)
def trP (X : Cx) (S : Su) (W : WX) (fg : DPair) : TE × TE := (tM X S W fg.1, tM X S W fg.2)
theorem MP.pps {ks : List (Option Expr)} {vs : List Expr} {ps : List DPair} (h : MP X S W ks vs ps) : PPs X pos ks vs (ps.map (trP X S W)) := by
  induction h with
  | nil => exact pps_nil
  | cons h1 h2 _ ih => exact pps_cons h1 h2 ih
theorem dp_read {O : Addr → Prop} : ∀ {ps : List DPair} {F H : Hp} {σ : L2.St} {env : En} {kk : Hp → Hp → En → List (Key × D) → Prop} {QQ : List (V × V) → Hp → Prop}, Wf X.K X.mg S O F H σ env → PostE X.K X.mg S O W F H σ (mDp ps env) kk →
    (∀ F2 H2 e2 kvs ks, Tr O F H F2 H2 → Wf X.K X.mg S O F2 H2 σ e2 → RepK X.K X.mg F2 kvs ks → kk F2 H2 e2 kvs → QQ (ks.map fun kv => (kV kv.1, kv.2)) H2) → tPairs (ps.map (trP X S W)) σ H QQ
  | [], F, H, σ, env, kk, QQ, w, p, fin => fin F H env [] [] Tr.refl w .nil (PostE.ok w p)
  | (f, g) :: ps, F, H, σ, env, kk, QQ, w, p, fin => by
    refine ⟨F, env, O, w, PostE.mono (PostE.bind p) fun F1 H1 e1 t t1 w1 q v tk => ?_⟩
    cases z : (pk t e1).bind keyD with
    | none => rw [z] at q; exact q.elim
    | some k =>
      rw [z] at q
      obtain ⟨x, z1, z2⟩ := Option.bind_eq_some_iff.mp z
      have ek := keyD_ok (pk_ok w1 tk z1) z2
      subst ek
      refine ⟨F1, e1, O, w1, PostE.mono (PostE.bind q) fun F2 H2 e2 u t2 w2 q2 y tk2 => ?_⟩
      obtain ⟨F3, e3, d, t3, w3, rd, q3⟩ := frc_k w2 tk2 (PostE.bind q2)
      refine dp_read (ps := ps) w3 (PostE.bind q3) fun F4 H4 e4 kvs ks t4 w4 rk q4 => ?_
      exact fin F4 H4 e4 ((k, d) :: kvs) ((k, y) :: ks) (((t1.trans t2).trans t3).trans t4) w4 (.cons (rd.mono t4.fz) rk) (PostE.ok w4 q4)
theorem repK_fold {F : Hp} : ∀ {kvs : List (Key × D)} {ks : List (Key × V)} {acc : List (Key × D)} {bcc : List (Key × V)}, RepK X.K X.mg F kvs ks → RepK X.K X.mg F acc bcc → RepK X.K X.mg F (kvs.foldl (fun a kv => putD a kv.1 kv.2) acc) (mergeK bcc ks)
  | _, _, _, _, .nil, r => r
  | _, _, acc, bcc, .cons (k := k) (d := d) (v := v) (ds := ds) (vs := vs) h t, r => by
    show RepK X.K X.mg F (ds.foldl (fun a kv => putD a kv.1 kv.2) (putD acc k d)) (mergeK (putK bcc k v) vs)
    exact repK_fold t (r.put k h)
theorem RepK.len' {F : Hp} {kvs : List (Key × D)} {ks : List (Key × V)} (r : RepK X.K X.mg F kvs ks) : ks.length = kvs.length := r.length
/-- {k: v, ..} -/
theorem me_disp {keys : List (Option Expr)} {values : List Expr} {ps : List DPair} (h : MP X S W keys values ps) (hall : keys.all (·.isSome) = true := by rfl) (hl : keys.length = values.length := by rfl) (h0 : keys ≠ [] := by exact fun z => nomatch z) (h15 : keys.length ≤ 15 := by decide) : ME X S W (.Dict keys values pos) (mDisp ps) :=
  (pe_disp h.pps hall hl h0 h15).wk fun σ H Q ⟨F, env, O, w, p⟩ => fun a ha => by
    have w1 := w.new ha (.dK [])
    have t1 := Tr.new w ha (.dK [])
    -- the empty dict is left alone meanwhile
    have w2 : Wf X.K X.mg S (fun b => O b ∨ b = a) F (upd H a (.dK [])) σ env := w1.more fun b q => by
      rcases q with q | rfl
      · exact .inl q
      · exact .inr ⟨⟨_, upd_same, rfl⟩, w.nOwn ha, fun ks z => by rw [w.gone ha] at z; cases z⟩
    refine dp_read (O := fun b => O b ∨ b = a) w2 (PostE.wide (PostE.on (PostE.bind p) t1) fun b q => .inl q) fun F2 H2 e2 kvs ks t2 w3 rk hh => ?_
    obtain ⟨t3, w4, q⟩ := hh
    have hk : H2 a = some (.dK []) := (t2.kp a (.inr rfl)).trans upd_same
    have hf : F2 a = none := (t2.fr a (.inr rfl)).trans (w.gone ha)
    split at q
    · rename_i hlen
      refine ⟨hk, ks, rfl, by rw [rk.length]; exact hlen, ?_⟩
      have nO : ¬ O a := w.nO ha
      have nown : ¬ Own σ e2 a := fun z => w3.ow a z (.inr rfl)
      -- a is changed: no slot's own
      have wf : Wf X.K X.mg S O F2 (upd H2 a (.dK (mergeK [] ks))) σ e2 := {
        fz := fun b u z => by
          have ne : b ≠ a := fun e => by subst e; rw [hf] at z; cases z
          rw [upd_ne ne]; exact w3.fz b u z
        sl := fun i s z => by
          obtain ⟨v, hv, ok⟩ := w3.sl i s z
          refine ⟨v, hv, ?_⟩
          cases s with
          | no => trivial
          | sh d => exact ok
          | ow d =>
            obtain ⟨p1, o, e, h1, h2, h3⟩ := ok
            have ne : p1 ≠ a := fun z2 => by subst z2; subst e; exact nown ⟨i, _, z, rfl, hv⟩
            exact ⟨p1, o, e, h1, by rw [upd_ne ne]; exact h2, h3⟩
          | io d =>
            obtain ⟨p1, o, el, e, h1, h2, h3⟩ := ok
            have ne : p1 ≠ a := fun z2 => by subst z2; subst e; exact nown ⟨i, _, z, rfl, hv⟩
            exact ⟨p1, o, el, e, h1, by rw [upd_ne ne]; exact h2, h3⟩
          | ex f d =>
            obtain ⟨b, dd, x, es, ev, h1, h2⟩ := ok
            have ne : dd ≠ a := fun z2 => by subst z2; rw [hk] at h1; cases h1
            exact ⟨b, dd, x, es, ev, by rw [upd_ne ne]; exact h1, h2⟩
        ds := w3.ds
        oh := fun b z => by
          obtain ⟨u, hu⟩ := w3.oh b (.inl z)
          have ne : b ≠ a := fun e => nO (e ▸ z)
          exact ⟨u, by rw [upd_ne ne]; exact hu.1, hu.2⟩
        ow := fun b z q => w3.ow b z (.inl q)
        od := fun b ks2 z z2 => by
          have ne : b ≠ a := fun e => nO (e ▸ z)
          rw [upd_ne ne]; exact w3.od b ks2 (.inl z) z2 }
      have tr : Tr O F H F2 (upd H2 a (.dK (mergeK [] ks))) := {
        fz := t2.fz
        kp := fun b z => by
          have ne : b ≠ a := fun e => nO (e ▸ z)
          rw [upd_ne ne, t2.kp b (.inl z), upd_ne ne]
        fr := fun b z => t2.fr b (.inl z)
        al := fun b u z => by
          have ne : b ≠ a := fun e => by subst e; rw [ha] at z; cases z
          rw [upd_ne ne]
          exact t2.al b u (by rw [upd_ne ne]; exact z) }
      refine q F2 _ ⟨Sub.rfl', fun b z => by
        have ne : b ≠ a := fun e => nO (e ▸ z)
        rw [upd_ne ne], fun _ _ => rfl, fun b u z => ?_⟩ wf (.ref a) ⟨a, _, rfl, hf, nown, nO, upd_same, .dct (repK_fold rk .nil)⟩
      by_cases e : b = a
      · subst e; exact ⟨_, upd_same⟩
      · exact ⟨u, by rw [upd_ne e]; exact z⟩
    · exact q.elim
end
/-! ### facts -/
section
variable {fa : List Fac} {fn : List Df} {X : Cx} {K : Frag} {mg : Str → Option Value}
def fExi (x : Str) : Fac := fun K => (clsIn K (He.ga K x)).isSome && decide (findIn K (.ref (He.ga K x)) "__getattribute__" = some (some (.builtin "BaseException.__getattribute__"))) && decide (findIn K (.ref (He.ga K x)) "__getattr__" = some none)
  && decide (subIn K (.ref (He.ga K x)) (.type "BaseException") = some true) && decide (findIn K (.ref (He.ga K x)) "__class__" = some (some (.builtin "object.__class__"))) && decide (specialIn K (.builtin "object.__class__") "__get__" = some (some (.builtin "getset_descriptor.__get__")))
  && decide (takesIn K (.builtin "object.__class__") = some true) && decide (mroIn K (He.ga K x) (.type "object") = some true)
theorem fExi_ok {x : Str} (h : fExi x K = true) : ExiC K (He.ga K x) := by
  unfold fExi at h
  simp only [Bool.and_eq_true, decide_eq_true_eq] at h
  obtain ⟨⟨⟨⟨⟨⟨⟨h1, h2⟩, h3⟩, h4⟩, h5⟩, h6⟩, h7⟩, h8⟩ := h
  exact ⟨h1, h2, h3, h4, h5, h6, h7, h8⟩
def fExiA (xs : List Str) : Fac := fun K => xs.all fun x => fExi x K
def fKitC (tb : List (Str × Bool)) (y : Str) : Fac := fun K => tb.all fun p => decide (kitOne K (.ref (He.ga K p.1)) (.ref (He.ga K y)) = some p.2)
def fKitT (tb : List (Str × Bool)) (y : String) : Fac := fun K => tb.all fun p => decide (kitOne K (.ref (He.ga K p.1)) (.type y) = some p.2)
theorem lk_mem {y : Str} {b : Bool} : ∀ {tb : List (Str × Bool)}, tb.lookup y = some b → (y, b) ∈ tb := fun h => lookup_mem h
theorem exTab {xs : List Str} {tb : List (Str × Bool)} {y : Str} (hm : ∀ x ∈ xs, X.mg x = some (.ref (He.ga X.K x))) (hi : fExiA xs X.K = true) (hk : fKitC tb y X.K = true) (hs : tb.all (fun p => xs.contains p.1) = true) :
    ∀ z b, tb.lookup z = some b → ∀ C, X.mg z = some (.ref C) → ExiC X.K C ∧ kitOne X.K (.ref C) (.ref (He.ga X.K y)) = some b := fun z b h C e => by
  have m := lk_mem h
  have mx : z ∈ xs := by simpa using List.all_eq_true.mp hs _ m
  rw [hm z mx] at e
  cases e
  exact ⟨fExi_ok (List.all_eq_true.mp hi z mx), of_decide_eq_true (List.all_eq_true.mp hk _ m)⟩
theorem exTabT {xs : List Str} {tb : List (Str × Bool)} {y : String} (hm : ∀ x ∈ xs, X.mg x = some (.ref (He.ga X.K x))) (hi : fExiA xs X.K = true) (hk : fKitT tb y X.K = true) (hs : tb.all (fun p => xs.contains p.1) = true) :
    ∀ z b, tb.lookup z = some b → ∀ C, X.mg z = some (.ref C) → ExiC X.K C ∧ kitOne X.K (.ref C) (.type y) = some b := fun z b h C e => by
  have m := lk_mem h
  have mx : z ∈ xs := by simpa using List.all_eq_true.mp hs _ m
  rw [hm z mx] at e
  cases e
  exact ⟨fExi_ok (List.all_eq_true.mp hi z mx), of_decide_eq_true (List.all_eq_true.mp hk _ m)⟩
/-- an own error's __init__, for calls of n by place, or by keyword -/
theorem exB_of {c f : Str} {d : Df} (n : Nat) (ks : List Str) (ix : List Src) (cx : Ctx fa fn X.K X.mg) {sn gn : Str} {N : List Str} {p1 p2 p3 p4 : Pos} (hm : X.mg c = some (.ref (He.ga X.K c))) (hx : fOex c f X.K = true) (hd : ∃ fd, FnD X.K d fd) (ha : d.at_ = .m c "__init__") (hdf : d.dfl = []) (Sc : FnScope N [sn, gn] (defScope d.st)) (h0 : N[0]? = some sn) (h1 : N[1]? = some gn)
    (hb : defBody d.st = [.Assign [.Attribute (.Name sn p1) f p2] (.Name gn p3) p4])
    (hbd : ∀ (kV doc pm : Value) (an : Option Addr) (cdv ct : Value) (us ws : List Value), us.length = n + 1 → ws.length = ks.length → bindArgs (fnOf d.name d.qual (defArgs d.st) (defBody d.st) (defScope d.st) .none kV doc pm an cdv ct) ⟨us, ks.zip ws⟩ = pure ([sn, gn].zip (pickL .none ix us ws [])))
    (d1 : (sn == ("__debug__" : Str)) = false := by decide) (d2 : (gn == ("__debug__" : Str)) = false := by decide) (c1 : (sn == ("__classdict__" : Str)) = false := by decide) (c2 : (gn == ("__classdict__" : Str)) = false := by decide) : ExB X c f (He.ga X.K c) (prA X.K c "__init__") 1 n ks ix := by
  obtain ⟨T, iC, tI, R⟩ := fOex_ok cx hx
  obtain ⟨fd, F⟩ := hd
  have e1 : d.dvs X.K = [] := by unfold Df.dvs; rw [hdf]; rfl
  have e2 : d.at_.ad X.K = prA X.K c "__init__" := by rw [ha]; rfl
  unfold FnD at F
  rw [e1, e2] at F
  exact ⟨hm, T, iC, tI, fd, [sn, gn], fn_ini F Sc T R.noF h0 h1 hb d1 d2 c1 c2, Bnd.plain (n + 1) ks ix F fun kV doc pm an cdv ct us ws l1 l2 => hbd kV doc pm an cdv ct us ws l1 l2⟩
theorem exR1 (cx : Ctx fa fn X.K X.mg) {c f : Str} (hm : X.mg c = some (.ref (He.ga X.K c))) (hx : fOex c f X.K = true) : ∀ C, X.mg c = some (.ref C) → ExR X.K C f := fun C e => by
  rw [hm] at e
  cases e
  exact (fOex_ok cx hx).2.2.2
theorem hix_p : ∀ (vs zs : List V) (b v : V), vs.length = 1 → zs.length = ([] : List Str).length → vs ++ zs = [v] → pickL .non [.p 0, .p 1] (b :: vs) zs [] = [b, v]
  | [x], [], b, v, _, _, e => by cases e; rfl
theorem hix_k {y : Str} : ∀ (vs zs : List V) (b v : V), vs.length = 0 → zs.length = [y].length → vs ++ zs = [v] → pickL .non [.p 0, .k 0] (b :: vs) zs [] = [b, v]
  | [], [x], b, v, _, _, e => by cases e; rfl
theorem boot_ValueError' : bootBuiltins "ValueError" = some (.type "ValueError") := by kernel_rfl
end
end MM

set_option Elab.async false
set_option linter.all false
set_option maxRecDepth 100000
set_option maxHeartbeats 4000000
/-! M23: sorted texts; list(x), dict(x); extend. -/
namespace MM
open PySem PySem.Spec PyProof.Rows L2 PySem.W
/-! ### the order of texts -/
def ltS (a b : Str) : Bool := ltCps a.cps.toList b.cps.toList
theorem str_ext {a b : Str} (h : a.cps.toList = b.cps.toList) : a = b := by
  cases a; cases b; congr; exact Array.toList_inj.mp h
theorem ltS_iff {a b : Str} : ltS a b = true ↔ a.cps.toList < b.cps.toList := by
  unfold ltS; rw [ltCps_eq]; exact decide_eq_true_iff
theorem ltS_false {a b : Str} : ltS a b = false ↔ b.cps.toList ≤ a.cps.toList := by
  rw [← Bool.not_eq_true, ltS_iff]; exact List.not_lt
theorem ltS_anti {a b : Str} (h1 : ltS a b = false) (h2 : ltS b a = false) : a = b := str_ext (List.le_antisymm (ltS_false.mp h2) (ltS_false.mp h1))
theorem leS_trans {a b c : Str} (h1 : ltS b a = false) (h2 : ltS c b = false) : ltS c a = false := ltS_false.mpr (List.le_trans (ltS_false.mp h1) (ltS_false.mp h2))
theorem ltS_irr (a : Str) : ltS a a = false := ltS_false.mpr (List.le_refl _)
theorem ltS_asym {a b : Str} (h : ltS a b = true) : ltS b a = false := ltS_false.mpr (List.le_of_lt (ltS_iff.mp h))
theorem ltS_trans {a b c : Str} (h1 : ltS a b = true) (h2 : ltS b c = true) : ltS a c = true := ltS_iff.mpr (List.lt_trans (ltS_iff.mp h1) (ltS_iff.mp h2))
/-- ascending, with equals -/
abbrev AscS (l : List Str) : Prop := l.Pairwise fun a b => ltS b a = false
def insS (x : Str) : List Str → List Str
  | [] => [x]
  | y :: r => if ltS y x then y :: insS x r else x :: y :: r
def srtS : List Str → List Str
  | [] => []
  | x :: r => insS x (srtS r)
theorem insS_perm (x : Str) : ∀ l, (insS x l).Perm (x :: l)
  | [] => .refl _
  | y :: r => by
    unfold insS
    split
    · exact ((insS_perm x r).cons y).trans (.swap ..)
    · exact .refl _
theorem srtS_perm : ∀ l, (srtS l).Perm l
  | [] => .refl _
  | x :: r => (insS_perm x _).trans ((srtS_perm r).cons x)
theorem insS_asc (x : Str) : ∀ {l}, AscS l → AscS (insS x l)
  | [], _ => List.pairwise_singleton ..
  | y :: r, h => by
    have hh := List.pairwise_cons.mp h
    unfold insS
    split
    · rename_i lt
      refine List.pairwise_cons.mpr ⟨fun z hz => ?_, insS_asc x hh.2⟩
      rcases List.mem_cons.mp ((insS_perm x r).mem_iff.mp hz) with rfl | hz
      · exact ltS_asym lt
      · exact hh.1 z hz
    · rename_i lt
      have lt : ltS y x = false := by simpa using lt
      refine List.pairwise_cons.mpr ⟨fun z hz => ?_, h⟩
      rcases List.mem_cons.mp hz with rfl | hz
      · exact lt
      · exact leS_trans lt (hh.1 z hz)
theorem srtS_asc : ∀ l, AscS (srtS l)
  | [] => .nil
  | x :: r => insS_asc x (srtS_asc r)
theorem rising_pairwise : ∀ {l : List Str} {p : Str}, risingS p l = true → AscS (p :: l)
  | [], p, _ => List.pairwise_singleton ..
  | x :: r, p, h => by
    have hh : (!ltS x p && risingS x r) = true := h
    simp only [Bool.and_eq_true, Bool.not_eq_true'] at hh
    have ih := rising_pairwise hh.2
    refine List.pairwise_cons.mpr ⟨fun z hz => ?_, ih⟩
    rcases List.mem_cons.mp hz with rfl | hz
    · exact hh.1
    · exact leS_trans hh.1 ((List.pairwise_cons.mp ih).1 z hz)
theorem asc_of_sortedS {l : List Str} (h : sortedS l = true) : AscS l := by
  cases l with
  | nil => exact .nil
  | cons x r => exact rising_pairwise h
theorem asc_uniq {l m : List Str} (p : l.Perm m) (h1 : AscS l) (h2 : AscS m) : l = m :=
  p.eq_of_pairwise (fun a b _ _ x y => ltS_anti y x) h1 h2
theorem srtS_of {l ys : List Str} (p : ys.Perm l) (h : sortedS ys = true) : ys = srtS l := asc_uniq (p.trans (srtS_perm l).symm) (asc_of_sortedS h) (srtS_asc l)
theorem srtS_id {l : List Str} (h : AscS l) : srtS l = l := asc_uniq (srtS_perm l) (srtS_asc l) h
theorem srtS_cong {l m : List Str} (p : l.Perm m) : srtS l = srtS m := asc_uniq ((srtS_perm l).trans (p.trans (srtS_perm m).symm)) (srtS_asc l) (srtS_asc m)
theorem srtS_len (l : List Str) : (srtS l).length = l.length := (srtS_perm l).length_eq
theorem mem_srtS {x : Str} {l : List Str} : x ∈ srtS l ↔ x ∈ l := (srtS_perm l).mem_iff
section
variable {X : Cx} {S : Su} {W : WX} {a : Expr} {p pos : Pos} {f : En → R Tk}
/-- sorted(texts) -/
def strsL : D → Option (List Str)
  | .lst ds => strsD ds
  | .frl ds => strsD ds
  | _ => none
def dSrt (d : D) : Option Tk := (strsL d).bind fun ys => if ys.length < 64 then some (.nw (.lst ((srtS ys).map D.str))) else none
theorem boot_sorted' : bootBuiltins "sorted" = some (.builtin "sorted") := by decide +kernel
theorem me_srt (hg : Gl X "sorted") (hm : X.mg "sorted" = none) (h : ME X S W a f) (hs : starEach (a :: []) X.env = (false, eval a X.env) :: starEach [] X.env := by rfl) : ME X S W (.Call (.Name "sorted" p) [a] [] pos) (mOp1 f dSrt) :=
  cb1 cr_sortedS hg hm boot_sorted' (fun F H σ env O v x t Q w k e q => by
    obtain ⟨ys, e1, e2⟩ := Option.bind_eq_some_iff.mp (show (strsL x).bind _ = _ from e)
    split at e2
    · rename_i hl
      cases e2
      have go : ∀ {ds : List D} {p1 : Addr} {xs : List V}, v = .ref p1 → SqL X.K H p1 xs → Reps X.K X.mg F ds xs → strsD ds = some ys → rSortedS X.K [v] H Q := by
        intro ds p1 xs ev hq r e
        have ex := strsD_ok r e
        subst ex; subst ev
        refine ⟨p1, ys, rfl, hq, hl, fun zs p2 pm so hn => ?_⟩
        have ez := srtS_of pm so
        subst ez
        exact new_obj w (.lst (reps_strs _)) q p2 hn
      cases x <;> first | (cases e1; done) | skip
      · obtain ⟨p1, xs, e3, h1, r⟩ := k.lst w
        exact go e3 (.inl (.inl h1)) r e1
      · obtain ⟨p1, xs, e3, h1, r⟩ := k.frl w
        exact go e3 h1 r e1
    · cases e2) h hs
/-- list(x) -/
def dListOf : D → Option Tk
  | .lst ds => some (.nw (.lst ds))
  | .frl ds => some (.nw (.lst ds))
  | .tup ds => some (.nw (.lst ds))
  | .dct kvs => some (.nw (.lst (kvs.map fun kv => kD kv.1)))
  | _ => none

theorem ofCTy_or {f : Value} {r r' : List V → Hp → VK → Prop} (h : CallR X f r) (h' : CallR X f r') : CallR X f (fun xs H Q => r xs H Q ∨ r' xs H Q) := CallR.or h h'
theorem RepK.keys {F : Hp} : ∀ {kvs : List (Key × D)} {ks : List (Key × V)}, RepK X.K X.mg F kvs ks → Reps X.K X.mg F (kvs.map fun kv => kD kv.1) (ks.map fun kv => kV kv.1)
  | _, _, .nil => .nil
  | _, _, .cons h r => .cons (rep_kD _) (RepK.keys r)
theorem me_listOf (hc : X.calm = true) (hg : Gl X "list") (hm : X.mg "list" = none) (h : ME X S W a f) (hs : starEach (a :: []) X.env = (false, eval a X.env) :: starEach [] X.env := by rfl) : ME X S W (.Call (.Name "list" p) [a] [] pos) (mOp1 f dListOf) :=
  cty1 (CallR.or call_list_of (call_listD hc)) hg hm boot_list' (fun F H σ env O v x t Q w k e q => by
    cases x <;> first | (cases e; done) | skip
    · cases e
      obtain ⟨p1, xs, e3, h1, r⟩ := k.lst w
      exact .inl ⟨p1, xs, by rw [e3], .inl (.inl (.inl h1)), new_obj w (.lst r) q⟩
    · cases e
      obtain ⟨p1, xs, e3, h1, r⟩ := k.frl w
      exact .inl ⟨p1, xs, by rw [e3], .inl h1, new_obj w (.lst r) q⟩
    · cases e
      obtain ⟨p1, xs, e3, h1, r⟩ := k.tup w
      exact .inl ⟨p1, xs, by rw [e3], .inr h1, new_obj w (.lst r) q⟩
    · cases e
      obtain ⟨p1, ks, e3, h1, r⟩ := k.dct w
      exact .inr ⟨p1, ks, by rw [e3], h1, new_obj w (.lst r.keys) q⟩) h hs
/-- dict(x) -/
def dDictOf : D → Option Tk
  | .dct kvs => some (.nw (.dct kvs))
  | _ => none
theorem me_dictOf (hg : Gl X "dict") (hm : X.mg "dict" = none) (h : ME X S W a f) (hs : starEach (a :: []) X.env = (false, eval a X.env) :: starEach [] X.env := by rfl) : ME X S W (.Call (.Name "dict" p) [a] [] pos) (mOp1 f dDictOf) :=
  cty1 call_dictD hg hm boot_dict' (fun F H σ env O v x t Q w k e q => by
    cases x <;> first | (cases e; done) | skip
    cases e
    obtain ⟨p1, ks, e3, h1, r⟩ := k.dct w
    exact ⟨p1, ks, by rw [e3], h1, new_obj w (.dct r) q⟩) h hs

/-! ### x.append(e), x.extend(e): x a name -/
def mutL (g : D → D → Option D) (fe : En → R Tk) (e1 : En) (i : Nat) : Option D → R Tk
  | some (.lst _) => (fe e1).bind fun u e2 => (frc u e2).bind fun d e3 => (mutT (g d) (.nm i) e3).bind fun _ e4 => .ok (.val .non) e4
  | _ => .no
def mutK (g : D → D → Option D) (fe : En → R Tk) (e1 : En) : Tk → R Tk
  | .nm i => mutL g fe e1 i (pk (.nm i) e1)
  | _ => .no
def mMut1 (g : D → D → Option D) (fo fe : En → R Tk) (e : En) : R Tk := (fo e).bind fun t e1 => mutK g fe e1 t
def appP (d : D) : D → Option D
  | .lst ds => if ds.length < 16777216 then some (.lst (ds ++ [d])) else none
  | _ => none
def extP (d : D) : D → Option D
  | .lst ds => match d with
    | .lst es => if ds.length + es.length ≤ 16777216 then some (.lst (ds ++ es)) else none
    | _ => none
  | _ => none
section
variable {o e : Expr} {apos : Pos} {fo fe : En → R Tk} {name : Str} {id : String} {r : V → List V → Hp → VK → Prop} {g : D → D → Option D}
theorem me_mut1 (slot : Slot "list" name id) (ty : typeOf (.builtin id) = pure (.type "method_descriptor")) (rule : MtR X id r)
    (hr : ∀ (F H : Hp) (p1 : Addr) (ob : HO) (v : V) (d0 d d' : D) (Q : VK), (∀ a xs, F a = some (HO.lst xs) → H a = some (HO.lst xs)) → Rep X.K X.mg F d v → H p1 = some ob → Top X.K X.mg F ob d0 → g d d0 = some d' → (∀ o', Top X.K X.mg F o' d' → Q .non (upd H p1 o')) → r (.ref p1) [v] H Q)
    (ho : ME X S W o fo) (he : ME X S W e fe) (hs : starEach [e] X.env = (false, eval e X.env) :: starEach [] X.env := by rfl)
    (hbase : attributeBase o name X.env (eval o X.env) = eval o X.env := by rfl)
    (hfew : ((backTo pos (starEach [e] X.env)).all (fun x => !x.1) && (backToKw pos (keywordEach [] X.env)).all (fun x => x.1.isSome)
      && decide ([e].length + ([] : List Keyword).length + (if ([] : List Keyword).isEmpty then 0 else 1) < 30)) = true := by rfl)
    (hline : (apos.endLine == pos.line) = true := by rfl) (hplain : (backTo pos (starEach [] X.env)).any (·.1) = false := by rfl) :
    ME X S W (.Call (.Attribute o name apos) [e] [] pos) (mMut1 g fo fe) :=
  (pe_bm F.plainAttrs_list slot ty rule ho (pa_cons he pa_nil hs) hbase hfew hline hs hplain).wk fun σ H Q ⟨F, env, O, w, p⟩ => by
    refine ⟨F, env, O, w, PostE.mono (PostE.bind p) fun F1 H1 e1 t t1 w1 q v tk => ?_⟩
    cases t with
    | val d => exact q.elim
    | nw d => exact q.elim
    | nm i =>
      have q : PostE X.K X.mg S O W F1 H1 σ (mutL g fe e1 i (pk (.nm i) e1)) (fun F' H' e' t => ∀ v, TkOk X.K X.mg O F' H' σ e' v t → Q v H') := q
      cases z : pk (.nm i) e1 with
      | none => rw [z] at q; exact q.elim
      | some dz =>
        rw [z] at q
        cases dz <;> first | exact q.elim | skip
        obtain ⟨p1, xs, ev, h1, r1⟩ := (pk_ok w1 tk z).lst w1
        subst ev
        refine ⟨.inl ⟨rfl, xs, .inl (.inl h1)⟩, F1, e1, O, w1, PostE.mono (PostE.bind q) fun F2 H2 e2 u t2 w2 q2 y tku => ?_⟩
        obtain ⟨F3, e3, d, t3, w3, rd, q3⟩ := frc_k w2 tku (PostE.bind q2)
        obtain ⟨p2, ob, d0, d', e4, ex, hob, ht, hg, fin⟩ := mut_k w3 (show TkOk X.K X.mg O F3 H2 σ e3 (.ref p1) (.nm i) from tk) (PostE.bind q3)
        cases ex
        refine hr F3 H2 p1 ob y d0 d d' Q (fun a xs h => w3.get h fun _ z => nomatch z) rd hob ht hg fun o' ho' => ?_
        obtain ⟨w5, t5, q5⟩ := fin o' ho'
        exact flatE w5 q5 .non
theorem me_app (ho : ME X S W o fo) (he : ME X S W e fe) (hs : starEach [e] X.env = (false, eval e X.env) :: starEach [] X.env := by rfl)
    (hbase : attributeBase o "append" X.env (eval o X.env) = eval o X.env := by rfl)
    (hfew : ((backTo pos (starEach [e] X.env)).all (fun x => !x.1) && (backToKw pos (keywordEach [] X.env)).all (fun x => x.1.isSome)
      && decide ([e].length + ([] : List Keyword).length + (if ([] : List Keyword).isEmpty then 0 else 1) < 30)) = true := by rfl)
    (hline : (apos.endLine == pos.line) = true := by rfl) (hplain : (backTo pos (starEach [] X.env)).any (·.1) = false := by rfl) :
    ME X S W (.Call (.Attribute o "append" apos) [e] [] pos) (mMut1 appP fo fe) :=
  me_mut1 F.slot_list_append F.type_list_append mt_append (fun F H p1 ob v d0 d d' Q hF rd hob ht hg k => by
    cases ht with
    | lst r =>
      unfold appP at hg
      simp only at hg
      split at hg
      · rename_i hl
        cases hg
        exact ⟨p1, _, v, rfl, rfl, hob, by rw [sizeLine_eq, r.length]; exact hl, k _ (.lst (r.append (.cons rd .nil)))⟩
      · cases hg
    | dct r => cases hg
    | dcT r => cases hg
    | ins _ _ => cases hg) ho he hs hbase hfew hline hplain
theorem me_ext (ho : ME X S W o fo) (he : ME X S W e fe) (hs : starEach [e] X.env = (false, eval e X.env) :: starEach [] X.env := by rfl)
    (hbase : attributeBase o "extend" X.env (eval o X.env) = eval o X.env := by rfl)
    (hfew : ((backTo pos (starEach [e] X.env)).all (fun x => !x.1) && (backToKw pos (keywordEach [] X.env)).all (fun x => x.1.isSome)
      && decide ([e].length + ([] : List Keyword).length + (if ([] : List Keyword).isEmpty then 0 else 1) < 30)) = true := by rfl)
    (hline : (apos.endLine == pos.line) = true := by rfl) (hplain : (backTo pos (starEach [] X.env)).any (·.1) = false := by rfl) :
    ME X S W (.Call (.Attribute o "extend" apos) [e] [] pos) (mMut1 extP fo fe) :=
  me_mut1 F.slot_list_extend F.type_list_extend mt_extend (fun F H p1 ob v d0 d d' Q hF rd hob ht hg k => by
    cases ht with
    | lst r =>
      unfold extP at hg
      simp only at hg
      split at hg
      · split at hg
        · rename_i hl
          cases hg
          cases rd with
          | lst hp r2 => 
            exact ⟨p1, _, _, _, rfl, rfl, hob, hF _ _ hp, by rw [sizeLine_eq, r.length, r2.length]; exact hl, k _ (.lst (r.append r2))⟩
        · cases hg
      · cases hg
    | dct r => cases hg
    | dcT r => cases hg
    | ins _ _ => cases hg) ho he hs hbase hfew hline hplain
end

/-! ### a op b op c, of ints -/
def intK (k : Int → R Tk) : Option D → R Tk
  | some (.int i) => k i
  | _ => .no
def mChainK (h : En → R Tk) (p p' : Int → Int → Bool) (i j : Int) (e2 : En) : R Tk := bif p i j then (h e2).bind fun s e3 => intK (fun k => .ok (.val (.bl (p' j k))) e3) (pk s e3) else .ok (.val (.bl false)) e2
def mChain (f g h : En → R Tk) (p p' : Int → Int → Bool) (e : En) : R Tk := (f e).bind fun t e1 => intK (fun i => (g e1).bind fun u e2 => intK (fun j => mChainK h p p' i j e2) (pk u e2)) (pk t e1)
theorem intK_some {O : Addr → Prop} {F H : Hp} {σ : L2.St} {k : Int → R Tk} {o : Option D} {kk : Hp → Hp → En → Tk → Prop} (q : PostE X.K X.mg S O W F H σ (intK k o) kk) : ∃ i, o = some (.int i) ∧ PostE X.K X.mg S O W F H σ (k i) kk := by
  match o, q with
  | some (.int i), q => exact ⟨i, rfl, q⟩
  | some .non, q => exact q.elim
  | some (.bl _), q => exact q.elim
  | some (.str _), q => exact q.elim
  | some (.lst _), q => exact q.elim
  | some (.frl _), q => exact q.elim
  | some (.tup _), q => exact q.elim
  | some (.dct _), q => exact q.elim
  | some (.ins _ _), q => exact q.elim
  | some (.cls _), q => exact q.elim
  | some (.exn0 _), q => exact q.elim
  | some (.exn1 _ _ _), q => exact q.elim
  | none, q => exact q.elim
theorem me_chain {op op' : CmpOp} {b c : Expr} {g h : En → R Tk} {p1 p2 : Int → Int → Bool} (ho : OpR X (compareOp op) (rI0 fun i j => .bl (p1 i j))) (ho' : OpR X (compareOp op') (rI0 fun i j => .bl (p2 i j))) (ha : ME X S W a f) (hb : ME X S W b g) (hc : ME X S W c h)
    (hm : lastMarks [op, op'] [b, c] = false := by with_unfolding_all rfl) : ME X S W (.Compare a [op, op'] [b, c] pos) (mChain f g h p1 p2) :=
  (pe_chain ho ho' ha hb hc hm).wk fun σ H Q ⟨F, env, O, w, q0⟩ => by
    refine ⟨F, env, O, w, PostE.mono (PostE.bind q0) fun F1 H1 e1 t t1 w1 q v tk => ?_⟩
    obtain ⟨i, z, q⟩ := intK_some q
    have ev := (pk_ok w1 tk z).int
    subst ev
    refine ⟨F1, e1, O, w1, PostE.mono (PostE.bind q) fun F2 H2 e2 u t2 w2 q2 y tku => ?_⟩
    obtain ⟨j, z2, q2⟩ := intK_some q2
    have ey := (pk_ok w2 tku z2).int
    subst ey
    refine ⟨i, j, rfl, rfl, p1 i j, rfl, ?_⟩
    unfold mChainK at q2
    cases hp : p1 i j with
    | true =>
      rw [hp] at q2
      rw [if_pos rfl]
      refine ⟨F2, e2, O, w2, PostE.mono (PostE.bind q2) fun F3 H3 e3 s t3 w3 q3 x tks => ?_⟩
      obtain ⟨k, z3, q3⟩ := intK_some q3
      have ex := (pk_ok w3 tks z3).int
      subst ex
      exact ⟨j, k, rfl, rfl, flatE w3 q3 (.bl _)⟩
    | false =>
      rw [hp] at q2
      rw [if_neg (by decide)]
      exact flatE w2 q2 (.bl _)

/-! ### xs[::-1] -/
def tRev (K : PySem.W.Frag) (te : TE) (ts : TO) : TE := fun σ H Q => te σ H fun x H1 => ts σ H1 fun o H2 => o = some (-1) ∧ ∃ a xs, x = .ref a ∧ SqL K H2 a xs ∧ ∀ p, H2 p = none → Q (.ref p) (upd H2 p (.lst xs.reverse))
theorem pe_rev {e : Expr} {st : Option Expr} {p2 : Pos} {te : TE} {ts : TO} (he : PE X e te) (hst : PO X st ts) (hsub : ∀ a b : Value, subscripted (Expr.Slice none none st p2) false a b = operate [a, b] (getItem a b) := by intro _ _; with_unfolding_all rfl) : PE X (.Subscript e (.Slice none none st p2) pos) (tRev X.K te ts) := by
  refine ⟨fun pins s σ H Q I h => ?_⟩
  refine Subscript_ (thn (he.run pins s σ H _ I h) fun v s1 ⟨x, H1, I1, r1, q1⟩ => ?_)
  refine wpAny_Slice ?_
  rw [evalPart_none]
  refine wpAny_pure (wpAny_pure ?_)
  refine thn (hst.run pins s1 σ H1 _ I1 q1) fun vs s3 ⟨o, H3, I3, ps, ho, a, xs, ex, hx, q3⟩ => ?_
  subst ho; subst ex
  have I4 : Inv X pins σ H3 { s3 with heap := s3.heap.push { cls := .type "slice", data := .fields #[.none, .none, vs] } } := I3.kept (t' := s3.toks) fun b ob q => Heap.get?_push_of_some _ q
  cases r1
  obtain ⟨its, r, ht, hz⟩ := I4.list hx
  have hlen := r.length
  have hg : wpAny (model X.prog X.w) X.A (getItem (.ref a) (.ref s3.heap.objs.size)) (EP X pins σ Q) X.xe { s3 with heap := s3.heap.push { cls := .type "slice", data := .fields #[.none, .none, vs] } } := by
    refine wpAny_getItem_list_slice ht.isList (Heap.IsSliceOf.new ..) .none .none ps (by decide) ?_ (by rw [List.size_toArray] <;> omega)
    rw [krv_pick]
    refine ⟨.ref _, _, I4.laid (t' := s3.toks) (o := .lst xs.reverse) (fun b ob q => Heap.get?_push_of_some _ q) (Nat.le_refl _) ?_, rfl, q3 _ (I4.hok.fresh (Nat.le_refl _))⟩
    exact ⟨by rw [List.length_reverse]; exact hz, its.reverse, 0, r.reverse, Heap.get?_push_size _ rfl⟩
  show wpAny (model X.prog X.w) X.A (subscriptTail e (.Slice none none st p2) (.ref a) (.ref s3.heap.objs.size)) (EP X pins σ Q) X.xe { s3 with heap := s3.heap.push { cls := .type "slice", data := .fields #[.none, .none, vs] } }
  exact tail_any (ops := [.ref a, .ref s3.heap.objs.size]) ht.isList.typeIs slot_list_getitem.lookup hg (hsub _ _)

def dRev (d : D) : Option Tk := match d with
  | .lst ds => some (.nw (.lst ds.reverse))
  | .frl ds => some (.nw (.lst ds.reverse))
  | _ => none
theorem Reps.rev {K : PySem.W.Frag} {mg : Str → Option Value} {F : Hp} {ds : List D} {vs : List V} (r : Reps K mg F ds vs) : Reps K mg F ds.reverse vs.reverse := r.reverse
theorem me_rev {e : Expr} {p1 p2 p3 : Pos} {j} {f : En → R Tk} (he : ME X S W e f) : ME X S W (.Subscript e (.Slice none none (some (.UnaryOp .USub (.Constant (.int 1) j p1) p3)) p2) pos) (mOp1 f dRev) :=
  (pe_rev he (po_some (pe_un un_neg pe_int))).wk fun σ H Q ⟨F, env, O, w, p⟩ => by
    refine ⟨F, env, O, w, PostE.mono (show PostE X.K X.mg S O W F H σ ((f env).bind fun t e1 => match pk t e1 with
      | some d => match dRev d with
        | some t => .ok t e1
        | none => .no
      | none => .no) _ from p).bind fun F1 H1 e1 t t1 w1 q v tk => ?_⟩
    refine ⟨1, rfl, -1, rfl, rfl, ?_⟩
    cases z : pk t e1 with
    | none => rw [z] at q; exact q.elim
    | some d =>
      rw [z] at q
      have k := pk_ok w1 tk z
      cases d <;> first | exact q.elim | skip
      · obtain ⟨p1, xs, e3, h1, r⟩ := k.lst w1
        exact ⟨p1, xs, e3, .inl (.inl h1), new_obj w1 (.lst r.rev) q⟩
      · obtain ⟨p1, xs, e3, h1, r⟩ := k.frl w1
        exact ⟨p1, xs, e3, h1, new_obj w1 (.lst r.rev) q⟩
end
end MM

set_option Elab.async false
set_option linter.all false
set_option maxRecDepth 100000
set_option maxHeartbeats 4000000
/-! M24: comprehensions with two for. -/
namespace MM
open PySem PySem.Spec PyProof.Rows L2 PySem.W
theorem bind_okI {α β : Type} {r : R α} {f : α → En → R β} {b : β} {e' : En} (h : r.bind f = .ok b e') : ∃ a e1, r = .ok a e1 ∧ f a e1 = .ok b e' := by
  cases r with
  | ok a e1 => exact ⟨a, e1, rfl, h⟩
  | er _ _ _ => cases h
  | no => cases h
theorem noEr_okI {α : Type} {r : R α} {b : α} {e' : En} (h : noEr r = .ok b e') : r = .ok b e' := by
  cases r with
  | ok a e1 => exact h
  | er _ _ _ => cases h
  | no => cases h
theorem okU_okI {β : Type} {r : R Unit} {f : En → R β} {b : β} {e' : En} (h : okU r f = .ok b e') : ∃ e1, r = .ok () e1 ∧ f e1 = .ok b e' := by
  cases r with
  | ok a e1 => exact ⟨e1, rfl, h⟩
  | er _ _ _ => cases h
  | no => cases h
def compL2 (a : D → En → R Unit) (t : En → R Bool) (fi1 : En → R (List D)) (a1 : D → En → R Unit) (t1 : En → R Bool) (ge : En → R Tk) (vs vs1 : List Nat) : List D → En → R (List D)
  | [], e => .ok [] e
  | d :: ds, e => okU (a d e) fun e1 => (noEr (t e1)).bind fun b e2 => bif b then (noEr (fi1 e2)).bind fun ds1 e3 => (noEr (compL a1 t1 ge vs1 ds1 (wipeE vs1 e3))).bind fun ys e4 => (compL2 a t fi1 a1 t1 ge vs vs1 ds (wipeE vs e4)).bind fun zs e5 => .ok (ys ++ zs) e5
    else compL2 a t fi1 a1 t1 ge vs vs1 ds (wipeE vs e2)
theorem compL2_inv {a : D → En → R Unit} {t : En → R Bool} {fi1 : En → R (List D)} {a1 : D → En → R Unit} {t1 : En → R Bool} {ge : En → R Tk} {vs vs1 : List Nat} {d : D} {ds ys : List D} {e ef : En} (h : compL2 a t fi1 a1 t1 ge vs vs1 (d :: ds) e = .ok ys ef) :
    ∃ e1 b e2, a d e = .ok () e1 ∧ t e1 = .ok b e2 ∧ (b = true → ∃ ds1 e3 ys1 e4 zs, fi1 e2 = .ok ds1 e3 ∧ compL a1 t1 ge vs1 ds1 (wipeE vs1 e3) = .ok ys1 e4 ∧ compL2 a t fi1 a1 t1 ge vs vs1 ds (wipeE vs e4) = .ok zs ef ∧ ys = ys1 ++ zs) ∧
      (b = false → compL2 a t fi1 a1 t1 ge vs vs1 ds (wipeE vs e2) = .ok ys ef) := by
  unfold compL2 at h
  obtain ⟨e1, q1, h⟩ := okU_okI h
  obtain ⟨b, e2, q2, h⟩ := bind_okI h
  refine ⟨e1, b, e2, q1, noEr_okI q2, fun hb => ?_, fun hb => ?_⟩
  · subst hb
    obtain ⟨ds1, e3, q3, h⟩ := bind_okI (show (noEr (fi1 e2)).bind _ = _ from h)
    obtain ⟨ys1, e4, q4, h⟩ := bind_okI h
    obtain ⟨zs, e5, q5, h⟩ := bind_okI h
    cases h
    exact ⟨ds1, e3, ys1, e4, zs, noEr_okI q3, noEr_okI q4, q5, rfl⟩
  · subst hb
    exact h
def endL2 (e : En) : R (List D) → R Tk
  | .ok ys e1 => if ys.length ≤ 16777216 then .ok (.nw (.lst ys)) e1 else .no
  | _ => .no
def mLc2 (fi : En → R (List D)) (a : D → En → R Unit) (t : En → R Bool) (fi1 : En → R (List D)) (a1 : D → En → R Unit) (t1 : En → R Bool) (ge : En → R Tk) (vs vs1 : List Nat) (e : En) : R Tk :=
  (fi e).bind fun ds e1 => (endL2 e1 (compL2 a t fi1 a1 t1 ge vs vs1 ds (wipeE vs e1))).bind fun t e2 => .ok t (backE e1 vs e2)
theorem wipe_in {σ : L2.St} {vs vs1 : List Nat} (h : ∀ j ∈ vs1, j ∈ vs) : wipe (wipe σ vs1) vs = wipe σ vs := by
  apply List.ext_getElem?
  intro j
  rw [wipe_get, wipe_get, wipe_get]
  by_cases q : j ∈ vs
  · rw [if_pos q, if_pos q]
    by_cases q1 : j ∈ vs1
    · rw [if_pos q1]
      cases σ[j]? <;> rfl
    · rw [if_neg q1]
  · rw [if_neg q, if_neg q, if_neg fun z => q (h j z)]
section
variable {X : Cx} {S : Su} {W : WX} {e o tg c elt iter tg1 iter1 : Expr} {pos p : Pos}
theorem lc2M_core {J : It} {F H : Hp} {ds : List D} {O : Addr → Prop} {σ : L2.St} {env : En} {js js1 vs vs1 : List Nat} {a a1 : D → En → R Unit} {t t1 : En → R Bool} {fi1 : En → R (List D)} {ge : En → R Tk} {g g1 : TG} {Q : VK} (m : ItM X.K X.mg J F noLk ds) (w : Wf X.K X.mg S O F H σ env) (hjs : ∀ j ∈ js, j ∈ vs) (hjs1 : ∀ j ∈ js1, j ∈ vs1) (hvs : ∀ j ∈ vs1, j ∈ vs)
    (p : PostE X.K X.mg S O W F H σ (endL2 env (compL2 a t fi1 a1 t1 ge vs vs1 ds (wipeE vs env))) (fun F' H' e' t => ∀ v, TkOk X.K X.mg O F' H' σ e' v t → Q v H'))
    (k : MGk X.K X.mg S js a g) (k1 : MGk X.K X.mg S js1 a1 g1) :
    ∀ D, H D = none → ∃ Wn : Nat → Nat → Hp → Prop, (∃ m, Wn 0 m (upd H D (.lst []))) ∧ ∀ i m H, Wn i m H → (J.stop i H ∧ Q (.ref D) H) ∨ (J.go i H ∧ ∃ Nx : Hp → Prop, (∀ H', Nx H' → ∃ m', m' < m ∧ Wn (i + 1) m' H') ∧ ∀ x H', J.yld i H x H' →
      g x (wipe σ vs) H' fun σ2 H2 => wipe σ2 vs = wipe σ vs ∧ tMT X S W0 t σ2 H2 fun b H3 => if b = true then tMI X S W0 fi1 σ2 H3 fun J1 H4 => ∃ W1 : Nat → Nat → Hp → Prop, (∃ m, W1 0 m H4) ∧ ∀ j k H, W1 j k H →
        (J1.stop j H ∧ Nx H) ∨ (J1.go j H ∧ ∃ Nx1 : Hp → Prop, (∀ H', Nx1 H' → ∃ k', k' < k ∧ W1 (j + 1) k' H') ∧ ∀ x H', J1.yld j H x H' → g1 x (wipe σ2 vs1) H' fun σ3 H5 => wipe σ3 vs1 = wipe σ2 vs1 ∧ tMT X S W0 t1 σ3 H5 fun b H6 =>
          if b = true then tM X S W0 ge σ3 H6 fun y H7 => ∃ acc, H7 D = some (.lst acc) ∧ acc.length < sizeLine ∧ Nx1 (upd H7 D (.lst (acc ++ [y]))) else Nx1 H6)
      else Nx H3) := by
  intro D hD
  have hO : ¬ O D := w.nO hD
  cases hc : compL2 a t fi1 a1 t1 ge vs vs1 ds (wipeE vs env) with
  | no => rw [hc] at p; exact p.elim
  | er c x e => rw [hc] at p; exact p.elim
  | ok ys ef =>
    rw [hc] at p
    unfold endL2 at p
    simp only at p
    split at p
    · rename_i hlen
      have pfin : ∀ F' H', Tr O F H F' H' → Wf X.K X.mg S O F' H' σ ef → ∀ v, TkOk X.K X.mg O F' H' σ ef v (.nw (.lst ys)) → Q v H' := p
      let St1 : Nat → Hp → Prop := fun i H' => ∃ F' env' acc accD ys', Tr O F H F' H' ∧ Wf X.K X.mg S (fun b => O b ∨ b = D) F' H' (wipe σ vs) env' ∧ F' D = none ∧ H' D = some (.lst acc) ∧ Reps X.K X.mg F' accD acc ∧ (∀ v ∈ vs, env'[v]? = none ∨ env'[v]? = some .no) ∧
        compL2 a t fi1 a1 t1 ge vs vs1 (ds.drop i) env' = .ok ys' ef ∧ accD ++ ys' = ys
      refine ⟨fun i n H' => n = ds.length - i ∧ i ≤ ds.length ∧ St1 i H', ⟨ds.length, by simp, Nat.zero_le _, F, wipeE vs env, [], [], ys, Tr.new w hD _, ?_, w.gone hD, upd_same, .nil, fun v hv => wipeE_no hv, hc, rfl⟩, ?_⟩
      · refine ((w.wipe vs).new hD (.lst [])).more fun b q => ?_
        rcases q with q | q
        · exact .inl q
        · subst q
          exact .inr ⟨⟨_, upd_same, rfl⟩, (w.wipe vs).nOwn hD, fun ks z => by rw [w.gone hD] at z; cases z⟩
      · rintro i n H1 ⟨rfl, hi, F1, e1, acc, accD, ys1, t1', w1, hf1, hD1, ra, hno, hc1, hys⟩
        have w1' := w1.weak (O := O) fun b q => .inl q
        by_cases hlt : i < ds.length
        · refine .inr ⟨m.go S _ F1 H1 _ e1 i t1'.fz w1 trivial hlt, St1 (i + 1), fun H' q => ⟨ds.length - (i + 1), by omega, rfl, hlt, q⟩, fun x H2 y => ?_⟩
          obtain ⟨d, F2, h1, t2, w2, rd⟩ := m.item t1'.fz w1 trivial hlt y
          have e0 : ds.drop i = d :: ds.drop (i + 1) := by
            rw [List.drop_eq_getElem_cons hlt]
            rw [List.getElem?_eq_getElem hlt] at h1
            rw [Option.some.inj h1]
          rw [e0] at hc1
          obtain ⟨e2, b, e3, q1, q2, q3, q4⟩ := compL2_inv hc1
          refine k _ F2 H2 _ e1 x d e2 _ w2 rd q1 fun σ2 w3 hw => ?_
          have hw2 : wipe σ2 vs = wipe σ vs := by rw [hw vs hjs, wipe_wipe]
          refine ⟨hw2, F2, e2, _, w3, PostE.of q2 fun F3 H3 t3 w4 => ?_⟩
          cases b with
          | false =>
            show St1 (i + 1) H3
            have tt := t2.trans t3
            have z := w4.wipe vs
            rw [hw2] at z
            exact ⟨F3, wipeE vs e3, acc, accD, ys1, t1'.trans (tt.weak fun b q => .inl q), z, (tt.fr D (.inr rfl)).trans hf1, (tt.kp D (.inr rfl)).trans hD1, ra.mono tt.fz, fun v hv => wipeE_no hv, q4 rfl, hys⟩
          | true =>
            obtain ⟨ds1, e4, ysA, e5, zs, g1', g2, g3, g4⟩ := q3 rfl
            show tMI X S W0 fi1 σ2 H3 _
            refine ⟨F3, e3, _, w4, PostE.of g1' fun F4 H4 t4 w5 J1 m1 => ?_⟩
            have tt := (t2.trans t3).trans t4
            let St2 : Nat → Hp → Prop := fun j H' => ∃ F' env' acc accD ys', Tr O F H F' H' ∧ Sub F4 F' ∧ Wf X.K X.mg S (fun b => O b ∨ b = D) F' H' (wipe σ2 vs1) env' ∧ F' D = none ∧ H' D = some (.lst acc) ∧ Reps X.K X.mg F' accD acc ∧
              compL a1 t1 ge vs1 (ds1.drop j) env' = .ok ys' e5 ∧ accD ++ (ys' ++ zs) = ys
            refine ⟨fun j n H' => n = ds1.length - j ∧ j ≤ ds1.length ∧ St2 j H', ⟨ds1.length, by simp, Nat.zero_le _, F4, wipeE vs1 e4, acc, accD, ysA, t1'.trans (tt.weak fun b q => .inl q), Sub.rfl', w5.wipe vs1, (tt.fr D (.inr rfl)).trans hf1, (tt.kp D (.inr rfl)).trans hD1, ra.mono tt.fz, g2, by rw [← hys, g4]⟩, ?_⟩
            rintro j n HA ⟨rfl, hj, FA, eA, accA, accDA, ysB, tA, sA, wA, hfA, hDA, raA, hcA, hysA⟩
            by_cases hlt1 : j < ds1.length
            · refine .inr ⟨m1.go S _ FA HA _ eA j sA wA trivial hlt1, St2 (j + 1), fun H' q => ⟨ds1.length - (j + 1), by omega, rfl, hlt1, q⟩, fun x1 HB y1 => ?_⟩
              obtain ⟨d1, FB, h1B, tB, wB, rdB⟩ := m1.item sA wA trivial hlt1 y1
              have e0B : ds1.drop j = d1 :: ds1.drop (j + 1) := by
                rw [List.drop_eq_getElem_cons hlt1]
                rw [List.getElem?_eq_getElem hlt1] at h1B
                rw [Option.some.inj h1B]
              rw [e0B] at hcA
              obtain ⟨eB, b1, eC, r1, r2, r3, r4⟩ := compL_inv hcA
              refine k1 _ FB HB _ eA x1 d1 eB _ wB rdB r1 fun σ3 wC hwC => ?_
              have hw3 : wipe σ3 vs1 = wipe σ2 vs1 := by rw [hwC vs1 hjs1, wipe_wipe]
              refine ⟨hw3, FB, eB, _, wC, PostE.of r2 fun FC HC tC wD => ?_⟩
              cases b1 with
              | false =>
                show St2 (j + 1) HC
                have tt1 := tB.trans tC
                have z := wD.wipe vs1
                rw [hw3] at z
                exact ⟨FC, wipeE vs1 eC, accA, accDA, ysB, tA.trans (tt1.weak fun b q => .inl q), sA.trans tt1.fz, z, (tt1.fr D (.inr rfl)).trans hfA, (tt1.kp D (.inr rfl)).trans hDA, raA.mono tt1.fz, r4 rfl, hysA⟩
              | true =>
                show tM X S W0 ge σ3 HC fun y H4 => ∃ acc, H4 D = some (.lst acc) ∧ acc.length < sizeLine ∧ St2 (j + 1) (upd H4 D (.lst (acc ++ [y])))
                obtain ⟨tk, eD, yD, eE, ysE, s1, s2, s3, s4⟩ := r3 rfl
                refine ⟨FC, eC, _, wD, PostE.of s1 fun FD HD tD wE v tkv => ?_⟩
                obtain ⟨FE, tE, wF, ry⟩ := frc_ok' wE tkv s2
                have tt1 := ((tB.trans tC).trans tD).trans tE
                have hDE : HD D = some (.lst accA) := (tt1.kp D (.inr rfl)).trans hDA
                have hfE : FE D = none := (tt1.fr D (.inr rfl)).trans hfA
                have w7 := wF.wipe vs1
                rw [hw3] at w7
                have ts : Tr O FE HD FE (upd HD D (.lst (accA ++ [v]))) := ⟨Sub.rfl', fun b q => upd_ne fun e => hO (by rw [← e]; exact q), fun _ _ => rfl, fun b u q => by
                  by_cases e : b = D
                  · subst e; exact ⟨_, upd_same⟩
                  · exact ⟨u, by rw [upd_ne e]; exact q⟩⟩
                have tall := (tt1.weak (O := O) fun b q => .inl q).trans ts
                have hl1 : accDA.length + 1 ≤ ys.length := by
                  rw [← hysA, s4]; simp
                refine ⟨accA, hDE, ?_, FE, wipeE vs1 eE, accA ++ [v], accDA ++ [yD], ysE, tA.trans tall, sA.trans tt1.fz, ?_, hfE, upd_same, (raA.mono tt1.fz).append (.cons ry .nil), s3, ?_⟩
                · rw [raA.length, sizeLine_eq]; omega
                · exact w7.setD hfE hDE (fun fs z => nomatch z) fun q => w7.ow D q (.inr rfl)
                · rw [← hysA, s4]; simp
            · have ej : j = ds1.length := by omega
              subst ej
              refine .inl ⟨m1.stop S _ FA HA _ eA _ sA wA trivial (Nat.le_refl _), ?_⟩
              rw [List.drop_length] at hcA
              cases hcA
              have z := wA.wipe vs
              rw [wipe_in hvs, hw2] at z
              exact ⟨FA, wipeE vs _, accA, accDA, zs, tA, z, hfA, hDA, raA, fun v hv => wipeE_no hv, g3, by simpa using hysA⟩
        · have e : i = ds.length := by omega
          subst e
          refine .inl ⟨m.stop S _ F1 H1 _ e1 _ t1'.fz w1 trivial (Nat.le_refl _), ?_⟩
          rw [List.drop_length] at hc1
          cases hc1
          rw [List.append_nil] at hys
          subst hys
          have w4 := w1'.unwipe hno
          refine pfin F1 H1 t1' w4 (.ref D) ⟨D, _, rfl, hf1, fun q => ?_, hO, hD1, .lst ra⟩
          obtain ⟨j, s, a1, a2, a3⟩ := q
          have nj : j ∉ vs := fun q => by
            rcases hno j q with z | z
            · rw [z] at a1; cases a1
            · rw [z] at a1; cases a1; cases a2
          exact w1.ow D ⟨j, s, a1, a2, by rw [wipe_get, if_neg nj]; exact a3⟩ (.inr rfl)
    · exact p.elim

theorem lc2_read {fi fi1 : En → R (List D)} {a a1 : D → En → R Unit} {t t1 : En → R Bool} {ge : En → R Tk} {vs vs1 js js1 : List Nat} {g g1 : TG} {σ : L2.St} {H : Hp} {Q : VK} (k : MGk X.K X.mg S js a g) (k1 : MGk X.K X.mg S js1 a1 g1) (hjs : ∀ j ∈ js, j ∈ vs) (hjs1 : ∀ j ∈ js1, j ∈ vs1) (hvs : ∀ j ∈ vs1, j ∈ vs)
    (h : tM X S W (mLc2 fi a t fi1 a1 t1 ge vs vs1) σ H Q) : tLc2 (tMI X S W fi) g (tMT X S W0 t) (tMI X S W0 fi1) g1 (tMT X S W0 t1) (tM X S W0 ge) vs vs1 σ H Q := by
  obtain ⟨F, env, O, w, p⟩ := h
  refine ⟨F, env, O, w, PostE.mono (PostE.bind p) fun F1 H1 e1 ds t1 w1 q J m => ?_⟩
  exact lc2M_core m w1 hjs hjs1 hvs (PostE.backE w1 q) k k1
theorem me_lc2 {ifs ifs1 : List Expr} {scope : Scope} (own : List (Str × Nat)) {vs1 : List Nat} {fi fi1 : En → R (List D)} {a a1 : D → En → R Unit} {t t1 : En → R Bool} {ge : En → R Tk} {js js1 : List Nat} {g g1 : TG} (hc : X.calm = true) (hN : X.N.Nodup) (hi : MI X S W tg iter fi) (ok : BlkOk X.N X.env.scope scope own)
    (hg : Blk X scope fun Y => PG Y tg g) (hk : MGk X.K X.mg S js a g) (ht : Blk X scope fun Y => MTs Y S W0 ifs t) (hi1 : Blk X scope fun Y => MI Y S W0 tg1 iter1 fi1) (hg1 : Blk X scope fun Y => PG Y tg1 g1) (hk1 : MGk X.K X.mg S js1 a1 g1) (ht1 : Blk X scope fun Y => MTs Y S W0 ifs1 t1) (he : Blk X scope fun Y => ME Y S W0 elt ge)
    (hjs : ∀ j ∈ js, j ∈ own.map (·.2) := by decide) (hjs1 : ∀ j ∈ js1, j ∈ vs1 := by decide) (hvs : ∀ j ∈ vs1, j ∈ own.map (·.2) := by decide) (hs : ∀ x, foldedSetIterable iter X.env x = pure x := by intro _; rfl) (hs1 : ∀ env x, foldedSetIterable iter1 env x = pure x := by intro _ _; rfl) :
    ME X S W (.ListComp elt [⟨tg, iter, ifs, 0⟩, ⟨tg1, iter1, ifs1, 0⟩] scope pos) (mLc2 fi a t fi1 a1 t1 ge (own.map (·.2)) vs1) :=
  (pe_lc2 hc hN hi ok hvs (fun s H C cl fp => hg s H C cl fp) (fun s H C cl fp => ht s H C cl fp) (fun s H C cl fp => hi1 s H C cl fp) (fun s H C cl fp => hg1 s H C cl fp) (fun s H C cl fp => ht1 s H C cl fp) (fun s H C cl fp => he s H C cl fp) hs hs1).wk fun σ H Q h => lc2_read hk hk1 hjs hjs1 hvs h
theorem ms_setLc2 {i : Nat} {y : Str} {py spos : Pos} {ifs ifs1 : List Expr} {scope : Scope} (own : List (Str × Nat)) {vs1 : List Nat} {fi fi1 : En → R (List D)} {a a1 : D → En → R Unit} {t t1 : En → R Bool} {ge : En → R Tk} {js js1 : List Nat} {g g1 : TG} (hc : X.calm = true) (hN : X.N.Nodup) (hy : X.N[i]? = some y) (hyl : X.env.scope.names.lookup y = some .local)
    (hsw : swapsWith (.ListComp elt [⟨tg, iter, ifs, 0⟩, ⟨tg1, iter1, ifs1, 0⟩] scope pos) (some (.Name y py)) spos.line X.env = pure true) (hi : MI X S W tg iter fi) (ok : BlkOk X.N X.env.scope scope own)
    (hg : Blk X scope fun Y => PG Y tg g) (hk : MGk X.K X.mg S js a g) (ht : Blk X scope fun Y => MTs Y S W0 ifs t) (hi1 : Blk X scope fun Y => MI Y S W0 tg1 iter1 fi1) (hg1 : Blk X scope fun Y => PG Y tg1 g1) (hk1 : MGk X.K X.mg S js1 a1 g1) (ht1 : Blk X scope fun Y => MTs Y S W0 ifs1 t1) (he : Blk X scope fun Y => ME Y S W0 elt ge)
    (hjs : ∀ j ∈ js, j ∈ own.map (·.2) := by decide) (hjs1 : ∀ j ∈ js1, j ∈ vs1 := by decide) (hvs : ∀ j ∈ vs1, j ∈ own.map (·.2) := by decide) (hs : ∀ x, foldedSetIterable iter X.env x = pure x := by intro _; rfl) (hs1 : ∀ env x, foldedSetIterable iter1 env x = pure x := by intro _ _; rfl) :
    MS X S W (.Assign [.Name y py] (.ListComp elt [⟨tg, iter, ifs, 0⟩, ⟨tg1, iter1, ifs1, 0⟩] scope pos) spos) (mSet i (mLc2 fi a t fi1 a1 t1 ge (own.map (·.2)) vs1)) :=
  (ps_setLc2 hc hN hy hyl hsw hi ok hvs (fun s H C cl fp => hg s H C cl fp) (fun s H C cl fp => ht s H C cl fp) (fun s H C cl fp => hi1 s H C cl fp) (fun s H C cl fp => hg1 s H C cl fp) (fun s H C cl fp => ht1 s H C cl fp) (fun s H C cl fp => he s H C cl fp) hs hs1).wk fun D σ H h => lc2_read hk hk1 hjs hjs1 hvs (asg_read h)
end
end MM

set_option Elab.async false
set_option linter.all false
set_option maxRecDepth 100000
set_option maxHeartbeats 4000000
/-! M25: calls again, their numbers as letters (the expected row is met at once). -/
namespace MM
open PySem PySem.Spec PyProof.Rows L2 PySem.W
section
variable {X : Cx} {S : Su} {W : WX} {e o : Expr} {es : List Expr} {kws : List Keyword} {pos p kpos apos : Pos} {k n N KL np : Nat} {f C : Addr} {fd : FuncData} {ps ks : List Str} {x nm : Str} {ix : List Src} {dvs : List V} {ds : List D} {m : En → R Tk} {fa fk : En → R (List Ar)}
theorem me_callN (Fn : FnG X.prog X.w X.K X.mg X.base (L2.CX X.prog X.w) k f fd ps (SpM X.K X.mg np m)) (G : MGood m) (hr : Rm k X.A) (hg : Gl X x) (hm : X.mg x = some (.ref f)) (hk : PySem.W.keepIn X.K (.ref f) = true)
    (hb : Bnd X.K fd ps n ks ix dvs) (hd : DfOk X.K X.mg ds dvs) (tk : Takes X W) (ha : MA X S W es fa) (hkw : MK X S W kws fk) (sta : StarOk X es := by first | exact rfl | exact trivial) (hall : (backToKw pos (keywordEach kws X.env)).all (·.1.isSome) = true := by rfl)
    (hks : (backToKw pos (keywordEach kws X.env)).filterMap (·.1) = ks := by rfl) (hpl : ((backTo pos (starEach es X.env)).any (·.1) || (backToKw pos (keywordEach kws X.env)).any (·.1.isNone)) = false := by rfl)
    (hdb : (x == ("__debug__" : Str)) = false := by decide) (hK : ks.length = KL := by rfl) (hP : ix.length = np := by rfl) : ME X S W (.Call (.Name x p) es kws pos) (mCall n KL ix ds m fa fk) := by
  subst hK hP
  exact me_call Fn G hr hg hm hk hb hd tk ha hkw sta hall hks hpl hdb
theorem me_methN (c mn : Str) (mv : Bool) {fo : En → R Tk} {pl : Sem Bool} (hC : X.mg c = some (.ref C)) (cl : Cls X.K C) (hm : Meth X.K C mn f) (Fn : FnG X.prog X.w X.K X.mg X.base (L2.CX X.prog X.w) k f fd ps (SpM X.K X.mg np m)) (G : MGood m) (hr : Rm k X.A)
    (hb : Bnd X.K fd ps N ks ix dvs) (hd : DfOk X.K X.mg ds dvs) (tk : Takes X W) (ho : ME X S W o fo) (ha : MA X S W es fa) (hkw : MK X S W kws fk) (sta : StarOk X es := by first | exact rfl | exact trivial) (hall : (backToKw pos (keywordEach kws X.env)).all (·.1.isSome) = true := by rfl)
    (hks : (backToKw pos (keywordEach kws X.env)).filterMap (·.1) = ks := by rfl) (hpl : ((backTo pos (starEach es X.env)).any (·.1) || (backToKw pos (keywordEach kws X.env)).any (·.1.isNone)) = false := by rfl)
    (hK : ks.length = KL := by rfl) (hP : ix.length = np := by rfl) (hN : N ≠ 0 := by decide)
    (ht : eval (.Call (.Attribute o mn apos) es kws pos) X.env = (do
      let ov ← eval o X.env
      standAt apos.atName
      let (f, first) ← holding [ov] (getMethod ov mn pl)
      callWith pos f first (backTo pos (starEach es X.env)) (backToKw pos (keywordEach kws X.env))) := by rfl) : ME X S W (.Call (.Attribute o mn apos) es kws pos) (mMeth c mn mv N KL ix ds m fo fa fk) := by
  subst hK hP
  obtain ⟨n, rfl⟩ := Nat.exists_eq_succ_of_ne_zero hN
  exact me_meth c mn mv hC cl hm Fn G hr hb hd tk ho ha hkw sta hall hks hpl ht
theorem me_makeN {c : Str} (hC : X.mg c = some (.ref C)) (M : Mk X.K C f) (Fn : FnG X.prog X.w X.K X.mg X.base (L2.CX X.prog X.w) k f fd ps (SpM X.K X.mg np m)) (G : MGood m) (hr : Rm (k + 1) X.A) (hg : Gl X c)
    (hb : Bnd X.K fd ps N ks (.p 0 :: ix.map Src.up) dvs) (hd : DfOk X.K X.mg ds dvs) (tk : Takes X W) (ha : MA X S W es fa) (hkw : MK X S W kws fk) (sta : StarOk X es := by first | exact rfl | exact trivial) (hall : (backToKw pos (keywordEach kws X.env)).all (·.1.isSome) = true := by rfl)
    (hks : (backToKw pos (keywordEach kws X.env)).filterMap (·.1) = ks := by rfl) (hpl : ((backTo pos (starEach es X.env)).any (·.1) || (backToKw pos (keywordEach kws X.env)).any (·.1.isNone)) = false := by rfl)
    (hdb : (c == ("__debug__" : Str)) = false := by decide) (hK : ks.length = KL := by rfl) (hP : ix.length + 1 = np := by rfl) (hN : n + 1 = N := by rfl) : ME X S W (.Call (.Name c p) es kws pos) (mMake c n KL ix ds m fa fk) := by
  subst hK hP hN
  exact me_make hC M Fn G hr hg hb hd tk ha hkw sta hall hks hpl hdb
theorem me_makeLN {c x : Str} {i : Nat} (hC : X.mg c = some (.ref C)) (M : Mk X.K C f) (Fn : FnG X.prog X.w X.K X.mg X.base (L2.CX X.prog X.w) k f fd ps (SpM X.K X.mg np m)) (G : MGood m) (hr : Rm (k + 1) X.A) (hv : PE X (.Name x p) (tVar i))
    (hb : Bnd X.K fd ps N ks (.p 0 :: ix.map Src.up) dvs) (hd : DfOk X.K X.mg ds dvs) (tk : Takes X W) (ha : MA X S W es fa) (hkw : MK X S W kws fk) (sta : StarOk X es := by first | exact rfl | exact trivial) (hall : (backToKw pos (keywordEach kws X.env)).all (·.1.isSome) = true := by rfl)
    (hks : (backToKw pos (keywordEach kws X.env)).filterMap (·.1) = ks := by rfl) (hpl : ((backTo pos (starEach es X.env)).any (·.1) || (backToKw pos (keywordEach kws X.env)).any (·.1.isNone)) = false := by rfl)
    (hK : ks.length = KL := by rfl) (hP : ix.length + 1 = np := by rfl) (hN : n + 1 = N := by rfl) :
    ME X S W (.Call (.Name x p) es kws pos) (mMakeL c i n KL ix ds m fa fk) := by
  subst hK hP hN
  exact me_makeL hC M Fn G hr hv hb hd tk ha hkw sta hall hks hpl
theorem me_cmethN (c mn : Str) {mc : Value} {P g : Addr} {fo : En → R Tk} {pl : Sem Bool} (hC : X.mg c = some (.ref C)) (rd : ClX.CRead X.K C mc) (cm : ClX.CMet X.K C mc mn P g) (Fn : FnG X.prog X.w X.K X.mg X.base (L2.CX X.prog X.w) k g fd ps (SpM X.K X.mg np m)) (G : MGood m) (hr : Rm k X.A)
    (hb : Bnd X.K fd ps N ks ix dvs) (hd : DfOk X.K X.mg ds dvs) (tk : Takes X W) (hg : Gl X c) (ha : MA X S W es fa) (hkw : MK X S W kws fk) (sta : StarOk X es := by first | exact rfl | exact trivial) (hall : (backToKw pos (keywordEach kws X.env)).all (·.1.isSome) = true := by rfl)
    (hks : (backToKw pos (keywordEach kws X.env)).filterMap (·.1) = ks := by rfl) (hpl : ((backTo pos (starEach es X.env)).any (·.1) || (backToKw pos (keywordEach kws X.env)).any (·.1.isNone)) = false := by rfl) (hdb : (c == ("__debug__" : Str)) = false := by decide)
    (hK : ks.length = KL := by rfl) (hP : ix.length = np := by rfl) (hN : N ≠ 0 := by decide)
    (ht : eval (.Call (.Attribute (.Name c p) mn apos) es kws pos) X.env = (do
      let ov ← eval (.Name c p) X.env
      standAt apos.atName
      let (f, first) ← holding [ov] (getMethod ov mn pl)
      callWith pos f first (backTo pos (starEach es X.env)) (backToKw pos (keywordEach kws X.env))) := by rfl) : ME X S W (.Call (.Attribute (.Name c p) mn apos) es kws pos)
      (mCMeth c N KL ix ds m fa fk) := by
  subst hK hP
  obtain ⟨n, rfl⟩ := Nat.exists_eq_succ_of_ne_zero hN
  exact me_cmeth (fo := fo) c mn hC rd cm Fn G hr hb hd tk hg ha hkw sta hall hks hpl hdb ht
end
/-- the one class that a clause takes -/
theorem exG_only {x c : Str} {tb : List (Str × Bool)} (h : exG tb c = some true) (hf : tb.filter (·.2) = [(x, true)]) : x = c := by
  have z := lookup_mem h
  have q : (c, true) ∈ tb.filter (·.2) := List.mem_filter.mpr ⟨z, rfl⟩
  rw [hf] at q
  simp at q
  exact q.symm
end MM

set_option Elab.async false
set_option linter.all false
set_option maxRecDepth 100000
set_option maxHeartbeats 4000000
/-! M26: dict comprehensions. -/
namespace MM
open PySem PySem.Spec PyProof.Rows L2 PySem.W
section
variable {X : Cx} {pins : List (Addr × Obj)} {σ : L2.St} {H : Hp} {s : Shared} {C : Addr}
/-- the variables of a block that is over are nobody's -/
theorem over_block (I : Inv X pins σ H s) (f : FpOk X pins H C) {hp : Heap} (sb : Heap.SameBut C s.heap hp) : Inv X pins σ H { s with heap := hp } :=
  I.turned (t' := s.toks) (fun b _ hb => (sb.2 b hb).trans) f.1 f.2.1 f.2.2.2.1 f.2.2.2.2.1 f.2.2.2.2.2
theorem no_block (f : FpOk X pins H C) {y : Str} {a : Addr} (ha : a = X.env.locals ∨ X.env.cells.lookup y = some a) : C ≠ a :=
  ha.elim (fun e => by rw [e]; exact f.2.1) fun e k => f.2.2.2.2.1 y a e k.symm
/-- what a block made gets a name of the def around it -/
theorem named_by {i : Nat} {y : Str} {py : Pos} {L : Addr} {m : Str → Option Value} {D : Ends} (hN : X.N.Nodup) (hy : X.N[i]? = some y) (hl : X.env.scope.names.lookup y = some .local) (I : Inv X pins σ H s) (f : FpOk X pins H C) (hn : s.heap.Ns C m) (q : gName i (.ref L) σ H D.nx) :
    wpAny (model X.prog X.w) X.A (assign (.Name y py) X.env (.ref L)) (fun _ s1 => ∃ m1, s1.heap.Ns C m1 ∧ ∀ hp, Heap.SameBut C s1.heap hp → SP X pins D .next { s1 with heap := hp }) X.xe s :=
  wpAny_assign_Name (store_ok2 (v := V.ref L) I hN hy (.inl hl) rfl (fun _ I1 ⟨_, sb, ha⟩ => ⟨m, hn.sameBut sb (no_block f ha), fun _ sb1 => ⟨_, H, over_block I1 f sb1, q⟩⟩) (.inr hl))
theorem ps_setDc {i : Nat} {y : Str} {py : Pos} {kx vx tg iter : Expr} {ifs : List Expr} {scope : Scope} {own : List (Str × Nat)} {pos spos : Pos} {wi : TI} {g : TG} {tt : TT} {tk tv : TE} (hc : X.calm = true) (hN : X.N.Nodup) (hy : X.N[i]? = some y) (hyl : X.env.scope.names.lookup y = some .local)
    (hsw : swapsWith (.DictComp kx vx [⟨tg, iter, ifs, 0⟩] scope pos) (some (.Name y py)) spos.line X.env = pure true) (hi : PI X tg iter wi) (ok : BlkOk X.N X.env.scope scope own)
    (hg : Blk X scope fun Y => PG Y tg g) (ht : Blk X scope fun Y => PTs Y ifs tt) (hk : Blk X scope fun Y => PE Y kx tk) (he : Blk X scope fun Y => PE Y vx tv) (hs : ∀ x, foldedSetIterable iter X.env x = pure x := by intro _; rfl) :
    PS X (.Assign [.Name y py] (.DictComp kx vx [⟨tg, iter, ifs, 0⟩] scope pos) spos) (tAsg (tDc wi g tt tk tv (own.map (·.2))) (gName i)) :=
  ⟨fun pins s σ H D I h => by
    have made := dc_core (use := some (assign (.Name y py) X.env)) (pos' := firstIterPos [⟨tg, iter, ifs, 0⟩] pos) (pos := pos) (Qf := fun _ => SP X pins D .next) hc hN I hi ok hg ht hk he hs (show tDc wi g tt tk tv (own.map (·.2)) σ H (fun x H1 => gName i x σ H1 D.nx) from h)
      fun _ _ _ _ _ I1 q hn f => named_by hN hy hyl I1 f hn q
    rw [exec_Assign_Name_used _ _ _ _ hsw]
    exact wpAny_bind (wpAny_standAt (wpAny_bind (wpAny_bind (m := comprehension _ _ _ _ _ _ _ _) (wpAny_mono made (fun _ _ e => wpAny_pure (wpAny_pure e)) fun _ _ e => e))))⟩
end
section
variable {X : Cx} {S : Su} {W : WX} {e o tg c kx vx iter : Expr} {pos p : Pos}
theorem compD_inv {a : D → En → R Unit} {t : En → R Bool} {gk gv : En → R Tk} {vs : List Nat} {d : D} {ds : List D} {acc kvs : List (Key × D)} {e ef : En} (h : compD a t gk gv vs (d :: ds) acc e = .ok kvs ef) : ∃ e1 b e2, a d e = .ok () e1 ∧ t e1 = .ok b e2 ∧
    (b = true → ∃ tk e3 k tv e4 y e5, gk e2 = .ok tk e3 ∧ (pk tk e3).bind keyD = some k ∧ gv e3 = .ok tv e4 ∧ frc tv e4 = .ok y e5 ∧ compD a t gk gv vs ds (putD acc k y) (wipeE vs e5) = .ok kvs ef) ∧ (b = false → compD a t gk gv vs ds acc (wipeE vs e2) = .ok kvs ef) := by
  unfold compD at h
  obtain ⟨e1, q1, h⟩ := okU_okI h
  obtain ⟨b, e2, q2, h⟩ := bind_okI h
  refine ⟨e1, b, e2, q1, noEr_okI q2, fun hb => ?_, fun hb => ?_⟩
  · subst hb
    obtain ⟨tk, e3, q3, h⟩ := bind_okI (show _ = _ from h)
    cases q4 : (pk tk e3).bind keyD with
    | none => rw [q4] at h; cases h
    | some k =>
      rw [q4] at h
      obtain ⟨tv, e4, q5, h⟩ := bind_okI h
      obtain ⟨y, e5, q6, h⟩ := bind_okI h
      exact ⟨tk, e3, k, tv, e4, y, e5, noEr_okI q3, q4, noEr_okI q5, q6, h⟩
  · subst hb
    exact h
theorem putD_len (kvs : List (Key × D)) (k : Key) (v : D) : (putD kvs k v).length ≤ kvs.length + 1 := by
  unfold putD
  split
  · rw [List.length_map]; omega
  · rw [List.length_append]; exact Nat.le_refl _
/-- the new dict of a comprehension -/
def compDN (a : D → En → R Unit) (t : En → R Bool) (gk gv : En → R Tk) (vs : List Nat) (ds : List D) (e : En) : R Tk := if ds.length ≤ 16777216 then (noEr (compD a t gk gv vs ds [] (wipeE vs e))).bind fun kvs e1 => .ok (.nw (.dct kvs)) e1 else .no
theorem dcM_core {J : It} {lk : Hp → Prop} {F H : Hp} {ds : List D} {O : Addr → Prop} {σ : L2.St} {env : En} {js vs : List Nat} {a : D → En → R Unit} {t : En → R Bool} {gk gv : En → R Tk} {g : TG} {Q : VK} (m : ItM X.K X.mg J F lk ds) (hl : lk H) (hlk : ∀ F H F' H', Tr O F H F' H' → lk H → lk H') (w : Wf X.K X.mg S O F H σ env) (hjs : ∀ j ∈ js, j ∈ vs)
    (p : PostE X.K X.mg S O W F H σ (compDN a t gk gv vs ds env) (fun F' H' e' t => ∀ v, TkOk X.K X.mg O F' H' σ e' v t → Q v H'))
    (k : MGk X.K X.mg S js a g) :
    ∀ D, H D = none → ∃ Wn : Nat → Nat → Hp → Prop, (∃ m, Wn 0 m (upd H D (.dK []))) ∧ ∀ i m H, Wn i m H → (J.stop i H ∧ Q (.ref D) H) ∨ (J.go i H ∧ ∃ Nx : Hp → Prop, (∀ H', Nx H' → ∃ m', m' < m ∧ Wn (i + 1) m' H') ∧ ∀ x H', J.yld i H x H' →
      g x (wipe σ vs) H' fun σ2 H2 => wipe σ2 vs = wipe σ vs ∧ tMT X S W0 t σ2 H2 fun b H3 => if b = true then tM X S W0 gk σ2 H3 fun y H4 => tM X S W0 gv σ2 H4 fun z H5 => ∃ kvs k, y = kV k ∧ H5 D = some (.dK kvs) ∧ kvs.length < sizeLine ∧ Nx (upd H5 D (.dK (putK kvs k z))) else Nx H3) := by
  intro D hD
  unfold compDN at p
  split at p
  · rename_i hlen
    have hO : ¬ O D := w.nO hD
    cases hc : compD a t gk gv vs ds [] (wipeE vs env) with
    | no => rw [hc] at p; exact p.elim
    | er c x e => rw [hc] at p; exact p.elim
    | ok ys ef =>
      rw [hc] at p
      have pfin : ∀ F' H', Tr O F H F' H' → Wf X.K X.mg S O F' H' σ ef → ∀ v, TkOk X.K X.mg O F' H' σ ef v (.nw (.dct ys)) → Q v H' := p
      let St1 : Nat → Hp → Prop := fun i H' => lk H' ∧ ∃ F' env' acc accD, Tr O F H F' H' ∧ Wf X.K X.mg S (fun b => O b ∨ b = D) F' H' (wipe σ vs) env' ∧ F' D = none ∧ H' D = some (.dK acc) ∧ RepK X.K X.mg F' accD acc ∧ accD.length ≤ i ∧ (∀ v ∈ vs, env'[v]? = none ∨ env'[v]? = some .no) ∧
        compD a t gk gv vs (ds.drop i) accD env' = .ok ys ef
      refine ⟨fun i n H' => n = ds.length - i ∧ i ≤ ds.length ∧ St1 i H', ⟨ds.length, by simp, Nat.zero_le _, hlk F H F _ (Tr.new w hD _) hl, F, wipeE vs env, [], [], Tr.new w hD _, ?_, w.gone hD, upd_same, .nil, Nat.le_refl _, fun v hv => wipeE_no hv, hc⟩, ?_⟩
      · refine ((w.wipe vs).new hD (.dK [])).more fun b q => ?_
        rcases q with q | q
        · exact .inl q
        · subst q
          exact .inr ⟨⟨_, upd_same, rfl⟩, (w.wipe vs).nOwn hD, fun ks z => by rw [w.gone hD] at z; cases z⟩
      · rintro i n H1 ⟨rfl, hi, hl1, F1, e1, acc, accD, t1, w1, hf1, hD1, ra, hla, hno, hc1⟩
        have w1' := w1.weak (O := O) fun b q => .inl q
        by_cases hlt : i < ds.length
        · refine .inr ⟨m.go S _ F1 H1 _ e1 i t1.fz w1 hl1 hlt, St1 (i + 1), fun H' q => ⟨ds.length - (i + 1), by omega, rfl, hlt, q⟩, fun x H2 y => ?_⟩
          obtain ⟨d, F2, h1, t2, w2, rd⟩ := m.item t1.fz w1 hl1 hlt y
          have e0 : ds.drop i = d :: ds.drop (i + 1) := by
            rw [List.drop_eq_getElem_cons hlt]
            rw [List.getElem?_eq_getElem hlt] at h1
            rw [Option.some.inj h1]
          rw [e0] at hc1
          obtain ⟨e2, b, e3, q1, q2, q3, q4⟩ := compD_inv hc1
          refine k _ F2 H2 _ e1 x d e2 _ w2 rd q1 fun σ2 w3 hw => ?_
          have hw2 : wipe σ2 vs = wipe σ vs := by rw [hw vs hjs, wipe_wipe]
          refine ⟨hw2, F2, e2, _, w3, PostE.of q2 fun F3 H3 t3 w4 => ?_⟩
          have again : ∀ {F' H' : Hp} {e' : En}, Tr (fun b => O b ∨ b = D) F1 H1 F' H' → Wf X.K X.mg S (fun b => O b ∨ b = D) F' H' σ2 e' → Wf X.K X.mg S (fun b => O b ∨ b = D) F' H' (wipe σ vs) (wipeE vs e') := fun {F' H' e'} t w => by
            have z := w.wipe vs
            rw [hw2] at z
            exact z
          cases b with
          | false =>
            show St1 (i + 1) H3
            have tt := t2.trans t3
            exact ⟨hlk _ _ _ _ (tt.weak fun b q => .inl q) hl1, F3, wipeE vs e3, acc, accD, t1.trans (tt.weak fun b q => .inl q), again tt w4, (tt.fr D (.inr rfl)).trans hf1, (tt.kp D (.inr rfl)).trans hD1, ra.mono tt.fz, Nat.le_succ_of_le hla, fun v hv => wipeE_no hv, q4 rfl⟩
          | true =>
            show tM X S W0 gk σ2 H3 fun y H4 => tM X S W0 gv σ2 H4 fun z H5 => ∃ kvs k, y = kV k ∧ H5 D = some (.dK kvs) ∧ kvs.length < sizeLine ∧ St1 (i + 1) (upd H5 D (.dK (putK kvs k z)))
            obtain ⟨tk, e4, kk, tv, e5, y1, e6, g1, g2, g3, g4, g5⟩ := q3 rfl
            refine ⟨F3, e3, _, w4, PostE.of g1 fun F4 H4 t4 w5 v tkv => ?_⟩
            obtain ⟨dk, z1, z2⟩ := Option.bind_eq_some_iff.mp g2
            have ek := keyD_ok (pk_ok w5 tkv z1) z2
            refine ⟨F4, e4, _, w5, PostE.of g3 fun F5 H5 t5 w6 u tku => ?_⟩
            obtain ⟨F6, t6, w7, ry⟩ := frc_ok' w6 tku g4
            have tt := (((t2.trans t3).trans t4).trans t5).trans t6
            have hD5 : H5 D = some (.dK acc) := (tt.kp D (.inr rfl)).trans hD1
            have hf5 : F6 D = none := (tt.fr D (.inr rfl)).trans hf1
            have w8 := again tt w7
            have ts : Tr O F6 H5 F6 (upd H5 D (.dK (putK acc kk u))) := ⟨Sub.rfl', fun b q => upd_ne fun e => hO (by rw [← e]; exact q), fun _ _ => rfl, fun b u q => by
              by_cases e : b = D
              · subst e; exact ⟨_, upd_same⟩
              · exact ⟨u, by rw [upd_ne e]; exact q⟩⟩
            have tall := (tt.weak (O := O) fun b q => .inl q).trans ts
            refine ⟨acc, kk, ek, hD5, ?_, hlk _ _ _ _ tall hl1, F6, wipeE vs e6, putK acc kk u, putD accD kk y1, t1.trans tall, ?_, hf5, upd_same, (ra.mono tt.fz).put kk ry, ?_, fun v hv => wipeE_no hv, g5⟩
            · rw [ra.length, sizeLine_eq]; omega
            · exact w8.setD hf5 hD5 (fun fs z => nomatch z) fun q => w8.ow D q (.inr rfl)
            · exact Nat.le_trans (putD_len _ _ _) (Nat.succ_le_succ hla)
        · have e : i = ds.length := by omega
          subst e
          refine .inl ⟨m.stop S _ F1 H1 _ e1 _ t1.fz w1 hl1 (Nat.le_refl _), ?_⟩
          rw [List.drop_length] at hc1
          cases hc1
          have w4 := w1'.unwipe hno
          refine pfin F1 H1 t1 w4 (.ref D) ⟨D, _, rfl, hf1, fun q => ?_, hO, hD1, .dct ra⟩
          obtain ⟨j, s, a1, a2, a3⟩ := q
          have nj : j ∉ vs := fun q => by
            rcases hno j q with z | z
            · rw [z] at a1; cases a1
            · rw [z] at a1; cases a1; cases a2
          exact w1.ow D ⟨j, s, a1, a2, by rw [wipe_get, if_neg nj]; exact a3⟩ (.inr rfl)
  · exact p.elim
def mDc (fi : En → R (List D)) (a : D → En → R Unit) (t : En → R Bool) (gk gv : En → R Tk) (vs : List Nat) (e : En) : R Tk := (fi e).bind fun ds e1 => (compDN a t gk gv vs ds e1).bind fun t e2 => .ok t (backE e1 vs e2)
theorem dc_read {fi : En → R (List D)} {a : D → En → R Unit} {t : En → R Bool} {gk gv : En → R Tk} {vs js : List Nat} {g : TG} {σ : L2.St} {H : Hp} {Q : VK} (k : MGk X.K X.mg S js a g) (hjs : ∀ j ∈ js, j ∈ vs) (h : tM X S W (mDc fi a t gk gv vs) σ H Q) : tDc (tMI X S W fi) g (tMT X S W0 t) (tM X S W0 gk) (tM X S W0 gv) vs σ H Q := by
  obtain ⟨F, env, O, w, p⟩ := h
  refine ⟨F, env, O, w, PostE.mono (PostE.bind p) fun F1 H1 e1 ds t1 w1 q J m => ?_⟩
  exact dcM_core m trivial (fun _ _ _ _ _ h => h) w1 hjs (PostE.backE w1 q) k
theorem me_dc {ifs : List Expr} {scope : Scope} (own : List (Str × Nat)) {fi : En → R (List D)} {a : D → En → R Unit} {t : En → R Bool} {gk gv : En → R Tk} {js : List Nat} {g : TG} (hc : X.calm = true) (hN : X.N.Nodup) (hi : MI X S W tg iter fi) (ok : BlkOk X.N X.env.scope scope own)
    (hg : Blk X scope fun Y => PG Y tg g) (hk : MGk X.K X.mg S js a g) (ht : Blk X scope fun Y => MTs Y S W0 ifs t) (hkx : Blk X scope fun Y => ME Y S W0 kx gk) (he : Blk X scope fun Y => ME Y S W0 vx gv) (hjs : ∀ j ∈ js, j ∈ own.map (·.2) := by decide) (hs : ∀ x, foldedSetIterable iter X.env x = pure x := by intro _; rfl) :
    ME X S W (.DictComp kx vx [⟨tg, iter, ifs, 0⟩] scope pos) (mDc fi a t gk gv (own.map (·.2))) :=
  (pe_dc hc hN hi ok (fun s H C cl fp => hg s H C cl fp) (fun s H C cl fp => ht s H C cl fp) (fun s H C cl fp => hkx s H C cl fp) (fun s H C cl fp => he s H C cl fp) hs).wk fun σ H Q h => dc_read hk hjs h
def mDcD (fd : En → R (List (Key × D))) (pr : List (Key × D) → List D) (a : D → En → R Unit) (t : En → R Bool) (gk gv : En → R Tk) (vs : List Nat) (e : En) : R Tk := (fd e).bind fun kvs e1 => (compDN a t gk gv vs (pr kvs) e1).bind fun t e2 => .ok t (backE e1 vs e2)
theorem dc_readD {fd : En → R (List (Key × D))} {pr : List (Key × D) → List D} {td : TE} {J : Addr → Obj → List (Key × V) → It} {a : D → En → R Unit} {t : En → R Bool} {gk gv : En → R Tk} {vs js : List Nat} {g : TG} {σ : L2.St} {H : Hp} {Q : VK} (d2 : DRk X S fd td)
    (j1 : ∀ (K : PySem.W.Frag) (mg : Str → Option Value) (F : Hp) (a : Addr) (o : Obj) (ks : List (Key × V)) (kvs : List (Key × D)), RepK K mg F kvs ks → ItM K mg (J a o ks) F (lkD a o ks) (pr kvs)) (k : MGk X.K X.mg S js a g) (hjs : ∀ j ∈ js, j ∈ vs)
    (h : tM X S W (mDcD fd pr a t gk gv vs) σ H Q) : tLockE (tDc (wiD td J) g (tMT X S W0 t) (tM X S W0 gk) (tM X S W0 gv) vs) σ H Q ∨ tDc (wiD td J) g (tMT X S W0 t) (tM X S W0 gk) (tM X S W0 gv) vs σ H Q := by
  obtain ⟨F, env, O, w, p⟩ := h
  obtain ⟨F1, e1, kvs, ad, ks, t1, w1, hF, rk, q, rd⟩ := d2 O F H σ env W _ w (PostE.bind p)
  rcases w1.fz ad _ hF with hH | ⟨o, ks', e, hH⟩
  · refine .inl ⟨ad, .dK ks, hH, trivial, fun od => ?_⟩
    obtain ⟨w2, t2⟩ := w1.lock (od := od) hF hH
    refine rd _ _ (.inr ⟨od, rfl⟩) ⟨ad, od, ks, rfl, upd_same, ?_⟩
    exact dcM_core (Q := fun v H' => H' ad = some (.frz od (.dK ks)) ∧ Q v (upd H' ad (.dK ks))) (j1 X.K X.mg F1 ad od ks kvs rk) (show lkD ad od ks _ from upd_same) (fun F H F' H' t l => (t.kp ad (.inr rfl)).trans l) w2 hjs (PostE.locked w1 hF hH (PostE.backE w1 q)) k
  · cases e
    refine .inr (rd _ _ (.inl rfl) ⟨ad, o, ks, rfl, hH, ?_⟩)
    exact dcM_core (j1 X.K X.mg F1 ad o ks kvs rk) (show lkD ad o ks _ from hH) (fun F H F' H' t l => (t.kp ad (.inr rfl)).trans l) (w1.hold hF hH) hjs (PostE.wideT (PostE.backE w1 q) fun b z => .inl z) k
theorem me_dcD {d0 : Expr} {ifs : List Expr} {scope : Scope} (own : List (Str × Nat)) {fd : En → R (List (Key × D))} {pr : List (Key × D) → List D} {a : D → En → R Unit} {t : En → R Bool} {gk gv : En → R Tk} {js : List Nat} {g : TG} (hc : X.calm = true) (hN : X.N.Nodup) (hd : DR X S d0 fd) (hi : DIt X tg d0 iter pr) (ok : BlkOk X.N X.env.scope scope own)
    (hg : Blk X scope fun Y => PG Y tg g) (hk : MGk X.K X.mg S js a g) (ht : Blk X scope fun Y => MTs Y S W0 ifs t) (hkx : Blk X scope fun Y => ME Y S W0 kx gk) (he : Blk X scope fun Y => ME Y S W0 vx gv) (hjs : ∀ j ∈ js, j ∈ own.map (·.2) := by decide) (hs : ∀ x, foldedSetIterable iter X.env x = pure x := by intro _; rfl) :
    ME X S W (.DictComp kx vx [⟨tg, iter, ifs, 0⟩] scope pos) (mDcD fd pr a t gk gv (own.map (·.2))) := by
  obtain ⟨td, d1, d2⟩ := hd
  obtain ⟨J, j1, j2⟩ := hi
  have z := pe_dc (kx := kx) (vx := vx) (pos := pos) (tt := tMT X S W0 t) (tk := tM X S W0 gk) (tv := tM X S W0 gv) hc hN (j2 td d1) ok (fun s H C cl fp => hg s H C cl fp) (fun s H C cl fp => ht s H C cl fp) (fun s H C cl fp => hkx s H C cl fp) (fun s H C cl fp => he s H C cl fp) hs
  exact ((pe_lock z).or z).wk fun σ H Q h => dc_readD d2 j1 hk hjs h
theorem ms_setDc {i : Nat} {y : Str} {py spos : Pos} {ifs : List Expr} {scope : Scope} (own : List (Str × Nat)) {fi : En → R (List D)} {a : D → En → R Unit} {t : En → R Bool} {gk gv : En → R Tk} {js : List Nat} {g : TG} (hc : X.calm = true) (hN : X.N.Nodup) (hy : X.N[i]? = some y) (hyl : X.env.scope.names.lookup y = some .local)
    (hsw : swapsWith (.DictComp kx vx [⟨tg, iter, ifs, 0⟩] scope pos) (some (.Name y py)) spos.line X.env = pure true) (hi : MI X S W tg iter fi) (ok : BlkOk X.N X.env.scope scope own)
    (hg : Blk X scope fun Y => PG Y tg g) (hk : MGk X.K X.mg S js a g) (ht : Blk X scope fun Y => MTs Y S W0 ifs t) (hkx : Blk X scope fun Y => ME Y S W0 kx gk) (he : Blk X scope fun Y => ME Y S W0 vx gv) (hjs : ∀ j ∈ js, j ∈ own.map (·.2) := by decide) (hs : ∀ x, foldedSetIterable iter X.env x = pure x := by intro _; rfl) :
    MS X S W (.Assign [.Name y py] (.DictComp kx vx [⟨tg, iter, ifs, 0⟩] scope pos) spos) (mSet i (mDc fi a t gk gv (own.map (·.2)))) :=
  (ps_setDc hc hN hy hyl hsw hi ok (fun s H C cl fp => hg s H C cl fp) (fun s H C cl fp => ht s H C cl fp) (fun s H C cl fp => hkx s H C cl fp) (fun s H C cl fp => he s H C cl fp) hs).wk fun D σ H h => dc_read hk hjs (asg_read h)
theorem ms_setDcD {d0 : Expr} {i : Nat} {y : Str} {py spos : Pos} {ifs : List Expr} {scope : Scope} (own : List (Str × Nat)) {fd : En → R (List (Key × D))} {pr : List (Key × D) → List D} {a : D → En → R Unit} {t : En → R Bool} {gk gv : En → R Tk} {js : List Nat} {g : TG} (hc : X.calm = true) (hN : X.N.Nodup) (hy : X.N[i]? = some y) (hyl : X.env.scope.names.lookup y = some .local)
    (hsw : swapsWith (.DictComp kx vx [⟨tg, iter, ifs, 0⟩] scope pos) (some (.Name y py)) spos.line X.env = pure true) (hd : DR X S d0 fd) (hi : DIt X tg d0 iter pr) (ok : BlkOk X.N X.env.scope scope own)
    (hg : Blk X scope fun Y => PG Y tg g) (hk : MGk X.K X.mg S js a g) (ht : Blk X scope fun Y => MTs Y S W0 ifs t) (hkx : Blk X scope fun Y => ME Y S W0 kx gk) (he : Blk X scope fun Y => ME Y S W0 vx gv) (hjs : ∀ j ∈ js, j ∈ own.map (·.2) := by decide) (hs : ∀ x, foldedSetIterable iter X.env x = pure x := by intro _; rfl) :
    MS X S W (.Assign [.Name y py] (.DictComp kx vx [⟨tg, iter, ifs, 0⟩] scope pos) spos) (mSet i (mDcD fd pr a t gk gv (own.map (·.2)))) := by
  obtain ⟨td, d1, d2⟩ := hd
  obtain ⟨J, j1, j2⟩ := hi
  have z := ps_setDc (kx := kx) (vx := vx) (spos := spos) (py := py) (tt := tMT X S W0 t) (tk := tM X S W0 gk) (tv := tM X S W0 gv) hc hN hy hyl hsw (j2 td d1) ok (fun s H C cl fp => hg s H C cl fp) (fun s H C cl fp => ht s H C cl fp) (fun s H C cl fp => hkx s H C cl fp) (fun s H C cl fp => he s H C cl fp) hs
  refine ((ps_lock z).or z).wk fun D σ H h => ?_
  rcases dc_readD d2 j1 hk hjs (asg_read h) with ⟨d, u, h1, h2, h3⟩ | q
  · exact .inl ⟨d, u, h1, h2, fun od => h3 od⟩
  · exact .inr q
end
end MM

set_option Elab.async false
set_option linter.all false
set_option maxRecDepth 100000
set_option maxHeartbeats 4000000
/-! M27: a dict of new lists, filled by a loop. -/
namespace MM
open PySem PySem.Spec PyProof.Rows L2 PySem.W
def refs (ks : List (Key × Addr)) : List (Key × V) := ks.map fun kv => (kv.1, V.ref kv.2)
/-- the lists, and the dict at D -/
def GO (O : Addr → Prop) (D : Addr) (ks : List (Key × Addr)) (b : Addr) : Prop := O b ∨ b = D ∨ b ∈ ks.map (·.2)
inductive InL (K : Frag) (mg : Str → Option Value) (F H : Hp) : List (Key × List D) → List (Key × Addr) → Prop
  | nil : InL K mg F H [] []
  | cons {k : Key} {a : Addr} {xs : List V} {ds : List D} {kvs : List (Key × List D)} {ks : List (Key × Addr)} : F a = none → H a = some (.lst xs) → Reps K mg F ds xs → InL K mg F H kvs ks → InL K mg F H ((k, ds) :: kvs) ((k, a) :: ks)
def lkG (m : List (Key × List D)) (k : Key) : Option (List D) := (m.find? fun kv => decide (kv.1 = k)).map (·.2)
def putG : List (Key × List D) → Key → List D → List (Key × List D)
  | [], _, _ => []
  | kv :: r, k, l => if kv.1 = k then (kv.1, l) :: r else kv :: putG r k l
section
variable {K : Frag} {mg : Str → Option Value} {S : Su} {O : Addr → Prop} {F H F' H' : Hp} {σ σ' : L2.St} {env env' : En} {D : Addr} {ks : List (Key × Addr)} {kvs : List (Key × List MM.D)}
theorem InL.on (h : InL K mg F H kvs ks) (s : Sub F F') (kf : ∀ a ∈ ks.map (·.2), F' a = F a) (kh : ∀ a ∈ ks.map (·.2), H' a = H a) : InL K mg F' H' kvs ks := by
  induction h with
  | nil => exact .nil
  | cons h1 h2 h3 _ ih =>
    exact .cons ((kf _ (by simp)).trans h1) ((kh _ (by simp)).trans h2) (h3.mono s) (ih (fun a z => kf a (List.mem_cons_of_mem _ z)) fun a z => kh a (List.mem_cons_of_mem _ z))
theorem InL.none (h : InL K mg F H kvs ks) : ∀ a ∈ ks.map (·.2), F a = Option.none ∧ ∃ xs, H a = some (.lst xs) := by
  induction h with
  | nil => intro a z; cases z
  | cons h1 h2 _ _ ih =>
    intro b z
    rcases List.mem_cons.mp (by simpa using z : b ∈ _ :: (_ : List (Key × Addr)).map (·.2)) with rfl | z
    · exact ⟨h1, _, h2⟩
    · exact ih b z
theorem InL.snoc (h : InL K mg F H kvs ks) {k : Key} {p : Addr} (h1 : F p = Option.none) (h2 : H p = some (.lst [])) : InL K mg F H (kvs ++ [(k, [])]) (ks ++ [(k, p)]) := by
  induction h with
  | nil => exact .cons h1 h2 .nil .nil
  | cons a b c _ ih => exact .cons a b c ih
theorem InL.get (h : InL K mg F H kvs ks) {k : Key} {old : List MM.D} (e : lkG kvs k = some old) (nd : (ks.map (·.2)).Nodup) : ∃ a xs, valV (refs ks) k = some (.ref a) ∧ a ∈ ks.map (·.2) ∧ F a = Option.none ∧ H a = some (.lst xs) ∧ Reps K mg F old xs ∧
    ∀ v d, Rep K mg F d v → InL K mg F (upd H a (.lst (xs ++ [v]))) (putG kvs k (old ++ [d])) ks := by
  induction h with
  | nil => cases e
  | @cons j a xs ds kvs ks h1 h2 h3 r ih =>
    have nd' : (a :: ks.map (·.2)).Nodup := nd
    obtain ⟨n1, n2⟩ := List.nodup_cons.mp nd'
    by_cases ej : j = k
    · have e2 : lkG ((j, ds) :: kvs) k = some ds := by simp [lkG, List.find?_cons, ej]
      rw [e2] at e
      cases e
      refine ⟨a, xs, by simp [refs, valV, List.find?_cons, ej], by simp, h1, h2, h3, fun v d rv => ?_⟩
      have e3 : putG ((j, old) :: kvs) k (old ++ [d]) = (j, old ++ [d]) :: kvs := by simp [putG, ej]
      rw [e3]
      exact .cons h1 upd_same (h3.append (.cons rv .nil)) (r.on Sub.rfl' (fun _ _ => rfl) fun b z => upd_ne fun e => n1 (by rw [← e]; exact z))
    · have e2 : lkG ((j, ds) :: kvs) k = lkG kvs k := by simp [lkG, List.find?_cons, ej]
      rw [e2] at e
      obtain ⟨b, ys, q1, q2, q3, q4, q5, q6⟩ := ih e n2
      refine ⟨b, ys, ?_, List.mem_cons_of_mem _ q2, q3, q4, q5, fun v d rv => ?_⟩
      · have : valV (refs ((j, a) :: ks)) k = valV (refs ks) k := by simp [refs, valV, List.find?_cons, ej]
        rw [this]; exact q1
      · have e3 : putG ((j, ds) :: kvs) k (old ++ [d]) = (j, ds) :: putG kvs k (old ++ [d]) := by simp [putG, ej]
        rw [e3]
        refine .cons h1 ?_ h3 (q6 v d rv)
        rw [upd_ne fun e => n1 (by rw [e]; exact q2)]
        exact h2
theorem InL.freeze : ∀ {kvs : List (Key × List MM.D)} {ks : List (Key × Addr)} {F : Hp}, Wf K mg S O F H σ env → InL K mg F H kvs ks → (ks.map (·.2)).Nodup → (∀ a ∈ ks.map (·.2), ¬ O a ∧ ¬ Own σ env a) →
    ∃ F', Tr O F H F' H ∧ Wf K mg S O F' H σ env ∧ RepK K mg F' (kvs.map fun kv => (kv.1, .lst kv.2)) (refs ks) ∧ ∀ b, b ∉ ks.map (·.2) → F' b = F b
  | _, _, F, w, .nil, _, _ => ⟨F, Tr.refl, w, .nil, fun _ _ => rfl⟩
  | _, _, F, w, .cons (k := k) (a := a) (xs := xs) (ds := ds) (kvs := kvs) (ks := ks) h1 h2 h3 r, nd, ho => by
    have nd' : (a :: ks.map (·.2)).Nodup := nd
    obtain ⟨n1, n2⟩ := List.nodup_cons.mp nd'
    have ha := ho a (by simp)
    have w1 := w.freeze h2 ha.2 (fun _ _ z => nomatch z) h1 ha.1
    have t1 : Tr O F H (upd F a (.lst xs)) H := Tr.freeze h1 ha.1
    have r1 : InL K mg (upd F a (.lst xs)) H kvs ks := r.on t1.fz (fun b z => upd_ne fun e => n1 (by rw [← e]; exact z)) fun _ _ => rfl
    obtain ⟨F', t2, w2, rk, hf⟩ := InL.freeze w1 r1 n2 fun b z => ho b (List.mem_cons_of_mem _ z)
    have hF' : F' a = some (.lst xs) := t2.fz a _ upd_same
    refine ⟨F', t1.trans t2, w2, .cons (.lst hF' (h3.mono (t1.fz.trans t2.fz))) rk, fun b z => ?_⟩
    have z' : b ∉ a :: ks.map (·.2) := z
    rw [hf b fun q => z' (List.mem_cons_of_mem _ q), upd_ne fun e => z' (by rw [e]; exact List.mem_cons_self ..)]
structure Grp (K : Frag) (mg : Str → Option Value) (S : Su) (O : Addr → Prop) (F H : Hp) (σ : L2.St) (env : En) (D : Addr) (ks : List (Key × Addr)) (kvs : List (Key × List MM.D)) : Prop where
  w : Wf K mg S (GO O D ks) F H σ env
  fD : F D = Option.none
  hD : H D = some (.dK (refs ks))
  il : InL K mg F H kvs ks
  nd : (D :: ks.map (·.2)).Nodup
  nO : ∀ b, b = D ∨ b ∈ ks.map (·.2) → ¬ O b
theorem Grp.on (g : Grp K mg S O F H σ env D ks kvs) (t : Tr (GO O D ks) F H F' H') (w' : Wf K mg S (GO O D ks) F' H' σ' env') : Grp K mg S O F' H' σ' env' D ks kvs :=
  ⟨w', (t.fr D (.inr (.inl rfl))).trans g.fD, (t.kp D (.inr (.inl rfl))).trans g.hD, g.il.on t.fz (fun a z => t.fr a (.inr (.inr z))) fun a z => t.kp a (.inr (.inr z)), g.nd, g.nO⟩
theorem Grp.start (w : Wf K mg S O F H σ env) (hD : H D = Option.none) : Grp K mg S O F (upd H D (.dK [])) σ env D [] [] where
  w := (w.new hD (.dK [])).more fun b q => by
    rcases q with q | q | q
    · exact .inl q
    · subst q
      exact .inr ⟨⟨_, upd_same, rfl⟩, w.nOwn hD, fun ks z => by rw [w.gone hD] at z; cases z⟩
    · cases q
  fD := w.gone hD
  hD := upd_same
  il := .nil
  nd := by simp
  nO := fun b q => by
    rcases q with q | q
    · subst q; exact w.nO hD
    · cases q
theorem Grp.trO (g : Grp K mg S O F H σ env D ks kvs) {a : Addr} (ha : a = D ∨ a ∈ ks.map (·.2)) (u : HO) : Tr O F H F (upd H a u) :=
  ⟨Sub.rfl', fun b q => upd_ne fun e => g.nO a ha (by rw [← e]; exact q), fun _ _ => rfl, fun b v q => by
    by_cases e : b = a
    · subst e; exact ⟨_, upd_same⟩
    · exact ⟨v, by rw [upd_ne e]; exact q⟩⟩
/-- one more key -/
theorem Grp.snoc (g : Grp K mg S O F H σ env D ks kvs) {k : Key} {p : Addr} (hp : H p = Option.none) (hk : (refs ks).any (fun kv => decide (kv.1 = k)) = false) :
    Grp K mg S O F (upd (upd H p (.lst [])) D (.dK (putK (refs ks) k (.ref p)))) σ env D (ks ++ [(k, p)]) (kvs ++ [(k, [])]) ∧ Tr O F H F (upd (upd H p (.lst [])) D (.dK (putK (refs ks) k (.ref p)))) := by
  have w1 := g.w.new hp (.lst [])
  have ne : p ≠ D := fun e => by subst e; rw [g.hD] at hp; cases hp
  have hD1 : upd H p (.lst []) D = some (.dK (refs ks)) := by rw [upd_ne ne.symm]; exact g.hD
  have w2 := w1.setD (o' := .dK (putK (refs ks) k (.ref p))) g.fD hD1 (fun _ z => nomatch z) fun q => g.w.ow D q (.inr (.inl rfl))
  have hp2 : upd (upd H p (.lst [])) D (.dK (putK (refs ks) k (.ref p))) p = some (.lst []) := by rw [upd_ne ne, upd_same]
  have fp : F p = Option.none := g.w.gone hp
  have ins : ∀ a ∈ ks.map (·.2), a ≠ D := fun a z e => (List.nodup_cons.mp g.nd).1 (by rw [← e]; exact z)
  have inp : ∀ a ∈ ks.map (·.2), a ≠ p := fun a z e => by
    subst e
    obtain ⟨_, xs, y⟩ := g.il.none a z
    rw [hp] at y; cases y
  refine ⟨⟨w2.more fun b q => ?_, g.fD, ?_, ?_, ?_, fun b q => ?_⟩, ⟨Sub.rfl', fun b q => ?_, fun _ _ => rfl, fun b v q => ?_⟩⟩
  · rcases q with q | q | q
    · exact .inl (.inl q)
    · exact .inl (.inr (.inl q))
    · rw [List.map_append] at q
      rcases List.mem_append.mp q with q | q
      · exact .inl (.inr (.inr q))
      · have eq : b = p := List.mem_singleton.mp q
        rw [eq]
        refine .inr ⟨⟨_, hp2, rfl⟩, g.w.nOwn hp, fun ks z => ?_⟩
        have z' : F p = some ks := z
        rw [fp] at z'; cases z'
  · rw [upd_same]
    unfold putK
    rw [hk]
    simp [refs]
  · refine (g.il.on Sub.rfl' (fun _ _ => rfl) fun a z => ?_).snoc fp hp2
    rw [upd_ne (ins a z), upd_ne (inp a z)]
  · rw [List.map_append]
    have e : D :: (ks.map (·.2) ++ [(k, p)].map (·.2)) = (D :: ks.map (·.2)) ++ [p] := rfl
    rw [e]
    refine List.nodup_append.mpr ⟨g.nd, by simp, fun a ha b hb => ?_⟩
    have eq : b = p := List.mem_singleton.mp hb
    rw [eq]
    rcases List.mem_cons.mp ha with eq2 | ha
    · rw [eq2]; exact ne.symm
    · exact inp a ha
  · rcases q with q | q
    · exact g.nO b (.inl q)
    · rw [List.map_append] at q
      rcases List.mem_append.mp q with q | q
      · exact g.nO b (.inr q)
      · have eq : b = p := List.mem_singleton.mp q
        rw [eq]
        exact fun z => g.w.nO hp (.inl z)
  · rw [upd_ne fun e => g.nO D (.inl rfl) (by rw [← e]; exact q), upd_ne fun e => g.w.nO hp (.inl (by rw [← e]; exact q))]
  · by_cases e : b = D
    · subst e; exact ⟨_, upd_same⟩
    · rw [upd_ne e]
      by_cases e2 : b = p
      · subst e2; exact ⟨_, upd_same⟩
      · exact ⟨v, by rw [upd_ne e2]; exact q⟩
/-- one more item -/
theorem Grp.app (g : Grp K mg S O F H σ env D ks kvs) {k : Key} {old : List MM.D} (e : lkG kvs k = some old) : ∃ a xs, valV (refs ks) k = some (.ref a) ∧ H a = some (.lst xs) ∧ xs.length = old.length ∧ a ∈ ks.map (·.2) := by
  obtain ⟨a, xs, h1, h2, h3, h4, h5, _⟩ := g.il.get e (List.nodup_cons.mp g.nd).2
  exact ⟨a, xs, h1, h4, h5.length, h2⟩
theorem Grp.app2 (g : Grp K mg S O F H σ env D ks kvs) {k : Key} {old : List MM.D} (e : lkG kvs k = some old) {a : Addr} {xs : List V} (h1 : valV (refs ks) k = some (.ref a)) (h2 : H a = some (.lst xs)) {v : V} {d : MM.D} (r : Rep K mg F d v) :
    Grp K mg S O F (upd H a (.lst (xs ++ [v]))) σ env D ks (putG kvs k (old ++ [d])) ∧ Tr O F H F (upd H a (.lst (xs ++ [v]))) := by
  obtain ⟨b, ys, q1, q2, q3, q4, q5, q6⟩ := g.il.get e (List.nodup_cons.mp g.nd).2
  rw [h1] at q1
  cases q1
  rw [h2] at q4
  cases q4
  have ne : a ≠ D := fun e => (List.nodup_cons.mp g.nd).1 (by rw [← e]; exact q2)
  exact ⟨⟨g.w.setD q3 h2 (fun _ z => nomatch z) fun q => g.w.ow a q (.inr (.inr q2)), g.fD, by rw [upd_ne ne.symm]; exact g.hD, q6 v d r, g.nd, g.nO⟩, g.trO (.inr q2) _⟩
/-- it is the frame's own now -/
theorem Grp.done (g : Grp K mg S O F H σ env D ks kvs) {i : Nat} (hi : σ[i]? = some (some (.ref D))) (hl : i < env.length) : ∃ F', Tr O F H F' H ∧ Wf K mg S O F' H σ (env.set i (.ow (.dct (kvs.map fun kv => (kv.1, .lst kv.2))))) := by
  have w := g.w.weak (O := O) fun b q => .inl q
  have own : ∀ a, a = D ∨ a ∈ ks.map (·.2) → ¬ Own σ env a := fun a z q => g.w.ow a q (z.elim (fun e => .inr (.inl e)) fun e => .inr (.inr e))
  obtain ⟨F', t, w', rk, hf⟩ := InL.freeze w g.il (List.nodup_cons.mp g.nd).2 fun a z => ⟨g.nO a (.inr z), own a (.inr z)⟩
  have fD : F' D = Option.none := (hf D (List.nodup_cons.mp g.nd).1).trans g.fD
  have w2 := w'.put_ow (i := i) fD g.hD (.dct rk) (own D (.inl rfl)) (g.nO D (.inl rfl))
  have e : σ.set i (some (V.ref D)) = σ := by
    apply List.ext_getElem?
    intro j
    by_cases ej : i = j
    · subst ej
      have l : i < σ.length := (List.getElem?_eq_some_iff.mp hi).1
      rw [List.getElem?_set_self l, hi]
    · rw [List.getElem?_set_ne ej]
  rw [e] at w2
  exact ⟨F', t, w2⟩
end
end MM

set_option Elab.async false
set_option linter.all false
set_option maxRecDepth 100000
set_option maxHeartbeats 4000000
/-! M28: d = {k: [] for k in ..}; for ..: if ..: d[k].append(v) -/
namespace MM
open PySem PySem.Spec PyProof.Rows L2 PySem.W
def grpStep (fk fv : En → R Tk) (m : List (Key × List D)) (e : En) : R (List (Key × List D)) := (noEr (fk e)).bind fun t e1 => match (pk t e1).bind keyD with
  | some k => match lkG m k with
    | some old => if old.length < 16777216 then (noEr (fv e1)).bind fun u e2 => (frc u e2).bind fun d e3 => .ok (putG m k (old ++ [d])) e3 else .no
    | none => .no
  | none => .no
def grpLoop (a : D → En → R Unit) (fc : En → R Bool) (fk fv : En → R Tk) : List D → List (Key × List D) → En → R (List (Key × List D))
  | [], m, e => .ok m e
  | d :: ds, m, e => okU (a d e) fun e1 => (noEr (fc e1)).bind fun b e2 => bif b then (grpStep fk fv m e2).bind fun m' e3 => grpLoop a fc fk fv ds m' e3 else grpLoop a fc fk fv ds m e2
def mGrp (i j : Nat) (fd : En → R (List (Key × D))) (fi : En → R (List D)) (a : D → En → R Unit) (fc : En → R Bool) (fk fv : En → R Tk) (h : En → R Fl) (e : En) : R Fl :=
  (fd e).bind fun kvs e1 => if (kvs.map (·.1)).Nodup ∧ kvs.length ≤ 16777216 ∧ j < e1.length ∧ i < e1.length then (fi (e1.set i .no)).bind fun ds e2 => (noEr (grpLoop a fc fk fv ds (kvs.map fun kv => (kv.1, [])) e2)).bind fun m e3 => if i < e3.length then h (e3.set i (.ow (.dct (m.map fun kv => (kv.1, .lst kv.2))))) else .no else .no
theorem grpLoop_inv {a : D → En → R Unit} {fc : En → R Bool} {fk fv : En → R Tk} {d : D} {ds : List D} {m mr : List (Key × List D)} {e er : En} (h : grpLoop a fc fk fv (d :: ds) m e = .ok mr er) : ∃ e1 b e2, a d e = .ok () e1 ∧ fc e1 = .ok b e2 ∧
    (b = true → ∃ t e3 k old u e4 y e5, fk e2 = .ok t e3 ∧ (pk t e3).bind keyD = some k ∧ lkG m k = some old ∧ old.length < 16777216 ∧ fv e3 = .ok u e4 ∧ frc u e4 = .ok y e5 ∧ grpLoop a fc fk fv ds (putG m k (old ++ [y])) e5 = .ok mr er) ∧ (b = false → grpLoop a fc fk fv ds m e2 = .ok mr er) := by
  unfold grpLoop at h
  obtain ⟨e1, q1, h⟩ := okU_okI h
  obtain ⟨b, e2, q2, h⟩ := bind_okI h
  refine ⟨e1, b, e2, q1, noEr_okI q2, fun hb => ?_, fun hb => ?_⟩
  · subst hb
    obtain ⟨m', e5, q3, h⟩ := bind_okI (show _ = _ from h)
    unfold grpStep at q3
    obtain ⟨t, e3, q4, q3⟩ := bind_okI q3
    cases q5 : (pk t e3).bind keyD with
    | none => rw [q5] at q3; cases q3
    | some k =>
      rw [q5] at q3
      simp only at q3
      cases q6 : lkG m k with
      | none => rw [q6] at q3; cases q3
      | some old =>
        rw [q6] at q3
        simp only at q3
        split at q3
        · rename_i hl
          obtain ⟨u, e4, q7, q3⟩ := bind_okI q3
          obtain ⟨y, e5', q8, q3⟩ := bind_okI q3
          cases q3
          exact ⟨t, e3, k, old, u, e4, y, _, noEr_okI q4, q5, q6, hl, noEr_okI q7, q8, h⟩
        · cases q3
  · subst hb
    exact h
section
variable {X : Cx} {S : Su} {W : WX}
theorem InL.keys {K : Frag} {mg : Str → Option Value} {F H : Hp} {kvs : List (Key × List D)} {ks : List (Key × Addr)} (h : InL K mg F H kvs ks) : ks.map (·.1) = kvs.map (·.1) := by
  induction h with
  | nil => rfl
  | cons _ _ _ _ ih => simp [ih]
theorem rep_kD_inv {K : Frag} {mg : Str → Option Value} {F : Hp} {k : Key} {x : V} (r : Rep K mg F (kD k) x) : x = kV k := by
  cases k with
  | inl i => cases r; rfl
  | inr s => cases r; rfl
theorem grp1 {J : It} {lk : Hp → Prop} {F H : Hp} {kvs : List (Key × D)} {O : Addr → Prop} {σ : L2.St} {env : En} {j : Nat} {Q : VK} (m : ItM X.K X.mg J F lk (prK kvs)) (hl : lk H) (hlk : ∀ F H F' H', Tr O F H F' H' → lk H → lk H') (w : Wf X.K X.mg S O F H σ env) (hn : (kvs.map (·.1)).Nodup) (hlen : kvs.length ≤ 16777216) (hj : j < σ.length)
    (fin : ∀ F' H' D ks, Grp X.K X.mg S O F' H' σ env D ks (kvs.map fun kv => (kv.1, [])) → lk H' → Tr O F H F' H' → Q (.ref D) H') :
    ∀ D, H D = none → ∃ Wn : Nat → Nat → Hp → Prop, (∃ m, Wn 0 m (upd H D (.dK []))) ∧ ∀ i m H, Wn i m H → (J.stop i H ∧ Q (.ref D) H) ∨ (J.go i H ∧ ∃ Nx : Hp → Prop, (∀ H', Nx H' → ∃ m', m' < m ∧ Wn (i + 1) m' H') ∧ ∀ x H', J.yld i H x H' →
      gName j x (wipe σ [j]) H' fun σ2 H2 => wipe σ2 [j] = wipe σ [j] ∧ tYes σ2 H2 fun b H3 => if b = true then tVar j σ2 H3 fun y H4 => tLst tNil σ2 H4 fun z H5 => ∃ kvs k, y = kV k ∧ H5 D = some (.dK kvs) ∧ kvs.length < sizeLine ∧ Nx (upd H5 D (.dK (putK kvs k z))) else Nx H3) := by
  intro D hD
  let St1 : Nat → Hp → Prop := fun i H' => lk H' ∧ ∃ F' ks, Tr O F H F' H' ∧ Grp X.K X.mg S O F' H' σ env D ks ((kvs.take i).map fun kv => (kv.1, []))
  have pl : (prK kvs).length = kvs.length := List.length_map ..
  refine ⟨fun i n H' => n = kvs.length - i ∧ i ≤ kvs.length ∧ St1 i H', ⟨kvs.length, by simp, Nat.zero_le _, hlk F H F _ (Tr.new w hD _) hl, F, [], Tr.new w hD _, Grp.start w hD⟩, ?_⟩
  rintro i n H1 ⟨rfl, hi, hl1, F1, ks, t1, g1⟩
  by_cases hlt : i < kvs.length
  · refine .inr ⟨m.go S _ F1 H1 _ _ i t1.fz g1.w hl1 (by omega), St1 (i + 1), fun H' q => ⟨kvs.length - (i + 1), by omega, rfl, hlt, q⟩, fun x H2 y => ?_⟩
    obtain ⟨d, F2, h1, t2, w2, rd⟩ := m.item t1.fz g1.w hl1 (by omega) y
    have g2 := g1.on t2 w2
    have ed : d = kD (kvs[i]).1 := by
      have : (prK kvs)[i]? = some (kD (kvs[i]).1) := by simp [prK, List.getElem?_map, List.getElem?_eq_getElem hlt]
      rw [this] at h1
      exact (Option.some.inj h1).symm
    subst ed
    have ex := rep_kD_inv rd
    subst ex
    refine ⟨by rw [wipe_set (List.mem_singleton.mpr rfl), wipe_wipe], ?_⟩
    unfold tYes
    dsimp only
    rw [if_pos rfl]
    refine ⟨kV (kvs[i]).1, by rw [List.getElem?_set_self (by rw [wipe_length]; exact hj)], by simp, fun p hp => ?_⟩
    have hk : (refs ks).any (fun kv => decide (kv.1 = (kvs[i]).1)) = false := by
      rw [List.any_eq_false]
      intro kv hkv e
      have e : kv.1 = (kvs[i]).1 := by simpa using e
      have mem : (kvs[i]).1 ∈ ks.map (·.1) := by
        obtain ⟨z, z1, z2⟩ := List.mem_map.mp hkv
        rw [← e, ← z2]
        exact List.mem_map.mpr ⟨z, z1, rfl⟩
      rw [g2.il.keys] at mem
      simp only [List.map_map] at mem
      have mem2 : (kvs[i]).1 ∈ (kvs.map (·.1)).take i := by
        rw [← List.map_take]
        exact mem
      have nd := hn
      rw [← List.take_append_drop i (kvs.map (·.1))] at nd
      refine (List.nodup_append.mp nd).2.2 _ mem2 _ ?_ rfl
      rw [List.drop_eq_getElem_cons (by simpa using hlt)]
      simp
    obtain ⟨g3, t3⟩ := g2.snoc hp hk
    refine ⟨refs ks, (kvs[i]).1, rfl, ?_, ?_, hlk _ _ _ _ ((t2.weak fun b q => .inl q).trans t3) hl1, F2, ks ++ [((kvs[i]).1, p)], t1.trans ((t2.weak fun b q => .inl q).trans t3), ?_⟩
    · have ne : p ≠ D := fun e => by subst e; rw [g2.hD] at hp; cases hp
      rw [upd_ne ne.symm]; exact g2.hD
    · have : (refs ks).length = i := by
        have := congrArg List.length g2.il.keys
        simp only [List.length_map, List.length_take] at this
        unfold refs
        rw [List.length_map]
        omega
      rw [this, sizeLine_eq]
      omega
    · have e : (kvs.take (i + 1)).map (fun kv => (kv.1, ([] : List MM.D))) = (kvs.take i).map (fun kv => (kv.1, [])) ++ [((kvs[i]).1, [])] := by
        rw [List.take_succ_eq_append_getElem hlt, List.map_append]
        rfl
      rw [e]
      exact g3
  · have e : i = kvs.length := by omega
    subst e
    rw [List.take_length] at g1
    exact .inl ⟨m.stop S _ F1 H1 _ _ _ t1.fz g1.w hl1 (by omega), fin F1 H1 D ks g1 hl1 t1⟩
theorem grp2 {J : It} {F H : Hp} {ds : List D} {O : Addr → Prop} {σ : L2.St} {env eres : En} {js : List Nat} {i : Nat} {a : D → En → R Unit} {fc : En → R Bool} {fk fv : En → R Tk} {g : TG} {D : Addr} {ks : List (Key × Addr)} {kvs mres : List (Key × List MM.D)} (E0 : Ends)
    (m : ItM X.K X.mg J F noLk ds) (gr : Grp X.K X.mg S O F H σ env D ks kvs) (hi : σ[i]? = some (some (.ref D))) (hij : i ∉ js) (k : MGk X.K X.mg S js a g) (hr : grpLoop a fc fk fv ds kvs env = .ok mres eres)
    (fin : ∀ F' H' σ', Tr O F H F' H' → Grp X.K X.mg S O F' H' σ' eres D ks mres → σ'[i]? = some (some (.ref D)) → E0.nx σ' H') :
    ∃ Wn : Nat → Nat → L2.St → Hp → Prop, (∃ m, Wn 0 m σ H) ∧ ∀ n m σ H, Wn n m σ H → (J.stop n H ∧ E0.nx σ H) ∨ (J.go n H ∧ ∃ N : L2.St → Hp → Prop, (∀ σ' H', N σ' H' → ∃ m', m' < m ∧ Wn (n + 1) m' σ' H') ∧ ∀ x H', J.yld n H x H' →
      g x σ H' fun σ2 H2 => (tIfS (tMT X S W fc) (tDrop (tBM X.K "list" rAppend (tOp (fun x y H Q => rIx X.K x y H Q ∨ rIxD x y H Q) (tVar i) (tM X S W fk)) (tCons (tM X S W fv) tNil))) tNext) { E0 with nx := N, ct := N, bk := E0.nx } σ2 H2) := by
  let St2 : Nat → L2.St → Hp → Prop := fun n σ' H' => ∃ F' env' kvs', Tr O F H F' H' ∧ Grp X.K X.mg S O F' H' σ' env' D ks kvs' ∧ σ'[i]? = some (some (.ref D)) ∧ grpLoop a fc fk fv (ds.drop n) kvs' env' = .ok mres eres
  refine ⟨fun n mm σ' H' => mm = ds.length - n ∧ n ≤ ds.length ∧ St2 n σ' H', ⟨ds.length, by simp, Nat.zero_le _, F, env, kvs, Tr.refl, gr, hi, hr⟩, ?_⟩
  rintro n mm σ1 H1 ⟨rfl, hn, F1, e1, kv1, t1, g1, hi1, hr1⟩
  by_cases hlt : n < ds.length
  · refine .inr ⟨m.go S _ F1 H1 _ e1 n t1.fz g1.w trivial hlt, St2 (n + 1), fun σ' H' q => ⟨ds.length - (n + 1), by omega, rfl, hlt, q⟩, fun x H2 y => ?_⟩
    obtain ⟨d, F2, h1, t2, w2, rd⟩ := m.item t1.fz g1.w trivial hlt y
    have g2 := g1.on t2 w2
    have e0 : ds.drop n = d :: ds.drop (n + 1) := by
      rw [List.drop_eq_getElem_cons hlt]
      rw [List.getElem?_eq_getElem hlt] at h1
      rw [Option.some.inj h1]
    rw [e0] at hr1
    obtain ⟨e2, b, e3, q1, q2, q3, q4⟩ := grpLoop_inv hr1
    refine k _ F2 H2 _ e1 x d e2 _ w2 rd q1 fun σ2 w3 hw => ?_
    have hi2 : σ2[i]? = some (some (.ref D)) := by
      have z := congrArg (fun l => l[i]?) (hw js fun j hj => hj)
      simp only [wipe_get, if_neg hij] at z
      rw [z]; exact hi1
    have T2 := t1.trans (t2.weak fun b q => .inl q)
    have g3 := g1.on t2 w3
    refine ⟨F2, e2, _, w3, PostE.of q2 fun F3 H3 t3 w4 => ?_⟩
    have g4 := g3.on t3 w4
    have T3 := T2.trans (t3.weak fun b q => .inl q)
    cases b with
    | false => exact ⟨F3, e3, kv1, T3, g4, hi2, q4 rfl⟩
    | true =>
      dsimp only
      rw [if_pos rfl]
      obtain ⟨t, e4, kk, old, u, e5, y1, e6, p1, p2, p3, p4, p5, p6, p7⟩ := q3 rfl
      refine ⟨_, hi2, F3, e3, _, w4, PostE.of p1 fun F4 H4 t4 w5 v tkv => ?_⟩
      have g5 := g4.on t4 w5
      have T4 := T3.trans (t4.weak fun b q => .inl q)
      obtain ⟨dk, z1, z2⟩ := Option.bind_eq_some_iff.mp p2
      have ek := keyD_ok (pk_ok w5 tkv z1) z2
      subst ek
      obtain ⟨aa, xs, v1, v2, v3, v4⟩ := g5.app p3
      refine .inr ⟨D, .ref aa, rfl, ?_, ?_, F4, e4, _, w5, PostE.of p5 fun F5 H5 t5 w6 uu tku => ?_⟩
      · have z := DGet.rd (k := kk) (.inl g5.hD)
        rw [v1] at z
        exact z
      · exact .inl ⟨rfl, xs, .inl (.inl v2)⟩
      · obtain ⟨F6, t6, w7, ry⟩ := frc_ok' w6 tku p6
        have g6 := (g5.on t5 w6).on t6 w7
        have v5 : H5 aa = some (.lst xs) := (t5.kp aa (.inr (.inr v4))).trans v2
        obtain ⟨g7, t7⟩ := g6.app2 p3 v1 v5 ry
        refine ⟨aa, xs, uu, rfl, rfl, v5, ?_, F6, e6, _, (T4.trans ((t5.trans t6).weak fun b q => .inl q)).trans t7, g7, hi2, p7⟩
        rw [v3, sizeLine_eq]
        exact p4
  · have e : n = ds.length := by omega
    subst e
    refine .inl ⟨m.stop S _ F1 H1 _ e1 _ t1.fz g1.w trivial (Nat.le_refl _), ?_⟩
    rw [List.drop_length] at hr1
    cases hr1
    exact fin F1 H1 σ1 t1 g1 hi1
/-- let go of the dict that was walked -/
theorem Grp.unlock {O : Addr → Prop} {F H : Hp} {σ : L2.St} {env : En} {D a : Addr} {ks : List (Key × Addr)} {kvs : List (Key × List MM.D)} {kd : List (Key × V)} {od : Obj} (g : Grp X.K X.mg S (fun b => O b ∨ b = a) F H σ env D ks kvs) (ha : F a = some (.dK kd)) (hH : H a = some (.frz od (.dK kd))) (hO : ¬ O a) :
    Grp X.K X.mg S O F (upd H a (.dK kd)) σ env D ks kvs := by
  have nD : a ≠ D := fun e => by subst e; rw [g.fD] at ha; cases ha
  have nk : ∀ b ∈ ks.map (·.2), b ≠ a := fun b z e => by
    subst e
    rw [(g.il.none b z).1] at ha; cases ha
  refine ⟨?_, g.fD, by rw [upd_ne nD.symm]; exact g.hD, g.il.on Sub.rfl' (fun _ _ => rfl) fun b z => upd_ne (nk b z), g.nd, fun b z q => g.nO b z (.inl q)⟩
  have w : Wf X.K X.mg S (fun b => GO O D ks b ∨ b = a) F H σ env := g.w.weak fun b q => by
    rcases q with (q | q | q) | q
    · exact .inl (.inl q)
    · exact .inr (.inl q)
    · exact .inr (.inr q)
    · exact .inl (.inr q)
  refine w.unlock ha hH fun q => ?_
  rcases q with q | q | q
  · exact hO q
  · exact nD q
  · exact nk a q rfl
end
section
variable {X : Cx} {S : Su} {W : WX} {e1 e2 tg iter iter0 d0 c : Expr} {rest : List Stmt} {x y : Str} {py py2 px px2 pl dpos spos p3 apos cpos epos ipos fpos : Pos} {scope : Scope}
theorem mss_grp {i j : Nat} {js : List Nat} {fd : En → R (List (Key × D))} {fi : En → R (List D)} {a : D → En → R Unit} {fc : En → R Bool} {fk fv : En → R Tk} {h : En → R Fl} {g : TG} (hp : PassesOwn (model X.prog X.w) X.A X.env X.xe) (hc : X.calm = true) (hN : X.N.Nodup) (hy : X.N[i]? = some y) (hyl : X.env.scope.names.lookup y = some .local) (hu : X.A.units + 1 < cLine)
    (hsw : swapsWith (.DictComp (.Name x px) (.List [] pl) [⟨.Name x px2, iter0, [], 0⟩] scope dpos) (some (.Name y py)) spos.line X.env = pure true) (hd : DR X S d0 fd) (hi : DIt X (.Name x px2) d0 iter0 prK) (ok : BlkOk X.N X.env.scope scope [(x, j)])
    (hg : Blk X scope fun Y => PG Y (.Name x px2) (gName j)) (hx : Blk X scope fun Y => PE Y (.Name x px) (tVar j)) (hit : MI X S W tg iter fi) (hgt : MG X S tg js a g) (hct : MT X S W c fc) (h1 : ME X S W e1 fk) (h2 : ME X S W e2 fv) (hv : PE X (.Name y py2) (tVar i)) (hr : MSs X S W rest h) (hij : i ∉ js := by decide)
    (hs0 : ∀ x, foldedSetIterable iter0 X.env x = pure x := by intro _; rfl) (hs1 : ∀ x, foldedSetIterable iter X.env x = pure x := by intro _; rfl) (hix : PlainIx e1 := by exact fun _ _ => rfl) (hst : starEach [e2] X.env = (false, eval e2 X.env) :: starEach [] X.env := by rfl)
    (hbase : attributeBase (.Subscript (.Name y py2) e1 p3) "append" X.env (eval (.Subscript (.Name y py2) e1 p3) X.env) = eval (.Subscript (.Name y py2) e1 p3) X.env := by rfl)
    (hfew : ((backTo cpos (starEach [e2] X.env)).all (fun x => !x.1) && (backToKw cpos (keywordEach [] X.env)).all (fun x => x.1.isSome)
      && decide ([e2].length + ([] : List Keyword).length + (if ([] : List Keyword).isEmpty then 0 else 1) < 30)) = true := by rfl)
    (hline : (apos.endLine == cpos.line) = true := by rfl) (hplain : (backTo cpos (starEach [] X.env)).any (·.1) = false := by rfl) (hsx : swapsWith (.Call (.Attribute (.Subscript (.Name y py2) e1 p3) "append" apos) [e2] [] cpos) none epos.line X.env = pure false := by rfl) :
    MSs X S W (.Assign [.Name y py] (.DictComp (.Name x px) (.List [] pl) [⟨.Name x px2, iter0, [], 0⟩] scope dpos) spos :: .For tg iter [.If c [.Expr (.Call (.Attribute (.Subscript (.Name y py2) e1 p3) "append" apos) [e2] [] cpos) epos] [] ipos] [] fpos :: rest)
      (mGrp i j fd fi a fc fk fv h) := by
  obtain ⟨td, d1, d2⟩ := hd
  obtain ⟨J, j1, j2⟩ := hi
  obtain ⟨pg, kg⟩ := hgt
  have z1 := ps_setDc (kx := .Name x px) (vx := .List [] pl) (pos := dpos) (spos := spos) (py := py) (tt := tYes) (tk := tVar j) (tv := tLst tNil) (own := [(x, j)]) hc hN hy hyl hsw (j2 td d1) ok (fun s H C cl fp => hg s H C cl fp) (fun s H C cl fp => pts_nil) (fun s H C cl fp => hx s H C cl fp) (fun s H C cl fp => pe_lst pa_nil) hs0
  have z2 := ps_for (pos := fpos) hp hc hit pg (pss_one (ps_if (pos := ipos) hct (pss_one (ps_expr (pe_bm F.plainAttrs_list F.slot_list_append F.type_list_append mt_append (pe_ix (pos := p3) (ix_seq.or (ix_dict hu)) hv h1 hix) (pa_cons h2 pa_nil hst) hbase hfew hline hst hplain) hsx)) pss_nil)) hs1
  refine (pss_cons ((ps_lock z1).or z1) (pss_cons z2 hr)).wk fun E0 σ H ⟨F, env, O, w, p⟩ => ?_
  have p : Post X.K X.mg S O W F H (mGrp i j fd fi a fc fk fv h env) (endK X.K X.mg O E0) := p
  unfold mGrp at p
  obtain ⟨F1, e0, kvs, ad, kd, t1, w1, hF, rk, q, rd⟩ := d2 O F H σ env W _ w (Post.toE (σ := σ) p)
  split at q
  · rename_i hcond
    obtain ⟨hn, hlen, hj, hii⟩ := hcond
    have hjs : j < σ.length := by
      obtain ⟨v, hv', _⟩ := w1.sl j _ (List.getElem?_eq_getElem hj)
      exact (List.getElem?_eq_some_iff.mp hv').1
    let NX : L2.St → Hp → Prop := tSeq (tFor (tMI X S W fi) g (tIfS (tMT X S W fc) (tDrop (tBM X.K "list" rAppend (tOp (fun x y H Q => rIx X.K x y H Q ∨ rIxD x y H Q) (tVar i) (tM X S W fk)) (tCons (tM X S W fv) tNil))) tNext)) (tMS X S W h) E0
    -- behind the first statement
    have two : ∀ F' H' D ks, Grp X.K X.mg S O F' H' σ e0 D ks (kvs.map fun kv => (kv.1, [])) → Tr O F1 H F' H' → NX (σ.set i (some (.ref D))) H' := by
      intro F' H' D ks gr tr
      have il : i < σ.length := by
        obtain ⟨v, hv', _⟩ := w1.sl i _ (List.getElem?_eq_getElem hii)
        exact (List.getElem?_eq_some_iff.mp hv').1
      have gr1 : Grp X.K X.mg S O F' H' (σ.set i (some (.ref D))) (e0.set i .no) D ks (kvs.map fun kv => (kv.1, [])) := gr.on Tr.refl (gr.w.setNo i _)
      have q1 := PostE.wide (PostE.on (Post.toE (σ := σ.set i (some (.ref D))) q) tr) (O' := GO O D ks) fun b z => .inl z
      refine ⟨F', e0.set i .no, _, gr1.w, PostE.mono q1 fun F2 H2 e2 ds _ _ ⟨t2, w2, q2⟩ J2 m2 => ?_⟩
      have gr2 := gr1.on t2 w2
      have q3 := Post.bind q2
      cases hg2 : grpLoop a fc fk fv ds (kvs.map fun kv => (kv.1, [])) e2 with
      | no => rw [hg2] at q3; exact q3.elim
      | er _ _ _ => rw [hg2] at q3; exact q3.elim
      | ok mres eres =>
        rw [hg2] at q2
        have q4 : Post X.K X.mg S O W F2 H2 (if i < eres.length then h (eres.set i (.ow (.dct (mres.map fun kv => (kv.1, .lst kv.2))))) else .no) (endK X.K X.mg O E0) := q2
        split at q4
        · rename_i hie
          have hi0 : (σ.set i (some (V.ref D)))[i]? = some (some (.ref D)) := by rw [List.getElem?_set_self il]
          refine grp2 _ m2 gr2 hi0 hij kg hg2 fun F3 H3 σ3 t3 gr3 hi3 => ?_
          obtain ⟨F4, t4, w4⟩ := gr3.done hi3 hie
          exact ⟨F4, _, O, w4, Post.on q4 (t3.trans t4)⟩
        · exact q4.elim
    rcases w1.fz ad _ hF with hH | ⟨o, ks', ee, hH⟩
    · refine .inl ⟨ad, .dK kd, hH, trivial, fun od => ?_⟩
      have hO : ¬ O ad := fun q => by
        obtain ⟨o, e⟩ := w1.od ad _ q hF rfl
        rw [hH] at e; cases e
      obtain ⟨w2, t2⟩ := w1.lock (od := od) hF hH
      refine rd _ _ (.inr ⟨od, rfl⟩) ⟨ad, od, kd, rfl, upd_same, ?_⟩
      refine grp1 (Q := fun v H' => H' ad = some (.frz od (.dK kd)) ∧ NX (σ.set i (some v)) (upd H' ad (.dK kd))) (j1 X.K X.mg F1 ad od kd kvs rk) (show lkD ad od kd _ from upd_same) (fun F H F' H' t l => (t.kp ad (.inr rfl)).trans l) w2 hn hlen hjs fun F' H' D ks gr hlk tr => ?_
      have hf' : F' ad = some (.dK kd) := tr.fz ad _ hF
      have gr' := gr.unlock hf' hlk hO
      refine ⟨hlk, two F' _ D ks gr' ?_⟩
      exact ⟨tr.fz, fun b q => by
        have ne : b ≠ ad := fun e => hO (by rw [← e]; exact q)
        rw [upd_ne ne, tr.kp b (.inl q), upd_ne ne], fun b q => tr.fr b (.inl q), fun b u q => by
        by_cases e : b = ad
        · subst e; exact ⟨_, upd_same⟩
        · rw [upd_ne e]; exact tr.al b u (by rw [upd_ne e]; exact q)⟩
    · cases ee
      refine .inr (rd _ _ (.inl rfl) ⟨ad, o, kd, rfl, hH, ?_⟩)
      refine grp1 (Q := fun v H' => NX (σ.set i (some v)) H') (j1 X.K X.mg F1 ad o kd kvs rk) (show lkD ad o kd _ from hH) (fun F H F' H' t l => (t.kp ad (.inr rfl)).trans l) (w1.hold hF hH) hn hlen hjs fun F' H' D ks gr hlk tr => ?_
      have gr' : Grp X.K X.mg S O F' H' σ e0 D ks (kvs.map fun kv => (kv.1, [])) := ⟨gr.w.weak fun b q => q.elim (fun z => .inl (.inl z)) .inr, gr.fD, gr.hD, gr.il, gr.nd, fun b z q => gr.nO b z (.inl q)⟩
      exact two F' H' D ks gr' (tr.weak fun b q => .inl q)
  · exact q.elim
end
end MM

set_option Elab.async false
set_option linter.all false
set_option maxRecDepth 100000
set_option maxHeartbeats 4000000
/-! M29: {**d, k: v} -/
namespace MM
open PySem PySem.Spec PyProof.Rows L2 PySem.W
theorem updDict_part {M : Model} {Γ : PySem.Ctx} {Q : Unit → Pos → Shared → Prop} {E : Value → Pos → Shared → Prop} {p : Pos} {s : Shared} (d : Addr) (f : Array DictEntry → Array DictEntry) (part : Option Value) :
    Sem.wp M Γ (updateDict d f part) Q E p s = Sem.wp M Γ (updateDict d f) Q E p s := by
  simp only [updateDict, Sem.wp_bind', Sem.wp_cmd_loadPart]
  refine congrArg Exists (funext fun o => congrArg (And _) ?_)
  cases o.data <;> first | rfl | simp only [Sem.wp_bind', Sem.wp_cmd_updatePart, Sem.wp_cmd_loadPart]
theorem updKeys_part {M : Model} {Γ : PySem.Ctx} {Q : Unit → Pos → Shared → Prop} {E : Value → Pos → Shared → Prop} {p : Pos} {s : Shared} (d : Addr) (f : Array DictEntry → Array DictEntry) (part : Option Value) :
    Sem.wp M Γ (updateDictKeys d f part) Q E p s = Sem.wp M Γ (updateDictKeys d f) Q E p s := by
  simp only [updateDictKeys, lookBehind, Sem.wp_bind', Sem.wp_cmd_loadPart]
  refine congrArg Exists (funext fun o => congrArg (And _) ?_)
  cases o.data <;> first | rfl | simp only [Sem.wp_bind', Sem.wp_cmd_updatePart, Sem.wp_cmd_loadPart]
/-- what dictSetHashed brings about, dictPut does: they part in what is held and told only -/
theorem put_as_set {M : Model} {A : Around} {E : Value → Shared → Prop} {s : Shared} {d : Addr} {h : Int} {key v : Value} {Q : Unit → Shared → Prop}
    (z : wpAny M A (dictSetHashed d key h v) Q E s) : wpAny M A (dictPut d h key v) Q E s := fun Γ p hΓ => by
  have y := z Γ p hΓ
  rw [dictSetHashed, Sem.wp_holding, Sem.wp_bind'] at y
  rw [dictPut, Sem.wp_bind']
  refine Sem.wp_mono M Γ _ (fun i p' s' hi => ?_) (fun _ _ _ r => r) p s y
  cases i with
  | none =>
    simp only [Sem.wp_bind', Sem.wp_cmd_rule] at hi
    exact (updKeys_part ..).mp hi
  | some i =>
    simp only [Sem.wp_bind', Sem.wp_cmd_rule, Sem.wp_cmd_point] at hi
    exact (updDict_part ..).mp hi

/-- a loop over the numbers below a list's length, told by how much of the list is done -/
theorem row_by_row {T : Type} {all : List T} {M : Model} {A : Around} {E : Value → Shared → Prop} {P : List T → Shared → Prop} {Q : PUnit → Shared → Prop} {body : Nat → PUnit → Sem (ForInStep PUnit)}
    (turn : ∀ (fin : List T) (x : T) (rest : List T) (s : Shared), P fin s → fin ++ x :: rest = all → wpAny M A (body fin.length ⟨⟩) (fun r s' => r = .yield ⟨⟩ ∧ P (fin ++ [x]) s') E s)
    (out : ∀ s, P all s → Q ⟨⟩ s) : ∀ (rest fin : List T) (s : Shared), P fin s → fin ++ rest = all → wpAny M A (forIn (List.range' fin.length rest.length) PUnit.unit body) Q E s
  | [], fin, s, p, e => by
    rw [List.append_nil] at e
    subst e
    exact wpAny_pure (out s p)
  | x :: rest, fin, s, p, e => by
    rw [List.length_cons, List.range'_succ, List.forIn_cons]
    refine wpAny_bind (wpAny_mono (turn fin x rest s p e) (fun r s' hr => ?_) fun _ _ h => h)
    obtain ⟨rfl, p'⟩ := hr
    have z := row_by_row turn out rest (fin ++ [x]) s' p' (by rw [List.append_assoc]; exact e)
    rwa [List.length_append] at z
/-- a loop that changes nothing -/
theorem idle_loop {T : Type} {M : Model} {A : Around} {E : Value → Shared → Prop} {s : Shared} {Q : PUnit → Shared → Prop} {f : T → PUnit → Sem (ForInStep PUnit)} (q : Q ⟨⟩ s) :
    ∀ l : List T, (∀ x ∈ l, f x ⟨⟩ = pure (.yield ⟨⟩)) → wpAny M A (forIn l PUnit.unit f) Q E s
  | [], _ => wpAny_pure q
  | x :: l, h => by
    rw [List.forIn_cons, h x List.mem_cons_self]
    exact wpAny_bind (wpAny_pure (idle_loop q l fun y hy => h y (List.mem_cons_of_mem _ hy)))
section
variable {prog : Program} {w : World} {K : Type} [DecidableEq K] {knd : PySem.KeyKind prog w K} {A : Around} {E : Value → Shared → Prop} {s : Shared}
theorem wpAny_dictPut_pairs {d : Addr} {kvs : List (K × Value)} {k : K} {key v : Value} {Q : Unit → Shared → Prop} (hkey : knd.is k key = true) (hm : s.heap.DictOf knd d kvs)
    (hQ : ∀ hp2, hp2.DictOf knd d (stored kvs k v) →
      Heap.SameBut d s.heap hp2 → Q () { s with heap := hp2 }) (hsz : kvs.length ≤ sizeLine) :
    wpAny (model prog w) A (dictPut d (knd.hash k) key v) Q E s := put_as_set (wpAny_dictSetHashed_pairs hkey hm hQ hsz)
theorem entry_of {es : Array DictEntry} {more : List (K × Value)} (hk : KeysOf knd es) (hp : Pairs knd es.toList more) {i : Nat} {k : K} {v : Value} (h : more[i]? = some (k, v)) : ∃ e, es[i]? = some e ∧ knd.is k e.key = true ∧ e.val = v ∧ e.hash = knd.hash k := by
  have hl : i < es.toList.length := by rw [hp.length]; exact (List.getElem?_eq_some_iff.mp h).1
  have he := List.getElem?_eq_getElem hl
  obtain ⟨a, b⟩ := hp.get? he h
  obtain ⟨k2, c, e⟩ := hk _ (Array.mem_def.mpr (List.getElem_mem hl))
  exact ⟨_, (Array.getElem?_toList).symm.trans he, a, b, by rw [e, knd.inj _ _ _ c a]⟩
theorem wpAny_mergeMapping {d o : Addr} {kvs more : List (K × Value)} {Q : Unit → Shared → Prop} (hdo : d ≠ o) (hoS : (o == sysModules) = false)
    (hd : s.heap.DictOf knd d kvs) (ho : s.heap.DictOf knd o more) (hnr : ∀ k key, knd.is k key = true → ∀ a, key ≠ .ref a)
    (hQ : ∀ hp2, hp2.DictOf knd d (merged kvs more) →
      hp2.DictOf knd o more → Heap.SameBut d s.heap hp2 → Q () { s with heap := hp2 })
    (hsz : kvs.length + more.length ≤ sizeLine) :
    wpAny (model prog w) A (mergeMapping d (.ref o) false) Q E s := by
  have ho' := ho
  have hd' := hd
  obtain ⟨x, es, ep, hx, _, hxd, hk, hp, _⟩ := ho'
  obtain ⟨y, ds, dp, hy, _, hyd, _⟩ := hd'
  have hnr' : ∀ e ∈ es.toList, ∀ a, e.key ≠ .ref a := fun e he => by
    obtain ⟨k, c, _⟩ := hk e (Array.mem_def.mpr he)
    exact hnr k _ c
  have hlen : es.size = more.length := by rw [← hp.length, Array.length_toList]
  unfold mergeMapping
  refine wpAny_bind (m := isInstance _ _) (wpAny_isInstance ho.typeIs isSubtype_dict_dict ?_)
  dsimp only
  rw [if_pos rfl]
  refine wpAny_bind (wpAny_specialOf ho.typeIs F.slot_dict_iter.lookup (wpAny_bind (wpAny_pure ?_)))
  simp only [beq_self_eq_true, hoS, Bool.false_eq_true, if_false]
  refine wpAny_bind (wpAny_dictEntries hy hyd ?_)
  have main : wpAny (model prog w) A (do
      let l ← dictEntries o
      let epoch ← dictEpoch o
      forIn (List.range l.size) PUnit.unit fun i _ => do
        let l ← dictEntries o
        match l[i]? with
        | some e => do
          holding [e.key, e.val] (dictPut d e.hash e.key e.val)
          let n ← dictEpoch o
          if (n != epoch) = true then do
            unsupported "dict.changed-during-merge"
            pure (ForInStep.yield PUnit.unit)
          else pure (ForInStep.yield PUnit.unit)
        | x => do
          unsupported "dict.changed-during-merge"
          pure (ForInStep.yield PUnit.unit)
      pure ()) Q E s := by
    refine wpAny_bind (wpAny_dictEntries hx hxd (wpAny_bind (wpAny_dictEpoch hx hxd (wpAny_bind ?_))))
    rw [hlen, List.range_eq_range']
    refine row_by_row (all := more) (P := fun fin s' => ∃ hp2, s' = { s with heap := hp2 } ∧ hp2.DictOf knd d (merged kvs fin) ∧ Heap.SameBut d s.heap hp2) (fun fin kv rest s' hP e => ?_) (fun s' hP => ?_) more [] s ⟨s.heap, rfl, hd, Heap.SameBut.refl _ _⟩ rfl
    · obtain ⟨hp2, rfl, d2, sb⟩ := hP
      obtain ⟨k, v⟩ := kv
      have hx2 := (sb.2 o (Ne.symm hdo)).trans hx
      obtain ⟨en, e1, e2, e3, e4⟩ := entry_of hk hp (i := fin.length) (k := k) (v := v) (by rw [← e]; simp)
      refine wpAny_bind (wpAny_dictEntries hx2 hxd ?_)
      rw [e1]
      have room : (merged kvs fin).length ≤ sizeLine := by
        have := merged_length_le kvs fin
        have := congrArg List.length e
        simp only [List.length_append, List.length_cons] at this
        omega
      dsimp only
      rw [e4, e3]
      refine wpAny_bind (wpAny_holding (wpAny_dictPut_pairs e2 d2 (fun hp3 d3 sb3 => ?_) room))
      refine wpAny_bind (wpAny_dictEpoch ((sb3.2 o (Ne.symm hdo)).trans hx2) hxd ?_)
      rw [if_neg (by simp)]
      refine wpAny_pure ⟨rfl, hp3, rfl, ?_, sb.trans sb3⟩
      rw [merged, List.foldl_append]
      exact d3
    · obtain ⟨hp2, rfl, d2, sb⟩ := hP
      exact wpAny_pure (hQ hp2 d2 (ho.sameBut sb (Ne.symm hdo)) sb)
  split
  · refine wpAny_bind (wpAny_dictEntries hx hxd (wpAny_bind ?_))
    rw [← Array.forIn_toList]
    refine idle_loop main _ fun e he => ?_
    split
    · rename_i a ea
      exact absurd ea (hnr' e he a)
    · rfl
  · exact main
end
end MM

set_option Elab.async false
set_option linter.all false
set_option maxRecDepth 100000
set_option maxHeartbeats 4000000
/-! M30: {**d, k: v} -/
namespace MM
open PySem PySem.Spec PyProof.Rows L2 PySem.W
section
variable {X : Cx} {e0 kx vx : Expr} {pos : Pos} {td tk tv : TE}
theorem mix_nr {P : Program} {w : World} : ∀ (k : Key) (key : Value), (mixKind P w).is k key = true → ∀ a, key ≠ .ref a := fun k key h a e => by
  subst e
  have h' : keyIs k (.ref a) = true := h
  cases k <;> cases h'
/-- {**e0, kx: vx}: keys ints and texts -/
def tStar1 (td tk tv : TE) : TE := fun σ H Q => ∀ p, H p = none → td σ (upd H p (.dK [])) fun x H1 => ∃ a kvs, x = .ref a ∧ a ≠ p ∧ H1 p = some (.dK []) ∧ Rd H1 a (.dK kvs) ∧ kvs.length < sizeLine ∧
  ∀ p2, upd H1 p (.dK (mergeK [] kvs)) p2 = none → tk σ (upd (upd H1 p (.dK (mergeK [] kvs))) p2 (.dK [])) fun y H2 => tv σ H2 fun z H3 => ∃ k, y = kV k ∧ H3 p = some (.dK (mergeK [] kvs)) ∧ H3 p2 = some (.dK []) ∧
    Q (.ref p) (upd (upd H3 p2 (.dK [(k, z)])) p (.dK (putK (mergeK [] kvs) k z)))
theorem pe_star1 (h0 : PE X e0 td) (hk : PE X kx tk) (hv : PE X vx tv) : PE X (.Dict [none, some kx] [e0, vx] pos) (tStar1 td tk tv) := by
  refine ⟨fun pins s σ H Q I q => ?_⟩
  rw [arm_eval_Dict]
  refine wpAny_bind (wpAny_standAt ?_)
  show wpAny _ _ (dictDisplay [(none, do let x ← eval e0 X.env; standAt pos; pure x), (some (eval kx X.env), do let x ← eval vx X.env; standAt pos; pure x)]) _ _ _
  unfold dictDisplay
  simp only [List.forIn_cons, List.forIn_nil]
  refine wpAny_bind (wpAny_bind (wpAny_bind ?_))
  rw [if_pos (show ([] : List (Sem Value × Sem Value)).isEmpty = true from rfl)]
  refine wpAny_pure ?_
  dsimp only
  refine wpAny_bind (wpAny_alloc ?_)
  have hn := I.hok.fresh (Nat.le_refl s.heap.objs.size)
  have I1 := I.laid (a := s.heap.objs.size) (o := .dK []) (h' := s.heap.push { cls := .type "dict", data := .dict #[] }) (t' := s.toks) (fun _ _ q => Heap.get?_push_of_some _ q) (Nat.le_refl _) (dk_empty s.heap I.big)
  generalize hp : s.heap.objs.size = p at *
  refine wpAny_bind (wpAny_holding (wpAny_bind (thn (h0.run pins _ σ _ _ I1 (q _ hn)) fun u s2 ⟨x, H1, I2, rx, a, kvs, ex, nap, hp1, rd, hsz, q2⟩ => wpAny_bind (wpAny_standAt (wpAny_pure ?_)))))
  subst ex
  obtain rfl : u = Value.ref a := rx
  obtain ⟨_, hdp, vs0, r0, dd0⟩ := dk_of I2.hok hp1
  cases r0
  obtain ⟨_, hda, vs, r1, dd1⟩ := dk_rd I2.hok rd
  have hlen : vs.length = kvs.length := r1.length.symm
  refine wpAny_bind (wpAny_onRaise (wpAny_tryCatch (wpAny_onRaise (wpAny_holding (wpAny_mergeMapping (knd := mixKind X.prog X.w) (Ne.symm nap) hda dd0 dd1 mix_nr (fun h1 m1 _ hs1 => ?_) (by rw [List.length_nil, hlen]; omega))))))
  have hz : (mergeK [] kvs).length ≤ sizeLine := Nat.le_trans (length_mergeK kvs []) (by rw [List.length_nil]; omega)
  have he1 : ∃ q, h1.get? p = some q := let ⟨q, _, _, hq, _⟩ := m1; ⟨q, hq⟩
  have I3 := d_write (t' := s2.toks) I2 (ob := .dK (mergeK [] kvs)) (by rw [hp1]; exact True.intro) hs1 he1 (dk_new hz hdp (r1.merge .nil) m1)
  refine wpAny_pure ?_
  dsimp only
  have e17 : ((([] : List (Sem Value × Sem Value)) ++ [(eval kx X.env, (do let x ← eval vx X.env; standAt pos; pure x : Sem Value))]).length == 17) = false := rfl
  rw [e17]
  rw [if_neg (by decide)]
  refine wpAny_bind (wpAny_pure ?_)
  dsimp only
  refine wpAny_pure ?_
  dsimp only
  rw [if_neg (by intro z; cases z)]
  refine wpAny_bind (wpAny_bind (wpAny_holding (wpAny_subDict (knd := mixKind X.prog X.w) (Nat.succ_le_succ (Nat.zero_le _)) ?_)))
  have hn2 := I3.hok.fresh (Nat.le_refl h1.objs.size)
  have I4 := I3.laid (a := h1.objs.size) (o := .dK []) (h' := h1.push { cls := .type "dict", data := .dict #[] }) (t' := s2.toks) (fun _ _ q => Heap.get?_push_of_some _ q) (Nat.le_refl _) (dk_empty h1 I3.big)
  dsimp only
  generalize hp2 : h1.objs.size = p2 at *
  have q3 := q2 p2 hn2
  refine evalPairs_cons (thn (hk.run pins _ σ _ _ I4 q3) fun yu s3 ⟨y, H2, I5, ry, q4⟩ => thn (wpAny_bind (thn (hv.run pins _ σ _ _ I5 q4) fun zu s4 hz4 => wpAny_bind (wpAny_standAt (wpAny_pure (Q := fun zu s4 => EP X pins σ _ zu s4) hz4)))) fun zu s4 ⟨z, H3, I6, rz, k, ey, hq, hq2, q5⟩ => evalPairs_nil ?_)
  subst ey
  have kk := kV_is (P := X.prog) (w := X.w) ry
  obtain ⟨_, hd2, vs2, r2, dd2⟩ := dk_of I6.hok hq2
  cases r2
  refine ⟨[(k, zu)], ⟨kk, rfl, trivial⟩, dd2, fun h2 m2 hs2 => ?_⟩
  have he2 : ∃ q, h2.get? p2 = some q := let ⟨q, _, _, hq, _⟩ := m2; ⟨q, hq⟩
  have I7 := d_write (t' := s4.toks + [(yu, zu)].length) I6 (ob := .dK [(k, z)]) (by rw [hq2]; exact True.intro) hs2 he2 (dk_new (by rw [sizeLine_eq]; show 1 ≤ 16777216; decide) hd2 (.cons ⟨rfl, rz⟩ .nil) m2)
  have ne : p ≠ p2 := fun e => by
    subst e
    rw [upd_same] at hn2; cases hn2
  have hq3 : upd H3 p2 (.dK [(k, z)]) p = some (.dK (mergeK [] kvs)) := by rw [upd_ne ne]; exact hq
  obtain ⟨_, hdp3, vs3, r3, dd3⟩ := dk_of I7.hok hq3
  obtain ⟨_, hd4, vs4, r4, dd4⟩ := dk_of I7.hok (upd_same (H := H3) (a := p2) (o := .dK [(k, z)]))
  have hl3 : vs3.length = (mergeK [] kvs).length := r3.length.symm
  have hl4 : vs4.length = 1 := r4.length.symm
  have hm := length_mergeK kvs []
  rw [List.length_nil] at hm
  refine wpAny_bind (wpAny_onRaise (wpAny_holding (wpAny_mergeMapping (knd := mixKind X.prog X.w) ne hd4 dd3 dd4 mix_nr (fun h3 m3 _ hs3 => ?_) (by rw [hl3, hl4]; omega))))
  have he3 : ∃ q, h3.get? p = some q := let ⟨q, _, _, hq, _⟩ := m3; ⟨q, hq⟩
  have I8 := d_write (t' := s4.toks + [(yu, zu)].length) I7 (ob := .dK (putK (mergeK [] kvs) k z)) (by rw [hq3]; exact True.intro) hs3 he3 (dk_new ?_ hdp3 (KV.merge (more := [(k, z)]) r4 r3) m3)
  · exact wpAny_pure (wpAny_pure ⟨.ref p, _, I8, rfl, q5⟩)
  · have e1 := length_putK (mergeK [] kvs) k z
    show (putK (mergeK [] kvs) k z).length ≤ sizeLine
    omega
end
section
variable {X : Cx} {S : Su} {W : WX} {e0 kx vx : Expr} {pos : Pos}
def starK (g h : En → R Tk) (e1 : En) : D → R Tk
  | .dct kvs => if kvs.length < 16777216 then (g e1).bind fun t e2 => match (pk t e2).bind keyD with
    | some k => (h e2).bind fun u e3 => (frc u e3).bind fun d e4 => .ok (.nw (.dct (putD (kvs.foldl (fun a kv => putD a kv.1 kv.2) []) k d))) e4
    | none => .no
    else .no
  | _ => .no
def mStar1 (f g h : En → R Tk) (e : En) : R Tk := (f e).bind fun t e1 => (frc t e1).bind fun d e2 => starK g h e2 d
theorem hold1 {O : Addr → Prop} {F H : Hp} {σ : L2.St} {env : En} {a : Addr} {u : HO} (w : Wf X.K X.mg S O F H σ env) (hf : F a = none) (hH : H a = some u) (hn : ¬ Own σ env a) (hnt : nt u = true := by rfl) : Wf X.K X.mg S (fun b => O b ∨ b = a) F H σ env := w.more fun b q => by
  rcases q with q | rfl
  · exact .inl q
  · exact .inr ⟨⟨_, hH, hnt⟩, hn, fun ks z => by rw [hf] at z; cases z⟩
theorem trSet {O : Addr → Prop} {F H : Hp} {a : Addr} {u : HO} (hO : ¬ O a) : Tr O F H F (upd H a u) := ⟨Sub.rfl', fun b q => upd_ne fun e => hO (e ▸ q), fun _ _ => rfl, fun b v q => by
  by_cases e : b = a
  · subst e; exact ⟨_, upd_same⟩
  · exact ⟨v, by rw [upd_ne e]; exact q⟩⟩
theorem me_star1 {f g h : En → R Tk} (h0 : ME X S W e0 f) (hk : ME X S W kx g) (hv : ME X S W vx h) : ME X S W (.Dict [none, some kx] [e0, vx] pos) (mStar1 f g h) := (pe_star1 h0 hk hv).wk fun σ H Q ⟨F, env, O, w, p⟩ => fun a ha => by
  have nO : ¬ O a := w.nO ha
  have w1 := w.new ha (.dK [])
  have t1 := Tr.new w ha (.dK [])
  have w2 := hold1 w1 (w.gone ha) upd_same (w.nOwn ha)
  refine ⟨F, env, _, w2, PostE.mono (PostE.wide (O' := fun b => O b ∨ b = a) (PostE.on (PostE.bind p) t1) fun b q => .inl q) fun F1 H1 e1 t _ _ ⟨t2, w3, q⟩ v tk => ?_⟩
  -- its data, frozen
  have tk' : TkOk X.K X.mg O F1 H1 σ e1 v t := by
    cases t with
    | val d => exact tk
    | nm i => exact tk
    | nw d => obtain ⟨b, o, e, hf, hn, hO, z⟩ := tk; exact ⟨b, o, e, hf, hn, fun y => hO (.inl y), z⟩
  obtain ⟨F2, e2, d, t3, w4, rd, fe, q2⟩ := frc_ok w3 tk (PostE.wide (O' := fun b => O b ∨ b = a) q fun b q => .inl q)
  cases d <;> first | exact q2.elim | skip
  rename_i kvs
  cases rd with
  | @dct ad ks _ hF rk =>
    have hf2 : F2 a = none := ((t2.trans t3).fr a (.inr rfl)).trans (w.gone ha)
    have hH2 : H1 a = some (.dK []) := ((t2.trans t3).kp a (.inr rfl)).trans upd_same
    have nea : ad ≠ a := fun e => by subst e; rw [hf2] at hF; cases hF
    have ht : Tr O F (upd H a (.dK [])) F2 H1 := (t2.trans t3).weak fun b q => .inl q
    -- what is wanted of the rest
    rw [fe] at q
    have q3 : PostE X.K X.mg S O W F2 H1 σ (starK g h e2 (.dct kvs)) (fun F' H' e' t => ∀ v, TkOk X.K X.mg O F' H' σ e' v t → Q v H') := PostE.on q (t3.weak fun b q => .inl q)
    unfold starK at q3
    simp only at q3
    split at q3
    · rename_i hlen
      refine ⟨ad, ks, rfl, nea, hH2, w4.rd hF, by rw [rk.length, sizeLine_eq]; exact hlen, fun p2 hp2 => ?_⟩
      have w5 : Wf X.K X.mg S (fun b => O b ∨ b = a) F2 (upd H1 a (.dK (mergeK [] ks))) σ e2 := w4.setD hf2 hH2 (fun _ z => nomatch z) fun z => w4.ow a z (.inr rfl)
      have ne2 : p2 ≠ a := fun e => by subst e; rw [upd_same] at hp2; cases hp2
      have w6 := w5.new hp2 (.dK [])
      have w7 := hold1 w6 (w5.gone hp2) upd_same (w5.nOwn hp2)
      have t5 : Tr O F2 H1 F2 (upd (upd H1 a (.dK (mergeK [] ks))) p2 (.dK [])) := (trSet nO).trans (trSet fun z => w5.nO hp2 (.inl z))
      refine ⟨F2, e2, _, w7, PostE.mono (PostE.wide (O' := fun b => (O b ∨ b = a) ∨ b = p2) (PostE.on (PostE.bind q3) t5) fun b q => .inl (.inl q)) fun F3 H3 e3 u _ _ ⟨t6, w8, q4⟩ y tky => ?_⟩
      cases z : (pk u e3).bind keyD with
      | none => rw [z] at q4; exact q4.elim
      | some k =>
        rw [z] at q4
        obtain ⟨dk, z1, z2⟩ := Option.bind_eq_some_iff.mp z
        have ek := keyD_ok (pk_ok w8 tky z1) z2
        refine ⟨F3, e3, _, w8, PostE.mono (PostE.wide (O' := fun b => (O b ∨ b = a) ∨ b = p2) (PostE.bind q4) fun b q => .inl (.inl q)) fun F4 H4 e4 uv _ _ ⟨t7, w9, q5⟩ z3 tkz => ?_⟩
        obtain ⟨F5, e5, d5, t8, w10, rd5, fe5, _⟩ := frc_ok (W := fun _ _ _ _ => True) (k := fun _ _ _ _ => True) (f := fun d e => R.ok d e) w9 tkz (by
          cases hh : frc uv e4 with
          | no => rw [hh] at q5; exact q5.elim
          | ok _ _ => exact fun _ _ _ _ => trivial
          | er _ _ _ => exact fun _ _ _ _ _ _ _ => trivial)
        rw [fe5] at q5
        have tt := (t6.trans t7).trans t8
        have ha4 : H4 a = some (.dK (mergeK [] ks)) := (tt.kp a (.inl (.inr rfl))).trans (by rw [upd_ne ne2.symm, upd_same])
        have hp4 : H4 p2 = some (.dK []) := (tt.kp p2 (.inr rfl)).trans upd_same
        have hfa : F5 a = none := (tt.fr a (.inl (.inr rfl))).trans hf2
        have hfp : F5 p2 = none := (tt.fr p2 (.inr rfl)).trans (w5.gone hp2)
        refine ⟨k, ek, ha4, hp4, ?_⟩
        have w11 := w10.setD (o' := .dK [(k, z3)]) hfp hp4 (fun _ z => nomatch z) fun z => w10.ow p2 z (.inr rfl)
        have ha5 : upd H4 p2 (.dK [(k, z3)]) a = some (.dK (mergeK [] ks)) := by rw [upd_ne ne2.symm]; exact ha4
        have w12 := w11.setD (o' := .dK (putK (mergeK [] ks) k z3)) hfa ha5 (fun _ z => nomatch z) fun z => w10.ow a z (.inl (.inr rfl))
        have w13 := w12.weak (O := O) fun b q => .inl (.inl q)
        have t9 : Tr O F4 H4 F5 (upd (upd H4 p2 (.dK [(k, z3)])) a (.dK (putK (mergeK [] ks) k z3))) := (t8.weak fun b q => .inl (.inl q)).trans ((trSet fun z => w5.nO hp2 (.inl z)).trans (trSet nO))
        have q6 : PostE X.K X.mg S O W F4 H4 σ (.ok (.nw (.dct (putD (kvs.foldl (fun a kv => putD a kv.1 kv.2) []) k d5))) e5) (fun F' H' e' t => ∀ v, TkOk X.K X.mg O F' H' σ e' v t → Q v H') := q5
        exact q6 _ _ t9 w13 (.ref a) ⟨a, _, rfl, hfa, fun z => w10.ow a z (.inl (.inr rfl)), nO, upd_same, .dct ((repK_fold (rk.mono tt.fz) .nil).put k rd5)⟩
    · exact q3.elim
end
end MM

set_option Elab.async false
set_option linter.all false
set_option maxRecDepth 100000
set_option maxHeartbeats 4000000
/-! M31: d == e, dicts of plain values. -/
namespace MM
open PySem PySem.Spec PyProof.Rows L2 PySem.W
section
variable {X : Cx} {S : Su} {W : WX}
def eqKV (ks ls : List (Key × V)) : Bool := ks.length == ls.length && ks.all fun p => match valV ls p.1 with
  | some v => eqV p.2 v
  | none => false
def rEqDG : R2 := fun x y H Q => ∃ a b ks ls, x = .ref a ∧ y = .ref b ∧ Rd H a (.dK ks) ∧ Rd H b (.dK ls) ∧ (ks.all fun p => flatV p.2) = true ∧ (ls.all fun p => flatV p.2) = true ∧ Q (.bl (eqKV ks ls)) H
theorem KV.keys {ks : List (Key × V)} {vs : List (Key × Value)} (r : KV ks vs) : ks.map (·.1) = vs.map (·.1) := by
  unfold KV at r
  induction r with
  | nil => rfl
  | cons h _ ih => simp [h.1, ih]
theorem KV.mem {ks : List (Key × V)} {vs : List (Key × Value)} (r : KV ks vs) : ∀ {k : Key} {v : Value}, (k, v) ∈ vs → ∃ x, (k, x) ∈ ks ∧ RelV x v := by
  unfold KV at r
  induction r with
  | nil => intro k v h; cases h
  | @cons p q ps qs h t ih =>
    intro k v hm
    rcases List.mem_cons.mp hm with e | hm
    · have e1 : k = q.1 := congrArg Prod.fst e
      have e2 : v = q.2 := congrArg Prod.snd e
      refine ⟨p.2, ?_, by rw [e2]; exact h.2⟩
      rw [e1, ← h.1]
      exact List.mem_cons_self ..
    · obtain ⟨x, hx, hr⟩ := ih hm
      exact ⟨x, List.mem_cons_of_mem _ hx, hr⟩
theorem valV_flat {ls : List (Key × V)} (f : (ls.all fun p => flatV p.2) = true) {k : Key} {v : V} (h : valV ls k = some v) : flatV v = true := by
  unfold valV at h
  obtain ⟨p, hp, rfl⟩ := Option.map_eq_some_iff.mp h
  exact List.all_eq_true.mp f p (List.mem_of_find?_eq_some hp)
theorem op_eq_dictG (hu : X.A.units + 2 < cLine) : OpR X (compareOp .Eq) rEqDG := by
  intro pins s σ H x y v u Q I rx ry h
  obtain ⟨a, b, ks, ls, rfl, rfl, ea, eb, fa, fb, q⟩ := h
  obtain rfl : v = Value.ref a := rx
  obtain rfl : u = Value.ref b := ry
  obtain ⟨_, ya, va, ra, da⟩ := dk_rd I.hok ea
  obtain ⟨_, yb, vb, rb, db⟩ := dk_rd I.hok eb
  let e : Key → Bool := fun k => match valV ks k, valV ls k with
    | some x, some z => eqV x z
    | _, _ => false
  have nda : (ks.map (·.1)).Nodup := by
    obtain ⟨_, _, _, _, _, _, _, _, hn⟩ := da
    rw [KV.keys ra]; exact hn
  have val1 : ∀ {k : Key} {x : V}, (k, x) ∈ ks → valV ks k = some x := fun {k x} hm => val_nodup nda (k, x) hm
  refine eq_dictsT (knd := mixKind X.prog X.w) (n := 0) (e := e) ya yb da db (fun k v y hm hv => ?_) (by omega) (fin_bl I q ?_)
  · obtain ⟨x, hx, rx⟩ := KV.mem ra hm
    have r2 := rb.val k
    rw [hv] at r2
    cases hz : valV ls k with
    | none => rw [hz] at r2; exact absurd r2 (by simp [RelO])
    | some z =>
      rw [hz] at r2
      have ez : e k = eqV x z := by show (match valV ks k, valV ls k with | some x, some z => eqV x z | _, _ => false) = _; rw [val1 hx, hz]
      rw [ez]
      exact .leaf fun A hA => eqAt_V rx r2 (List.all_eq_true.mp fa (k, x) hx) (valV_flat fb hz)
  · unfold eqKV
    rw [ra.length, rb.length]
    congr 1
    have go : ∀ {ks' : List (Key × V)} {va' : List (Key × Value)}, KV ks' va' → (∀ p ∈ ks', valV ks p.1 = some p.2) → (ks'.all fun p => match valV ls p.1 with
        | some v => eqV p.2 v
        | none => false) = va'.all fun p => (valueAt vb p.1).isSome && e p.1 := by
      intro ks' va' r
      unfold KV at r
      induction r with
      | nil => intro _; rfl
      | @cons p q ps qs h t ih =>
        intro hp
        rw [List.all_cons, List.all_cons, ih fun p' hm => hp p' (List.mem_cons_of_mem _ hm)]
        congr 1
        have h1 : q.1 = p.1 := h.1.symm
        rw [h1]
        have rv := rb.val p.1
        have pv := hp p (List.mem_cons_self ..)
        cases z : valV ls p.1 with
        | none =>
          rw [z] at rv
          have : valueAt vb p.1 = none := RelO.none_of rv
          rw [this]; rfl
        | some v =>
          rw [z] at rv
          obtain ⟨y, hy, _⟩ := rv.some_of
          have e1 : e p.1 = eqV p.2 v := by show (match valV ks p.1, valV ls p.1 with | some x, some z => eqV x z | _, _ => false) = _; rw [pv, z]
          rw [hy, e1]; rfl
    exact go ra fun p hm => val_nodup nda p hm
def eqKD (ks ls : List (Key × D)) : Bool := ks.length == ls.length && ks.all fun p => match valD ls p.1 with
  | some v => eqF p.2 v
  | none => false
def dEqK : D → D → Option Tk
  | .dct ks, .dct ls => if (ks.all fun p => p.2.flat) = true ∧ (ls.all fun p => p.2.flat) = true then some (.val (.bl (eqKD ks ls))) else none
  | _, _ => none
theorem RepK.flat {K : Frag} {mg : Str → Option Value} {F : Hp} : ∀ {ks : List (Key × D)} {vs : List (Key × V)}, RepK K mg F ks vs → (ks.all fun p => p.2.flat) = true → (vs.all fun p => flatV p.2) = true
  | _, _, .nil, _ => rfl
  | _, _, .cons h r, f => by
    rw [List.all_cons, Bool.and_eq_true] at f ⊢
    exact ⟨h.flat f.1, RepK.flat r f.2⟩
theorem RepK.eqK {K : Frag} {mg : Str → Option Value} {F : Hp} {ls : List (Key × D)} {us : List (Key × V)} (r2 : RepK K mg F ls us) (f2 : (ls.all fun p => p.2.flat) = true) : ∀ {ks : List (Key × D)} {vs : List (Key × V)}, RepK K mg F ks vs → (ks.all fun p => p.2.flat) = true → (vs.all fun p => match valV us p.1 with
    | some v => eqV p.2 v
    | none => false) = ks.all fun p => match valD ls p.1 with
    | some v => MM.eqF p.2 v
    | none => false
  | _, _, .nil, _ => rfl
  | _, _, .cons (k := k) h r, f => by
    rw [List.all_cons, Bool.and_eq_true] at f
    rw [List.all_cons, List.all_cons, RepK.eqK r2 f2 r f.2]
    congr 1
    rcases r2.val k with ⟨n1, n2⟩ | ⟨d, v, h1, h2, h3⟩
    · simp only [n1, n2]
    · simp only [h1, h2]
      have fd : d.flat = true := by
        unfold valD at h1
        obtain ⟨p, hp, rfl⟩ := Option.map_eq_some_iff.mp h1
        exact List.all_eq_true.mp f2 p (List.mem_of_find?_eq_some hp)
      exact h.eqF h3 f.1 fd
theorem pop_eqK : Pop2 X S W rEqDG dEqK := fun F H σ env O v u x y t Q w k1 k2 e p => by
  cases x <;> first | (cases e; done) | skip
  cases y <;> first | (cases e; done) | skip
  rename_i ks ls
  simp only [dEqK] at e
  split at e
  · rename_i hf
    cases e
    obtain ⟨p1, vs, e1, h1, r1⟩ := k1.dct w
    obtain ⟨p2, us, e2, h2, r2⟩ := k2.dct w
    refine ⟨p1, p2, vs, us, e1, e2, h1, h2, r1.flat hf.1, r2.flat hf.2, ?_⟩
    have : eqKV vs us = eqKD ks ls := by
      unfold eqKV eqKD
      rw [r1.length, r2.length, r2.eqK hf.2 r1 hf.1]
    rw [this]
    exact flatE w p (.bl _)
  · cases e
theorem lt62 {n c : Nat} (h : n + 64 < c) : n + 2 < c := by omega
theorem o_eqK (hu : X.A.units + 2 < cLine) : OpM X S W (compareOp .Eq) (pop2 dEqK) := .of (op_eq_dictG hu) pop_eqK.op
/-- one of two readings, by what the frame holds -/
def mPick {α : Type} (c : En → Bool) (f g : En → R α) (e : En) : R α := bif c e then f e else g e
def isDctAt (i : Nat) (e : En) : Bool := match (e[i]?).bind Sl.pk with
  | some (.dct _) => true
  | _ => false
theorem me_pick {e : Expr} (c : En → Bool) {f g : En → R Tk} (h1 : ME X S W e f) (h2 : ME X S W e g) : ME X S W e (mPick c f g) := (PE.or h1 h2).wk fun σ H Q ⟨F, env, O, w, p⟩ => by
  unfold mPick at p
  cases z : c env with
  | true => rw [z] at p; exact .inl ⟨F, env, O, w, p⟩
  | false => rw [z] at p; exact .inr ⟨F, env, O, w, p⟩
theorem ms_pick {st : Stmt} (c : En → Bool) {f g : En → R Fl} (h1 : MS X S W st f) (h2 : MS X S W st g) : MS X S W st (mPick c f g) := (L2.PS.or h1 h2).wk fun E0 σ H ⟨F, env, O, w, p⟩ => by
  unfold mPick at p
  cases z : c env with
  | true => rw [z] at p; exact .inl ⟨F, env, O, w, p⟩
  | false => rw [z] at p; exact .inr ⟨F, env, O, w, p⟩
end
end MM

set_option Elab.async false
set_option linter.all false
set_option maxRecDepth 100000
set_option maxHeartbeats 4000000
/-! M32: len(o), o of an own class. -/
namespace MM
open PySem PySem.Spec PyProof.Rows L2
open Builtin in
theorem len_inst {prog : Program} {w : World} {A : Around} {E : Value → Shared → Prop} {s : Shared} {K : PySem.W.Frag} {x C f : Addr} {ox : Obj} {od : Option Obj} {Q : Value → Shared → Prop} (X : K.In s.heap) (I : PySem.W.InstAt s.heap x ox C od)
    (hs : PySem.W.findIn K (.ref C) "__len__" = some (some (.ref f))) (hf : PySem.W.isFn K (.ref f) = true)
    (hcall : wpAny (model prog w) A.in1 (call (.ref f) [.ref x]) (fun r s' => ∃ n u, r = .int n u ∧ 0 ≤ n ∧ n < 2 ^ 63 ∧ Q (.int n s'.toks) { s' with toks := s'.toks + 1 }) E s) :
    wpAny (model prog w) A (call (.builtin "len") [.ref x]) Q E s := by
  have told : wpAny (model prog w) A.in1 (callSpecial? (.ref x) (Str.ofString "__len__")) (fun o s' => ∃ n u, o = some (.int n u) ∧ 0 ≤ n ∧ n < 2 ^ 63 ∧ Q (.int n s'.toks) { s' with toks := s'.toks + 1 }) E s :=
    PySem.W.special_fn X I hs (eq_of_beq hf) (wpAny_mono hcall (fun _ _ ⟨n, u, e, q⟩ => ⟨n, u, congrArg some e, q⟩) fun _ _ e => e)
  refine Calls.call_function_entry kind_len plain_len entry_len (args_len1 _) fun Γ p hΓ => ?_
  rw [Builtin.«len», show oneArg "len" ⟨[.ref x], []⟩ = pure (.ref x) from rfl]
  simp only [Sem.wp_bind', Sem.wp_pure']
  refine Sem.wp_mono _ _ _ ?_ (fun _ _ _ e => e) p s (told Γ p hΓ)
  rintro _ p' s' ⟨n, u, rfl, lo, hi, q⟩
  have e1 : ¬ n < 0 := by omega
  have e2 : ¬ n ≥ 2 ^ 63 := by omega
  simp only [asIndex, asInt?, letGo, retInt, Sem.wp_bind', Sem.wp_pure', Sem.wp_holding, Sem.wp_cmd_point, Sem.wp_cmd_mkInt, Sem.wp_cmd_ret, e1, e2, if_false]
  exact ⟨_, rfl, q⟩
section
variable {X : Cx} {S : Su} {W : WX} {a : Expr} {pos p : Pos} {k : Nat} {f C : Addr} {m : En → R Tk} {c : Str}
def rLenO (K : PySem.W.Frag) (mg : Str → Option Value) (m : En → R Tk) (C : Addr) (xs : List V) (H : Hp) (Q : VK) : Prop := ∃ x dx fs, xs = [V.ref x] ∧ H x = some (.ins C dx fs) ∧ SpM K mg 1 m [.ref x] H (fun v H' => ∃ n : Int, v = .int n ∧ 0 ≤ n ∧ n < 2 ^ 63 ∧ Q v H') (fun _ _ _ => False)
theorem call_lenO (o : OwnF1 X c "__len__" C f k m) (hr : Rm (k + 1) X.A) : CallR X (.builtin "len") (rLenO X.K X.mg m C) := fun pins s σ H xs us Q I rv q => by
  obtain ⟨x, dx, fs, rfl, hx, hq⟩ := q
  obtain ⟨u, rfl, rx⟩ : ∃ u, us = [u] ∧ RelV (.ref x) u := by
    cases rv with
    | cons h t => cases t; exact ⟨_, rfl, h⟩
  obtain rfl : u = Value.ref x := rx
  obtain ⟨mA, J, _⟩ := ins_get I.hok hx
  obtain ⟨od, J, _⟩ := J.look
  obtain ⟨fd, ps, Fn, hb⟩ := o.ok
  have In := I.kIn
  refine len_inst In J o.at_ o.fn (wpAny_call ?_)
  obtain ⟨its, rd, bt⟩ := hb.ex
  cases rd
  have r2 := pick_vals (ix := [.p 0]) (.cons (show RelV (.ref x) (Value.ref x) from rfl) .nil) .nil (show Vals [] [] from .nil)
  refine codeAny_mono (Fn.run X.A.in1 X.stack s H ⟨[.ref x], []⟩ _ _ _ _ hr.in1 I.env0.in1 (bt s [.ref x] [] In rfl rfl) r2 hq) fun r s' hp => ?_
  cases r with
  | error e => obtain ⟨_, _, _, _, _, _, _, _, _, _, _, _, z⟩ := hp; exact z.elim
  | ok fl =>
    cases fl <;> first | exact False.elim hp | skip
    rename_i u
    obtain ⟨v, H', I3, rv, n, rfl, h0, h1, q3⟩ := I.after hp
    obtain ⟨t, rfl⟩ := (show ∃ t, u = Value.int n t from rv)
    exact ⟨n, t, rfl, h0, h1, .int n, H', I3.tok _, ⟨_, rfl⟩, q3⟩
def lenR : R Tk → R Tk
  | .ok (.val (.int n)) e => if 0 ≤ n ∧ n < 4000000000 then .ok (.val (.int n)) e else .no
  | _ => .no
def mLenO (c : Str) (m : En → R Tk) (f : En → R Tk) (e : En) : R Tk := (f e).bind fun t e1 => (mAr false t e1).bind fun a e2 => bif isRecv c "__len__" (arD e2 a) then lenR (callS m [a] e2) else .no
theorem lenR_post {K : PySem.W.Frag} {mg : Str → Option Value} {O : Addr → Prop} {W' : WX} {F H : Hp} {σ : L2.St} {r : R Tk} {Q : VK} (q : PostE K mg S O W F H σ (lenR r) (fun F' H' e' t => ∀ v, TkOk K mg O F' H' σ e' v t → Q v H')) :
    PostE K mg S O W' F H σ r (fun F' H' e' t => ∀ v, TkOk K mg O F' H' σ e' v t → ∃ n : Int, v = .int n ∧ 0 ≤ n ∧ n < 2 ^ 63 ∧ Q v H') := by
  cases r with
  | no => exact q.elim
  | er _ _ _ => exact q.elim
  | ok t e =>
    cases t with
    | nw d => exact q.elim
    | nm i => exact q.elim
    | val d =>
      cases d <;> first | exact q.elim | skip
      rename_i n
      simp only [lenR] at q
      split at q
      · rename_i hn
        intro F' H' t1 w1 v tk
        have tk' : Rep K mg F' (.int n) v := tk
        cases tk'
        exact ⟨n, rfl, hn.1, by omega, q F' H' t1 w1 _ (.int n)⟩
      · exact q.elim
theorem me_lenO (o : OwnF1 X c "__len__" C f k m) (hr : Rm (k + 1) X.A) (hg : Gl X "len") (hm : X.mg "len" = none) {fa : En → R Tk} (ha : ME X S W a fa) (hs : starEach (a :: []) X.env = (false, eval a X.env) :: starEach [] X.env := by rfl) : ME X S W (.Call (.Name "len" p) [a] [] pos) (mLenO c m fa) :=
  (pe_callB (call_lenO o hr) hg hm boot_len' (pa_cons ha pa_nil hs) (by decide) (by decide) hs).wk fun σ H Q ⟨F, env, O, w, p⟩ => by
    refine ⟨F, env, O, w, PostE.mono (PostE.bind p) fun F1 H1 e1 t t1 w1 q v tk => ?_⟩
    obtain ⟨F2, e2, a, t2, w2, ra, q2⟩ := mAr_ok w1 tk q
    cases z : isRecv c "__len__" (arD e2 a) with
    | false => rw [z] at q2; exact q2.elim
    | true =>
      rw [z] at q2
      obtain ⟨p1, dx, vs, e3, e5, e6⟩ := recv_ok o.hC w2 ra z
      subst e3
      exact ⟨p1, dx, vs, rfl, e5, call_ok (W := fun _ _ _ _ => False) w2 ra rfl o.good (lenR_post q2)⟩
end
end MM

set_option Elab.async false
set_option linter.all false
set_option maxRecDepth 100000
set_option maxHeartbeats 4000000
/-! M33: a dict of the frame's own that is only read by a piece; lists that are changed where they come to be. -/
namespace MM
open PySem PySem.Spec PyProof.Rows L2
mutual
/-- no dict in it -/
def D.nd : D → Bool
  | .non => true
  | .bl _ => true
  | .int _ => true
  | .str _ => true
  | .lst ds => ndL ds
  | .frl ds => ndL ds
  | .tup ds => ndL ds
  | .dct _ => false
  | .dcT _ => false
  | .ins _ fs => ndF fs
  | .cls _ => true
  | .exn0 _ => false
  | .exn1 _ _ _ => false
def ndL : List D → Bool
  | [] => true
  | d :: ds => d.nd && ndL ds
def ndF : List (Str × D) → Bool
  | [] => true
  | (_, d) :: ds => d.nd && ndF ds
end
def ndK : List (Key × D) → Bool
  | [] => true
  | kd :: ds => kd.2.nd && ndK ds
/-- .. below the top -/
def D.ndT : D → Bool
  | .dct kvs => ndK kvs
  | d => d.nd
def del (F : Hp) (p : Addr) : Hp := fun a => if a = p then none else F a
theorem del_self {F : Hp} {p : Addr} : del F p p = none := if_pos rfl
theorem del_ne {F : Hp} {p a : Addr} (h : a ≠ p) : del F p a = F a := if_neg h
theorem del_some {F : Hp} {p a : Addr} {u : HO} (h : del F p a = some u) : a ≠ p ∧ F a = some u := by
  by_cases e : a = p
  · subst e; rw [del_self] at h; cases h
  · rw [del_ne e] at h; exact ⟨e, h⟩
section
variable {K : PySem.W.Frag} {mg : Str → Option Value} {F : Hp} {p : Addr} {ks : List (Key × V)}
theorem ne_of_kind {a : Addr} {u : HO} (hp : F p = some (.dK ks)) (h : F a = some u) (hu : u ≠ .dK ks) : a ≠ p := fun e => by
  subst e; rw [hp] at h; exact hu (Option.some.inj h).symm
theorem sqL_del {a : Addr} {xs : List V} (hp : F p = some (.dK ks)) (h : SqL K F a xs) : SqL K (del F p) a xs := by
  rcases h with (h | ⟨o, h⟩) | h
  · exact .inl (.inl (by rw [del_ne (ne_of_kind hp h fun z => nomatch z)]; exact h))
  · exact .inl (.inr ⟨o, by rw [del_ne (ne_of_kind hp h fun z => nomatch z)]; exact h⟩)
  · exact .inr h
theorem sqT_del {a : Addr} {xs : List V} (hp : F p = some (.dK ks)) (h : SqT K F a xs) : SqT K (del F p) a xs := by
  rcases h with (h | ⟨o, h⟩) | h
  · exact .inl (.inl (by rw [del_ne (ne_of_kind hp h fun z => nomatch z)]; exact h))
  · exact .inl (.inr ⟨o, by rw [del_ne (ne_of_kind hp h fun z => nomatch z)]; exact h⟩)
  · exact .inr h
mutual
theorem Rep.del (hp : F p = some (.dK ks)) : ∀ {d : D} {v : V}, Rep K mg F d v → d.nd = true → Rep K mg (del F p) d v
  | _, _, .non, _ => .non
  | _, _, .bl b, _ => .bl b
  | _, _, .int b, _ => .int b
  | _, _, .str b, _ => .str b
  | _, _, .lst h r, e => .lst (by rw [del_ne (ne_of_kind hp h fun z => nomatch z)]; exact h) (Reps.del hp r e)
  | _, _, .frl h r, e => .frl (sqL_del hp h) (Reps.del hp r e)
  | _, _, .tup h r, e => .tup (sqT_del hp h) (Reps.del hp r e)
  | _, _, .dct _ _, e => nomatch e
  | _, _, .dcT _ _, e => nomatch e
  | _, _, .ins m h r, e => .ins m (by rw [del_ne (ne_of_kind hp h fun z => nomatch z)]; exact h) (RepF.del hp r e)
  | _, _, .cls m, _ => .cls m
  | _, _, .exn0 _ _, e => nomatch e
  | _, _, .exn1 _ _ _ _, e => nomatch e
theorem Reps.del (hp : F p = some (.dK ks)) : ∀ {ds : List D} {vs : List V}, Reps K mg F ds vs → ndL ds = true → Reps K mg (del F p) ds vs
  | _, _, .nil, _ => .nil
  | _, _, .cons h r, e => by
    have e' : (_ && _) = true := e
    rw [Bool.and_eq_true] at e'
    exact .cons (Rep.del hp h e'.1) (Reps.del hp r e'.2)
theorem RepF.del (hp : F p = some (.dK ks)) : ∀ {ds : List (Str × D)} {vs : List (Str × V)}, RepF K mg F ds vs → ndF ds = true → RepF K mg (del F p) ds vs
  | _, _, .nil, _ => .nil
  | _, _, .cons h r, e => by
    have e' : (_ && _) = true := e
    rw [Bool.and_eq_true] at e'
    exact .cons (Rep.del hp h e'.1) (RepF.del hp r e'.2)
end
theorem RepK.del (hp : F p = some (.dK ks)) : ∀ {ds : List (Key × D)} {vs : List (Key × V)}, RepK K mg F ds vs → ndK ds = true → RepK K mg (del F p) ds vs
  | _, _, .nil, _ => .nil
  | _, _, .cons h r, e => by
    have e' : (_ && _) = true := e
    rw [Bool.and_eq_true] at e'
    exact .cons (Rep.del hp h e'.1) (RepK.del hp r e'.2)
theorem Top.del (hp : F p = some (.dK ks)) {o : HO} {d : D} (h : Top K mg F o d) (e : d.ndT = true) : Top K mg (del F p) o d := by
  cases h with
  | lst r => exact .lst (r.del hp e)
  | dct r => exact .dct (r.del hp e)
  | dcT r => cases e
  | ins m r => exact .ins m (r.del hp e)
end
def Sl.ndT : Sl → Bool
  | .no => true
  | .sh d => d.nd
  | .ow d => d.ndT
  | .io d => d.ndT
  | .ex _ d => d.nd
def Tk.ndT : Tk → Bool
  | .val d => d.nd
  | .nw d => d.ndT
  | .nm _ => true
/-- all slots but i -/
def ndE (i : Nat) (e : En) : Bool := (e.set i .no).all Sl.ndT
def ndX : Option (Str × D) → Bool
  | none => true
  | some (_, d) => d.nd
def tmpR (i : Nat) (s : Sl) : R Tk → R Tk
  | .ok t e => if ndE i e = true ∧ t.ndT = true then .ok t (e.set i s) else .no
  | .er c x e => if ndE i e = true ∧ ndX x = true then .er c x (e.set i .no) else .no
  | .no => .no
def tmpS (i : Nat) (f : En → R Tk) (e : En) : Option Sl → R Tk
  | some (.io (.dct kvs)) => tmpR i (.io (.dct kvs)) (f (e.set i (.sh (.dct kvs))))
  | _ => f e
def mTmp (i : Nat) (f : En → R Tk) (e : En) : R Tk := tmpS i f e (e[i]?)
theorem ndE_get {i j : Nat} {e : En} {s : Sl} (h : ndE i e = true) (hj : e[j]? = some s) (ne : i ≠ j) : s.ndT = true := by
  unfold ndE at h
  have : (e.set i .no)[j]? = some s := by rw [List.getElem?_set_ne ne]; exact hj
  exact List.all_eq_true.mp h s (List.mem_of_getElem? this)
section
variable {X : Cx} {S : Su} {W : WX} {e : Expr} {i : Nat}
theorem Wf.undel {O : Addr → Prop} {F' H' : Hp} {σ : L2.St} {e' : En} {p : Addr} {ks : List (Key × V)} {od : Obj} {s : Sl} (w' : Wf X.K X.mg S (fun b => O b ∨ b = p) F' H' σ e') (hF : F' p = some (.dK ks)) (hH : H' p = some (.frz od (.dK ks))) (hO : ¬ O p) (nd : ndE i e' = true)
    (hs : s.own = true → σ[i]? = some (some (.ref p))) (ok : ∀ v, σ[i]? = some v → SlOk X.K X.mg S (del F' p) (upd H' p (.dK ks)) i s v) : Wf X.K X.mg S O (del F' p) (upd H' p (.dK ks)) σ (e'.set i s) := by
  have own_ne : ∀ {j : Nat} {t : Sl} {q : Addr}, e'[j]? = some t → t.own = true → σ[j]? = some (some (V.ref q)) → q ≠ p := fun {j t q} h1 h2 h3 e => by
    subst e
    exact w'.ow q ⟨j, t, h1, h2, h3⟩ (.inr rfl)
  refine ⟨fun a u h => ?_, fun j t h => ?_, fun a b s1 t1 q h1 h2 o1 o2 z1 z2 => ?_, fun a o => ?_, fun a q o => ?_, fun a ks2 o h => ?_⟩
  · obtain ⟨ne, h⟩ := del_some h
    rw [upd_ne ne]
    exact w'.fz a u h
  · rcases en_set h with ⟨ej, es, l⟩ | ⟨ne, h⟩
    · subst ej; subst es
      obtain ⟨v, hv, _⟩ := w'.sl i (e'[i]) (List.getElem?_eq_getElem l)
      exact ⟨v, hv, ok v hv⟩
    · obtain ⟨v, hv, q⟩ := w'.sl j t h
      have n := ndE_get nd h ne
      refine ⟨v, hv, ?_⟩
      cases t with
      | no => trivial
      | sh d => obtain ⟨x, ex, r⟩ := q; exact ⟨x, ex, r.del hF n⟩
      | ow d =>
        obtain ⟨a, o, ex, hf, ho, ht⟩ := q
        have na : a ≠ p := own_ne h rfl (by rw [hv, ex])
        exact ⟨a, o, ex, by rw [del_ne na]; exact hf, by rw [upd_ne na]; exact ho, ht.del hF n⟩
      | io d =>
        obtain ⟨a, o, el, ex, hf, ho, ht⟩ := q
        have na : a ≠ p := own_ne h rfl (by rw [hv, ex])
        exact ⟨a, o, el, ex, by rw [del_ne na]; exact hf, by rw [upd_ne na]; exact ho, ht.del hF n⟩
      | ex f d =>
        obtain ⟨a, dd, x, es, ev, hd, r⟩ := q
        have na : dd ≠ p := fun z => by subst z; rw [hH] at hd; cases hd
        exact ⟨a, dd, x, es, ev, by rw [upd_ne na]; exact hd, r.del hF n⟩
  · rcases en_set h1 with ⟨ea, e1, _⟩ | ⟨na, h1n⟩
    · rcases en_set h2 with ⟨eb, e2, _⟩ | ⟨nb, h2n⟩
      · rw [← ea, eb]
      · subst ea; subst e1
        have := hs o1
        rw [this] at z1
        cases z1
        exact (own_ne h2n o2 z2 rfl).elim
    · rcases en_set h2 with ⟨eb, e2, _⟩ | ⟨nb, h2n⟩
      · subst eb; subst e2
        have := hs o2
        rw [this] at z2
        cases z2
        exact (own_ne h1n o1 z1 rfl).elim
      · exact w'.ds a b s1 t1 q h1n h2n o1 o2 z1 z2
  · obtain ⟨u, hu⟩ := w'.oh a (.inl o)
    have na : a ≠ p := fun z => hO (z ▸ o)
    exact ⟨u, by rw [upd_ne na]; exact hu.1, hu.2⟩
  · obtain ⟨j, t, h1, h2, h3⟩ := q
    rcases en_set h1 with ⟨ej, es, _⟩ | ⟨ne, h1⟩
    · subst ej; subst es
      have := hs h2
      rw [this] at h3
      cases h3
      exact hO o
    · exact w'.ow a ⟨j, t, h1, h2, h3⟩ (.inl o)
  · obtain ⟨na, h⟩ := del_some h
    rw [upd_ne na]
    exact w'.od a ks2 (.inl o) h
theorem me_tmp {f : En → R Tk} (h : ME X S W e f) : ME X S W e (mTmp i f) := ((pe_lock h).or h).wk fun σ H Q ⟨F, env, O, w, p0⟩ => by
  have p0 : PostE X.K X.mg S O W F H σ (tmpS i f env (env[i]?)) (fun F' H' e' t => ∀ v, TkOk X.K X.mg O F' H' σ e' v t → Q v H') := p0
  have old : PostE X.K X.mg S O W F H σ (f env) (fun F' H' e' t => ∀ v, TkOk X.K X.mg O F' H' σ e' v t → Q v H') → tLockE (tM X S W f) σ H Q ∨ tM X S W f σ H Q := fun p => .inr ⟨F, env, O, w, p⟩
  cases es : env[i]? with
  | none => rw [es] at p0; exact old p0
  | some s =>
    rw [es] at p0
    cases s with
    | no => exact old p0
    | sh d => exact old p0
    | ow d => exact old p0
    | ex c d => exact old p0
    | io d =>
      cases d <;> first | exact old p0 | skip
      rename_i kvs
      obtain ⟨v0, hv0, ok⟩ := w.sl i _ es
      obtain ⟨p, o, el, ex, hf, ho, ht⟩ := ok
      subst ex
      cases ht with
      | @dct ks _ rk =>
      have hO : ¬ O p := w.ow p ⟨i, _, es, rfl, hv0⟩
      have hn : ¬ Own σ (env.set i .no) p := fun ⟨b, s, h1, h2, h3⟩ => by
        rcases en_set h1 with ⟨e, e2, _⟩ | ⟨ne, h1⟩
        · subst e2; cases h2
        · exact ne (w.ds i b _ s p es h1 rfl h2 hv0 h3)
      have t1 : Tr O F H (upd F p (.dK ks)) H := Tr.freeze hf hO
      have w1 := (w.drop i).freeze ho hn (fun _ _ z => nomatch z) hf hO
      have r : Rep X.K X.mg (upd F p (.dK ks)) (.dct kvs) (.ref p) := .dct upd_same (rk.mono t1.fz)
      have w2 := w1.share hv0 r
      rw [List.set_set] at w2
      refine .inl ⟨p, .dK ks, ho, trivial, fun od => ?_⟩
      obtain ⟨w3, t3⟩ := w2.lock (od := od) upd_same ho
      refine ⟨_, env.set i (.sh (.dct kvs)), _, w3, ?_⟩
      have p1 : PostE X.K X.mg S O W F H σ (tmpR i (.io (.dct kvs)) (f (env.set i (.sh (.dct kvs))))) (fun F' H' e' t => ∀ v, TkOk X.K X.mg O F' H' σ e' v t → Q v H') := p0
      have il : i < env.length := (List.getElem?_eq_some_iff.mp es).1
      cases hr : f (env.set i (.sh (.dct kvs))) with
      | no => rw [hr] at p1; exact p1.elim
      | ok t e' =>
        rw [hr] at p1
        simp only [tmpR] at p1
        split at p1
        · rename_i hnd
          intro F' H' t4 w4 v tk
          have hF' : F' p = some (.dK ks) := t4.fz p _ upd_same
          have hH' : H' p = some (.frz od (.dK ks)) := (t4.kp p (.inr rfl)).trans upd_same
          have sub : Sub F (del F' p) := fun a u q => by
            have ne : a ≠ p := fun z => by subst z; rw [hf] at q; cases q
            rw [del_ne ne]
            exact t4.fz a u (by rw [upd_ne ne]; exact q)
          have tr : Tr O F H (del F' p) (upd H' p (.dK ks)) := ⟨sub, fun a q => by
            have ne : a ≠ p := fun z => hO (z ▸ q)
            rw [upd_ne ne, t4.kp a (.inl q), upd_ne ne], fun a q => by
            have ne : a ≠ p := fun z => hO (z ▸ q)
            rw [del_ne ne, t4.fr a (.inl q), upd_ne ne], fun a u q => by
            by_cases z : a = p
            · subst z; exact ⟨_, upd_same⟩
            · rw [upd_ne z]; exact t4.al a u (by rw [upd_ne z]; exact q)⟩
          have wf := Wf.undel (s := .io (.dct kvs)) w4 hF' hH' hO hnd.1 (fun _ => hv0) fun v hv => by
            rw [hv0] at hv
            cases hv
            exact ⟨p, _, el, rfl, del_self, upd_same, .dct (rk.mono sub)⟩
          refine ⟨hH', p1 _ _ tr wf v ?_⟩
          cases t with
          | val d => exact Rep.del hF' tk hnd.2
          | nm j => exact tk
          | nw d =>
            obtain ⟨a, o, e, hfa, hn, hOa, hoa, hta⟩ := tk
            have na : a ≠ p := fun z => hOa (.inr z)
            refine ⟨a, o, e, by rw [del_ne na]; exact hfa, fun ⟨b, s, h1, h2, h3⟩ => ?_, fun z => hOa (.inl z), by rw [upd_ne na]; exact hoa, hta.del hF' hnd.2⟩
            rcases en_set h1 with ⟨eb, e2, _⟩ | ⟨ne, h1⟩
            · subst eb
              rw [hv0] at h3
              cases h3
              exact na rfl
            · exact hn ⟨b, s, h1, h2, h3⟩
        · exact p1.elim
      | er c x e' =>
        rw [hr] at p1
        simp only [tmpR] at p1
        split at p1
        · rename_i hnd
          intro F' H' cls dd t4 w4 eo
          have hF' : F' p = some (.dK ks) := t4.fz p _ upd_same
          have hH' : H' p = some (.frz od (.dK ks)) := (t4.kp p (.inr rfl)).trans upd_same
          have sub : Sub F (del F' p) := fun a u q => by
            have ne : a ≠ p := fun z => by subst z; rw [hf] at q; cases q
            rw [del_ne ne]
            exact t4.fz a u (by rw [upd_ne ne]; exact q)
          have tr : Tr O F H (del F' p) H' := ⟨sub, fun a q => by
            have ne : a ≠ p := fun z => hO (z ▸ q)
            rw [t4.kp a (.inl q), upd_ne ne], fun a q => by
            have ne : a ≠ p := fun z => hO (z ▸ q)
            rw [del_ne ne, t4.fr a (.inl q), upd_ne ne], fun a u q => by
            by_cases z : a = p
            · subst z; exact ⟨_, hH'⟩
            · exact t4.al a u (by rw [upd_ne z]; exact q)⟩
          have wf : Wf X.K X.mg S O (del F' p) H' σ (e'.set i .no) := by
            have z := Wf.undel (s := .no) w4 hF' hH' hO hnd.1 (fun q => by cases q) fun v hv => trivial
            -- the lock stays
            have nown : ¬ Own σ (e'.set i .no) p := fun ⟨b, s, h1, h2, h3⟩ => by
              rcases en_set h1 with ⟨eb, e2, _⟩ | ⟨ne, h1⟩
              · subst e2; cases h2
              · exact w4.ow p ⟨b, s, h1, h2, h3⟩ (.inr rfl)
            have z2 := z.setD (o' := .frz od (.dK ks)) del_self upd_same (fun _ q => nomatch q) nown
            have eh : upd (upd H' p (.dK ks)) p (.frz od (.dK ks)) = H' := by
              funext a
              by_cases ea : a = p
              · subst ea; rw [upd_same, hH']
              · rw [upd_ne ea, upd_ne ea]
            rw [eh] at z2
            exact z2
          refine p1 _ _ cls dd tr wf ?_
          obtain ⟨C, h1, h2, h3⟩ := eo
          refine ⟨C, h1, h2, ?_⟩
          cases x with
          | none => exact h3
          | some fd =>
            obtain ⟨a, v, e1, e2, e3⟩ := h3
            exact ⟨a, v, e1, e2, e3.del hF' hnd.2⟩
        · exact p1.elim
end
/-! ### x.append(e), x a name or new -/
def mutKN (g : D → D → Option D) (fe : En → R Tk) (e1 : En) : Tk → R Tk
  | .nm i => mutL g fe e1 i (pk (.nm i) e1)
  | .nw (.lst ds) => (fe e1).bind fun u e2 => (frc u e2).bind fun d e3 => match g d (.lst ds) with
    | some _ => .ok (.val .non) e3
    | none => .no
  | _ => .no
def mMutN (g : D → D → Option D) (fo fe : En → R Tk) (e : En) : R Tk := (fo e).bind fun t e1 => mutKN g fe e1 t
section
variable {X : Cx} {S : Su} {W : WX} {pos : Pos} {o e : Expr} {apos : Pos} {fo fe : En → R Tk} {name : Str} {id : String} {r : V → List V → Hp → VK → Prop} {g : D → D → Option D}
theorem me_mutN (slot : Slot "list" name id) (ty : typeOf (.builtin id) = pure (.type "method_descriptor")) (rule : MtR X id r)
    (hr : ∀ (F H : Hp) (p1 : Addr) (ob : HO) (v : V) (d0 d d' : D) (Q : VK), (∀ a xs, F a = some (HO.lst xs) → H a = some (HO.lst xs)) → Rep X.K X.mg F d v → H p1 = some ob → Top X.K X.mg F ob d0 → g d d0 = some d' → (∀ o', Top X.K X.mg F o' d' → Q .non (upd H p1 o')) → r (.ref p1) [v] H Q)
    (ho : ME X S W o fo) (he : ME X S W e fe) (hs : starEach [e] X.env = (false, eval e X.env) :: starEach [] X.env := by rfl)
    (hbase : attributeBase o name X.env (eval o X.env) = eval o X.env := by rfl)
    (hfew : ((backTo pos (starEach [e] X.env)).all (fun x => !x.1) && (backToKw pos (keywordEach [] X.env)).all (fun x => x.1.isSome)
      && decide ([e].length + ([] : List Keyword).length + (if ([] : List Keyword).isEmpty then 0 else 1) < 30)) = true := by rfl)
    (hline : (apos.endLine == pos.line) = true := by rfl) (hplain : (backTo pos (starEach [] X.env)).any (·.1) = false := by rfl) :
    ME X S W (.Call (.Attribute o name apos) [e] [] pos) (mMutN g fo fe) :=
  (pe_bm F.plainAttrs_list slot ty rule ho (pa_cons he pa_nil hs) hbase hfew hline hs hplain).wk fun σ H Q ⟨F, env, O, w, p⟩ => by
    refine ⟨F, env, O, w, PostE.mono (PostE.bind p) fun F1 H1 e1 t t1 w1 q v tk => ?_⟩
    cases t with
    | val d => exact q.elim
    | nw d =>
      cases d <;> first | exact q.elim | skip
      rename_i ds
      obtain ⟨p1, ob, ev, hf, hn, hO, hob, ht⟩ := tk
      subst ev
      cases ht with
      | @lst xs _ r1 =>
      have w2 := hold1 w1 hf hob hn
      have q : PostE X.K X.mg S O W F1 H1 σ ((fe e1).bind fun u e2 => (frc u e2).bind fun d e3 => match g d (.lst ds) with
        | some _ => R.ok (.val .non) e3
        | none => .no) (fun F' H' e' t => ∀ v, TkOk X.K X.mg O F' H' σ e' v t → Q v H') := q
      refine ⟨.inl ⟨rfl, xs, .inl (.inl hob)⟩, F1, e1, _, w2, PostE.mono (PostE.wide (O' := fun b => O b ∨ b = p1) (PostE.bind q) fun b z => .inl z) fun F2 H2 e2 u _ _ ⟨t2, w3, q2⟩ y tku => ?_⟩
      obtain ⟨F3, e3, d, t3, w4, rd, fe3, _⟩ := frc_ok (W := fun _ _ _ _ => True) (k := fun _ _ _ _ => True) (f := fun d e => R.ok d e) w3 tku (by
        cases hh : frc u e2 with
        | no => rw [hh] at q2; exact q2.elim
        | ok _ _ => exact fun _ _ _ _ => trivial
        | er _ _ _ => exact fun _ _ _ _ _ _ _ => trivial)
      rw [fe3] at q2
      have tt := t2.trans t3
      have hob2 : H2 p1 = some (.lst xs) := (tt.kp p1 (.inr rfl)).trans hob
      have hf2 : F3 p1 = none := (tt.fr p1 (.inr rfl)).trans hf
      have q3 : PostE X.K X.mg S O W F2 H2 σ (match g d (.lst ds) with
        | some _ => R.ok (.val .non) e3
        | none => .no) (fun F' H' e' t => ∀ v, TkOk X.K X.mg O F' H' σ e' v t → Q v H') := q2
      cases hg : g d (.lst ds) with
      | none => rw [hg] at q3; exact q3.elim
      | some d' =>
        rw [hg] at q3
        refine hr F3 H2 p1 _ y _ d d' Q (fun a xs h => w4.get h fun _ z => nomatch z) rd hob2 (.lst (r1.mono tt.fz)) hg fun o' ho' => ?_
        have w5 := w4.setD (o' := o') hf2 hob2 (fun _ z => nomatch z) (fun z => w4.ow p1 z (.inr rfl)) ho'.nt
        exact q3 _ _ ((t3.weak fun b z => .inl z).trans (trSet hO)) (w5.weak fun b z => .inl z) .non .non
    | nm i =>
      have q : PostE X.K X.mg S O W F1 H1 σ (mutL g fe e1 i (pk (.nm i) e1)) (fun F' H' e' t => ∀ v, TkOk X.K X.mg O F' H' σ e' v t → Q v H') := q
      cases z : pk (.nm i) e1 with
      | none => rw [z] at q; exact q.elim
      | some dz =>
        rw [z] at q
        cases dz <;> first | exact q.elim | skip
        obtain ⟨p1, xs, ev, h1, r1⟩ := (pk_ok w1 tk z).lst w1
        subst ev
        refine ⟨.inl ⟨rfl, xs, .inl (.inl h1)⟩, F1, e1, O, w1, PostE.mono (PostE.bind q) fun F2 H2 e2 u t2 w2 q2 y tku => ?_⟩
        obtain ⟨F3, e3, d, t3, w3, rd, q3⟩ := frc_k w2 tku (PostE.bind q2)
        obtain ⟨p2, ob, d0, d', e4, ex, hob, ht, hg, fin⟩ := mut_k w3 (show TkOk X.K X.mg O F3 H2 σ e3 (.ref p1) (.nm i) from tk) (PostE.bind q3)
        cases ex
        refine hr F3 H2 p1 ob y d0 d d' Q (fun a xs h => w3.get h fun _ z => nomatch z) rd hob ht hg fun o' ho' => ?_
        obtain ⟨w5, t5, q5⟩ := fin o' ho'
        exact flatE w5 q5 .non
theorem me_appN (ho : ME X S W o fo) (he : ME X S W e fe) (hs : starEach [e] X.env = (false, eval e X.env) :: starEach [] X.env := by rfl)
    (hbase : attributeBase o "append" X.env (eval o X.env) = eval o X.env := by rfl)
    (hfew : ((backTo pos (starEach [e] X.env)).all (fun x => !x.1) && (backToKw pos (keywordEach [] X.env)).all (fun x => x.1.isSome)
      && decide ([e].length + ([] : List Keyword).length + (if ([] : List Keyword).isEmpty then 0 else 1) < 30)) = true := by rfl)
    (hline : (apos.endLine == pos.line) = true := by rfl) (hplain : (backTo pos (starEach [] X.env)).any (·.1) = false := by rfl) :
    ME X S W (.Call (.Attribute o "append" apos) [e] [] pos) (mMutN appP fo fe) :=
  me_mutN F.slot_list_append F.type_list_append mt_append (fun F H p1 ob v d0 d d' Q hF rd hob ht hg k => by
    cases ht with
    | lst r =>
      unfold appP at hg
      simp only at hg
      split at hg
      · rename_i hl
        cases hg
        exact ⟨p1, _, v, rfl, rfl, hob, by rw [sizeLine_eq, r.length]; exact hl, k _ (.lst (r.append (.cons rd .nil)))⟩
      · cases hg
    | dct r => cases hg
    | dcT r => cases hg
    | ins _ _ => cases hg) ho he hs hbase hfew hline hplain
end
end MM

set_option Elab.async false
set_option linter.all false
set_option maxRecDepth 100000
set_option maxHeartbeats 4000000
/-! M35: <= of texts, of pairs of a number and a text. -/
namespace MM
open PySem PySem.Spec PyProof.Rows L2
def leSt (a b : Str) : Bool := !decide (b.cps.toList < a.cps.toList)
def lePr (i j : Int) (a b : Str) : Bool := bif decide (i = j) then (bif decide (a = b) then true else leSt a b) else decide (i ≤ j)
def dLeS : D → D → Option Tk
  | .str a, .str b => some (.val (.bl (leSt a b)))
  | _, _ => none
def dLeP : D → D → Option Tk
  | .tup [.int i, .str a], .tup [.int j, .str b] => some (.val (.bl (lePr i j a b)))
  | _, _ => none
def dLe3 (x y : D) : Option Tk := (dLeI x y).orElse fun _ => (dLeS x y).orElse fun _ => dLeP x y
def rLeP (K : PySem.W.Frag) : R2 := fun x y H Q => ∃ (p q : Addr) (i j : Int) (a b : Str), x = .ref p ∧ y = .ref q ∧ SqT K H p [.int i, .str a] ∧ SqT K H q [.int j, .str b] ∧ Q (.bl (lePr i j a b)) H
section
variable {X : Cx} {S : Su} {W : WX}
theorem two_at {v0 v1 : Value} {j : Nat} (h : j < (#[v0, v1] : Array Value).size) : (j = 0 ∧ (#[v0, v1] : Array Value)[j] = v0) ∨ (j = 1 ∧ (#[v0, v1] : Array Value)[j] = v1) := by
  have h' : j < 2 := h
  rcases (by omega : j = 0 ∨ j = 1) with rfl | rfl
  · exact .inl ⟨rfl, rfl⟩
  · exact .inr ⟨rfl, rfl⟩
theorem op_leP (hu : X.A.units < cLine) : OpR X (compareOp .LtE) (rLeP X.K) := by
  intro pins s σ H x y v u Q I rx ry h
  obtain ⟨p, q, i, j, a, b, rfl, rfl, hp, hq, fin⟩ := h
  cases rx
  cases ry
  obtain ⟨its, r1, p1, _⟩ := I.tuple hp
  obtain ⟨its2, r2, p2, _⟩ := I.tuple hq
  cases r1 with
  | cons x1 r1 => cases r1 with
    | cons x2 r1 => cases r1; cases r2 with
      | cons y1 r2 => cases r2 with
        | cons y2 r2 =>
          cases r2
          obtain ⟨t1, rfl⟩ := x1
          obtain ⟨t2, rfl⟩ := x2
          obtain ⟨u1, rfl⟩ := y1
          obtain ⟨u2, rfl⟩ := y2
          have R := Ob.RcOp.tuples_le (A := X.A) (s := s) (items := #[.int i t1, .str a t2]) (items2 := #[.int j u1, .str b u2]) (e := fun k => if k = 0 then decide (i = j) else decide (a = b)) (r := fun k => if k = 0 then decide (i ≤ j) else leSt a b) p1 p2 hu (fun k h1 h2 => by
            rcases two_at h1 with ⟨rfl, e1⟩ | ⟨rfl, e1⟩
            · have z : (i == j) = decide (i = j) := rfl
              show SeqAt.EqAt _ s (.int i t1) (.int j u1) (decide (i = j))
              rw [← z]
              exact SeqAt.EqAt.int_int _ _ _ _
            · have z : (a == b) = decide (a = b) := by
                by_cases e : a = b
                · subst e; simp
                · simp [e]
              show SeqAt.EqAt _ s (.str a t2) (.str b u2) (decide (a = b))
              rw [← z]
              exact SeqAt.EqAt.str_str _ _ _ _) (fun k h1 h2 _ => by
            rcases two_at h1 with ⟨rfl, e1⟩ | ⟨rfl, e1⟩
            · exact Ob.RcOp.le_int _ _ _ _
            · exact fun prog w E Q q => PySem.P.le_str q)
          have hz : Ob.lexAt (fun k => if k = 0 then decide (i = j) else decide (a = b)) (fun k => if k = 0 then decide (i ≤ j) else leSt a b) (decide ((#[.int i t1, .str a t2] : Array Value).size ≤ (#[.int j u1, .str b u2] : Array Value).size)) 0 (min (#[.int i t1, .str a t2] : Array Value).size (#[.int j u1, .str b u2] : Array Value).size) = lePr i j a b := by
            show Ob.lexAt _ _ true 0 2 = _
            unfold lePr
            by_cases e1 : i = j
            · by_cases e2 : a = b
              · simp [Ob.lexAt, e1, e2]
              · simp [Ob.lexAt, e1, e2]
            · simp [Ob.lexAt, e1]
          rw [hz] at R
          exact R X.prog X.w X.xe (EP X pins σ Q) ⟨.bl _, H, I, rfl, fin⟩
theorem pop_leS : Pop2 X S W (fun x y H Q => ∃ i j, x = .str i ∧ y = .str j ∧ Q (.bl (!decide (j.cps.toList < i.cps.toList))) H) dLeS := fun F H σ env O v u x y t Q w k1 k2 e p => by
  cases x <;> cases y <;> first | cases e | skip
  have e1 := k1.str
  have e2 := k2.str
  subst e1; subst e2
  exact ⟨_, _, rfl, rfl, flatE w p (.bl _)⟩
theorem pop_leP : Pop2 X S W (rLeP X.K) dLeP := fun F H σ env O v u x y t Q w k1 k2 e p => by
  unfold dLeP at e
  split at e
  · rename_i i a j b
    cases e
    obtain ⟨p1, xs, e1, h1, r1⟩ := k1.tup w
    obtain ⟨p2, ys, e2, h2, r2⟩ := k2.tup w
    cases r1 with
    | cons x1 r1 => cases r1 with
      | cons x2 r1 => cases r1; cases r2 with
        | cons y1 r2 => cases r2 with
          | cons y2 r2 =>
            cases r2
            cases x1; cases x2; cases y1; cases y2
            exact ⟨p1, p2, i, j, a, b, e1, e2, h1, h2, flatE w p (.bl _)⟩
  · cases e
theorem o_le3 (hu : X.A.units < cLine) : OpM X S W (compareOp .LtE) (pop2 dLe3) := .of (op_le.or (op_le_str.or (op_leP hu))) (pop_leI.or (pop_leS.or pop_leP)).op
end
end MM

set_option Elab.async false
set_option linter.all false
set_option maxRecDepth 100000
set_option maxHeartbeats 4000000
/-! M36: all, any of lists of bools; tuple(x); stars in displays. -/
namespace MM
open PySem PySem.Spec PyProof.Rows L2
def blsD : List D → Option (List Bool)
  | [] => some []
  | .bl b :: r => (blsD r).map (b :: ·)
  | _ => none
def dAll (d : D) : Option Tk := (listD d).bind fun l => (blsD l).map fun bs => .val (.bl (bs.all id))
def dAny (d : D) : Option Tk := (listD d).bind fun l => (blsD l).map fun bs => .val (.bl (bs.any id))
def dTupOf : D → Option Tk
  | .lst ds => some (.val (.tup ds))
  | .frl ds => some (.val (.tup ds))
  | .tup ds => some (.val (.tup ds))
  | _ => none
def seqD : D → Option (List D)
  | .lst ds => some ds
  | .frl ds => some ds
  | .tup ds => some ds
  | _ => none
def mAS (f : En → R Tk) (g : En → R (List Ar)) (e : En) : R (List Ar) := (f e).bind fun t e1 => match (pk t e1).bind seqD with
  | some ds => (g e1).bind fun as e2 => .ok (ds.map Ar.d ++ as) e2
  | none => .no
section
variable {X : Cx} {S : Su} {W : WX} {a e : Expr} {es : List Expr} {p pos : Pos} {f : En → R Tk} {g : En → R (List Ar)}
theorem reps_bls {K : PySem.W.Frag} {mg : Str → Option Value} {F : Hp} : ∀ {l : List D} {xs : List V} {bs : List Bool}, Reps K mg F l xs → blsD l = some bs → xs = bs.map V.bl
  | [], _, bs, .nil, h => by cases h; rfl
  | d :: l, _, bs, .cons h r, e => by
    cases d <;> first | (cases e; done) | skip
    obtain ⟨bs', h1, rfl⟩ := Option.map_eq_some_iff.mp (show (blsD l).map _ = some bs from e)
    cases h
    rw [reps_bls r h1]; rfl
theorem boot_all' : bootBuiltins "all" = some (.builtin "all") := by decide +kernel
theorem boot_any' : bootBuiltins "any" = some (.builtin "any") := by decide +kernel
theorem listPk {F H : Hp} {σ : L2.St} {env : En} {O : Addr → Prop} {v : V} {x : D} {l : List D} (w : Wf X.K X.mg S O F H σ env) (k : Pk X.K X.mg F H x v) (h : listD x = some l) : ∃ p xs, v = .ref p ∧ SqL X.K H p xs ∧ Reps X.K X.mg F l xs := by
  cases x <;> first | (cases h; done) | skip
  · cases h
    obtain ⟨p1, xs, e3, h1, r⟩ := k.lst w
    exact ⟨p1, xs, e3, .inl (.inl h1), r⟩
  · cases h
    obtain ⟨p1, xs, e3, h1, r⟩ := k.frl w
    exact ⟨p1, xs, e3, h1, r⟩
theorem me_all (hc : X.calm = true) (hg : Gl X "all") (hm : X.mg "all" = none) (h : ME X S W a f) (hs : starEach (a :: []) X.env = (false, eval a X.env) :: starEach [] X.env := by rfl) : ME X S W (.Call (.Name "all" p) [a] [] pos) (mOp1 f dAll) :=
  cb1 (cr_all hc) hg hm boot_all' (fun F H σ env O v x t Q w k e q => by
    obtain ⟨l, h1, h2⟩ := Option.bind_eq_some_iff.mp (show (listD x).bind (fun l => (blsD l).map fun bs => Tk.val (.bl (bs.all id))) = some t from e)
    obtain ⟨bs, h3, rfl⟩ := Option.map_eq_some_iff.mp h2
    obtain ⟨p1, xs, e3, h4, r⟩ := listPk w k h1
    rw [reps_bls r h3] at h4
    exact ⟨p1, bs, by rw [e3], h4, flatE w q (.bl _)⟩) h hs
theorem me_any (hc : X.calm = true) (hg : Gl X "any") (hm : X.mg "any" = none) (h : ME X S W a f) (hs : starEach (a :: []) X.env = (false, eval a X.env) :: starEach [] X.env := by rfl) : ME X S W (.Call (.Name "any" p) [a] [] pos) (mOp1 f dAny) :=
  cb1 (cr_any hc) hg hm boot_any' (fun F H σ env O v x t Q w k e q => by
    obtain ⟨l, h1, h2⟩ := Option.bind_eq_some_iff.mp (show (listD x).bind (fun l => (blsD l).map fun bs => Tk.val (.bl (bs.any id))) = some t from e)
    obtain ⟨bs, h3, rfl⟩ := Option.map_eq_some_iff.mp h2
    obtain ⟨p1, xs, e3, h4, r⟩ := listPk w k h1
    rw [reps_bls r h3] at h4
    exact ⟨p1, bs, by rw [e3], h4, flatE w q (.bl _)⟩) h hs
theorem ma_star (h1 : ME X S W e f) (h2 : MA X S W es g) (hs : starEach (.Starred e p :: es) X.env = (true, eval e X.env) :: starEach es X.env := by rfl) : MA X S W (.Starred e p :: es) (mAS f g) :=
  (StX.pa_star h1 h2 hs).wk fun σ H Q ⟨F, env, O, w, q⟩ => by
    refine ⟨F, env, O, w, PostE.mono (PostE.bind q) fun F1 H1 e1 t t1 w1 q v tk => ?_⟩
    cases z : (pk t e1).bind seqD with
    | none => rw [z] at q; exact q.elim
    | some ds =>
      rw [z] at q
      simp only at q
      obtain ⟨d, hd, hs2⟩ := Option.bind_eq_some_iff.mp z
      have k := pk_ok w1 tk hd
      have go : ∀ {p1 : Addr} {xs : List V}, v = .ref p1 → (SqT X.K H1 p1 xs ∨ SqL X.K H1 p1 xs) → Reps X.K X.mg F1 ds xs → ∃ p xs, v = V.ref p ∧ (SqT X.K H1 p xs ∨ SqL X.K H1 p xs) ∧ tMA X S W g σ H1 fun ys H2 => Q (xs ++ ys) H2 := by
        intro p1 xs ev hq r
        refine ⟨p1, xs, ev, hq, F1, e1, O, w1, PostE.mono (PostE.bind q) fun F2 H2 e2 as t2 w2 q2 vs ra => ?_⟩
        refine PostE.ok w2 q2 (xs ++ vs) ?_
        have r2 : Reps X.K X.mg F2 ds xs := r.mono t2.fz
        clear q q2 hq hs2 z r
        induction ds generalizing xs with
        | nil => cases r2; exact ra
        | cons d ds ih =>
          cases r2 with
          | cons h r => exact ⟨h, ih r⟩
      cases d <;> first | (cases hs2; done) | skip
      all_goals (cases hs2)
      · obtain ⟨p1, xs, e3, h1, r⟩ := k.lst w1
        exact go e3 (.inr (.inl (.inl h1))) r
      · obtain ⟨p1, xs, e3, h1, r⟩ := k.frl w1
        exact go e3 (.inr h1) r
      · obtain ⟨p1, xs, e3, h1, r⟩ := k.tup w1
        exact go e3 (.inl h1) r
theorem me_tupOf (hg : Gl X "tuple") (hm : X.mg "tuple" = none) (h : ME X S W a f) (hs : starEach (a :: []) X.env = (false, eval a X.env) :: starEach [] X.env := by rfl) : ME X S W (.Call (.Name "tuple" p) [a] [] pos) (mOp1 f dTupOf) :=
  cty1 call_tuple_of hg hm boot_tuple' (fun F H σ env O v x t Q w k e q => by
    cases x <;> first | (cases e; done) | skip
    · cases e
      obtain ⟨p1, xs, e3, h1, r⟩ := k.lst w
      exact ⟨p1, xs, by rw [e3], .inl ⟨.inl (.inl h1), new_tup w r q⟩⟩
    · cases e
      obtain ⟨p1, xs, e3, h1, r⟩ := k.frl w
      exact ⟨p1, xs, by rw [e3], .inl ⟨h1, new_tup w r q⟩⟩
    · cases e
      obtain ⟨p1, xs, e3, h1, r⟩ := k.tup w
      refine ⟨p1, xs, by rw [e3], .inr ⟨h1, ?_⟩⟩
      rw [← e3]
      rcases k with r2 | ⟨p, o, _, hp, ht⟩
      · exact PostE.ok w q v r2
      · cases ht) h hs
end
end MM

set_option Elab.async false
set_option linter.all false
set_option maxRecDepth 100000
set_option maxHeartbeats 4000000
/-! M37: slices of tuples. -/
namespace MM
open PySem PySem.Spec PyProof.Rows L2
theorem lt0 {n c : Nat} (h : n + 64 < c) : n < c := by omega
def dSlT (d : D) (lo hi : Option Int) : Option Tk := match d with
  | .tup ds => some (.val (.tup (cutD ds lo hi)))
  | _ => none
def mSlT (f : En → R Tk) (l h : En → R (Option Int)) (e : En) : R Tk := (f e).bind fun t e1 => (l e1).bind fun lo e2 => (h e2).bind fun hi e3 => match (pk t e3).bind fun d => dSlT d lo hi with
  | some t => .ok t e3
  | none => .no
theorem cut_whole {xs : List D} {lo hi : Option Int} (h : HT.sIx xs.length 0 lo = 0 ∧ HT.sIx xs.length xs.length hi = xs.length) : cutD xs lo hi = xs := by
  unfold cutD
  rw [h.1, h.2]
  simp
section
variable {X : Cx} {S : Su} {W : WX} {a : Expr} {pos : Pos}
theorem me_slT {lo hi : Option Expr} {p2 : Pos} {f : En → R Tk} {l h : En → R (Option Int)} (ha : ME X S W a f) (hl : MO X S W lo l) (hh : MO X S W hi h) : ME X S W (.Subscript a (.Slice lo hi none p2) pos) (mSlT f l h) :=
  (pe_slice sl_tupA ha hl hh).wk fun σ H Q ⟨F, env, O, w, p⟩ => by
    refine ⟨F, env, O, w, PostE.mono (PostE.bind p) fun F1 H1 e1 t t1 w1 q v tk => ?_⟩
    refine ⟨F1, e1, Pd O t v, tk.pd w1, PostE.mono (PostE.wide (PostE.bind q) (Pd.up (O := O) (t := t) (v := v))) fun F2 H2 e2 o t2 w2 z => ?_⟩
    obtain ⟨t2, w2, q2⟩ := z
    have tk2 := tk.tr t2 w2
    refine ⟨F2, e2, Pd O t v, tk2.pd (w2.weak Pd.up), PostE.mono (PostE.wide (PostE.bind q2) (Pd.up (O := O) (t := t) (v := v))) fun F3 H3 e3 o2 t3 w3 z => ?_⟩
    obtain ⟨t3, w3, q3⟩ := z
    have tk3 := tk2.tr t3 w3
    have w4 := w3.weak (Pd.up (O := O) (t := t) (v := v))
    cases z1 : pk t e3 with
    | none => rw [z1] at q3; exact q3.elim
    | some d =>
      rw [z1] at q3
      have k1 := pk_ok w4 tk3 z1
      cases d <;> first | exact q3.elim | skip
      rename_i ds
      obtain ⟨p1, xs, e4, h2, r⟩ := k1.tup w4
      have el := r.length
      refine ⟨p1, xs, e4, h2, fun hw => ?_, fun _ => new_tup w4 (r.cut _ _) q3⟩
      rw [el] at hw
      have q4 := q3
      simp only [Option.bind_some, dSlT, cut_whole hw] at q4
      rw [← e4]
      rcases k1 with r2 | ⟨p, o, _, hp, ht⟩
      · exact PostE.ok w4 q4 v r2
      · cases ht
end
end MM

set_option Elab.async false
set_option linter.all false
set_option maxRecDepth 100000
set_option maxHeartbeats 4000000
/-! M38: an empty tuple as a default. -/
namespace MM
open PySem PySem.Spec PyProof.Rows L2
def fTup0 (f : Str × Option Str) (i : Nat) : Fac := fun K => match K.lookup (He.dflAt f i K) with
  | some o => (match o.cls with | .type n => n == "tuple" | _ => false) && (match o.data with | .seq its _ => its.size == 0 | _ => false)
  | none => false
theorem rep_tup0 {K : PySem.W.Frag} {mg : Str → Option Value} {F : Hp} {f : Str × Option Str} {i : Nat} (h : fTup0 f i K = true) : Rep K mg F (.tup []) (He.Dv.v K (.adr (He.dflAt f i))) := by
  unfold fTup0 at h
  split at h
  · rename_i o ho
    rw [Bool.and_eq_true] at h
    obtain ⟨h1, h2⟩ := h
    have hc : o.cls = .type "tuple" := by
      split at h1
      · rename_i n hn
        rw [hn, of_decide_eq_true h1]
      · cases h1
    split at h2
    · rename_i its n hd
      have hz : its.size = 0 := by simpa using h2
      have he : its = #[] := Array.eq_empty_of_size_eq_zero hz
      subst he
      exact .tup (.inr ⟨o, #[], n, ho, hc, hd, by show 0 ≤ sizeLine; exact Nat.zero_le _, .nil⟩) .nil
    · cases h2
  · cases h
end MM

set_option Elab.async false
set_option linter.all false
set_option maxRecDepth 100000
set_option maxHeartbeats 4000000
/-! M39: the keys of a dict by tuples. -/
namespace MM
open PySem PySem.Spec PyProof.Rows L2
def kT (k : List Key) : D := .tup (k.map kD)
def prKT (kvs : List (List Key × D)) : List D := kvs.map fun kv => kT kv.1
def lkT (a : Addr) (o : Obj) (ks : List (List Key × V)) (H : Hp) : Prop := H a = some (.frz o (.dT ks))
section
variable {K : PySem.W.Frag} {mg : Str → Option Value} {F F0 : Hp}
theorem reps_kT : ∀ k : List Key, Reps K mg F (k.map kD) (k.map kV)
  | [] => .nil
  | k :: r => .cons (rep_kD k) (reps_kT r)
theorem RepT.length : ∀ {ds : List (List Key × D)} {vs : List (List Key × V)}, RepT K mg F ds vs → vs.length = ds.length
  | _, _, .nil => rfl
  | _, _, .cons _ r => by rw [List.length_cons, List.length_cons, RepT.length r]
theorem RepT.get : ∀ {ds : List (List Key × D)} {vs : List (List Key × V)} {i : Nat} {k : List Key} {v : V}, RepT K mg F ds vs → vs[i]? = some (k, v) → ∃ d, ds[i]? = some (k, d) ∧ Rep K mg F d v
  | _, _, _, _, _, .nil, e => by simp at e
  | _, _, 0, _, _, .cons h _, e => by simp at e; obtain ⟨rfl, rfl⟩ := e; exact ⟨_, rfl, h⟩
  | _, _, i + 1, k, v, .cons _ r, e => by
    obtain ⟨d, h1, h2⟩ := RepT.get (i := i) (k := k) (v := v) r (by simpa using e)
    exact ⟨d, by simpa using h1, h2⟩
theorem itm_keysT {a : Addr} {o : Obj} {ks : List (List Key × V)} {kvs : List (List Key × D)} (r : RepT K mg F0 kvs ks) : ItM K mg (Itkt a o ks) F0 (lkT a o ks) (prKT kvs) where
  go := fun S O F H σ env i _ w hl h => ⟨hl, by rw [r.length]; simpa [prKT] using h⟩
  stop := fun S O F H σ env i _ w hl h => ⟨hl, by rw [r.length]; simpa [prKT] using h⟩
  yld := fun S O F H σ env i x H' _ w _ h y => by
    obtain ⟨e, k, v, q, h1, h2, h3⟩ := y
    obtain ⟨d, h4, _⟩ := r.get h1
    exact ⟨kT k, by simp [prKT, h4], .inr (.inr ⟨q, _, _, h2, e, h3, rfl, reps_kT k⟩)⟩
theorem Pk.lenT {S : Su} {O : Addr → Prop} {H : Hp} {σ : L2.St} {env : En} {v : V} {kvs : List (List Key × D)} (w : Wf K mg S O F H σ env) (h : Pk K mg F H (.dcT kvs) v) : ∃ p ks, v = .ref p ∧ Rd H p (.dT ks) ∧ ks.length = kvs.length := by
  obtain ⟨p, ks, e, h1, r⟩ := h.dcT w
  exact ⟨p, ks, e, h1, r.length⟩
end
end MM

set_option Elab.async false
set_option linter.all false
set_option maxRecDepth 100000
set_option maxHeartbeats 4000000
/-! M40: dicts by tuples, walked by their keys. -/
namespace MM
open PySem PySem.Spec PyProof.Rows L2
def LkT (H : Hp) (a : Addr) (ks : List (List Key × V)) (H2 : Hp) : Prop := H2 = H ∨ ∃ od, H2 = upd H a (.frz od (.dT ks))
def dcTD : D → Option (List (List Key × D))
  | .dcT kvs => some kvs
  | _ => none
def okT (e : En) : Option (List (List Key × D)) → R (List (List Key × D))
  | some kvs => .ok kvs e
  | none => .no
def mDTn (i : Nat) (e : En) : R (List (List Key × D)) := (frc (.nm i) e).bind fun d e1 => okT e1 (dcTD d)
section
variable {X : Cx} {S : Su} {W : WX} {tg iter elt e : Expr} {pos : Pos}
def DRTk (X : Cx) (S : Su) (fd : En → R (List (List Key × D))) (td : TE) : Prop := ∀ (O : Addr → Prop) (F H : Hp) (σ : L2.St) (env : En) (W : WX) (k : Hp → Hp → En → List (List Key × D) → Prop), Wf X.K X.mg S O F H σ env → PostE X.K X.mg S O W F H σ (fd env) k →
  ∃ F' e' kvs a ks, Tr O F H F' H ∧ Wf X.K X.mg S O F' H σ e' ∧ F' a = some (.dT ks) ∧ RepT X.K X.mg F' kvs ks ∧ k F' H e' kvs ∧ ∀ (Q : VK) (H2 : Hp), LkT H a ks H2 → Q (.ref a) H2 → td σ H2 Q
def DRT (X : Cx) (S : Su) (e : Expr) (fd : En → R (List (List Key × D))) : Prop := ∃ td : TE, PE X e td ∧ DRTk X S fd td
theorem drT_name {x : Str} {i : Nat} (h : PE X (.Name x pos) (tVar i)) : DRT X S (.Name x pos) (mDTn i) := ⟨tVar i, h, fun O F H σ env W k w p => by
  have hv : ∃ v, σ[i]? = some (some v) := by
    unfold mDTn at p
    have e0 : frc (.nm i) env = frcS i env (env[i]?) := rfl
    cases e : env[i]? with
    | none => rw [e0, e] at p; exact p.elim
    | some s =>
      rw [e0, e] at p
      obtain ⟨u, hu, ok⟩ := w.sl i s e
      cases s with
      | sh d => obtain ⟨x, ex, _⟩ := ok; exact ⟨x, by rw [hu, ex]⟩
      | ow d => obtain ⟨q, o, ex, _⟩ := ok; exact ⟨_, by rw [hu, ex]⟩
      | no => exact p.elim
      | io d => exact p.elim
      | ex f d => exact p.elim
  obtain ⟨v, hv⟩ := hv
  obtain ⟨F', e', d, t1, w1, rd, q⟩ := frc_k (t := .nm i) w hv (PostE.bind p)
  cases d <;> first | exact q.elim | skip
  rename_i kvs
  cases rd with
  | dcT hp r => exact ⟨F', e', kvs, _, _, t1, w1, hp, r, PostE.ok w1 q, fun Q H2 _ qq => ⟨_, hv, qq⟩⟩⟩
def wiT (td : TE) : TI := fun σ H R => td σ H fun x H1 => ∃ d o kvs, x = .ref d ∧ H1 d = some (.frz o (.dT kvs)) ∧ R (Itkt d o kvs) H1
theorem pi_keysT {td : TE} (h : PE X e td) : PI X tg e (wiT td) := by
  refine ⟨fun pins s σ H R I h' => thn (h.run pins s σ H _ I h') fun u s1 hh => ?_⟩
  obtain ⟨x, H1, I1, rx, d, o, kvs, ex, hd, q⟩ := hh
  subst ex
  obtain rfl : u = Value.ref d := rx
  obtain ⟨z1, z2, z3, es, ep, z4, zl, _⟩ := I1.frzT hd
  exact iter_keys z1 z2 z3 z4 (pi_one (tk := s1.toks) I1 _ (turn_keysT _ z4) ⟨_, Heap.get?_push_size _ rfl, rfl, by rw [zl] <;> rfl⟩ q)
def mLcT (fd : En → R (List (List Key × D))) (a : D → En → R Unit) (t : En → R Bool) (ge : En → R Tk) (vs : List Nat) (e : En) : R Tk := (fd e).bind fun kvs e1 => (compE a t ge vs (prKT kvs) e1).bind fun t e2 => .ok t (backE e1 vs e2)
theorem lc_readT {fd : En → R (List (List Key × D))} {td : TE} {a : D → En → R Unit} {t : En → R Bool} {ge : En → R Tk} {vs js : List Nat} {g : TG} {σ : L2.St} {H : Hp} {Q : VK} (d2 : DRTk X S fd td) (k : MGk X.K X.mg S js a g) (hjs : ∀ j ∈ js, j ∈ vs)
    (h : tM X S W (mLcT fd a t ge vs) σ H Q) : tLockE (tLc (wiT td) g (tMT X S W0 t) (tM X S W0 ge) vs) σ H Q ∨ tLc (wiT td) g (tMT X S W0 t) (tM X S W0 ge) vs σ H Q := by
  obtain ⟨F, env, O, w, p⟩ := h
  obtain ⟨F1, e1, kvs, ad, ks, t1, w1, hF, rk, q, rd⟩ := d2 O F H σ env W _ w (PostE.bind p)
  rcases w1.fz ad _ hF with hH | ⟨o, _, _, hH⟩
  · refine .inl ⟨ad, .dT ks, hH, trivial, fun od => ?_⟩
    obtain ⟨w2, t2⟩ := w1.lock (od := od) hF hH
    refine rd _ _ (.inr ⟨od, rfl⟩) ⟨ad, od, ks, rfl, upd_same, ?_⟩
    exact lcM_core (Q := fun v H' => H' ad = some (.frz od (.dT ks)) ∧ Q v (upd H' ad (.dT ks))) (itm_keysT rk) (show lkT ad od ks _ from upd_same) (fun F H F' H' t l => (t.kp ad (.inr rfl)).trans l) w2 hjs (PostE.locked w1 hF hH (PostE.backE w1 q)) k
  · refine .inr (rd _ _ (.inl rfl) ⟨ad, o, ks, rfl, hH, ?_⟩)
    exact lcM_core (itm_keysT rk) (show lkT ad o ks _ from hH) (fun F H F' H' t l => (t.kp ad (.inr rfl)).trans l) (w1.hold hF hH) hjs (PostE.wideT (PostE.backE w1 q) fun b z => .inl z) k
theorem me_lcT {d0 : Expr} {ifs : List Expr} {scope : Scope} (own : List (Str × Nat)) {fd : En → R (List (List Key × D))} {a : D → En → R Unit} {t : En → R Bool} {ge : En → R Tk} {js : List Nat} {g : TG} (hc : X.calm = true) (hN : X.N.Nodup) (hd : DRT X S d0 fd) (ok : BlkOk X.N X.env.scope scope own)
    (hg : Blk X scope fun Y => PG Y tg g) (hk : MGk X.K X.mg S js a g) (ht : Blk X scope fun Y => MTs Y S W0 ifs t) (he : Blk X scope fun Y => ME Y S W0 elt ge) (hjs : ∀ j ∈ js, j ∈ own.map (·.2) := by decide) (hs : ∀ x, foldedSetIterable d0 X.env x = pure x := by intro _; rfl) :
    ME X S W (.ListComp elt [⟨tg, d0, ifs, 0⟩] scope pos) (mLcT fd a t ge (own.map (·.2))) := by
  obtain ⟨td, d1, d2⟩ := hd
  have z := pe_lc (elt := elt) (pos := pos) (tt := tMT X S W0 t) (te := tM X S W0 ge) hc hN (pi_keysT (tg := tg) d1) ok (fun s H C cl fp => hg s H C cl fp) (fun s H C cl fp => ht s H C cl fp) (fun s H C cl fp => he s H C cl fp) hs
  exact ((pe_lock z).or z).wk fun σ H Q h => lc_readT d2 hk hjs h
end
end MM

set_option Elab.async false
set_option linter.all false
set_option maxRecDepth 100000
set_option maxHeartbeats 4000000
/-! M41: names of the module that hold a number or a text. -/
namespace MM
open PySem PySem.Spec PyProof.Rows L2 PySem.W
section
variable {fa : List Fac} {fn : List Df} {K : Frag} {mg : Str → Option Value}
def numAt : Option (Option Value) → Option Int
  | some (some (.int n _)) => some n
  | _ => none
def txtAt : Option (Option Value) → Option Str
  | some (some (.str n _)) => some n
  | _ => none
def fGlI (x : Str) (n : Int) : Fac := fun K => decide (numAt (nsIn K mainGlobals x) = some n)
def fGlS (x : Str) (n : Str) : Fac := fun K => decide (txtAt (nsIn K mainGlobals x) = some n)
theorem Ctx.gli (c : Ctx fa fn K mg) {x : Str} {n : Int} (i : Nat) (h : fa[i]? = some (fGlI x n)) : ∃ t, mg x = some (.int n t) := by
  obtain ⟨hp, X, G⟩ := c.ns
  have z := of_decide_eq_true (c.fact i h)
  unfold numAt at z
  split at z
  · rename_i m t e
    cases z
    exact ⟨t, mg_of X G e⟩
  · cases z
theorem Ctx.gls (c : Ctx fa fn K mg) {x : Str} {n : Str} (i : Nat) (h : fa[i]? = some (fGlS x n)) : ∃ t, mg x = some (.str n t) := by
  obtain ⟨hp, X, G⟩ := c.ns
  have z := of_decide_eq_true (c.fact i h)
  unfold txtAt at z
  split at z
  · rename_i m t e
    cases z
    exact ⟨t, mg_of X G e⟩
  · cases z
end
section
variable {X : Cx} {S : Su} {W : WX} {pos : Pos}
theorem me_gli {x : Str} {n : Int} (hg : Gl X x) (h : ∃ t, X.mg x = some (.int n t)) (hd : (x == ("__debug__" : Str)) = false := by decide) : ME X S W (.Name x pos) (mC (.int n)) :=
  h.elim fun t ht => me_c (x := .int n) (pe_glob hg ht ⟨t, rfl⟩ hd) fun _ => .int n
theorem me_gls {x : Str} {n : Str} (hg : Gl X x) (h : ∃ t, X.mg x = some (.str n t)) (hd : (x == ("__debug__" : Str)) = false := by decide) : ME X S W (.Name x pos) (mC (.str n)) :=
  h.elim fun t ht => me_c (x := .str n) (pe_glob hg ht ⟨t, rfl⟩ hd) fun _ => .str n
end
end MM

set_option Elab.async false
set_option linter.all false
set_option maxRecDepth 100000
set_option maxHeartbeats 2000000
/-! S0: decimal texts. -/
namespace MM
open PySem PySem.Spec PyProof.Rows L2 PySem.NumText TL
theorem val_app (l : List Nat) (c : Nat) : digitsVal (l ++ [c]) = digitsVal l * 10 + (c - 48) := by
  unfold digitsVal; rw [List.foldl_append]; rfl
theorem val_ge : ∀ (l : List Nat) (a : Nat), a ≤ l.foldl (fun acc c => acc * 10 + (c - 48)) a
  | [], a => Nat.le_refl _
  | c :: l, a => Nat.le_trans (by omega) (val_ge l (a * 10 + (c - 48)))
theorem val_pos {c : Nat} {l : List Nat} (hc : 48 < c) : 1 ≤ digitsVal (c :: l) := by
  unfold digitsVal
  exact Nat.le_trans (by omega) (val_ge l (0 * 10 + (c - 48)))
/-- digits without a nought ahead are the number's own -/
theorem numL_of_aux : ∀ (n : Nat) (l : List Nat) (c : Nat), l.length = n → AllDigits (c :: l) → 48 < c → numL (digitsVal (c :: l)) = c :: l := by
  intro n
  induction n with
  | zero =>
    intro l c hl hd hc
    have : l = [] := List.eq_nil_of_length_eq_zero hl
    subst this
    have h1 := hd c (List.mem_cons_self ..)
    have e : digitsVal [c] = c - 48 := by show 0 * 10 + (c - 48) = c - 48; omega
    rw [e, numL_lt (by omega)]
    congr 1
    omega
  | succ n ih =>
    intro l c hl hd hc
    obtain ⟨l', z, rfl⟩ : ∃ l' z, l = l' ++ [z] := ⟨l.dropLast, l.getLast (by intro e; rw [e] at hl; cases hl), (List.dropLast_concat_getLast _).symm⟩
    rw [List.length_append] at hl
    have hz := hd z (by simp)
    have i := ih l' c (by simpa using hl) (fun d h => hd d (by
      rcases List.mem_cons.mp h with h | h
      · rw [h]; simp
      · simp [h])) hc
    have e : digitsVal (c :: (l' ++ [z])) = digitsVal (c :: l') * 10 + (z - 48) := val_app (c :: l') z
    have p := val_pos (l := l') hc
    rw [e, numL_step (by omega)]
    have d1 : (digitsVal (c :: l') * 10 + (z - 48)) / 10 = digitsVal (c :: l') := by omega
    have d2 : (digitsVal (c :: l') * 10 + (z - 48)) % 10 = z - 48 := by omega
    rw [d1, d2, i]
    have : 48 + (z - 48) = z := by omega
    rw [this]; rfl
theorem numL_of {l : List Nat} {c : Nat} (hd : AllDigits (c :: l)) (hc : 48 < c) : numL (digitsVal (c :: l)) = c :: l := numL_of_aux l.length l c rfl hd hc
theorem numL_0 : numL 0 = [48] := numL_lt (by decide)
theorem numL_head {n : Nat} (h : n ≠ 0) : ∃ c l, numL n = c :: l ∧ 48 < c := by
  induction n using Nat.strongRecOn with
  | _ n ih =>
    by_cases hn : n < 10
    · exact ⟨48 + n, [], numL_lt hn, by omega⟩
    · obtain ⟨c, l, e, hc⟩ := ih (n / 10) (by omega) (by omega)
      exact ⟨c, l ++ [48 + n % 10], by rw [numL_step (by omega), e]; rfl, hc⟩
/-- str of an int -/
def st (i : Int) : Str := Str.ofString (toString i)
theorem tl_st_nat (n : Nat) : tl (st (n : Int)) = numL n := tl_num n
theorem tl_st_neg (n : Nat) : tl (st (-((n + 1 : Nat) : Int))) = 45 :: numL (n + 1) := by
  have e : toString (-((n + 1 : Nat) : Int)) = "-" ++ toString (((n + 1 : Nat) : Nat) : Int) := rfl
  show tl (Str.ofString (toString (-((n + 1 : Nat) : Int)))) = _
  rw [e, tl_ofString, String.toList_append, List.map_append, ← tl_ofString, ← tl_ofString, tl_num]
  rfl
theorem tl_st (i : Int) : tl (st i) = if i < 0 then 45 :: numL i.natAbs else numL i.natAbs := by
  by_cases h : i < 0
  · rw [if_pos h]
    obtain ⟨n, e⟩ : ∃ n : Nat, i = -((n + 1 : Nat) : Int) := ⟨i.natAbs - 1, by omega⟩
    subst e
    rw [tl_st_neg]
    congr 1
  · rw [if_neg h]
    obtain ⟨n, e⟩ : ∃ n : Nat, i = (n : Int) := ⟨i.natAbs, by omega⟩
    subst e
    rw [tl_st_nat]; rfl
theorem numL_no45 (n : Nat) : 45 ∉ numL n := numL_free (.inl (by decide))
theorem st_inj {i j : Int} (h : st i = st j) : i = j := by
  have e := congrArg tl h
  rw [tl_st, tl_st] at e
  by_cases h1 : i < 0 <;> by_cases h2 : j < 0
  · rw [if_pos h1, if_pos h2] at e
    have := numL_inj (List.cons.inj e).2
    omega
  · rw [if_pos h1, if_neg h2] at e
    exact absurd (show 45 ∈ numL j.natAbs by rw [← e]; simp) (numL_no45 _)
  · rw [if_neg h1, if_pos h2] at e
    exact absurd (show 45 ∈ numL i.natAbs by rw [e]; simp) (numL_no45 _)
  · rw [if_neg h1, if_neg h2] at e
    have := numL_inj e
    omega
open Classical in
/-- the int that a text tells -/
noncomputable def cv (s : Str) : Option Int := if h : ∃ i, s = st i then some h.choose else none
theorem cv_st (i : Int) : cv (st i) = some i := by
  have h : ∃ j, st i = st j := ⟨i, rfl⟩
  unfold cv
  rw [dif_pos h]
  exact congrArg some (st_inj h.choose_spec).symm
theorem cv_some {s : Str} {i : Int} (h : cv s = some i) : s = st i := by
  unfold cv at h
  split at h
  · rename_i q
    rw [← Option.some.inj h]
    exact q.choose_spec
  · cases h
theorem cv_none {s : Str} (h : ∀ i, s ≠ st i) : cv s = none := by
  unfold cv
  rw [dif_neg fun ⟨i, e⟩ => h i e]
theorem pow10 (k : Nat) : 10 ^ k ≤ 2 ^ (4 * k) := by
  rw [Nat.pow_mul]
  exact Nat.pow_le_pow_left (by decide) k
theorem numL_ge : ∀ (n : Nat), n < 10 ^ (numL n).length := by
  intro n
  induction n using Nat.strongRecOn with
  | _ n ih =>
    by_cases h : n < 10
    · rw [numL_lt h]; exact h
    · rw [numL_step (by omega), List.length_append]
      have := ih (n / 10) (by omega)
      show n < 10 ^ ((numL (n / 10)).length + 1)
      rw [Nat.pow_succ]
      omega
theorem bt_st {i : Int} {k : Nat} (h : (st i).length ≤ k) : i.natAbs < 2 ^ (4 * k) := by
  rw [len_tl, tl_st] at h
  have h1 : (numL i.natAbs).length ≤ k := by
    by_cases hi : i < 0
    · rw [if_pos hi] at h; simp at h; omega
    · rw [if_neg hi] at h; exact h
  exact Nat.lt_of_lt_of_le (numL_ge _) (Nat.le_trans (Nat.pow_le_pow_right (by decide) h1) (pow10 k))
/-! ### what a counting word is -/
theorem dig_ascii : ∀ c : Nat, c < 128 → Unicode.isDigit c = decide (48 ≤ c ∧ c ≤ 57) := by decide +kernel
theorem all_tl (x : Str) (p : Nat → Bool) : x.cps.all p = (tl x).all p := by
  show _ = x.cps.toList.all p
  rw [Array.all_toList]
theorem tl_0 : tl ("0" : Str) = [48] := by decide +kernel
theorem starts0 (w : Str) : Txt.startswith w "0" = ((tl w).take 1 == [48]) := by
  unfold Txt.startswith
  rw [StrLaws.subAt_eq]
  show (decide (0 + ("0" : Str).length ≤ w.length) && ((w.cps.toList.drop 0).take ("0" : Str).length == tl ("0" : Str))) = _
  have e : ("0" : Str).length = 1 := by decide +kernel
  rw [tl_0, e, List.drop_zero, len_tl]
  cases h : tl w with
  | nil => simp [h]
  | cons c l => simp [h]
def isC (w : Str) : Bool := Txt.isascii w && (Txt.isdigit w && !Txt.startswith w "0")
theorem isC_st {n : Nat} (h : 0 < n) : isC (st (n : Int)) = true := by
  obtain ⟨c, l, e, hc⟩ := numL_head (n := n) (by omega)
  have hd := numL_digits n
  have et := tl_st_nat n
  unfold isC Txt.isascii Txt.isdigit
  rw [starts0, all_tl, all_tl, et, len_tl, et]
  have a1 : (numL n).all (fun c => decide (c < 128)) = true := List.all_eq_true.mpr fun c hc => decide_eq_true (by have := hd c hc; omega)
  have a2 : (numL n).all Unicode.isDigit = true := List.all_eq_true.mpr fun c hc => by
    have := hd c hc
    rw [dig_ascii c (by omega)]
    exact decide_eq_true this
  rw [a1, a2, e]
  have : ¬ c = 48 := by omega
  simp [this]
theorem isC_some {w : Str} (h : isC w = true) : ∃ n : Nat, 0 < n ∧ w = st (n : Int) := by
  unfold isC Txt.isascii Txt.isdigit at h
  rw [starts0, all_tl, all_tl, len_tl] at h
  simp only [Bool.and_eq_true, List.all_eq_true, decide_eq_true_eq] at h
  obtain ⟨h1, ⟨h2, h3⟩, h4⟩ := h
  have hd : AllDigits (tl w) := fun c hc => by
    have a := h3 c hc
    rw [dig_ascii c (h1 c hc)] at a
    exact of_decide_eq_true a
  cases e : tl w with
  | nil => rw [e] at h2; exact absurd h2 (by decide)
  | cons c l =>
    rw [e] at hd h4
    have hc : 48 < c := by
      have := hd c (List.mem_cons_self ..)
      have : c ≠ 48 := fun z => by subst z; exact absurd h4 (by simp)
      omega
    refine ⟨digitsVal (c :: l), val_pos hc, ext_tl ?_⟩
    rw [tl_st_nat, numL_of hd hc, e]
/-- a text that counts, behind a sign or not, or a nought, is an int's -/
theorem rem_st (w : Str) : tl (Txt.removeprefix w "-") = (match tl w with
    | 45 :: l => l
    | l => l) := by
  have e45 : tl ("-" : Str) = [45] := by decide +kernel
  have e1 : ("-" : Str).length = 1 := by decide +kernel
  unfold Txt.removeprefix
  rw [StrLaws.subAt_eq, e1]
  show tl (Txt.affix w (if ((tl w).drop 0).take 1 == tl ("-" : Str) then _ else _)) = _
  rw [e45, List.drop_zero]
  cases h : tl w with
  | nil => simp [Txt.affix, h]
  | cons c l =>
    by_cases hc : c = 45
    · subst hc
      have hl : w.length = l.length + 1 := by rw [len_tl, h]; rfl
      show tl (if w.length - 1 == w.length then w else Builtin.Str.strSub w 1 w.length) = l
      rw [if_neg (by rw [hl]; simp), tl_strSub, h, hl]
      simp
    · have : ((c :: l).take 1 == [45]) = false := by simp [hc]
      rw [this]
      show tl w = _
      rw [h]
      split
      · rename_i e; cases e; exact absurd rfl hc
      · rfl
theorem cv_neg {l : List Nat} {w : Str} (hw : tl w = 45 :: l) {n : Nat} (hn : 0 < n) (e : l = numL n) : w = st (-(n : Int)) := by
  apply ext_tl
  rw [tl_st, if_pos (by omega), hw, e]
  congr 2
  omega
end MM

set_option linter.all false
namespace MM
/-! Q0: quotients in lowest terms. -/
/-- the divisor of both parts -/
def sg (a b : Int) : Int := if b < 0 then -((Nat.gcd a.natAbs b.natAbs : Nat) : Int) else ((Nat.gcd a.natAbs b.natAbs : Nat) : Int)
theorem sg_ne {a b : Int} (h : b ≠ 0) : sg a b ≠ 0 := by
  have : Nat.gcd a.natAbs b.natAbs ≠ 0 := fun e => h (by have := (Nat.gcd_eq_zero_iff.mp e).2; omega)
  unfold sg; split <;> omega
theorem fdiv_of_dvd {a b c : Int} (h : b ≠ 0) (e : a = b * c) : a.fdiv b = c := by
  subst e; exact Int.mul_fdiv_cancel_left c h
theorem sg_num {a b : Int} (h : b ≠ 0) : a.fdiv (sg a b) = (Rat.divInt a b).num := by
  apply fdiv_of_dvd (sg_ne h)
  rw [Rat.num_divInt]
  have hg : ((b.gcd a : Nat) : Int) ≠ 0 := by
    have : b.gcd a ≠ 0 := fun e => h (by have := (Int.gcd_eq_zero_iff.mp e).1; exact this)
    omega
  have hd : ((b.gcd a : Nat) : Int) ∣ b.sign * a := Int.dvd_mul_of_dvd_right (Int.gcd_dvd_right ..)
  have e1 : ((b.gcd a : Nat) : Int) * (b.sign * a / (b.gcd a : Nat)) = b.sign * a := Int.mul_ediv_cancel' hd
  have e2 : (Nat.gcd a.natAbs b.natAbs) = b.gcd a := by rw [Int.gcd_comm]; rfl
  unfold sg
  rw [e2]
  split
  · rename_i hb
    have hs : b.sign = -1 := Int.sign_eq_neg_one_of_neg hb
    rw [hs] at e1 ⊢
    rw [Int.neg_mul]
    omega
  · have hs : b.sign = 1 := Int.sign_eq_one_of_pos (by omega)
    rw [hs] at e1 ⊢
    omega
theorem sg_den {a b : Int} (h : b ≠ 0) : b.fdiv (sg a b) = ((Rat.divInt a b).den : Int) := by
  apply fdiv_of_dvd (sg_ne h)
  rw [Rat.den_divInt, if_neg h]
  have hd : b.gcd a ∣ b.natAbs := Int.gcd_dvd_natAbs_left ..
  have e1 : b.gcd a * (b.natAbs / b.gcd a) = b.natAbs := Nat.mul_div_cancel' hd
  have e2 : (Nat.gcd a.natAbs b.natAbs) = b.gcd a := by rw [Int.gcd_comm]; rfl
  unfold sg
  rw [e2]
  have e3 : ((b.gcd a : Nat) : Int) * ((b.natAbs / b.gcd a : Nat) : Int) = (b.natAbs : Int) := by rw [← Int.natCast_mul, e1]
  split
  · rw [Int.neg_mul, e3]; omega
  · rw [e3]; omega
end MM

set_option linter.all false
namespace MM
theorem num_le {a b : Int} (h : b ≠ 0) : (Rat.divInt a b).num.natAbs ≤ a.natAbs := by
  have e : a = sg a b * (Rat.divInt a b).num := by
    rw [← sg_num h]
    have hd : sg a b ∣ a := by
      have : ((Nat.gcd a.natAbs b.natAbs : Nat) : Int) ∣ a := Int.ofNat_dvd_left.mpr (Nat.gcd_dvd_left ..)
      unfold sg; split
      · exact Int.neg_dvd.mpr this
      · exact this
    rw [Int.fdiv_eq_ediv_of_dvd hd, Int.mul_ediv_cancel' hd]
  have e2 : a.natAbs = (sg a b).natAbs * (Rat.divInt a b).num.natAbs := by rw [← Int.natAbs_mul, ← e]
  have : 0 < (sg a b).natAbs := Int.natAbs_pos.mpr (sg_ne h)
  rw [e2]
  exact Nat.le_mul_of_pos_left _ this
theorem den_le {a b : Int} (h : b ≠ 0) : (Rat.divInt a b).den ≤ b.natAbs := by
  rw [Rat.den_divInt, if_neg h]
  exact Nat.div_le_self ..
/-- of at most k bits -/
def Bt (k : Nat) (a : Int) : Prop := a.natAbs < 2 ^ k
theorem Bt.log {k : Nat} {a : Int} (h : Bt k a) : a.natAbs.log2 ≤ k := by
  by_cases e : a.natAbs = 0
  · rw [e]; exact Nat.zero_le _
  · exact Nat.le_of_lt ((Nat.log2_lt e).mpr h)
theorem Bt.mono {k m : Nat} {a : Int} (h : Bt k a) (l : k ≤ m) : Bt m a := Nat.lt_of_lt_of_le h (Nat.pow_le_pow_right (by decide) l)
theorem Bt.mul {k m : Nat} {a b : Int} (h : Bt k a) (l : Bt m b) : Bt (k + m) (a * b) := by
  unfold Bt at *
  rw [Int.natAbs_mul, Nat.pow_add]
  exact Nat.mul_lt_mul'' h l
theorem Bt.add {k : Nat} {a b : Int} (h : Bt k a) (l : Bt k b) : Bt (k + 1) (a + b) := by
  unfold Bt at *
  rw [Nat.pow_succ]
  omega
theorem Bt.sub {k : Nat} {a b : Int} (h : Bt k a) (l : Bt k b) : Bt (k + 1) (a - b) := by
  unfold Bt at *
  rw [Nat.pow_succ]
  omega
theorem Bt.neg {k : Nat} {a : Int} (h : Bt k a) : Bt k (-a) := by
  unfold Bt at *
  omega
/-- a quotient of at most k bits -/
structure Bq (k : Nat) (q : Rat) : Prop where
  n : Bt k q.num
  d : Bt k q.den
theorem Bq.mono {k m : Nat} {q : Rat} (h : Bq k q) (l : k ≤ m) : Bq m q := ⟨h.n.mono l, h.d.mono l⟩
theorem Bq.mk' {k : Nat} {a b : Int} (h : b ≠ 0) (ha : Bt k a) (hb : Bt k b) : Bq k (Rat.divInt a b) :=
  ⟨Nat.lt_of_le_of_lt (num_le h) ha, Nat.lt_of_le_of_lt (by have := den_le (a := a) h; omega) hb⟩
theorem rat_add (p q : Rat) : Rat.divInt (p.num * q.den + q.num * p.den) (p.den * q.den) = p + q := by
  rw [Rat.add_def', ← Rat.divInt_ofNat]; rfl
theorem rat_sub (p q : Rat) : Rat.divInt (p.num * q.den - q.num * p.den) (p.den * q.den) = p - q := by
  rw [Rat.sub_def', ← Rat.divInt_ofNat]; rfl
theorem rat_mul (p q : Rat) : Rat.divInt (p.num * q.num) (p.den * q.den) = p * q := by
  rw [Rat.mul_def', ← Rat.divInt_ofNat]; rfl
theorem rat_neg (p : Rat) : Rat.divInt (-p.num) p.den = -p := by
  rw [Rat.divInt_ofNat, ← Rat.neg_mkRat, Rat.mkRat_self]
theorem rat_div (p q : Rat) : Rat.divInt (p.num * q.den) (p.den * q.num) = p / q := by
  rw [Rat.div_def, Rat.inv_def]
  conv => rhs; rw [← Rat.num_divInt_den p]
  rw [Rat.divInt_mul_divInt]
theorem rat_int (n : Int) : Rat.divInt n 1 = (n : Rat) := Rat.ext (by rw [Rat.num_divInt]; simp) (by rw [Rat.den_divInt]; simp)
theorem rat_dn (p : Rat) : (p.den : Int) ≠ 0 := by have := p.den_nz; omega
theorem rat_dm (p q : Rat) : (p.den : Int) * q.den ≠ 0 := Int.mul_ne_zero (rat_dn p) (rat_dn q)
theorem Bq.add {k : Nat} {p q : Rat} (h : Bq k p) (l : Bq k q) : Bq (k + k + 1) (p + q) := by
  rw [← rat_add]
  exact Bq.mk' (rat_dm p q) ((h.n.mul l.d).add (l.n.mul h.d)) ((h.d.mul l.d).mono (by omega))
theorem Bq.sub {k : Nat} {p q : Rat} (h : Bq k p) (l : Bq k q) : Bq (k + k + 1) (p - q) := by
  rw [← rat_sub]
  exact Bq.mk' (rat_dm p q) ((h.n.mul l.d).sub (l.n.mul h.d)) ((h.d.mul l.d).mono (by omega))
theorem Bq.mul {k m : Nat} {p q : Rat} (h : Bq k p) (l : Bq m q) : Bq (k + m) (p * q) := by
  rw [← rat_mul]
  exact Bq.mk' (rat_dm p q) (h.n.mul l.n) (h.d.mul l.d)
theorem Bq.neg {k : Nat} {p : Rat} (h : Bq k p) : Bq k (-p) := ⟨h.n.neg, h.d⟩
theorem Bq.int {k : Nat} {n : Int} (h : Bt k n) (hk : 0 < k) : Bq k (n : Rat) := ⟨h, by
  show (1 : Nat) < 2 ^ k
  exact Nat.one_lt_two_pow (by omega)⟩
theorem Bq.pow {k : Nat} {p : Rat} (h : Bq k p) : ∀ n : Nat, Bq (k * n + 1) (p ^ n)
  | 0 => by rw [Rat.pow_zero]; exact ⟨by show 1 < 2 ^ (k * 0 + 1); simp, by show 1 < 2 ^ (k * 0 + 1); simp⟩
  | n + 1 => by rw [Rat.pow_succ]; exact ((Bq.pow h n).mul h).mono (by rw [Nat.mul_succ]; omega)
end MM

set_option Elab.async false
set_option linter.all false
set_option maxRecDepth 100000
set_option maxHeartbeats 4000000
namespace MM
open PySem
/-! Y0: outcomes, worked out: what all laws share. -/
/-- a bind whose second part is left alone until the first is known -/
abbrev RF {α β : Type} (_ : α → En → R β) : Type := R β
def R.bd {α β : Type} (r : R α) (f : α → En → R β) : RF f := r.bind f
theorem R.to_bd {α β : Type} (r : R α) (f : α → En → R β) : r.bind f = R.bd r f := rfl
theorem R.bd_ok {α β : Type} (a : α) (e : En) (f : α → En → R β) : R.bd (.ok a e) f = f a e := rfl
theorem R.bd_er {α β : Type} (c : Str) (x : Option (Str × D)) (e : En) (f : α → En → R β) : R.bd (.er c x e) f = .er c x e := rfl
theorem R.bd_no {α β : Type} (f : α → En → R β) : R.bd .no f = .no := rfl
abbrev CF {α : Type} (_ _ : α) : Type := α
def cdF {α : Type} (b : Bool) (x y : α) : CF x y := cond b x y
theorem to_cd {α : Type} (b : Bool) (x y : α) : cond b x y = cdF b x y := rfl
theorem cd_t {α : Type} (x y : α) : cdF true x y = x := rfl
theorem cd_f {α : Type} (x y : α) : cdF false x y = y := rfl
theorem atI0 {α : Type} {x : α} {xs : List α} : L2.atI (x :: xs) 0 = some x := by simp [L2.atI, L2.ixN]
theorem atI1 {α : Type} {x y : α} {xs : List α} : L2.atI (x :: y :: xs) 1 = some y := by
  have h : (1 : Int) < ((xs.length : Int) + 1 + 1) := by omega
  simp [L2.atI, L2.ixN, h]
theorem atI2 {α : Type} {x y z : α} {xs : List α} : L2.atI (x :: y :: z :: xs) 2 = some z := by
  have h : (2 : Int) < ((xs.length : Int) + 1 + 1 + 1) := by omega
  simp [L2.atI, L2.ixN, h]
theorem nodup1 {α : Type} (a : α) : [a].Nodup = True := by simp
theorem dIx_lst (ds : List D) (i : Int) : dIx (.lst ds) (.int i) = (L2.atI ds i).map .val := rfl
theorem dIx_frl (ds : List D) (i : Int) : dIx (.frl ds) (.int i) = (L2.atI ds i).map .val := rfl
theorem dIx_tup (ds : List D) (i : Int) : dIx (.tup ds) (.int i) = (L2.atI ds i).map .val := rfl
theorem dAdd_int (a b : Int) : dAdd (.int a) (.int b) = some (.val (.int (a + b))) := rfl
theorem dAbs_int (a : Int) : dAbs (.int a) = some (.val (.int a.natAbs)) := by
  have e : (if a < 0 then -a else a) = (a.natAbs : Int) := by split <;> omega
  show some (Tk.val (.int (if a < 0 then -a else a))) = _
  rw [e]
theorem dSub_int (a b : Int) : dSub (.int a) (.int b) = some (.val (.int (a - b))) := rfl
theorem dMul_int (a b : Int) (h : a.natAbs.log2 + b.natAbs.log2 < 1000000) : dMul (.int a) (.int b) = some (.val (.int (a * b))) := by
  simp only [dMul, dMulI, h, if_true]; rfl
theorem dMul_bt {k m : Nat} {a b : Int} (ha : Bt k a) (hb : Bt m b) (h : k + m < 1000000 := by omega) : dMul (.int a) (.int b) = some (.val (.int (a * b))) :=
  dMul_int a b (by have := ha.log; have := hb.log; omega)
theorem dDiv_int (a b : Int) (h : b ≠ 0) (h2 : b.natAbs.log2 < 9000) : dDiv (.int a) (.int b) = some (.val (.int (a.fdiv b))) := by
  show (if b ≠ 0 ∧ b.natAbs.log2 < 9000 then some (Tk.val (.int (a.fdiv b))) else none) = _
  rw [if_pos ⟨h, h2⟩]
theorem dMod_int (a b : Int) (h : b ≠ 0) : dMod (.int a) (.int b) = some (.val (.int (a.fmod b))) := by
  show (if b ≠ 0 then some (Tk.val (.int (a.fmod b))) else none) = _
  rw [if_pos h]
theorem dLt_int (a b : Int) : ((dLtI (.int a) (.int b)).orElse fun _ => dLtS (.int a) (.int b)) = some (.val (.bl (decide (a < b)))) := rfl
theorem dGt_int (a b : Int) : dSw dLtI (.int a) (.int b) = some (.val (.bl (decide (b < a)))) := rfl
theorem dLe_int (a b : Int) : dLeI (.int a) (.int b) = some (.val (.bl (decide (a ≤ b)))) := rfl
theorem dGe_int (a b : Int) : dSw dLeI (.int a) (.int b) = some (.val (.bl (decide (b ≤ a)))) := rfl
theorem dEq_int (a b : Int) : dEq (.int a) (.int b) = some (.val (.bl (decide (a = b)))) := rfl
theorem dEq_bl (a b : Bool) : dEq (.bl a) (.bl b) = some (.val (.bl (decide (a = b)))) := rfl
theorem dNe_bl (a b : Bool) : dNe (.bl a) (.bl b) = some (.val (.bl (!decide (a = b)))) := rfl
theorem dNe_int (a b : Int) : dNe (.int a) (.int b) = some (.val (.bl (!decide (a = b)))) := rfl
def rt (q : Rat) : D := .ins "Ratio" [("_top", .int q.num), ("_bottom", .int q.den)]
def fr (q : Rat) : D := .tup [.int q.num, .int q.den]
theorem ixf0 (q : Rat) : dIx (fr q) (.int 0) = some (.val (.int q.num)) := rfl
theorem ixf1 (q : Rat) : dIx (fr q) (.int 1) = some (.val (.int q.den)) := rfl
theorem fr_int (n : Int) : D.tup [.int n, .int 1] = fr (n : Rat) := rfl
theorem dEq_fr (p q : Rat) : dEq (fr p) (fr q) = some (.val (.bl (decide (p = q)))) := by
  show (if SeqAt.shaped (.tuple [.int p.num, .int p.den]) = true ∧ SeqAt.shaped (.tuple [.int q.num, .int q.den]) = true then some (Tk.val (.bl (PyData.eqv (.tuple [.int p.num, .int p.den]) (.tuple [.int q.num, .int q.den])))) else none) = _
  rw [if_pos ⟨rfl, rfl⟩]
  have : PyData.eqv (.tuple [.int p.num, .int p.den]) (.tuple [.int q.num, .int q.den]) = decide (p = q) := by
    simp only [PyData.eqv, PyData.eqvAll]
    by_cases h : p = q
    · subst h; simp
    · rw [decide_eq_false h]
      have : ¬ (p.num = q.num ∧ p.den = q.den) := fun z => h (Rat.ext z.1 z.2)
      simp
      intro e
      exact fun z => this ⟨e, by omega⟩
  rw [this]
theorem dEq_fr2 (p q : Rat) : dEq (.tup [.int p.num, .int p.den]) (fr q) = some (.val (.bl (decide (p = q)))) := dEq_fr p q
theorem itD_lst (ds : List D) : itD (.lst ds) = some ds := rfl
theorem itD_frl (ds : List D) : itD (.frl ds) = some ds := rfl
theorem itD_tup (ds : List D) : itD (.tup ds) = some ds := rfl
def nbOk (c : Str) (o : Option D) : Bool := match o with | some (.int _) => true | d => insOf c d
theorem ownBin_def (c mn : Str) (m : En → R Tk) (t s : Tk) (e : En) : ownBin c mn m t s e = (mAr false t e).bind fun a e1 => (mAr false s e1).bind fun b e2 => bif isRecv c mn (arD e2 a) && nbOk c (arD e2 b) then callS m [a, b] e2 else .no := rfl
theorem nbOk_q (q : Rat) : nbOk "Ratio" (some (rt q)) = true := rfl
theorem nbOk_i (n : Int) : nbOk "Ratio" (some (.int n)) = true := rfl
theorem mItA_of {g : List D → Option (List D)} {f : En → R (List Ar)} {e e1 : En} {as : List Ar} {l ds : List D} (h : f e = .ok as e1) (h2 : dsOf as = some l) (h3 : g l = some ds) : mItA g f e = .ok ds e1 := by
  unfold mItA
  rw [h, R.bind_ok, h2, Option.bind_some, h3]
theorem rng1 {n : Int} (h : 0 ≤ n) (h2 : n < 4000000000) : dRng1 [.int n] = some (rngD 0 n) := by
  simp only [dRng1]
  rw [if_pos (by omega)]
theorem fp1 (d : D) : fldP ["Ratio"] "_top" d (.ins "Ratio" []) = some (.ins "Ratio" [("_top", d)]) := rfl
theorem fp2 (d x : D) : fldP ["Ratio"] "_bottom" d (.ins "Ratio" [("_top", x)]) = some (.ins "Ratio" [("_top", x), ("_bottom", d)]) := rfl
theorem fl1 (q : Rat) : dFld ["Ratio"] "_top" (rt q) = some (.val (.int q.num)) := rfl
theorem fl2 (q : Rat) : dFld ["Ratio"] "_bottom" (rt q) = some (.val (.int q.den)) := rfl
theorem rv1 (q : Rat) : isRecv "Ratio" "__add__" (some (rt q)) = true := rfl
theorem rv2 (q : Rat) : isRecv "Ratio" "__sub__" (some (rt q)) = true := rfl
theorem rv3 (q : Rat) : isRecv "Ratio" "__mul__" (some (rt q)) = true := rfl
theorem rv4 (q : Rat) : isRecv "Ratio" "__neg__" (some (rt q)) = true := rfl
theorem rv5 (q : Rat) : isRecv "Ratio" "__eq__" (some (rt q)) = true := rfl
theorem rv6 (q : Rat) : isRecv "Ratio" "__lt__" (some (rt q)) = true := rfl
theorem rv7 (q : Rat) : isRecv "Ratio" "__le__" (some (rt q)) = true := rfl
theorem rv8 (q : Rat) : isRecv "Ratio" "over" (some (rt q)) = true := rfl
theorem rv9 (q : Rat) : isRecv "Ratio" "top" (some (rt q)) = true := rfl
theorem rv10 (q : Rat) : isRecv "Ratio" "bottom" (some (rt q)) = true := rfl
theorem in1 (q : Rat) : insOf "Ratio" (some (rt q)) = true := rfl
theorem in2 (n : Int) : insOf "Ratio" (some (.int n)) = false := rfl
theorem ok1 (q : Rat) : okR "Ratio" (some (rt q)) = true := rfl
theorem ok2 (n : Int) : okR "Ratio" (some (.int n)) = true := rfl
theorem gc1 (q : Rat) : gCl "Ratio" ["Ratio"] (rt q) = some true := rfl
theorem gc2 (n : Int) : gCl "Ratio" ["Ratio"] (.int n) = some false := rfl
theorem gt1 (q : Rat) : gTy "int" ["Ratio"] (rt q) = some false := rfl
theorem gt2 (n : Int) : gTy "int" ["Ratio"] (.int n) = some true := rfl
theorem gt3 (q : Rat) : gTy "bool" ["Ratio"] (rt q) = some false := rfl
theorem gt4 (n : Int) : gTy "bool" ["Ratio"] (.int n) = some false := rfl
/-- a number -/
inductive Nb : D → Rat → Prop
  | q (q : Rat) : Nb (rt q) q
  | i (n : Int) : Nb (.int n) (n : Rat)
theorem decide_rat {p q : Rat} : (decide (p.num = q.num) && decide (p.den = q.den)) = decide (p = q) := by
  by_cases h : p = q
  · subst h; simp
  · rw [decide_eq_false h]
    have : ¬ (p.num = q.num ∧ p.den = q.den) := fun z => h (Rat.ext z.1 z.2)
    simp
    exact fun e z => this ⟨e, z⟩
theorem int_le_rat {p q : Rat} : decide (p.num * q.den ≤ q.num * p.den) = decide (p ≤ q) := by
  by_cases h : p ≤ q
  · rw [decide_eq_true h, decide_eq_true ((Rat.le_iff ..).mp h)]
  · rw [decide_eq_false h, decide_eq_false fun z => h ((Rat.le_iff ..).mpr z)]
theorem int_lt_rat {p q : Rat} : decide (p.num * q.den < q.num * p.den) = decide (p < q) := by
  by_cases h : p < q
  · rw [decide_eq_true h, decide_eq_true ((Rat.lt_iff ..).mp h)]
  · rw [decide_eq_false h, decide_eq_false fun z => h ((Rat.lt_iff ..).mpr z)]
theorem bt0 {k : Nat} : Bt k 0 := Nat.two_pow_pos k
theorem bt1 {k : Nat} (h : 0 < k) : Bt k 1 := Nat.one_lt_two_pow (by omega)
theorem put0 (d a b c : D) : putP (.int 0) d (.lst [a, b, c]) = some (.lst [d, b, c]) := rfl
theorem put1 (d a b c : D) : putP (.int 1) d (.lst [a, b, c]) = some (.lst [a, d, c]) := rfl
theorem pw18 : dPow (.int 10) (.int 18) = some (.val (.int 1000000000000000000)) := rfl
theorem pw8 : dPow (.int 10) (.int 8) = some (.val (.int (10 ^ 8))) := rfl
theorem pw30 : dPow (.int 10) (.int 30) = some (.val (.int (10 ^ 30))) := rfl
theorem pw59 : dPow (.int 10) (.int 59) = some (.val (.int (10 ^ 59))) := rfl
theorem dPow_bt {a : Int} (h : Bt 9999 a) : dPow (.int a) (.int 3) = some (.val (.int (a ^ 3))) := by
  have := h.log
  simp only [dPow]
  rw [if_pos (by omega)]
  rfl
/-- a box of draws, of at most n of them -/
def Box (n : Int) (d : D) : Prop := ∃ b0 b1 b2 : Int, d = .lst [.int b0, .int b1, .int b2] ∧ 0 ≤ b0 ∧ 0 ≤ b1 ∧ b1 ≤ n ∧ Bt 50 b2
theorem Box.mono {n m : Int} {d : D} (h : Box n d) (l : n ≤ m) : Box m d := by
  obtain ⟨a, b, c, e, h0, h1, h2, h3⟩ := h
  exact ⟨a, b, c, e, h0, h1, by omega, h3⟩
theorem exG_bz : exG [("ByZero", true)] "ByZero" = some true := rfl
theorem okR_f (q : Rat) : okR "Ratio" (some (fr q)) = true := rfl
theorem gCl_f (q : Rat) : gCl "Ratio" ["Ratio"] (fr q) = some false := rfl
theorem gTy_f (q : Rat) : gTy "int" ["Ratio"] (fr q) = some false := rfl
theorem dAdd_lst {a b : List D} (h : a.length + b.length ≤ 16777216) : dAdd (.lst a) (.lst b) = some (.nw (.lst (a ++ b))) := by
  have e : dAddL (.lst a) (.lst b) = some (.nw (.lst (a ++ b))) := by
    simp only [dAddL]
    rw [if_pos h]
  unfold dAdd
  rw [e]
  rfl
theorem dNe_nil : dNe (.lst []) (.lst []) = some (.val (.bl false)) := rfl
theorem dNe_fr (p q : Rat) : dNe (fr p) (fr q) = some (.val (.bl (!decide (p = q)))) := by
  unfold dNe
  rw [dEq_fr]
  rfl
theorem dLen_lst (ds : List D) : dLen (.lst ds) = some (.val (.int ds.length)) := rfl
def Sl.nio : Sl → Bool
  | .io _ => false
  | _ => true
theorem nio_no : Sl.nio .no = true := rfl
theorem nio_sh (d : D) : Sl.nio (.sh d) = true := rfl
theorem nio_ow (d : D) : Sl.nio (.ow d) = true := rfl
theorem asgS_nio {i : Nat} {t : Tk} {e : En} {s : Sl} (h : s.nio = true) : asgS i t e (some s) = asgT i e t := by
  cases s with
  | io d => cases h
  | _ => rfl
theorem loopF_cons {a : D → En → R Unit} {g : En → R Fl} {d : D} {ds : List D} {e e1 e2 : En} {r : R Fl} (h1 : a d e = .ok () e1) (h2 : g e1 = .ok .nx e2) (h3 : loopF a g ds e2 = r) : loopF a g (d :: ds) e = r := by
  unfold loopF
  rw [h1]
  show aft (g e1) _ = r
  rw [h2]
  exact h3
theorem it9 {f : En → R (List Ar)} {e e1 : En} (h : f e = .ok [.d (.int 9)] e1) : mItA dRng1 f e = .ok (rngD 0 9) e1 := mItA_of h rfl (rng1 (by decide) (by decide))
end MM

set_option Elab.async false
set_option linter.all false
set_option maxRecDepth 100000
set_option maxHeartbeats 4000000
/-! K03: the defs of the row, their outcomes, their promises. -/
namespace K03
open PySem PySem.Spec PyProof.Rows L2 PySem.W MM
def top (i : Nat) : Stmt := PySem.Challenge.pw_finalblocks_k03_texts_of_ratios.main.body.getD i (.Pass ⟨0, 0, 0, 0⟩)
abbrev s_law_cell : Stmt := top 14
abbrev d_law_cell : Df := ⟨.g "_law_cell", "_law_cell", "_law_cell", s_law_cell, []⟩
abbrev s_law_box : Stmt := top 15
abbrev d_law_box : Df := ⟨.g "_law_box", "_law_box", "_law_box", s_law_box, []⟩
abbrev s_law_frac : Stmt := top 17
abbrev d_law_frac : Df := ⟨.g "_law_frac", "_law_frac", "_law_frac", s_law_frac, []⟩
abbrev s_law_take : Stmt := top 16
abbrev d_law_take : Df := ⟨.g "_law_take", "_law_take", "_law_take", s_law_take, []⟩
abbrev s_is_counting : Stmt := top 9
abbrev d_is_counting : Df := ⟨.g "_is_counting", "_is_counting", "_is_counting", s_is_counting, []⟩
abbrev s_Ratio_text : Stmt := inClass (top 8) 12
abbrev d_Ratio_text : Df := ⟨.m "Ratio" "text", "text", "Ratio.text", s_Ratio_text, []⟩
abbrev s_Ratio___init : Stmt := inClass (top 8) 0
abbrev d_Ratio___init : Df := ⟨.m "Ratio" "__init__", "__init__", "Ratio.__init__", s_Ratio___init, [.int 1]⟩
abbrev s_Ratio_read : Stmt := inClass (top 8) 1
abbrev d_Ratio_read : Df := ⟨.cm "Ratio" "read", "read", "Ratio.read", s_Ratio_read, []⟩
abbrev s_Ratio_top : Stmt := inClass (top 8) 2
abbrev d_Ratio_top : Df := ⟨.pr "Ratio" "top", "top", "Ratio.top", s_Ratio_top, []⟩
abbrev s_Ratio_bottom : Stmt := inClass (top 8) 3
abbrev d_Ratio_bottom : Df := ⟨.pr "Ratio" "bottom", "bottom", "Ratio.bottom", s_Ratio_bottom, []⟩
abbrev s_law_read : Stmt := top 20
abbrev d_law_read : Df := ⟨.g "_law_read", "_law_read", "_law_read", s_law_read, []⟩
abbrev s_law_whole : Stmt := top 18
abbrev d_law_whole : Df := ⟨.g "_law_whole", "_law_whole", "_law_whole", s_law_whole, []⟩
abbrev s_law_due : Stmt := top 19
abbrev d_law_due : Df := ⟨.g "_law_due", "_law_due", "_law_due", s_law_due, []⟩
abbrev s_is_whole : Stmt := top 10
abbrev d_is_whole : Df := ⟨.g "is_whole", "is_whole", "is_whole", s_is_whole, []⟩
abbrev s_Ratio___eq : Stmt := inClass (top 8) 8
abbrev d_Ratio___eq : Df := ⟨.m "Ratio" "__eq__", "__eq__", "Ratio.__eq__", s_Ratio___eq, []⟩
abbrev s_law : Stmt := top 21
abbrev d_law : Df := ⟨.g "law", "law", "law", s_law, []⟩
def fn : List Df := [d_law_cell, d_law_box, d_law_frac, d_law_take, d_is_counting, d_Ratio_text, d_Ratio___init, d_Ratio_read, d_Ratio_top, d_Ratio_bottom, d_law_read, d_law_whole, d_law_due, d_is_whole, d_Ratio___eq, d_law]
def fa : List Fac := [fFree "len", fGlo "_law_cell", fFree "int", fFree "abs", fGlo "Ratio", fCls "Ratio", fNo "Ratio" "_bottom", fNo "Ratio" "_top", fFree "str", fExc "ByZero", fGlo "ByZero", fVal "gcd" (.builtin "math.gcd"), fGlo "_is_counting", fExc "BadText", fGlo "BadText", fMk "Ratio", fMeth "Ratio" "text", fCRead "Ratio", fCMet "Ratio" "read", fExm "BadText" "BadText" true, fProp "Ratio" "bottom", fProp "Ratio" "top", fGlo "_law_whole", fGlo "_law_frac", fIsT "int" ["Ratio"], fFree "isinstance", fIsT "bool" ["Ratio"], fFree "bool", fIsC "Ratio" ["Ratio"], fGlo "is_whole", fFree "min", fFree "max", fFree "range", fGlo "_law_box", fGlo "_law_take", fGlo "_law_read", fGlo "_law_due", fMeth "Ratio" "__eq__", fOrd "Ratio", fGlo "law"]
theorem h0 {K : Frag} {mg : Str → Option Value} (c : Ctx fa fn K mg) : mg "len" = none := c.free 0 rfl
theorem h1 {K : Frag} {mg : Str → Option Value} (c : Ctx fa fn K mg) : mg "_law_cell" = some (.ref (He.ga K "_law_cell")) := c.glo 1 rfl
theorem h2 {K : Frag} {mg : Str → Option Value} (c : Ctx fa fn K mg) : mg "int" = none := c.free 2 rfl
theorem h3 {K : Frag} {mg : Str → Option Value} (c : Ctx fa fn K mg) : mg "abs" = none := c.free 3 rfl
theorem h4 {K : Frag} {mg : Str → Option Value} (c : Ctx fa fn K mg) : mg "Ratio" = some (.ref (He.ga K "Ratio")) := c.glo 4 rfl
theorem h5 {K : Frag} {mg : Str → Option Value} (c : Ctx fa fn K mg) : fCls "Ratio" K = true := c.fact 5 rfl
theorem h6 {K : Frag} {mg : Str → Option Value} (c : Ctx fa fn K mg) : fNo "Ratio" "_bottom" K = true := c.fact 6 rfl
theorem h7 {K : Frag} {mg : Str → Option Value} (c : Ctx fa fn K mg) : fNo "Ratio" "_top" K = true := c.fact 7 rfl
theorem h8 {K : Frag} {mg : Str → Option Value} (c : Ctx fa fn K mg) : mg "str" = none := c.free 8 rfl
theorem h9 {K : Frag} {mg : Str → Option Value} (c : Ctx fa fn K mg) : fExc "ByZero" K = true := c.fact 9 rfl
theorem h10 {K : Frag} {mg : Str → Option Value} (c : Ctx fa fn K mg) : mg "ByZero" = some (.ref (He.ga K "ByZero")) := c.glo 10 rfl
theorem h11 {K : Frag} {mg : Str → Option Value} (c : Ctx fa fn K mg) : mg "gcd" = some (.builtin "math.gcd") := c.val 11 rfl
theorem h12 {K : Frag} {mg : Str → Option Value} (c : Ctx fa fn K mg) : mg "_is_counting" = some (.ref (He.ga K "_is_counting")) := c.glo 12 rfl
theorem h13 {K : Frag} {mg : Str → Option Value} (c : Ctx fa fn K mg) : fExc "BadText" K = true := c.fact 13 rfl
theorem h14 {K : Frag} {mg : Str → Option Value} (c : Ctx fa fn K mg) : mg "BadText" = some (.ref (He.ga K "BadText")) := c.glo 14 rfl
theorem h15 {K : Frag} {mg : Str → Option Value} (c : Ctx fa fn K mg) : fMk "Ratio" K = true := c.fact 15 rfl
theorem h16 {K : Frag} {mg : Str → Option Value} (c : Ctx fa fn K mg) : fMeth "Ratio" "text" K = true := c.fact 16 rfl
theorem h17 {K : Frag} {mg : Str → Option Value} (c : Ctx fa fn K mg) : fCRead "Ratio" K = true := c.fact 17 rfl
theorem h18 {K : Frag} {mg : Str → Option Value} (c : Ctx fa fn K mg) : fCMet "Ratio" "read" K = true := c.fact 18 rfl
theorem h19 {K : Frag} {mg : Str → Option Value} (c : Ctx fa fn K mg) : fExm "BadText" "BadText" true K = true := c.fact 19 rfl
theorem h20 {K : Frag} {mg : Str → Option Value} (c : Ctx fa fn K mg) : fProp "Ratio" "bottom" K = true := c.fact 20 rfl
theorem h21 {K : Frag} {mg : Str → Option Value} (c : Ctx fa fn K mg) : fProp "Ratio" "top" K = true := c.fact 21 rfl
theorem h22 {K : Frag} {mg : Str → Option Value} (c : Ctx fa fn K mg) : mg "_law_whole" = some (.ref (He.ga K "_law_whole")) := c.glo 22 rfl
theorem h23 {K : Frag} {mg : Str → Option Value} (c : Ctx fa fn K mg) : mg "_law_frac" = some (.ref (He.ga K "_law_frac")) := c.glo 23 rfl
theorem h24 {K : Frag} {mg : Str → Option Value} (c : Ctx fa fn K mg) : fIsT "int" ["Ratio"] K = true := c.fact 24 rfl
theorem h25 {K : Frag} {mg : Str → Option Value} (c : Ctx fa fn K mg) : mg "isinstance" = none := c.free 25 rfl
theorem h26 {K : Frag} {mg : Str → Option Value} (c : Ctx fa fn K mg) : fIsT "bool" ["Ratio"] K = true := c.fact 26 rfl
theorem h27 {K : Frag} {mg : Str → Option Value} (c : Ctx fa fn K mg) : mg "bool" = none := c.free 27 rfl
theorem h28 {K : Frag} {mg : Str → Option Value} (c : Ctx fa fn K mg) : fIsC "Ratio" ["Ratio"] K = true := c.fact 28 rfl
theorem h29 {K : Frag} {mg : Str → Option Value} (c : Ctx fa fn K mg) : mg "is_whole" = some (.ref (He.ga K "is_whole")) := c.glo 29 rfl
theorem h30 {K : Frag} {mg : Str → Option Value} (c : Ctx fa fn K mg) : mg "min" = none := c.free 30 rfl
theorem h31 {K : Frag} {mg : Str → Option Value} (c : Ctx fa fn K mg) : mg "max" = none := c.free 31 rfl
theorem h32 {K : Frag} {mg : Str → Option Value} (c : Ctx fa fn K mg) : mg "range" = none := c.free 32 rfl
theorem h33 {K : Frag} {mg : Str → Option Value} (c : Ctx fa fn K mg) : mg "_law_box" = some (.ref (He.ga K "_law_box")) := c.glo 33 rfl
theorem h34 {K : Frag} {mg : Str → Option Value} (c : Ctx fa fn K mg) : mg "_law_take" = some (.ref (He.ga K "_law_take")) := c.glo 34 rfl
theorem h35 {K : Frag} {mg : Str → Option Value} (c : Ctx fa fn K mg) : mg "_law_read" = some (.ref (He.ga K "_law_read")) := c.glo 35 rfl
theorem h36 {K : Frag} {mg : Str → Option Value} (c : Ctx fa fn K mg) : mg "_law_due" = some (.ref (He.ga K "_law_due")) := c.glo 36 rfl
theorem h37 {K : Frag} {mg : Str → Option Value} (c : Ctx fa fn K mg) : fMeth "Ratio" "__eq__" K = true := c.fact 37 rfl
theorem h38 {K : Frag} {mg : Str → Option Value} (c : Ctx fa fn K mg) : fOrd "Ratio" K = true := c.fact 38 rfl
theorem h39 {K : Frag} {mg : Str → Option Value} (c : Ctx fa fn K mg) : mg "law" = some (.ref (He.ga K "law")) := c.glo 39 rfl
noncomputable section
variable {P : Program} {w : World} {K : Frag} {mg : Str → Option Value} {base : Heap}
def b_law_cell : En → R Fl := mRet (mIfE (mTb (mOp2 (mNm 1) (mOp1 (mNm 0) dLen) (pop2 (fun x y => (dLtI x y).orElse fun _ => dLtS x y)))) (mOp2 (mNm 0) (mNm 1) (pop2 dIx)) (mC (.int 0)))
abbrev m_law_cell : En → R Tk := mDef 0 b_law_cell
theorem sc_law_cell : FnScope ["_law_script", "_law_k"] ["_law_script", "_law_k"] (defScope s_law_cell) := ⟨rfl, rfl, rfl, by decide +kernel, rfl, by decide +kernel, by decide +kernel⟩
theorem f_law_cell (c : Ctx fa fn K mg) : ∃ fd, FnD K d_law_cell fd ∧ FnG P w K mg base (L2.CX P w) 1 (d_law_cell.at_.ad K) fd ["_law_script", "_law_k"] (SpM K mg 2 m_law_cell) := by
  obtain ⟨fd, D⟩ := c.df 0 rfl
  refine ⟨fd, D, fnM D sc_law_cell rfl fun cdv A outer s H E L hr => ?_⟩
  have sc := sc_law_cell
  have v0 : ∀ W pos, ME (cxOf (L2.CX P w) P w K mg base ["_law_script", "_law_k"] d_law_cell.qual (defScope s_law_cell) (d_law_cell.at_.ad K) cdv A outer s H E) ⟨none, L⟩ W (.Name "_law_script" pos) (mNm 0) := fun _ _ => me_var (pv 0)
  have v1 : ∀ W pos, ME (cxOf (L2.CX P w) P w K mg base ["_law_script", "_law_k"] d_law_cell.qual (defScope s_law_cell) (d_law_cell.at_.ad K) cdv A outer s H E) ⟨none, L⟩ W (.Name "_law_k" pos) (mNm 1) := fun _ _ => me_var (pv 1)
  unfold b_law_cell
  refine mss_one ?_
  · exact ms_ret (me_if (mt_cmpM o_lt (v1 _ _) (me_len (by rfl) (h0 c) (v0 _ _)) (nomark _)) (me_ix hr.u1 (v0 _ _) (v1 _ _)) me_int)
def b_law_box : En → R Fl := mRet (mLst (mA1 false (mOp1 (mOp1 (mCall 2 0 [.p 0, .p 1] [] m_law_cell (mA1 false (mNm 0) (mA1 false (mNm 1) (mA0))) (mA0)) dInt) dAbs) (mA1 false (mC (.int 0)) (mA1 false (mOp2 (mOp2 (mC (.int 40503)) (mNm 1) (pop2 dMul)) (mC (.int 911)) (pop2 dAdd)) (mA0)))))
abbrev m_law_box : En → R Tk := mDef 0 b_law_box
theorem sc_law_box : FnScope ["_law_script", "_law_k"] ["_law_script", "_law_k"] (defScope s_law_box) := ⟨rfl, rfl, rfl, by decide +kernel, rfl, by decide +kernel, by decide +kernel⟩
theorem f_law_box (c : Ctx fa fn K mg) : ∃ fd, FnD K d_law_box fd ∧ FnG P w K mg base (L2.CX P w) 2 (d_law_box.at_.ad K) fd ["_law_script", "_law_k"] (SpM K mg 2 m_law_box) := by
  obtain ⟨fd, D⟩ := c.df 1 rfl
  refine ⟨fd, D, fnM D sc_law_box rfl fun cdv A outer s H E L hr => ?_⟩
  obtain ⟨D0_law_cell, D_law_cell, F_law_cell⟩ := f_law_cell (P := P) (w := w) (base := base) c
  have sc := sc_law_box
  have v0 : ∀ W pos, ME (cxOf (L2.CX P w) P w K mg base ["_law_script", "_law_k"] d_law_box.qual (defScope s_law_box) (d_law_box.at_.ad K) cdv A outer s H E) ⟨none, L⟩ W (.Name "_law_script" pos) (mNm 0) := fun _ _ => me_var (pv 0)
  have v1 : ∀ W pos, ME (cxOf (L2.CX P w) P w K mg base ["_law_script", "_law_k"] d_law_box.qual (defScope s_law_box) (d_law_box.at_.ad K) cdv A outer s H E) ⟨none, L⟩ W (.Name "_law_k" pos) (mNm 1) := fun _ _ => me_var (pv 1)
  unfold b_law_box
  refine mss_one ?_
  · exact ms_ret (me_lst (ma_cons false (me_abs (by rfl) (h3 c) (me_toInt (by rfl) (h2 c) (me_callN F_law_cell mDef_good (hr.mono (by decide)) (by rfl) (h1 c) D_law_cell.kp (Bnd.plain 2 [] [.p 0, .p 1] D_law_cell fun _ _ _ _ _ _ us ws h1 h2 => match us, ws, h1, h2 with | [_, _], [], _, _ => rfl) dfNil tkD (ma_cons false (v0 _ _) (ma_cons false (v1 _ _) ma_nil)) mk_nil))) (ma_cons false me_int (ma_cons false (me_add (me_mul me_int (v1 _ _)) me_int) ma_nil))))
def b_law_frac_w1 : En → R Fl := mPar 2 3 (mA1 false (mNm 3) (mA1 false (mOp2 (mNm 2) (mNm 3) (pop2 dMod)) (mA0)))
def b_law_frac : En → R Fl := mSeq (mPar 2 3 (mA1 false (mOp1 (mNm 0) dAbs) (mA1 false (mOp1 (mNm 1) dAbs) (mA0)))) (mSeq (mWhile (mTb (mOp2 (mNm 3) (mC (.int 0)) (pop2 (dSw dLtI)))) b_law_frac_w1) (mSeq (mIf (mTb (mOp2 (mNm 1) (mC (.int 0)) (pop2 (fun x y => (dLtI x y).orElse fun _ => dLtS x y)))) (mSet 2 (mOp2 (mC (.int 0)) (mNm 2) (pop2 dSub))) (mNext)) (mRet (mTup (mA1 false (mOp2 (mNm 0) (mNm 2) (pop2 dDiv)) (mA1 false (mOp2 (mNm 1) (mNm 2) (pop2 dDiv)) (mA0)))))))
abbrev m_law_frac : En → R Tk := mDef 2 b_law_frac
theorem sc_law_frac : FnScope ["_law_up", "_law_down", "_law_one", "_law_other"] ["_law_up", "_law_down"] (defScope s_law_frac) := ⟨rfl, rfl, rfl, by decide +kernel, rfl, by decide +kernel, by decide +kernel⟩
theorem f_law_frac (c : Ctx fa fn K mg) : ∃ fd, FnD K d_law_frac fd ∧ FnG P w K mg base (L2.CX P w) 1 (d_law_frac.at_.ad K) fd ["_law_up", "_law_down"] (SpM K mg 2 m_law_frac) := by
  obtain ⟨fd, D⟩ := c.df 2 rfl
  refine ⟨fd, D, fnM D sc_law_frac rfl fun cdv A outer s H E L hr => ?_⟩
  have sc := sc_law_frac
  have v0 : ∀ W pos, ME (cxOf (L2.CX P w) P w K mg base ["_law_up", "_law_down", "_law_one", "_law_other"] d_law_frac.qual (defScope s_law_frac) (d_law_frac.at_.ad K) cdv A outer s H E) ⟨none, L⟩ W (.Name "_law_up" pos) (mNm 0) := fun _ _ => me_var (pv 0)
  have v1 : ∀ W pos, ME (cxOf (L2.CX P w) P w K mg base ["_law_up", "_law_down", "_law_one", "_law_other"] d_law_frac.qual (defScope s_law_frac) (d_law_frac.at_.ad K) cdv A outer s H E) ⟨none, L⟩ W (.Name "_law_down" pos) (mNm 1) := fun _ _ => me_var (pv 1)
  have v2 : ∀ W pos, ME (cxOf (L2.CX P w) P w K mg base ["_law_up", "_law_down", "_law_one", "_law_other"] d_law_frac.qual (defScope s_law_frac) (d_law_frac.at_.ad K) cdv A outer s H E) ⟨none, L⟩ W (.Name "_law_one" pos) (mNm 2) := fun _ _ => me_var (pv 2)
  have v3 : ∀ W pos, ME (cxOf (L2.CX P w) P w K mg base ["_law_up", "_law_down", "_law_one", "_law_other"] d_law_frac.qual (defScope s_law_frac) (d_law_frac.at_.ad K) cdv A outer s H E) ⟨none, L⟩ W (.Name "_law_other" pos) (mNm 3) := fun _ _ => me_var (pv 3)
  unfold b_law_frac
  refine mss_cons ?_ (mss_cons ?_ (mss_cons ?_ (mss_one ?_)))
  · exact ms_par (i := 2) (j := 3) (fun _ h => ps_par rfl sc.nd rfl rfl (by decide) rfl rfl h rfl) (ma_cons false (me_abs (by rfl) (h3 c) (v0 _ _)) (ma_cons false (me_abs (by rfl) (h3 c) (v1 _ _)) ma_nil))
  · refine ms_while poD (mt_cmpM o_gt (v3 _ _) me_int (nomark _)) ?_
    unfold b_law_frac_w1
    refine mss_one ?_
    · exact ms_par (i := 2) (j := 3) (fun _ h => ps_par rfl sc.nd rfl rfl (by decide) rfl rfl h rfl) (ma_cons false (v3 _ _) (ma_cons false (me_mod (v2 _ _) (v3 _ _)) ma_nil))
  · refine ms_if (mt_cmpM o_lt (v1 _ _) me_int (nomark _)) ?_ ?_
    · refine mss_one ?_
      · exact ms_set (i := 2) (fun _ h => ps_set sc.nd rfl (by first | exact .inl rfl | exact .inr rfl) h) (me_sub me_int (v2 _ _))
    · exact mss_nil
  · exact ms_ret (me_tup (ma_cons false (me_div (v0 _ _) (v2 _ _)) (ma_cons false (me_div (v1 _ _) (v2 _ _)) ma_nil)))
def b_law_take : En → R Fl := mSeq (mIf (mTb (mOp2 (mOp2 (mNm 0) (mC (.int 0)) (pop2 dIx)) (mOp2 (mC (.int 10)) (mC (.int 18)) (pop2 dPow)) (pop2 (dSw dLeI)))) (mSeq (mSet 2 (mOp2 (mOp1 (mOp2 (mNm 0) (mC (.int 0)) (pop2 dIx)) dInt) (mNm 1) (pop2 dMod))) (mSeq (mPut (mOp2 (mOp2 (mNm 0) (mC (.int 0)) (pop2 dIx)) (mNm 1) (pop2 dDiv)) (mNm 0) (mC (.int 0))) (mRet (mNm 2)))) (mNext)) (mSeq (mPut (mOp2 (mOp2 (mNm 0) (mC (.int 1)) (pop2 dIx)) (mC (.int 1)) (pop2 dAdd)) (mNm 0) (mC (.int 1))) (mSeq (mSet 3 (mOp2 (mOp2 (mOp1 (mOp2 (mOp2 (mOp2 (mOp2 (mOp2 (mNm 0) (mC (.int 0)) (pop2 dIx)) (mC (.int 7)) (pop2 dAdd)) (mC (.int 69069)) (pop2 dMul)) (mOp2 (mOp2 (mNm 0) (mC (.int 1)) (pop2 dIx)) (mC (.int 40692)) (pop2 dMul)) (pop2 dAdd)) (mOp2 (mNm 0) (mC (.int 2)) (pop2 dIx)) (pop2 dAdd)) dInt) (mC (.int 3)) (pop2 dPow)) (mC (.int 2147483647)) (pop2 dMod))) (mSeq (mSet 3 (mOp2 (mOp2 (mOp1 (mOp2 (mNm 3) (mOp2 (mOp2 (mNm 0) (mC (.int 1)) (pop2 dIx)) (mC (.int 17389)) (pop2 dMul)) (pop2 dAdd)) dInt) (mC (.int 3)) (pop2 dPow)) (mC (.int 2147483399)) (pop2 dMod))) (mRet (mOp2 (mOp1 (mOp2 (mNm 3) (mC (.int 64)) (pop2 dDiv)) dInt) (mNm 1) (pop2 dMod))))))
abbrev m_law_take : En → R Tk := mDef 2 b_law_take
theorem sc_law_take : FnScope ["_law_box_here", "_law_many", "_law_digit", "_law_mixed"] ["_law_box_here", "_law_many"] (defScope s_law_take) := ⟨rfl, rfl, rfl, by decide +kernel, rfl, by decide +kernel, by decide +kernel⟩
theorem f_law_take (c : Ctx fa fn K mg) : ∃ fd, FnD K d_law_take fd ∧ FnG P w K mg base (L2.CX P w) 1 (d_law_take.at_.ad K) fd ["_law_box_here", "_law_many"] (SpM K mg 2 m_law_take) := by
  obtain ⟨fd, D⟩ := c.df 3 rfl
  refine ⟨fd, D, fnM D sc_law_take rfl fun cdv A outer s H E L hr => ?_⟩
  have sc := sc_law_take
  have v0 : ∀ W pos, ME (cxOf (L2.CX P w) P w K mg base ["_law_box_here", "_law_many", "_law_digit", "_law_mixed"] d_law_take.qual (defScope s_law_take) (d_law_take.at_.ad K) cdv A outer s H E) ⟨none, L⟩ W (.Name "_law_box_here" pos) (mNm 0) := fun _ _ => me_var (pv 0)
  have v1 : ∀ W pos, ME (cxOf (L2.CX P w) P w K mg base ["_law_box_here", "_law_many", "_law_digit", "_law_mixed"] d_law_take.qual (defScope s_law_take) (d_law_take.at_.ad K) cdv A outer s H E) ⟨none, L⟩ W (.Name "_law_many" pos) (mNm 1) := fun _ _ => me_var (pv 1)
  have v2 : ∀ W pos, ME (cxOf (L2.CX P w) P w K mg base ["_law_box_here", "_law_many", "_law_digit", "_law_mixed"] d_law_take.qual (defScope s_law_take) (d_law_take.at_.ad K) cdv A outer s H E) ⟨none, L⟩ W (.Name "_law_digit" pos) (mNm 2) := fun _ _ => me_var (pv 2)
  have v3 : ∀ W pos, ME (cxOf (L2.CX P w) P w K mg base ["_law_box_here", "_law_many", "_law_digit", "_law_mixed"] d_law_take.qual (defScope s_law_take) (d_law_take.at_.ad K) cdv A outer s H E) ⟨none, L⟩ W (.Name "_law_mixed" pos) (mNm 3) := fun _ _ => me_var (pv 3)
  unfold b_law_take
  refine mss_cons ?_ (mss_cons ?_ (mss_cons ?_ (mss_cons ?_ (mss_one ?_))))
  · refine ms_if (mt_cmpM o_ge (me_ix hr.u1 (v0 _ _) me_int) (me_pow me_int me_int) (nomark _)) ?_ ?_
    · refine mss_cons ?_ (mss_cons ?_ (mss_one ?_))
      · exact ms_set (i := 2) (fun _ h => ps_set sc.nd rfl (by first | exact .inl rfl | exact .inr rfl) h) (me_mod (me_toInt (by rfl) (h2 c) (me_ix hr.u1 (v0 _ _) me_int)) (v1 _ _))
      · exact ms_put hr.u1 (v0 _ _) me_int (me_div (me_ix hr.u1 (v0 _ _) me_int) (v1 _ _))
      · exact ms_ret (v2 _ _)
    · exact mss_nil
  · exact ms_put hr.u1 (v0 _ _) me_int (me_add (me_ix hr.u1 (v0 _ _) me_int) me_int)
  · exact ms_set (i := 3) (fun _ h => ps_set sc.nd rfl (by first | exact .inl rfl | exact .inr rfl) h) (me_mod (me_pow (me_toInt (by rfl) (h2 c) (me_add (me_add (me_mul (me_add (me_ix hr.u1 (v0 _ _) me_int) me_int) me_int) (me_mul (me_ix hr.u1 (v0 _ _) me_int) me_int)) (me_ix hr.u1 (v0 _ _) me_int))) me_int) me_int)
  · exact ms_set (i := 3) (fun _ h => ps_set sc.nd rfl (by first | exact .inl rfl | exact .inr rfl) h) (me_mod (me_pow (me_toInt (by rfl) (h2 c) (me_add (v3 _ _) (me_mul (me_ix hr.u1 (v0 _ _) me_int) me_int))) me_int) me_int)
  · exact ms_ret (me_mod (me_toInt (by rfl) (h2 c) (me_div (v3 _ _) me_int)) (v1 _ _))
def b_is_counting : En → R Fl := mRet (mAnd (mOp1 (mNm 0) (fun d => (dStr1 d).bind dIsascii)) (mAnd (mOp1 (mNm 0) (fun d => (dStr1 d).bind dIsdigit)) (mNotV (mSM1 (mNm 0) (mC (.str "0")) dStarts))))
abbrev m_is_counting : En → R Tk := mDef 0 b_is_counting
theorem sc_is_counting : FnScope ["word"] ["word"] (defScope s_is_counting) := ⟨rfl, rfl, rfl, by decide +kernel, rfl, by decide +kernel, by decide +kernel⟩
theorem f_is_counting (c : Ctx fa fn K mg) : ∃ fd, FnD K d_is_counting fd ∧ FnG P w K mg base (L2.CX P w) 1 (d_is_counting.at_.ad K) fd ["word"] (SpM K mg 1 m_is_counting) := by
  obtain ⟨fd, D⟩ := c.df 4 rfl
  refine ⟨fd, D, fnM D sc_is_counting rfl fun cdv A outer s H E L hr => ?_⟩
  have sc := sc_is_counting
  have v0 : ∀ W pos, ME (cxOf (L2.CX P w) P w K mg base ["word"] d_is_counting.qual (defScope s_is_counting) (d_is_counting.at_.ad K) cdv A outer s H E) ⟨none, L⟩ W (.Name "word" pos) (mNm 0) := fun _ _ => me_var (pv 0)
  unfold b_is_counting
  refine mss_one ?_
  · exact ms_ret (me_and (me_isascii (v0 _ _)) (me_and (me_isdigit (v0 _ _)) (me_one (me_not (me_startswith (v0 _ _) me_str)))))
def b_Ratio_text : En → R Fl := mSeq (mIf (mTb (mOp2 (mOp1 (mNm 0) (dFld ["Ratio"] "_bottom")) (mC (.int 1)) (pop2 dEq))) (mRet (mOp1 (mOp1 (mNm 0) (dFld ["Ratio"] "_top")) dStr)) (mNext)) (mRet (mFs [(mOp1 (mOp1 (mNm 0) (dFld ["Ratio"] "_top")) dFmt), (mC (.str "/")), (mOp1 (mOp1 (mNm 0) (dFld ["Ratio"] "_bottom")) dFmt)] Str.empty))
abbrev m_Ratio_text : En → R Tk := mDef 0 b_Ratio_text
theorem sc_Ratio_text : FnScope ["self"] ["self"] (defScope s_Ratio_text) := ⟨rfl, rfl, rfl, by decide +kernel, rfl, by decide +kernel, by decide +kernel⟩
theorem f_Ratio_text (c : Ctx fa fn K mg) : ∃ fd, FnD K d_Ratio_text fd ∧ FnG P w K mg base (L2.CX P w) 1 (d_Ratio_text.at_.ad K) fd ["self"] (SpM K mg 1 m_Ratio_text) := by
  obtain ⟨fd, D⟩ := c.df 5 rfl
  refine ⟨fd, D, fnM D sc_Ratio_text rfl fun cdv A outer s H E L hr => ?_⟩
  have sc := sc_Ratio_text
  have v0 : ∀ W pos, ME (cxOf (L2.CX P w) P w K mg base ["self"] d_Ratio_text.qual (defScope s_Ratio_text) (d_Ratio_text.at_.ad K) cdv A outer s H E) ⟨none, L⟩ W (.Name "self" pos) (mNm 0) := fun _ _ => me_var (pv 0)
  unfold b_Ratio_text
  refine mss_cons ?_ (mss_one ?_)
  · refine ms_if (mt_cmpM (o_eq hr.units) (me_fld (fldOk_of (all1 (h4 c)) (all1 (h5 c)) (all1 (h6 c))) (v0 _ _)) me_int (nomark _)) ?_ ?_
    · refine mss_one ?_
      · exact ms_ret (me_toStr (by rfl) (h8 c) (me_fld (fldOk_of (all1 (h4 c)) (all1 (h5 c)) (all1 (h7 c))) (v0 _ _)))
    · exact mss_nil
  · exact ms_ret (me_fstr (.cons (me_fmt (me_fld (fldOk_of (all1 (h4 c)) (all1 (h5 c)) (all1 (h7 c))) (v0 _ _))) (.cons me_str (.cons (me_fmt (me_fld (fldOk_of (all1 (h4 c)) (all1 (h5 c)) (all1 (h6 c))) (v0 _ _))) .nil))))
def b_Ratio___init : En → R Fl := mSeq (mIf (mTb (mOp2 (mNm 2) (mC (.int 0)) (pop2 dEq))) (mRaise0 "ByZero") (mNext)) (mSeq (mSet 3 (mCB (mA1 false (mNm 1) (mA1 false (mNm 2) (mA0))) dGcd)) (mSeq (mIf (mTb (mOp2 (mNm 2) (mC (.int 0)) (pop2 (fun x y => (dLtI x y).orElse fun _ => dLtS x y)))) (mSet 3 (mOp1 (mNm 3) dNeg)) (mNext)) (mSeq (mFldSet ["Ratio"] "_top" (mNm 0) (mOp2 (mNm 1) (mNm 3) (pop2 dDiv))) (mFldSet ["Ratio"] "_bottom" (mNm 0) (mOp2 (mNm 2) (mNm 3) (pop2 dDiv))))))
abbrev m_Ratio___init : En → R Tk := mDef 1 b_Ratio___init
theorem sc_Ratio___init : FnScope ["self", "top", "bottom", "shared"] ["self", "top", "bottom"] (defScope s_Ratio___init) := ⟨rfl, rfl, rfl, by decide +kernel, rfl, by decide +kernel, by decide +kernel⟩
theorem f_Ratio___init (c : Ctx fa fn K mg) : ∃ fd, FnD K d_Ratio___init fd ∧ FnG P w K mg base (L2.CX P w) 1 (d_Ratio___init.at_.ad K) fd ["self", "top", "bottom"] (SpM K mg 3 m_Ratio___init) := by
  obtain ⟨fd, D⟩ := c.df 6 rfl
  refine ⟨fd, D, fnM D sc_Ratio___init rfl fun cdv A outer s H E L hr => ?_⟩
  have sc := sc_Ratio___init
  have v0 : ∀ W pos, ME (cxOf (L2.CX P w) P w K mg base ["self", "top", "bottom", "shared"] d_Ratio___init.qual (defScope s_Ratio___init) (d_Ratio___init.at_.ad K) cdv A outer s H E) ⟨none, L⟩ W (.Name "self" pos) (mNm 0) := fun _ _ => me_var (pv 0)
  have v1 : ∀ W pos, ME (cxOf (L2.CX P w) P w K mg base ["self", "top", "bottom", "shared"] d_Ratio___init.qual (defScope s_Ratio___init) (d_Ratio___init.at_.ad K) cdv A outer s H E) ⟨none, L⟩ W (.Name "top" pos) (mNm 1) := fun _ _ => me_var (pv 1)
  have v2 : ∀ W pos, ME (cxOf (L2.CX P w) P w K mg base ["self", "top", "bottom", "shared"] d_Ratio___init.qual (defScope s_Ratio___init) (d_Ratio___init.at_.ad K) cdv A outer s H E) ⟨none, L⟩ W (.Name "bottom" pos) (mNm 2) := fun _ _ => me_var (pv 2)
  have v3 : ∀ W pos, ME (cxOf (L2.CX P w) P w K mg base ["self", "top", "bottom", "shared"] d_Ratio___init.qual (defScope s_Ratio___init) (d_Ratio___init.at_.ad K) cdv A outer s H E) ⟨none, L⟩ W (.Name "shared" pos) (mNm 3) := fun _ _ => me_var (pv 3)
  unfold b_Ratio___init
  refine mss_cons ?_ (mss_cons ?_ (mss_cons ?_ (mss_cons ?_ (mss_one ?_))))
  · refine ms_if (mt_cmpM (o_eq hr.units) (v2 _ _) me_int (nomark _)) ?_ ?_
    · refine mss_one ?_
      · exact ms_raise0 rfl tkD veFacts (fExc_ok (h9 c)).1 (h10 c) (fExc_ok (h9 c)).2.1 (raises_own (fExc_ok (h9 c)).2.2.1 (fExc_ok (h9 c)).2.2.2) rfl
    · exact mss_nil
  · exact ms_set (i := 3) (fun _ h => ps_set sc.nd rfl (by first | exact .inl rfl | exact .inr rfl) h) (me_gcd (by rfl) (h11 c) (ma_cons false (v1 _ _) (ma_cons false (v2 _ _) ma_nil)))
  · refine ms_if (mt_cmpM o_lt (v2 _ _) me_int (nomark _)) ?_ ?_
    · refine mss_one ?_
      · exact ms_set (i := 3) (fun _ h => ps_set sc.nd rfl (by first | exact .inl rfl | exact .inr rfl) h) (me_neg (v3 _ _))
    · exact mss_nil
  · exact ms_fld (fldOk_of (all1 (h4 c)) (all1 (h5 c)) (all1 (h7 c))) (v0 _ _) (me_div (v1 _ _) (v3 _ _))
  · exact ms_fld (fldOk_of (all1 (h4 c)) (all1 (h5 c)) (all1 (h6 c))) (v0 _ _) (me_div (v2 _ _) (v3 _ _))
theorem df_Ratio___init : DfOk K mg [.int 1] (d_Ratio___init.dvs K) := fun F => (.cons (.int _) .nil)
def b_Ratio_read : En → R Fl := mSeq (mAsgT (mTgT [mTgN 2, mTgN 3, mTgN 4]) (mSM1 (mNm 1) (mC (.str "/")) dPart)) (mSeq (mIf (mAndT (mTb (mOp2 (mNm 2) (mC (.str "0")) (pop2 dNe))) (mNot (mTb (mCall 1 0 [.p 0] [] m_is_counting (mA1 false (mSM1 (mNm 2) (mC (.str "-")) dRemPre) (mA0)) (mA0))))) (mRaise0 "BadText") (mNext)) (mSeq (mIf (mTb (mOp2 (mNm 3) (mC (.str "")) (pop2 dEq))) (mRet (mMakeL "Ratio" 0 1 0 [.p 0, .d 0] [.int 1] m_Ratio___init (mA1 false (mOp1 (mNm 2) dInt) (mA0)) (mA0))) (mNext)) (mSeq (mIf (mNot (mTb (mCall 1 0 [.p 0] [] m_is_counting (mA1 false (mNm 4) (mA0)) (mA0)))) (mRaise0 "BadText") (mNext)) (mSeq (mSet 5 (mMakeL "Ratio" 0 2 0 [.p 0, .p 1] [.int 1] m_Ratio___init (mA1 false (mOp1 (mNm 2) dInt) (mA1 false (mOp1 (mNm 4) dInt) (mA0))) (mA0))) (mSeq (mIf (mTb (mOp2 (mMeth "Ratio" "text" false 1 0 [.p 0] [] m_Ratio_text (mNm 5) (mA0) (mA0)) (mNm 1) (pop2 dNe))) (mRaise0 "BadText") (mNext)) (mRet (mNm 5)))))))
abbrev m_Ratio_read : En → R Tk := mDef 4 b_Ratio_read
theorem sc_Ratio_read : FnScope ["cls", "text", "top", "slash", "bottom", "ratio"] ["cls", "text"] (defScope s_Ratio_read) := ⟨rfl, rfl, rfl, by decide +kernel, rfl, by decide +kernel, by decide +kernel⟩
theorem f_Ratio_read (c : Ctx fa fn K mg) : ∃ fd, FnD K d_Ratio_read fd ∧ FnG P w K mg base (L2.CX P w) 3 (d_Ratio_read.at_.ad K) fd ["cls", "text"] (SpM K mg 2 m_Ratio_read) := by
  obtain ⟨fd, D⟩ := c.df 7 rfl
  refine ⟨fd, D, fnM D sc_Ratio_read rfl fun cdv A outer s H E L hr => ?_⟩
  obtain ⟨D0_is_counting, D_is_counting, F_is_counting⟩ := f_is_counting (P := P) (w := w) (base := base) c
  obtain ⟨D0_Ratio___init, D_Ratio___init, F_Ratio___init⟩ := f_Ratio___init (P := P) (w := w) (base := base) c
  obtain ⟨D0_Ratio_text, D_Ratio_text, F_Ratio_text⟩ := f_Ratio_text (P := P) (w := w) (base := base) c
  have sc := sc_Ratio_read
  have v1 : ∀ W pos, ME (cxOf (L2.CX P w) P w K mg base ["cls", "text", "top", "slash", "bottom", "ratio"] d_Ratio_read.qual (defScope s_Ratio_read) (d_Ratio_read.at_.ad K) cdv A outer s H E) ⟨none, L⟩ W (.Name "text" pos) (mNm 1) := fun _ _ => me_var (pv 1)
  have v2 : ∀ W pos, ME (cxOf (L2.CX P w) P w K mg base ["cls", "text", "top", "slash", "bottom", "ratio"] d_Ratio_read.qual (defScope s_Ratio_read) (d_Ratio_read.at_.ad K) cdv A outer s H E) ⟨none, L⟩ W (.Name "top" pos) (mNm 2) := fun _ _ => me_var (pv 2)
  have v3 : ∀ W pos, ME (cxOf (L2.CX P w) P w K mg base ["cls", "text", "top", "slash", "bottom", "ratio"] d_Ratio_read.qual (defScope s_Ratio_read) (d_Ratio_read.at_.ad K) cdv A outer s H E) ⟨none, L⟩ W (.Name "slash" pos) (mNm 3) := fun _ _ => me_var (pv 3)
  have v4 : ∀ W pos, ME (cxOf (L2.CX P w) P w K mg base ["cls", "text", "top", "slash", "bottom", "ratio"] d_Ratio_read.qual (defScope s_Ratio_read) (d_Ratio_read.at_.ad K) cdv A outer s H E) ⟨none, L⟩ W (.Name "bottom" pos) (mNm 4) := fun _ _ => me_var (pv 4)
  have v5 : ∀ W pos, ME (cxOf (L2.CX P w) P w K mg base ["cls", "text", "top", "slash", "bottom", "ratio"] d_Ratio_read.qual (defScope s_Ratio_read) (d_Ratio_read.at_.ad K) cdv A outer s H E) ⟨none, L⟩ W (.Name "ratio" pos) (mNm 5) := fun _ _ => me_var (pv 5)
  unfold b_Ratio_read
  refine mss_cons ?_ (mss_cons ?_ (mss_cons ?_ (mss_cons ?_ (mss_cons ?_ (mss_cons ?_ (mss_one ?_))))))
  · exact ms_asg (me_partition (v1 _ _) me_str) (mg_tup rfl (mgs_cons (mg_name (i := 2) sc.nd rfl (by first | exact .inl rfl | exact .inr rfl)) (mgs_cons (mg_name (i := 3) sc.nd rfl (by first | exact .inl rfl | exact .inr rfl)) (mgs_cons (mg_name (i := 4) sc.nd rfl (by first | exact .inl rfl | exact .inr rfl)) mgs_nil))))
  · refine ms_if (MW.mt (mw_and (mt_cmpM (o_ne hr.units) (v2 _ _) me_str (nomark _)) (mw_and1 (mt_not (mt_val (me_callN F_is_counting mDef_good (hr.mono (by decide)) (by rfl) (h12 c) D_is_counting.kp (Bnd.plain 1 [] [.p 0] D_is_counting fun _ _ _ _ _ _ us ws h1 h2 => match us, ws, h1, h2 with | [_], [], _, _ => rfl) dfNil tkD (ma_cons false (me_removeprefix (v2 _ _) me_str) ma_nil) mk_nil)))))) ?_ ?_
    · refine mss_one ?_
      · exact ms_raise0 rfl tkD veFacts (fExc_ok (h13 c)).1 (h14 c) (fExc_ok (h13 c)).2.1 (raises_own (fExc_ok (h13 c)).2.2.1 (fExc_ok (h13 c)).2.2.2) rfl
    · exact mss_nil
  · refine ms_if (mt_cmpM (o_eq hr.units) (v3 _ _) me_str (nomark _)) ?_ ?_
    · refine mss_one ?_
      · exact ms_ret (me_makeLN (ix := [.p 0, .d 0]) (h4 c) (fMk_ok (h15 c)) F_Ratio___init mDef_good (hr.mono (by decide)) (pv 0) (Bnd.dfl 2 [] [.p 0, .p 1, .d 0] D_Ratio___init (by simp [Df.dvs]) fun _ _ _ _ _ _ _ us ws its h1 h2 h3 => match us, ws, its, h1, h2, h3 with | [_, _], [], [_], _, _, _ => ⟨_, rfl, rfl⟩) df_Ratio___init tkD (ma_cons false (me_toInt (by rfl) (h2 c) (v2 _ _)) ma_nil) mk_nil)
    · exact mss_nil
  · refine ms_if (mt_not (mt_val (me_callN F_is_counting mDef_good (hr.mono (by decide)) (by rfl) (h12 c) D_is_counting.kp (Bnd.plain 1 [] [.p 0] D_is_counting fun _ _ _ _ _ _ us ws h1 h2 => match us, ws, h1, h2 with | [_], [], _, _ => rfl) dfNil tkD (ma_cons false (v4 _ _) ma_nil) mk_nil))) ?_ ?_
    · refine mss_one ?_
      · exact ms_raise0 rfl tkD veFacts (fExc_ok (h13 c)).1 (h14 c) (fExc_ok (h13 c)).2.1 (raises_own (fExc_ok (h13 c)).2.2.1 (fExc_ok (h13 c)).2.2.2) rfl
    · exact mss_nil
  · exact ms_set (i := 5) (fun _ h => ps_set sc.nd rfl (by first | exact .inl rfl | exact .inr rfl) h) (me_makeLN (ix := [.p 0, .p 1]) (h4 c) (fMk_ok (h15 c)) F_Ratio___init mDef_good (hr.mono (by decide)) (pv 0) (Bnd.dfl 3 [] [.p 0, .p 1, .p 2] D_Ratio___init (by simp [Df.dvs]) fun _ _ _ _ _ _ _ us ws its h1 h2 h3 => match us, ws, its, h1, h2, h3 with | [_, _, _], [], [_], _, _, _ => ⟨_, rfl, rfl⟩) df_Ratio___init tkD (ma_cons false (me_toInt (by rfl) (h2 c) (v2 _ _)) (ma_cons false (me_toInt (by rfl) (h2 c) (v4 _ _)) ma_nil)) mk_nil)
  · refine ms_if (mt_cmpM (o_ne hr.units) (me_methN "Ratio" "text" false (h4 c) (fCls_ok (h5 c)).1.cl (fMeth_ok (h16 c)) F_Ratio_text mDef_good (hr.mono (by decide)) (Bnd.plain 1 [] [.p 0] D_Ratio_text fun _ _ _ _ _ _ us ws h1 h2 => match us, ws, h1, h2 with | [_], [], _, _ => rfl) dfNil tkD (v5 _ _) ma_nil mk_nil) (v1 _ _) (nomark _)) ?_ ?_
    · refine mss_one ?_
      · exact ms_raise0 rfl tkD veFacts (fExc_ok (h13 c)).1 (h14 c) (fExc_ok (h13 c)).2.1 (raises_own (fExc_ok (h13 c)).2.2.1 (fExc_ok (h13 c)).2.2.2) rfl
    · exact mss_nil
  · exact ms_ret (v5 _ _)
def b_Ratio_top : En → R Fl := mRet (mOp1 (mNm 0) (dFld ["Ratio"] "_top"))
abbrev m_Ratio_top : En → R Tk := mDef 0 b_Ratio_top
theorem sc_Ratio_top : FnScope ["self"] ["self"] (defScope s_Ratio_top) := ⟨rfl, rfl, rfl, by decide +kernel, rfl, by decide +kernel, by decide +kernel⟩
theorem f_Ratio_top (c : Ctx fa fn K mg) : ∃ fd, FnD K d_Ratio_top fd ∧ FnG P w K mg base (L2.CX P w) 1 (d_Ratio_top.at_.ad K) fd ["self"] (SpM K mg 1 m_Ratio_top) := by
  obtain ⟨fd, D⟩ := c.df 8 rfl
  refine ⟨fd, D, fnM D sc_Ratio_top rfl fun cdv A outer s H E L hr => ?_⟩
  have sc := sc_Ratio_top
  have v0 : ∀ W pos, ME (cxOf (L2.CX P w) P w K mg base ["self"] d_Ratio_top.qual (defScope s_Ratio_top) (d_Ratio_top.at_.ad K) cdv A outer s H E) ⟨none, L⟩ W (.Name "self" pos) (mNm 0) := fun _ _ => me_var (pv 0)
  unfold b_Ratio_top
  refine mss_one ?_
  · exact ms_ret (me_fld (fldOk_of (all1 (h4 c)) (all1 (h5 c)) (all1 (h7 c))) (v0 _ _))
def b_Ratio_bottom : En → R Fl := mRet (mOp1 (mNm 0) (dFld ["Ratio"] "_bottom"))
abbrev m_Ratio_bottom : En → R Tk := mDef 0 b_Ratio_bottom
theorem sc_Ratio_bottom : FnScope ["self"] ["self"] (defScope s_Ratio_bottom) := ⟨rfl, rfl, rfl, by decide +kernel, rfl, by decide +kernel, by decide +kernel⟩
theorem f_Ratio_bottom (c : Ctx fa fn K mg) : ∃ fd, FnD K d_Ratio_bottom fd ∧ FnG P w K mg base (L2.CX P w) 1 (d_Ratio_bottom.at_.ad K) fd ["self"] (SpM K mg 1 m_Ratio_bottom) := by
  obtain ⟨fd, D⟩ := c.df 9 rfl
  refine ⟨fd, D, fnM D sc_Ratio_bottom rfl fun cdv A outer s H E L hr => ?_⟩
  have sc := sc_Ratio_bottom
  have v0 : ∀ W pos, ME (cxOf (L2.CX P w) P w K mg base ["self"] d_Ratio_bottom.qual (defScope s_Ratio_bottom) (d_Ratio_bottom.at_.ad K) cdv A outer s H E) ⟨none, L⟩ W (.Name "self" pos) (mNm 0) := fun _ _ => me_var (pv 0)
  unfold b_Ratio_bottom
  refine mss_one ?_
  · exact ms_ret (me_fld (fldOk_of (all1 (h4 c)) (all1 (h5 c)) (all1 (h6 c))) (v0 _ _))
def b_law_read : En → R Fl := mSeq (mTry (mSet 1 (mCMeth "Ratio" 2 0 [.p 0, .p 1] [] m_Ratio_read (mA1 false (mNm 0) (mA0)) (mA0))) [⟨exG [("BadText", true)], none, mRet (mC .non)⟩]) (mRet (mTup (mA1 false (mProp "Ratio" "top" m_Ratio_top (mNm 1)) (mA1 false (mProp "Ratio" "bottom" m_Ratio_bottom (mNm 1)) (mA0)))))
abbrev m_law_read : En → R Tk := mDef 1 b_law_read
theorem sc_law_read : FnScope ["_law_phrase", "_law_amount"] ["_law_phrase"] (defScope s_law_read) := ⟨rfl, rfl, rfl, by decide +kernel, rfl, by decide +kernel, by decide +kernel⟩
theorem f_law_read (c : Ctx fa fn K mg) : ∃ fd, FnD K d_law_read fd ∧ FnG P w K mg base (L2.CX P w) 4 (d_law_read.at_.ad K) fd ["_law_phrase"] (SpM K mg 1 m_law_read) := by
  obtain ⟨fd, D⟩ := c.df 10 rfl
  refine ⟨fd, D, fnM D sc_law_read rfl fun cdv A outer s H E L hr => ?_⟩
  obtain ⟨D0_Ratio_read, D_Ratio_read, F_Ratio_read⟩ := f_Ratio_read (P := P) (w := w) (base := base) c
  obtain ⟨D0_Ratio_bottom, D_Ratio_bottom, F_Ratio_bottom⟩ := f_Ratio_bottom (P := P) (w := w) (base := base) c
  obtain ⟨D0_Ratio_top, D_Ratio_top, F_Ratio_top⟩ := f_Ratio_top (P := P) (w := w) (base := base) c
  have sc := sc_law_read
  have v1 : ∀ W pos, ME (cxOf (L2.CX P w) P w K mg base ["_law_phrase", "_law_amount"] d_law_read.qual (defScope s_law_read) (d_law_read.at_.ad K) cdv A outer s H E) ⟨none, L⟩ W (.Name "_law_amount" pos) (mNm 1) := fun _ _ => me_var (pv 1)
  unfold b_law_read
  refine mss_cons ?_ (mss_one ?_)
  · refine ms_try rfl rfl sc.nd tkD (fun W pn xe tk po => ?_) (.cons ⟨rfl, by decide, .inl (h14 c)⟩ trivial (exOk (exC (h14 c) (fExm_ok (h19 c)) exN)) ?_ .nil)
    · refine mss_one ?_
      · exact ms_set (i := 1) (fun _ h => ps_set sc.nd rfl (by first | exact .inl rfl | exact .inr rfl) h) (me_cmethN (fo := mNo) (ix := [.p 0, .p 1]) "Ratio" "read" (h4 c) (fCRead_ok (h17 c)) (fCMet_ok (h18 c)) F_Ratio_read mDef_good (hr.mono (by decide)) (Bnd.plain 2 [] [.p 0, .p 1] D_Ratio_read fun _ _ _ _ _ _ us ws h1 h2 => match us, ws, h1, h2 with | [_, _], [], _, _ => rfl) dfNil tk (by rfl) (ma_cons false (me_var (pv 0)) ma_nil) mk_nil)
    · intro a oe c1 C1 d1 pn hg1 hC1 hz hfs
      refine mss_one ?_
      · exact ms_ret me_non
  · exact ms_ret (me_tup (ma_cons false (me_prop (h4 c) (fCls_ok (h5 c)).1.cl (fProp_ok (h21 c)) F_Ratio_top mDef_good (hr.mono (by decide)) (D_Ratio_top.bindsN fun _ _ _ _ _ _ us hl => match us, hl with | [_], _ => rfl) (v1 _ _)) (ma_cons false (me_prop (h4 c) (fCls_ok (h5 c)).1.cl (fProp_ok (h20 c)) F_Ratio_bottom mDef_good (hr.mono (by decide)) (D_Ratio_bottom.bindsN fun _ _ _ _ _ _ us hl => match us, hl with | [_], _ => rfl) (v1 _ _)) ma_nil)))
def b_law_whole : En → R Fl := mSeq (mSet 1 (mIfE (mTb (mOp2 (mSl (mNm 0) (mPart none) (mPart (some (mC (.int 1))))) (mC (.str "-")) (pop2 dEq))) (mSl (mNm 0) (mPart (some (mC (.int 1)))) (mPart none)) (mNm 0))) (mSeq (mIf (mOrT (mTb (mOp2 (mNm 1) (mC (.str "")) (pop2 dEq))) (mTb (mOp2 (mLc (mIt (mNm 1)) (mTgN 2) (mTb (mOp2 (mNm 2) (mC (.str "0123456789")) (pop2 dNotIn))) (mNm 2) [2]) (mLst (mA0)) (pop2 dNe)))) (mRet (mC .non)) (mNext)) (mRet (mIfE (mTb (mOp2 (mOp1 (mOp1 (mNm 0) dInt) dStr) (mNm 0) (pop2 dEq))) (mOp1 (mNm 0) dInt) (mC .non))))
abbrev m_law_whole : En → R Tk := mDef 2 b_law_whole
theorem sc_law_whole : FnScope ["_law_word", "_law_digits", "_law_char"] ["_law_word"] (defScope s_law_whole) := ⟨rfl, rfl, rfl, by decide +kernel, rfl, by decide +kernel, by decide +kernel⟩
theorem f_law_whole (c : Ctx fa fn K mg) : ∃ fd, FnD K d_law_whole fd ∧ FnG P w K mg base (L2.CX P w) 1 (d_law_whole.at_.ad K) fd ["_law_word"] (SpM K mg 1 m_law_whole) := by
  obtain ⟨fd, D⟩ := c.df 11 rfl
  refine ⟨fd, D, fnM D sc_law_whole rfl fun cdv A outer s H E L hr => ?_⟩
  have sc := sc_law_whole
  have v0 : ∀ W pos, ME (cxOf (L2.CX P w) P w K mg base ["_law_word", "_law_digits", "_law_char"] d_law_whole.qual (defScope s_law_whole) (d_law_whole.at_.ad K) cdv A outer s H E) ⟨none, L⟩ W (.Name "_law_word" pos) (mNm 0) := fun _ _ => me_var (pv 0)
  have v1 : ∀ W pos, ME (cxOf (L2.CX P w) P w K mg base ["_law_word", "_law_digits", "_law_char"] d_law_whole.qual (defScope s_law_whole) (d_law_whole.at_.ad K) cdv A outer s H E) ⟨none, L⟩ W (.Name "_law_digits" pos) (mNm 1) := fun _ _ => me_var (pv 1)
  unfold b_law_whole
  refine mss_cons ?_ (mss_cons ?_ (mss_one ?_))
  · exact ms_set (i := 1) (fun _ h => ps_set sc.nd rfl (by first | exact .inl rfl | exact .inr rfl) h) (me_if (mt_cmpM (o_eq hr.units) (me_sl (v0 _ _) mo_none (mo_some me_int)) me_str (nomark _)) (me_sl (v0 _ _) (mo_some me_int) mo_none) (v0 _ _))
  · refine ms_if (MW.mt (mw_or (mt_cmpM (o_eq hr.units) (v1 _ _) me_str (nomark _)) (mw_or1 (mt_cmpM (o_ne hr.units) (me_lc [("_law_char", 2)] rfl sc.nd (mi_any (v1 _ _)) (blkOk_of (by kernel_rfl)) (fun _ _ _ _ _ => pg_name (i := 2) sc.nd rfl (by first | exact .inl rfl | exact .inr rfl)) mgk_name (fun _ _ _ _ _ => (mts_one (mt_cmpM (o_notIn hr.u65) (me_var (pv 2)) me_str (by rfl)))) (fun _ _ _ _ _ => (me_var (pv 2)))) (me_lst ma_nil) (nomark _))))) ?_ ?_
    · refine mss_one ?_
      · exact ms_ret me_non
    · exact mss_nil
  · exact ms_ret (me_if (mt_cmpM (o_eq hr.units) (me_toStr (by rfl) (h8 c) (me_toInt (by rfl) (h2 c) (v0 _ _))) (v0 _ _) (nomark _)) (me_toInt (by rfl) (h2 c) (v0 _ _)) me_non)
def b_law_due : En → R Fl := mSeq (mSet 1 (mLc (mIt (mSM1 (mNm 0) (mC (.str "/")) dSplit)) (mTgN 2) (mYes) (mCall 1 0 [.p 0] [] m_law_whole (mA1 false (mNm 2) (mA0)) (mA0)) [2])) (mSeq (mIf (mOrT (mTb (mOp2 (mC .non) (mNm 1) (pop2 dIn))) (mTb (mOp2 (mOp1 (mNm 1) dLen) (mC (.int 2)) (pop2 (dSw dLtI))))) (mRet (mC .non)) (mNext)) (mSeq (mIf (mTb (mOp2 (mOp1 (mNm 1) dLen) (mC (.int 1)) (pop2 dEq))) (mRet (mTup (mA1 false (mOp2 (mNm 1) (mC (.int 0)) (pop2 dIx)) (mA1 false (mC (.int 1)) (mA0))))) (mNext)) (mRet (mIfE (mAndT (mTb (mOp2 (mOp2 (mNm 1) (mC (.int 1)) (pop2 dIx)) (mC (.int 1)) (pop2 (dSw dLtI)))) (mTb (mOp2 (mCall 2 0 [.p 0, .p 1] [] m_law_frac (mA1 false (mOp2 (mNm 1) (mC (.int 0)) (pop2 dIx)) (mA1 false (mOp2 (mNm 1) (mC (.int 1)) (pop2 dIx)) (mA0))) (mA0)) (mTup (mA1 false (mOp2 (mNm 1) (mC (.int 0)) (pop2 dIx)) (mA1 false (mOp2 (mNm 1) (mC (.int 1)) (pop2 dIx)) (mA0)))) (pop2 dEq)))) (mTup (mA1 false (mOp2 (mNm 1) (mC (.int 0)) (pop2 dIx)) (mA1 false (mOp2 (mNm 1) (mC (.int 1)) (pop2 dIx)) (mA0)))) (mC .non)))))
abbrev m_law_due : En → R Tk := mDef 2 b_law_due
theorem sc_law_due : FnScope ["_law_phrase", "_law_words", "_law_word"] ["_law_phrase"] (defScope s_law_due) := ⟨rfl, rfl, rfl, by decide +kernel, rfl, by decide +kernel, by decide +kernel⟩
theorem f_law_due (c : Ctx fa fn K mg) : ∃ fd, FnD K d_law_due fd ∧ FnG P w K mg base (L2.CX P w) 2 (d_law_due.at_.ad K) fd ["_law_phrase"] (SpM K mg 1 m_law_due) := by
  obtain ⟨fd, D⟩ := c.df 12 rfl
  refine ⟨fd, D, fnM D sc_law_due rfl fun cdv A outer s H E L hr => ?_⟩
  obtain ⟨D0_law_whole, D_law_whole, F_law_whole⟩ := f_law_whole (P := P) (w := w) (base := base) c
  obtain ⟨D0_law_frac, D_law_frac, F_law_frac⟩ := f_law_frac (P := P) (w := w) (base := base) c
  have sc := sc_law_due
  have v0 : ∀ W pos, ME (cxOf (L2.CX P w) P w K mg base ["_law_phrase", "_law_words", "_law_word"] d_law_due.qual (defScope s_law_due) (d_law_due.at_.ad K) cdv A outer s H E) ⟨none, L⟩ W (.Name "_law_phrase" pos) (mNm 0) := fun _ _ => me_var (pv 0)
  have v1 : ∀ W pos, ME (cxOf (L2.CX P w) P w K mg base ["_law_phrase", "_law_words", "_law_word"] d_law_due.qual (defScope s_law_due) (d_law_due.at_.ad K) cdv A outer s H E) ⟨none, L⟩ W (.Name "_law_words" pos) (mNm 1) := fun _ _ => me_var (pv 1)
  unfold b_law_due
  refine mss_cons ?_ (mss_cons ?_ (mss_cons ?_ (mss_one ?_)))
  · exact ms_setLc (i := 1) [("_law_word", 2)] rfl sc.nd rfl rfl rfl (mi_any (me_split (v0 _ _) me_str)) (blkOk_of (by kernel_rfl)) (fun _ _ _ _ _ => pg_name (i := 2) sc.nd rfl (by first | exact .inl rfl | exact .inr rfl)) mgk_name (fun _ _ _ _ _ => mts_nil) (fun _ _ _ _ _ => (me_callN F_law_whole mDef_good (hr.mono (by decide)) (by rfl) (h22 c) D_law_whole.kp (Bnd.plain 1 [] [.p 0] D_law_whole fun _ _ _ _ _ _ us ws h1 h2 => match us, ws, h1, h2 with | [_], [], _, _ => rfl) dfNil takes0 (ma_cons false (me_var (pv 2)) ma_nil) mk_nil))
  · refine ms_if (MW.mt (mw_or (mt_cmpM (o_in hr.u65) me_non (v1 _ _) (by rfl)) (mw_or1 (mt_cmpM o_gt (me_len (by rfl) (h0 c) (v1 _ _)) me_int (nomark _))))) ?_ ?_
    · refine mss_one ?_
      · exact ms_ret me_non
    · exact mss_nil
  · refine ms_if (mt_cmpM (o_eq hr.units) (me_len (by rfl) (h0 c) (v1 _ _)) me_int (nomark _)) ?_ ?_
    · refine mss_one ?_
      · exact ms_ret (me_tup (ma_cons false (me_ix hr.u1 (v1 _ _) me_int) (ma_cons false me_int ma_nil)))
    · exact mss_nil
  · exact ms_ret (me_if (MW.mt (mw_and (mt_cmpM o_gt (me_ix hr.u1 (v1 _ _) me_int) me_int (nomark _)) (mw_and1 (mt_cmpM (o_eq hr.units) (me_callN F_law_frac mDef_good (hr.mono (by decide)) (by rfl) (h23 c) D_law_frac.kp (Bnd.plain 2 [] [.p 0, .p 1] D_law_frac fun _ _ _ _ _ _ us ws h1 h2 => match us, ws, h1, h2 with | [_, _], [], _, _ => rfl) dfNil tkD (ma_cons false (me_ix hr.u1 (v1 _ _) me_int) (ma_cons false (me_ix hr.u1 (v1 _ _) me_int) ma_nil)) mk_nil) (me_tup (ma_cons false (me_ix hr.u1 (v1 _ _) me_int) (ma_cons false (me_ix hr.u1 (v1 _ _) me_int) ma_nil))) (nomark _))))) (me_tup (ma_cons false (me_ix hr.u1 (v1 _ _) me_int) (ma_cons false (me_ix hr.u1 (v1 _ _) me_int) ma_nil))) me_non)
def b_is_whole : En → R Fl := mRet (mAnd (mOp1 (mNm 0) (dIsi (gTy "int" ["Ratio"]))) (mNotV (mOp1 (mNm 0) (dIsi (gTy "bool" ["Ratio"])))))
abbrev m_is_whole : En → R Tk := mDef 0 b_is_whole
theorem sc_is_whole : FnScope ["given"] ["given"] (defScope s_is_whole) := ⟨rfl, rfl, rfl, by decide +kernel, rfl, by decide +kernel, by decide +kernel⟩
theorem f_is_whole (c : Ctx fa fn K mg) : ∃ fd, FnD K d_is_whole fd ∧ FnG P w K mg base (L2.CX P w) 1 (d_is_whole.at_.ad K) fd ["given"] (SpM K mg 1 m_is_whole) := by
  obtain ⟨fd, D⟩ := c.df 13 rfl
  refine ⟨fd, D, fnM D sc_is_whole rfl fun cdv A outer s H E L hr => ?_⟩
  have sc := sc_is_whole
  have v0 : ∀ W pos, ME (cxOf (L2.CX P w) P w K mg base ["given"] d_is_whole.qual (defScope s_is_whole) (d_is_whole.at_.ad K) cdv A outer s H E) ⟨none, L⟩ W (.Name "given" pos) (mNm 0) := fun _ _ => me_var (pv 0)
  unfold b_is_whole
  refine mss_one ?_
  · exact ms_ret (me_and (me_isT (T := "int") (cs := ["Ratio"]) (all1 (h4 c)) (all1 (h5 c)) (h24 c) (by rfl) (h25 c) (by rfl) (h2 c) boot_int' (v0 _ _)) (me_one (me_not (me_isT (T := "bool") (cs := ["Ratio"]) (all1 (h4 c)) (all1 (h5 c)) (h26 c) (by rfl) (h25 c) (by rfl) (h27 c) boot_bool' (v0 _ _)))))
def b_Ratio___eq : En → R Fl := mSeq (mIf (mTb (mOp1 (mNm 1) (dIsi (gCl "Ratio" ["Ratio"])))) (mRet (mAnd (mOp2 (mOp1 (mNm 0) (dFld ["Ratio"] "_top")) (mOp1 (mNm 1) (dFld ["Ratio"] "_top")) (pop2 dEq)) (mOp2 (mOp1 (mNm 0) (dFld ["Ratio"] "_bottom")) (mOp1 (mNm 1) (dFld ["Ratio"] "_bottom")) (pop2 dEq)))) (mNext)) (mRet (mAnd (mCall 1 0 [.p 0] [] m_is_whole (mA1 false (mNm 1) (mA0)) (mA0)) (mAnd (mOp2 (mOp1 (mNm 0) (dFld ["Ratio"] "_bottom")) (mC (.int 1)) (pop2 dEq)) (mOp2 (mOp1 (mNm 0) (dFld ["Ratio"] "_top")) (mNm 1) (pop2 dEq)))))
abbrev m_Ratio___eq : En → R Tk := mDef 0 b_Ratio___eq
theorem sc_Ratio___eq : FnScope ["self", "other"] ["self", "other"] (defScope s_Ratio___eq) := ⟨rfl, rfl, rfl, by decide +kernel, rfl, by decide +kernel, by decide +kernel⟩
theorem f_Ratio___eq (c : Ctx fa fn K mg) : ∃ fd, FnD K d_Ratio___eq fd ∧ FnG P w K mg base (L2.CX P w) 2 (d_Ratio___eq.at_.ad K) fd ["self", "other"] (SpM K mg 2 m_Ratio___eq) := by
  obtain ⟨fd, D⟩ := c.df 14 rfl
  refine ⟨fd, D, fnM D sc_Ratio___eq rfl fun cdv A outer s H E L hr => ?_⟩
  obtain ⟨D0_is_whole, D_is_whole, F_is_whole⟩ := f_is_whole (P := P) (w := w) (base := base) c
  have sc := sc_Ratio___eq
  have v0 : ∀ W pos, ME (cxOf (L2.CX P w) P w K mg base ["self", "other"] d_Ratio___eq.qual (defScope s_Ratio___eq) (d_Ratio___eq.at_.ad K) cdv A outer s H E) ⟨none, L⟩ W (.Name "self" pos) (mNm 0) := fun _ _ => me_var (pv 0)
  have v1 : ∀ W pos, ME (cxOf (L2.CX P w) P w K mg base ["self", "other"] d_Ratio___eq.qual (defScope s_Ratio___eq) (d_Ratio___eq.at_.ad K) cdv A outer s H E) ⟨none, L⟩ W (.Name "other" pos) (mNm 1) := fun _ _ => me_var (pv 1)
  unfold b_Ratio___eq
  refine mss_cons ?_ (mss_one ?_)
  · refine ms_if (mt_val (me_isC (y := "Ratio") (cs := ["Ratio"]) (all1 (h4 c)) (all1 (h5 c)) (h28 c) (by rfl) (h25 c) (by rfl) (h4 c) (v1 _ _))) ?_ ?_
    · refine mss_one ?_
      · exact ms_ret (me_and (me_cmpM (o_eq hr.units) (me_fld (fldOk_of (all1 (h4 c)) (all1 (h5 c)) (all1 (h7 c))) (v0 _ _)) (me_fld (fldOk_of (all1 (h4 c)) (all1 (h5 c)) (all1 (h7 c))) (v1 _ _)) (nomark _)) (me_one (me_cmpM (o_eq hr.units) (me_fld (fldOk_of (all1 (h4 c)) (all1 (h5 c)) (all1 (h6 c))) (v0 _ _)) (me_fld (fldOk_of (all1 (h4 c)) (all1 (h5 c)) (all1 (h6 c))) (v1 _ _)) (nomark _))))
    · exact mss_nil
  · exact ms_ret (me_and (me_callN F_is_whole mDef_good (hr.mono (by decide)) (by rfl) (h29 c) D_is_whole.kp (Bnd.plain 1 [] [.p 0] D_is_whole fun _ _ _ _ _ _ us ws h1 h2 => match us, ws, h1, h2 with | [_], [], _, _ => rfl) dfNil tkD (ma_cons false (v1 _ _) ma_nil) mk_nil) (me_and (me_cmpM (o_eq hr.units) (me_fld (fldOk_of (all1 (h4 c)) (all1 (h5 c)) (all1 (h6 c))) (v0 _ _)) me_int (nomark _)) (me_one (me_cmpM (o_eq hr.units) (me_fld (fldOk_of (all1 (h4 c)) (all1 (h5 c)) (all1 (h7 c))) (v0 _ _)) (v1 _ _) (nomark _)))))
def b_law_f1 : En → R Fl := mIf (mTb (mOp2 (mCall 1 0 [.p 0] [] m_law_read (mA1 false (mNm 11) (mA0)) (mA0)) (mCall 1 0 [.p 0] [] m_law_due (mA1 false (mNm 11) (mA0)) (mA0)) (pop2 dNe))) (mRet (mC (.bl false))) (mNext)
def b_law_f2 : En → R Fl := mSeq (mSet 7 (mCall 2 0 [.p 0, .p 1] [] m_law_take (mA1 true (mNm 2) (mA1 false (mOp2 (mOp1 (mNm 5) dLen) (mC (.int 1)) (pop2 dAdd)) (mA0))) (mA0))) (mSeq (mSet 8 (mOp2 (mLst (mA1 false (mC (.str "0")) (mA1 false (mC (.str "1")) (mA1 false (mC (.str "-")) (mA1 false (mC (.str "/")) (mA1 false (mC (.str " ")) (mA1 false (mC (.str "+")) (mA1 false (mC (.str ".")) (mA1 false (mC (.str "/1")) (mA1 false (mC (.str "/0")) (mA1 false (mC (.str "00")) (mA1 false (mC (.str "a")) (mA1 false (mC (.str "")) (mA1 false (mC (.str "_")) (mA1 false (mC (.str "\n")) (mA0)))))))))))))))) (mCall 2 0 [.p 0, .p 1] [] m_law_take (mA1 true (mNm 2) (mA1 false (mC (.int 14)) (mA0))) (mA0)) (pop2 dIx))) (mSeq (mSet 9 (mOp2 (mOp2 (mSl (mNm 5) (mPart none) (mPart (some (mNm 7)))) (mNm 8) (pop2 dAdd)) (mSl (mNm 5) (mPart (some (mOp2 (mNm 7) (mCall 2 0 [.p 0, .p 1] [] m_law_take (mA1 true (mNm 2) (mA1 false (mC (.int 2)) (mA0))) (mA0)) (pop2 dAdd)))) (mPart none)) (pop2 dAdd))) (mSeq (mSet 10 (mOp2 (mOp2 (mOp1 (mOp2 (mOp2 (mNm 4) (mC (.int 0)) (pop2 dIx)) (mC (.int 2)) (pop2 dMul)) dStr) (mC (.str "/")) (pop2 dAdd)) (mOp1 (mOp2 (mOp2 (mNm 4) (mC (.int 1)) (pop2 dIx)) (mC (.int 2)) (pop2 dMul)) dStr) (pop2 dAdd))) (mFor (mIt (mLst (mA1 false (mNm 9) (mA1 false (mNm 10) (mA1 false (mOp2 (mOp2 (mNm 5) (mC (.str "/")) (pop2 dAdd)) (mNm 8) (pop2 dAdd)) (mA1 false (mOp2 (mNm 8) (mNm 5) (pop2 dAdd)) (mA1 false (mOp2 (mNm 5) (mNm 8) (pop2 dAdd)) (mA0)))))))) (mTgN 11) b_law_f1))))
def b_law_f3 : En → R Fl := mSeq (mSet 2 (mCall 2 0 [.p 0, .p 1] [] m_law_box (mA1 false (mNm 0) (mA1 false (mNm 1) (mA0))) (mA0))) (mSeq (mSet 3 (mOp2 (mLst (mA1 false (mC (.int 9)) (mA1 false (mC (.int 60)) (mA1 false (mOp2 (mOp2 (mC (.int 10)) (mC (.int 9)) (pop2 dPow)) (mC (.int 1)) (pop2 dSub)) (mA1 false (mOp2 (mC (.int 10)) (mC (.int 59)) (pop2 dPow)) (mA0)))))) (mCall 2 0 [.p 0, .p 1] [] m_law_take (mA1 true (mNm 2) (mA1 false (mC (.int 4)) (mA0))) (mA0)) (pop2 dIx))) (mSeq (mSet 4 (mCall 2 0 [.p 0, .p 1] [] m_law_frac (mA1 false (mOp2 (mCall 2 0 [.p 0, .p 1] [] m_law_take (mA1 true (mNm 2) (mA1 false (mOp2 (mOp2 (mC (.int 2)) (mNm 3) (pop2 dMul)) (mC (.int 1)) (pop2 dAdd)) (mA0))) (mA0)) (mNm 3) (pop2 dSub)) (mA1 false (mOp2 (mLst (mA1 false (mC (.int 1)) (mA1 false (mOp2 (mC (.int 1)) (mCall 2 0 [.p 0, .p 1] [] m_law_take (mA1 true (mNm 2) (mA1 false (mNm 3) (mA0))) (mA0)) (pop2 dAdd)) (mA0)))) (mCall 2 0 [.p 0, .p 1] [] m_law_take (mA1 true (mNm 2) (mA1 false (mC (.int 2)) (mA0))) (mA0)) (pop2 dIx)) (mA0))) (mA0))) (mSeq (mSet 5 (mIfE (mTb (mOp2 (mOp2 (mNm 4) (mC (.int 1)) (pop2 dIx)) (mC (.int 1)) (pop2 dEq))) (mOp1 (mOp2 (mNm 4) (mC (.int 0)) (pop2 dIx)) dStr) (mOp2 (mOp2 (mOp1 (mOp2 (mNm 4) (mC (.int 0)) (pop2 dIx)) dStr) (mC (.str "/")) (pop2 dAdd)) (mOp1 (mOp2 (mNm 4) (mC (.int 1)) (pop2 dIx)) dStr) (pop2 dAdd)))) (mSeq (mIf (mOrT (mTb (mOp2 (mMeth "Ratio" "text" false 1 0 [.p 0] [] m_Ratio_text (mMake "Ratio" 2 0 [.p 0, .p 1] [.int 1] m_Ratio___init (mA1 false (mOp2 (mNm 4) (mC (.int 0)) (pop2 dIx)) (mA1 false (mOp2 (mNm 4) (mC (.int 1)) (pop2 dIx)) (mA0))) (mA0)) (mA0) (mA0)) (mNm 5) (pop2 dNe))) (mOrT (mTb (mOp2 (mCall 1 0 [.p 0] [] m_law_read (mA1 false (mNm 5) (mA0)) (mA0)) (mNm 4) (pop2 dNe))) (mTb (mOp2 (mCall 1 0 [.p 0] [] m_law_due (mA1 false (mNm 5) (mA0)) (mA0)) (mNm 4) (pop2 dNe))))) (mRet (mC (.bl false))) (mNext)) (mSeq (mIf (mNot (mTb (mOp2 (mCMeth "Ratio" 1 1 [.p 0, .k 0] [] m_Ratio_read (mA0) (mA1 false (mNm 5) (mA0))) (mMake "Ratio" 2 0 [.p 0, .p 1] [.int 1] m_Ratio___init (mA1 false (mOp2 (mNm 4) (mC (.int 0)) (pop2 dIx)) (mA1 false (mOp2 (mNm 4) (mC (.int 1)) (pop2 dIx)) (mA0))) (mA0)) (ownOp "Ratio" "__eq__" m_Ratio___eq)))) (mRet (mC (.bl false))) (mNext)) (mFor (mItA dRng1 (mA1 false (mC (.int 6)) (mA0))) (mTgN 6) b_law_f2))))))
def b_law : En → R Fl := mSeq (mFor (mItA dRng1 (mA1 false (mCB (mA1 false (mC (.int 1)) (mA1 false (mCB (mA1 false (mC (.int 3)) (mA1 false (mOp1 (mNm 0) dLen) (mA0))) dMin) (mA0))) dMax) (mA0))) (mTgN 1) b_law_f3) (mRet (mAnd (mOp2 (mCall 1 0 [.p 0] [] m_law_read (mA1 false (mC (.str "")) (mA0)) (mA0)) (mC .non) (pop2 dIsN)) (mAnd (mOp2 (mCall 1 0 [.p 0] [] m_law_read (mA1 false (mC (.str "-0")) (mA0)) (mA0)) (mC .non) (pop2 dIsN)) (mOp2 (mCall 1 0 [.p 0] [] m_law_read (mA1 false (mC (.str "0/3")) (mA0)) (mA0)) (mC .non) (pop2 dIsN)))))
abbrev m_law : En → R Tk := mDef 11 b_law
theorem sc_law : FnScope ["_law_script", "_law_k", "_law_box_here", "_law_wide", "_law_x", "_law_phrase", "_law_turn", "_law_at", "_law_part", "_law_near", "_law_factor", "_law_other"] ["_law_script"] (defScope s_law) := ⟨rfl, rfl, rfl, by decide +kernel, rfl, by decide +kernel, by decide +kernel⟩
theorem f_law (c : Ctx fa fn K mg) : ∃ fd, FnD K d_law fd ∧ FnG P w K mg base (L2.CX P w) 5 (d_law.at_.ad K) fd ["_law_script"] (SpM K mg 1 m_law) := by
  obtain ⟨fd, D⟩ := c.df 15 rfl
  refine ⟨fd, D, fnM D sc_law rfl fun cdv A outer s H E L hr => ?_⟩
  obtain ⟨D0_law_box, D_law_box, F_law_box⟩ := f_law_box (P := P) (w := w) (base := base) c
  obtain ⟨D0_law_take, D_law_take, F_law_take⟩ := f_law_take (P := P) (w := w) (base := base) c
  obtain ⟨D0_law_frac, D_law_frac, F_law_frac⟩ := f_law_frac (P := P) (w := w) (base := base) c
  obtain ⟨D0_Ratio_text, D_Ratio_text, F_Ratio_text⟩ := f_Ratio_text (P := P) (w := w) (base := base) c
  obtain ⟨D0_Ratio___init, D_Ratio___init, F_Ratio___init⟩ := f_Ratio___init (P := P) (w := w) (base := base) c
  obtain ⟨D0_law_read, D_law_read, F_law_read⟩ := f_law_read (P := P) (w := w) (base := base) c
  obtain ⟨D0_law_due, D_law_due, F_law_due⟩ := f_law_due (P := P) (w := w) (base := base) c
  obtain ⟨D0_Ratio_read, D_Ratio_read, F_Ratio_read⟩ := f_Ratio_read (P := P) (w := w) (base := base) c
  obtain ⟨D0_Ratio___eq, D_Ratio___eq, F_Ratio___eq⟩ := f_Ratio___eq (P := P) (w := w) (base := base) c
  have sc := sc_law
  have v0 : ∀ W pos, ME (cxOf (L2.CX P w) P w K mg base ["_law_script", "_law_k", "_law_box_here", "_law_wide", "_law_x", "_law_phrase", "_law_turn", "_law_at", "_law_part", "_law_near", "_law_factor", "_law_other"] d_law.qual (defScope s_law) (d_law.at_.ad K) cdv A outer s H E) ⟨none, L⟩ W (.Name "_law_script" pos) (mNm 0) := fun _ _ => me_var (pv 0)
  have v1 : ∀ W pos, ME (cxOf (L2.CX P w) P w K mg base ["_law_script", "_law_k", "_law_box_here", "_law_wide", "_law_x", "_law_phrase", "_law_turn", "_law_at", "_law_part", "_law_near", "_law_factor", "_law_other"] d_law.qual (defScope s_law) (d_law.at_.ad K) cdv A outer s H E) ⟨none, L⟩ W (.Name "_law_k" pos) (mNm 1) := fun _ _ => me_var (pv 1)
  have v2 : ∀ W pos, ME (cxOf (L2.CX P w) P w K mg base ["_law_script", "_law_k", "_law_box_here", "_law_wide", "_law_x", "_law_phrase", "_law_turn", "_law_at", "_law_part", "_law_near", "_law_factor", "_law_other"] d_law.qual (defScope s_law) (d_law.at_.ad K) cdv A outer s H E) ⟨none, L⟩ W (.Name "_law_box_here" pos) (mNm 2) := fun _ _ => me_var (pv 2)
  have v3 : ∀ W pos, ME (cxOf (L2.CX P w) P w K mg base ["_law_script", "_law_k", "_law_box_here", "_law_wide", "_law_x", "_law_phrase", "_law_turn", "_law_at", "_law_part", "_law_near", "_law_factor", "_law_other"] d_law.qual (defScope s_law) (d_law.at_.ad K) cdv A outer s H E) ⟨none, L⟩ W (.Name "_law_wide" pos) (mNm 3) := fun _ _ => me_var (pv 3)
  have v4 : ∀ W pos, ME (cxOf (L2.CX P w) P w K mg base ["_law_script", "_law_k", "_law_box_here", "_law_wide", "_law_x", "_law_phrase", "_law_turn", "_law_at", "_law_part", "_law_near", "_law_factor", "_law_other"] d_law.qual (defScope s_law) (d_law.at_.ad K) cdv A outer s H E) ⟨none, L⟩ W (.Name "_law_x" pos) (mNm 4) := fun _ _ => me_var (pv 4)
  have v5 : ∀ W pos, ME (cxOf (L2.CX P w) P w K mg base ["_law_script", "_law_k", "_law_box_here", "_law_wide", "_law_x", "_law_phrase", "_law_turn", "_law_at", "_law_part", "_law_near", "_law_factor", "_law_other"] d_law.qual (defScope s_law) (d_law.at_.ad K) cdv A outer s H E) ⟨none, L⟩ W (.Name "_law_phrase" pos) (mNm 5) := fun _ _ => me_var (pv 5)
  have v7 : ∀ W pos, ME (cxOf (L2.CX P w) P w K mg base ["_law_script", "_law_k", "_law_box_here", "_law_wide", "_law_x", "_law_phrase", "_law_turn", "_law_at", "_law_part", "_law_near", "_law_factor", "_law_other"] d_law.qual (defScope s_law) (d_law.at_.ad K) cdv A outer s H E) ⟨none, L⟩ W (.Name "_law_at" pos) (mNm 7) := fun _ _ => me_var (pv 7)
  have v8 : ∀ W pos, ME (cxOf (L2.CX P w) P w K mg base ["_law_script", "_law_k", "_law_box_here", "_law_wide", "_law_x", "_law_phrase", "_law_turn", "_law_at", "_law_part", "_law_near", "_law_factor", "_law_other"] d_law.qual (defScope s_law) (d_law.at_.ad K) cdv A outer s H E) ⟨none, L⟩ W (.Name "_law_part" pos) (mNm 8) := fun _ _ => me_var (pv 8)
  have v9 : ∀ W pos, ME (cxOf (L2.CX P w) P w K mg base ["_law_script", "_law_k", "_law_box_here", "_law_wide", "_law_x", "_law_phrase", "_law_turn", "_law_at", "_law_part", "_law_near", "_law_factor", "_law_other"] d_law.qual (defScope s_law) (d_law.at_.ad K) cdv A outer s H E) ⟨none, L⟩ W (.Name "_law_near" pos) (mNm 9) := fun _ _ => me_var (pv 9)
  have v10 : ∀ W pos, ME (cxOf (L2.CX P w) P w K mg base ["_law_script", "_law_k", "_law_box_here", "_law_wide", "_law_x", "_law_phrase", "_law_turn", "_law_at", "_law_part", "_law_near", "_law_factor", "_law_other"] d_law.qual (defScope s_law) (d_law.at_.ad K) cdv A outer s H E) ⟨none, L⟩ W (.Name "_law_factor" pos) (mNm 10) := fun _ _ => me_var (pv 10)
  have v11 : ∀ W pos, ME (cxOf (L2.CX P w) P w K mg base ["_law_script", "_law_k", "_law_box_here", "_law_wide", "_law_x", "_law_phrase", "_law_turn", "_law_at", "_law_part", "_law_near", "_law_factor", "_law_other"] d_law.qual (defScope s_law) (d_law.at_.ad K) cdv A outer s H E) ⟨none, L⟩ W (.Name "_law_other" pos) (mNm 11) := fun _ _ => me_var (pv 11)
  unfold b_law
  refine mss_cons ?_ (mss_one ?_)
  · refine ms_for poD rfl (mi_range1 (by rfl) (h32 c) (ma_cons false (me_max rfl (by rfl) (h31 c) (ma_cons false me_int (ma_cons false (me_min rfl (by rfl) (h30 c) (ma_cons false me_int (ma_cons false (me_len (by rfl) (h0 c) (v0 _ _)) ma_nil))) ma_nil))) ma_nil)) (mg_name (i := 1) sc.nd rfl (by first | exact .inl rfl | exact .inr rfl)) ?_
    unfold b_law_f3
    refine mss_cons ?_ (mss_cons ?_ (mss_cons ?_ (mss_cons ?_ (mss_cons ?_ (mss_cons ?_ (mss_one ?_))))))
    · exact ms_set (i := 2) (fun _ h => ps_set sc.nd rfl (by first | exact .inl rfl | exact .inr rfl) h) (me_callN F_law_box mDef_good (hr.mono (by decide)) (by rfl) (h33 c) D_law_box.kp (Bnd.plain 2 [] [.p 0, .p 1] D_law_box fun _ _ _ _ _ _ us ws h1 h2 => match us, ws, h1, h2 with | [_, _], [], _, _ => rfl) dfNil tkD (ma_cons false (v0 _ _) (ma_cons false (v1 _ _) ma_nil)) mk_nil)
    · exact ms_set (i := 3) (fun _ h => ps_set sc.nd rfl (by first | exact .inl rfl | exact .inr rfl) h) (me_ix hr.u1 (me_lst (ma_cons false me_int (ma_cons false me_int (ma_cons false (me_sub (me_pow me_int me_int) me_int) (ma_cons false (me_pow me_int me_int) ma_nil))))) (me_callN F_law_take mDef_good (hr.mono (by decide)) (by rfl) (h34 c) D_law_take.kp (Bnd.plain 2 [] [.p 0, .p 1] D_law_take fun _ _ _ _ _ _ us ws h1 h2 => match us, ws, h1, h2 with | [_, _], [], _, _ => rfl) dfNil tkD (ma_cons true (v2 _ _) (ma_cons false me_int ma_nil)) mk_nil))
    · exact ms_set (i := 4) (fun _ h => ps_set sc.nd rfl (by first | exact .inl rfl | exact .inr rfl) h) (me_callN F_law_frac mDef_good (hr.mono (by decide)) (by rfl) (h23 c) D_law_frac.kp (Bnd.plain 2 [] [.p 0, .p 1] D_law_frac fun _ _ _ _ _ _ us ws h1 h2 => match us, ws, h1, h2 with | [_, _], [], _, _ => rfl) dfNil tkD (ma_cons false (me_sub (me_callN F_law_take mDef_good (hr.mono (by decide)) (by rfl) (h34 c) D_law_take.kp (Bnd.plain 2 [] [.p 0, .p 1] D_law_take fun _ _ _ _ _ _ us ws h1 h2 => match us, ws, h1, h2 with | [_, _], [], _, _ => rfl) dfNil tkD (ma_cons true (v2 _ _) (ma_cons false (me_add (me_mul me_int (v3 _ _)) me_int) ma_nil)) mk_nil) (v3 _ _)) (ma_cons false (me_ix hr.u1 (me_lst (ma_cons false me_int (ma_cons false (me_add me_int (me_callN F_law_take mDef_good (hr.mono (by decide)) (by rfl) (h34 c) D_law_take.kp (Bnd.plain 2 [] [.p 0, .p 1] D_law_take fun _ _ _ _ _ _ us ws h1 h2 => match us, ws, h1, h2 with | [_, _], [], _, _ => rfl) dfNil tkD (ma_cons true (v2 _ _) (ma_cons false (v3 _ _) ma_nil)) mk_nil)) ma_nil))) (me_callN F_law_take mDef_good (hr.mono (by decide)) (by rfl) (h34 c) D_law_take.kp (Bnd.plain 2 [] [.p 0, .p 1] D_law_take fun _ _ _ _ _ _ us ws h1 h2 => match us, ws, h1, h2 with | [_, _], [], _, _ => rfl) dfNil tkD (ma_cons true (v2 _ _) (ma_cons false me_int ma_nil)) mk_nil)) ma_nil)) mk_nil)
    · exact ms_set (i := 5) (fun _ h => ps_set sc.nd rfl (by first | exact .inl rfl | exact .inr rfl) h) (me_if (mt_cmpM (o_eq hr.units) (me_ix hr.u1 (v4 _ _) me_int) me_int (nomark _)) (me_toStr (by rfl) (h8 c) (me_ix hr.u1 (v4 _ _) me_int)) (me_add (me_add (me_toStr (by rfl) (h8 c) (me_ix hr.u1 (v4 _ _) me_int)) me_str) (me_toStr (by rfl) (h8 c) (me_ix hr.u1 (v4 _ _) me_int))))
    · refine ms_if (MW.mt (mw_or (mt_cmpM (o_ne hr.units) (me_methN "Ratio" "text" false (h4 c) (fCls_ok (h5 c)).1.cl (fMeth_ok (h16 c)) F_Ratio_text mDef_good (hr.mono (by decide)) (Bnd.plain 1 [] [.p 0] D_Ratio_text fun _ _ _ _ _ _ us ws h1 h2 => match us, ws, h1, h2 with | [_], [], _, _ => rfl) dfNil tkD (me_makeN (ix := [.p 0, .p 1]) (h4 c) (fMk_ok (h15 c)) F_Ratio___init mDef_good (hr.mono (by decide)) (by rfl) (Bnd.dfl 3 [] [.p 0, .p 1, .p 2] D_Ratio___init (by simp [Df.dvs]) fun _ _ _ _ _ _ _ us ws its h1 h2 h3 => match us, ws, its, h1, h2, h3 with | [_, _, _], [], [_], _, _, _ => ⟨_, rfl, rfl⟩) df_Ratio___init tkD (ma_cons false (me_ix hr.u1 (v4 _ _) me_int) (ma_cons false (me_ix hr.u1 (v4 _ _) me_int) ma_nil)) mk_nil) ma_nil mk_nil) (v5 _ _) (nomark _)) (mw_or (mt_cmpM (o_ne hr.units) (me_callN F_law_read mDef_good (hr.mono (by decide)) (by rfl) (h35 c) D_law_read.kp (Bnd.plain 1 [] [.p 0] D_law_read fun _ _ _ _ _ _ us ws h1 h2 => match us, ws, h1, h2 with | [_], [], _, _ => rfl) dfNil tkD (ma_cons false (v5 _ _) ma_nil) mk_nil) (v4 _ _) (nomark _)) (mw_or1 (mt_cmpM (o_ne hr.units) (me_callN F_law_due mDef_good (hr.mono (by decide)) (by rfl) (h36 c) D_law_due.kp (Bnd.plain 1 [] [.p 0] D_law_due fun _ _ _ _ _ _ us ws h1 h2 => match us, ws, h1, h2 with | [_], [], _, _ => rfl) dfNil tkD (ma_cons false (v5 _ _) ma_nil) mk_nil) (v4 _ _) (nomark _)))))) ?_ ?_
      · refine mss_one ?_
        · exact ms_ret me_bl
      · exact mss_nil
    · refine ms_if (mt_not (mt_cmpM (cmpM_own (ownF_of (h4 c) (h5 c) (h37 c) ⟨_, _, F_Ratio___eq, (Bnd.plain 2 [] [.p 0, .p 1] D_Ratio___eq fun _ _ _ _ _ _ us ws h1 h2 => match us, ws, h1, h2 with | [_, _], [], _, _ => rfl)⟩ mDef_good) rfl (fun _ _ => rfl) (fOrd_ok (h4 c) (h38 c)) (hr.mono (by decide)) tkD) (me_cmethN (fo := mNo) (ix := [.p 0, .k 0]) "Ratio" "read" (h4 c) (fCRead_ok (h17 c)) (fCMet_ok (h18 c)) F_Ratio_read mDef_good (hr.mono (by decide)) (Bnd.plain 1 ["text"] [.p 0, .k 0] D_Ratio_read fun _ _ _ _ _ _ us ws h1 h2 => match us, ws, h1, h2 with | [_], [_], _, _ => rfl) dfNil tkD (by rfl) ma_nil (mk_cons false (v5 _ _) mk_nil)) (me_makeN (ix := [.p 0, .p 1]) (h4 c) (fMk_ok (h15 c)) F_Ratio___init mDef_good (hr.mono (by decide)) (by rfl) (Bnd.dfl 3 [] [.p 0, .p 1, .p 2] D_Ratio___init (by simp [Df.dvs]) fun _ _ _ _ _ _ _ us ws its h1 h2 h3 => match us, ws, its, h1, h2, h3 with | [_, _, _], [], [_], _, _, _ => ⟨_, rfl, rfl⟩) df_Ratio___init tkD (ma_cons false (me_ix hr.u1 (v4 _ _) me_int) (ma_cons false (me_ix hr.u1 (v4 _ _) me_int) ma_nil)) mk_nil) (nomark _))) ?_ ?_
      · refine mss_one ?_
        · exact ms_ret me_bl
      · exact mss_nil
    · refine ms_for poD rfl (mi_range1 (by rfl) (h32 c) (ma_cons false me_int ma_nil)) (mg_name (i := 6) sc.nd rfl (by first | exact .inl rfl | exact .inr rfl)) ?_
      unfold b_law_f2
      refine mss_cons ?_ (mss_cons ?_ (mss_cons ?_ (mss_cons ?_ (mss_one ?_))))
      · exact ms_set (i := 7) (fun _ h => ps_set sc.nd rfl (by first | exact .inl rfl | exact .inr rfl) h) (me_callN F_law_take mDef_good (hr.mono (by decide)) (by rfl) (h34 c) D_law_take.kp (Bnd.plain 2 [] [.p 0, .p 1] D_law_take fun _ _ _ _ _ _ us ws h1 h2 => match us, ws, h1, h2 with | [_, _], [], _, _ => rfl) dfNil tkD (ma_cons true (v2 _ _) (ma_cons false (me_add (me_len (by rfl) (h0 c) (v5 _ _)) me_int) ma_nil)) mk_nil)
      · exact ms_set (i := 8) (fun _ h => ps_set sc.nd rfl (by first | exact .inl rfl | exact .inr rfl) h) (me_ix hr.u1 (me_lst (ma_cons false me_str (ma_cons false me_str (ma_cons false me_str (ma_cons false me_str (ma_cons false me_str (ma_cons false me_str (ma_cons false me_str (ma_cons false me_str (ma_cons false me_str (ma_cons false me_str (ma_cons false me_str (ma_cons false me_str (ma_cons false me_str (ma_cons false me_str ma_nil))))))))))))))) (me_callN F_law_take mDef_good (hr.mono (by decide)) (by rfl) (h34 c) D_law_take.kp (Bnd.plain 2 [] [.p 0, .p 1] D_law_take fun _ _ _ _ _ _ us ws h1 h2 => match us, ws, h1, h2 with | [_, _], [], _, _ => rfl) dfNil tkD (ma_cons true (v2 _ _) (ma_cons false me_int ma_nil)) mk_nil))
      · exact ms_set (i := 9) (fun _ h => ps_set sc.nd rfl (by first | exact .inl rfl | exact .inr rfl) h) (me_add (me_add (me_sl (v5 _ _) mo_none (mo_some (v7 _ _))) (v8 _ _)) (me_sl (v5 _ _) (mo_some (me_add (v7 _ _) (me_callN F_law_take mDef_good (hr.mono (by decide)) (by rfl) (h34 c) D_law_take.kp (Bnd.plain 2 [] [.p 0, .p 1] D_law_take fun _ _ _ _ _ _ us ws h1 h2 => match us, ws, h1, h2 with | [_, _], [], _, _ => rfl) dfNil tkD (ma_cons true (v2 _ _) (ma_cons false me_int ma_nil)) mk_nil))) mo_none))
      · exact ms_set (i := 10) (fun _ h => ps_set sc.nd rfl (by first | exact .inl rfl | exact .inr rfl) h) (me_add (me_add (me_toStr (by rfl) (h8 c) (me_mul (me_ix hr.u1 (v4 _ _) me_int) me_int)) me_str) (me_toStr (by rfl) (h8 c) (me_mul (me_ix hr.u1 (v4 _ _) me_int) me_int)))
      · refine ms_for poD rfl (mi_any (me_lst (ma_cons false (v9 _ _) (ma_cons false (v10 _ _) (ma_cons false (me_add (me_add (v5 _ _) me_str) (v8 _ _)) (ma_cons false (me_add (v8 _ _) (v5 _ _)) (ma_cons false (me_add (v5 _ _) (v8 _ _)) ma_nil))))))) (mg_name (i := 11) sc.nd rfl (by first | exact .inl rfl | exact .inr rfl)) ?_
        unfold b_law_f1
        refine mss_one ?_
        · refine ms_if (mt_cmpM (o_ne hr.units) (me_callN F_law_read mDef_good (hr.mono (by decide)) (by rfl) (h35 c) D_law_read.kp (Bnd.plain 1 [] [.p 0] D_law_read fun _ _ _ _ _ _ us ws h1 h2 => match us, ws, h1, h2 with | [_], [], _, _ => rfl) dfNil tkD (ma_cons false (v11 _ _) ma_nil) mk_nil) (me_callN F_law_due mDef_good (hr.mono (by decide)) (by rfl) (h36 c) D_law_due.kp (Bnd.plain 1 [] [.p 0] D_law_due fun _ _ _ _ _ _ us ws h1 h2 => match us, ws, h1, h2 with | [_], [], _, _ => rfl) dfNil tkD (ma_cons false (v11 _ _) ma_nil) mk_nil) (nomark _)) ?_ ?_
          · refine mss_one ?_
            · exact ms_ret me_bl
          · exact mss_nil
  · exact ms_ret (me_and (me_cmpM o_isN (me_callN F_law_read mDef_good (hr.mono (by decide)) (by rfl) (h35 c) D_law_read.kp (Bnd.plain 1 [] [.p 0] D_law_read fun _ _ _ _ _ _ us ws h1 h2 => match us, ws, h1, h2 with | [_], [], _, _ => rfl) dfNil tkD (ma_cons false me_str ma_nil) mk_nil) me_non (nomark _)) (me_and (me_cmpM o_isN (me_callN F_law_read mDef_good (hr.mono (by decide)) (by rfl) (h35 c) D_law_read.kp (Bnd.plain 1 [] [.p 0] D_law_read fun _ _ _ _ _ _ us ws h1 h2 => match us, ws, h1, h2 with | [_], [], _, _ => rfl) dfNil tkD (ma_cons false me_str ma_nil) mk_nil) me_non (nomark _)) (me_one (me_cmpM o_isN (me_callN F_law_read mDef_good (hr.mono (by decide)) (by rfl) (h35 c) D_law_read.kp (Bnd.plain 1 [] [.p 0] D_law_read fun _ _ _ _ _ _ us ws h1 h2 => match us, ws, h1, h2 with | [_], [], _, _ => rfl) dfNil tkD (ma_cons false me_str ma_nil) mk_nil) me_non (nomark _)))))
end
end K03

set_option Elab.async false
set_option linter.all false
set_option maxRecDepth 100000
set_option maxHeartbeats 0
namespace K03
open PySem PySem.Spec PyProof.Rows L2 PySem.W MM
abbrev R0 : PySem.W.OpenRow := PySem.W.OpenLaw.row PySem.Challenge.rw_finalblocks_k03_texts_of_ratios
abbrev names : List Str := ["_wall", "BlockError", "ByZero", "BadText", "BadNumber", "Ratio", "_is_counting", "is_whole", "is_number", "as_ratio", "_law_cell", "_law_box", "_law_take", "_law_frac", "_law_whole", "_law_due", "_law_read"]
abbrev hk : Hook := hookM 5 fa fn
def ob (s : SharedT) : Ob := obG 5 fa fn (HandSHeadRun.getT s)
theorem run (w : World) : HandSHeadRun.RunEqI R0 (PySem.W.view R0.prog [0, 21]) hk ob 9000 names w := by
  unfold HandSHeadRun.RunEqI
  kernel_rfl
theorem bind_law {K : Frag} {fd : FuncData} (D : FnD K d_law fd) (s : Shared) (v : Value) : BindsTo s fd ⟨[v], []⟩ [("_law_script", v)] := by
  have b := FunD.bindsA (ps := ["_law_script"]) D fun _ _ _ _ _ _ us hl => match us, hl with | [_], _ => rfl
  exact b s [v] rfl
theorem law_at {K : Frag} {mg : Str → Option Value} {a : Addr} (c : MM.Ctx fa fn K mg) (h : mg (HandSHeadRun.topDef R0.prog 21).name = some (.ref a)) : d_law.at_.ad K = a := by
  have e : (HandSHeadRun.topDef R0.prog 21).name = ("law" : PySem.Str) := by kernel_rfl
  rw [e, c.glo 39 rfl] at h
  injection h with h
  injection h
theorem holds (hm : ∀ ns : List Int, ns.length ≤ 63 → Holds1 m_law ns) : PySem.Challenge.rw_finalblocks_k03_texts_of_ratios.Holds := by
  w_on; o_law
  refine HandSHeadRun.head_imp (r := R0) (q := PySem.W.view R0.prog [0, 21]) (H := hk) (ob := ob) (M := 9000) (loose := names) (d := HandSHeadRun.topDef R0.prog 21) (kwd := []) (fun s => obG_eq s)
    run (by kernel_rfl) (by kernel_rfl) (by kernel_rfl) (by rfl) (by first | assumption | decide +kernel) (by decide +kernel) ⟨rfl, rfl, rfl, rfl, rfl, by decide +kernel⟩ ?hw ?hc
  case hw => w_witness2
  case hc =>
    refine walkM (l := PySem.Challenge.rw_finalblocks_k03_texts_of_ratios) (n := 63) (k := 5) (x := "_law_script") (m := m_law) rfl (by decide) (by kernel_rfl) (rm_caller ⟨rfl, by decide, by decide⟩) (fun w mg fa h Y G hmg0 => ?_) hm
    obtain ⟨K, KX, t⟩ := Y
    have c : MM.Ctx K03.fa fn K mg := ⟨t, h, KX, G⟩
    have e1 := law_at c hmg0
    subst e1
    obtain ⟨fd, D, _⟩ := f_law (P := PySem.Challenge.rw_finalblocks_k03_texts_of_ratios.prog) (w := w) (base := h) c
    refine ⟨K, fd, KX, bind_law D, fun base k1 k2 => ?_⟩
    obtain ⟨fd2, D2, F⟩ := f_law (P := PySem.Challenge.rw_finalblocks_k03_texts_of_ratios.prog) (w := w) (base := base) c
    rw [fnD_det D D2] at F
    exact F
end K03

set_option Elab.async false
set_option linter.all false
set_option maxRecDepth 100000
set_option maxHeartbeats 4000000
namespace K03
open PySem MM TL PySem.NumText
noncomputable section
variable {p q : Rat} {d : D} {n : Int} {k : Nat}
theorem frac_w (a b : Int) : ∀ (n : Nat) (x y : Int), 0 ≤ x → 0 ≤ y → y.toNat < n → mWhile (mTb (mOp2 (mNm 3) (mC (.int 0)) (pop2 (dSw dLtI)))) b_law_frac_w1 [.sh (.int a), .sh (.int b), .sh (.int x), .sh (.int y)] = .ok .nx [.sh (.int a), .sh (.int b), .sh (.int (Nat.gcd x.natAbs y.natAbs : Nat)), .sh (.int 0)]
  | 0, x, y, hx, hy, h => by omega
  | n + 1, x, y, hx, hy, h => by
    rw [mWhile_eq]
    by_cases e : y = 0
    · subst e
      simp -implicitDefEqProofs only [mRet, mRetN, mCall, mA1, mA0, mAr, mArS, mOp2, mOp1, mNm, nmS, mC, mDrop, ↓R.to_bd, R.bd_ok, R.bd_er, R.bd_no, List.getElem?_cons_zero, List.getElem?_cons_succ, pop2, pk, Option.bind_some, Option.bind_none, Sl.pk, MM.dIx_lst, MM.dIx_frl, MM.dIx_tup, MM.atI0, MM.atI1, MM.atI2, Option.map_some, Option.map_none, MM.dAdd_int, MM.dSub_int, MM.dLt_int, MM.dGt_int, MM.dLe_int, MM.dGe_int, MM.dEq_int, MM.dEq_bl, MM.dNe_bl, MM.dNe_int, dNeg, MM.dAbs_int, dInt, dIsi, chkS, callS, slsOf, slOf, pickL, Src.at, List.map_cons, List.map_nil, List.getD_cons_zero, List.getD_cons_succ, List.length_cons, List.length_nil, and_self, if_true, mvs, List.filterMap, Ar.ix, List.nodup_nil, List.map_nil, back, backS, mDefR, retT, outsOf, outS, List.head?_cons, List.tail_cons, mSeq, mSet, mNext, mIf, mTb, tkB, mNot, mNotV, mIfE, mAndT, mOrT, mAnd, mOr, asg, asgS, asgT, frc, frcS, List.set_cons_zero, List.set_cons_succ, ↓to_cd, cd_t, cd_f, Bool.not_true, Bool.not_false, List.cons_append, List.nil_append, List.append_nil, List.replicate, mLst, mTup, dsOf, mPar, mMake, chkM, mkS, mkR, mFldSet, mutT, mutS, mProp, propR, arD, ownOp, ownNe, MM.ownBin_def, MM.nbOk_q, MM.nbOk_i, notR, mMeth, mNegO, mCB, Nat.zero_add, Nat.reduceAdd, Nat.reduceLeDiff, Nat.not_lt_zero, List.length_cons, List.length_nil, MM.nodup1, MM.fp1, MM.fp2, MM.fl1, MM.fl2, MM.rv1, MM.rv2, MM.rv3, MM.rv4, MM.rv5, MM.rv6, MM.rv7, MM.rv8, MM.rv9, MM.rv10, MM.in1, MM.in2, MM.ok1, MM.ok2, MM.gc1, MM.gc2, MM.gt1, MM.gt2, MM.gt3, MM.gt4, MM.ixf0, MM.ixf1, MM.fr_int, MM.dEq_fr, MM.dEq_fr2, beq_self_eq_true, List.isEmpty_nil, Option.isNone_none, Option.isNone_some, Bool.and_true, Bool.and_false, Bool.true_and, Bool.false_and, mPut, okU, mFor, mIt, MM.itD_lst, MM.itD_frl, MM.itD_tup, mTgN, aft, loopF, if_false, Int.lt_irrefl, decide_false]
      simp only [Int.natAbs_zero, Nat.gcd_zero_right]
      rw [Int.natAbs_of_nonneg hx]
    · have h0 : (0 : Int) < y := by omega
      have hm := dMod_int x y e
      have ih := frac_w a b n y (x.fmod y) hy (Int.fmod_nonneg_of_pos _ h0) (by have := Int.fmod_lt_of_pos x h0; have := Int.fmod_nonneg_of_pos x h0; omega)
      have st : b_law_frac_w1 [.sh (.int a), .sh (.int b), .sh (.int x), .sh (.int y)] = .ok .nx [.sh (.int a), .sh (.int b), .sh (.int y), .sh (.int (x.fmod y))] := by
        simp -implicitDefEqProofs only [mRet, mRetN, mCall, mA1, mA0, mAr, mArS, mOp2, mOp1, mNm, nmS, mC, mDrop, ↓R.to_bd, R.bd_ok, R.bd_er, R.bd_no, List.getElem?_cons_zero, List.getElem?_cons_succ, pop2, pk, Option.bind_some, Option.bind_none, Sl.pk, MM.dIx_lst, MM.dIx_frl, MM.dIx_tup, MM.atI0, MM.atI1, MM.atI2, Option.map_some, Option.map_none, MM.dAdd_int, MM.dSub_int, MM.dLt_int, MM.dGt_int, MM.dLe_int, MM.dGe_int, MM.dEq_int, MM.dEq_bl, MM.dNe_bl, MM.dNe_int, dNeg, MM.dAbs_int, dInt, dIsi, chkS, callS, slsOf, slOf, pickL, Src.at, List.map_cons, List.map_nil, List.getD_cons_zero, List.getD_cons_succ, List.length_cons, List.length_nil, and_self, if_true, mvs, List.filterMap, Ar.ix, List.nodup_nil, List.map_nil, back, backS, mDefR, retT, outsOf, outS, List.head?_cons, List.tail_cons, mSeq, mSet, mNext, mIf, mTb, tkB, mNot, mNotV, mIfE, mAndT, mOrT, mAnd, mOr, asg, asgS, asgT, frc, frcS, List.set_cons_zero, List.set_cons_succ, ↓to_cd, cd_t, cd_f, Bool.not_true, Bool.not_false, List.cons_append, List.nil_append, List.append_nil, List.replicate, mLst, mTup, dsOf, mPar, mMake, chkM, mkS, mkR, mFldSet, mutT, mutS, mProp, propR, arD, ownOp, ownNe, MM.ownBin_def, MM.nbOk_q, MM.nbOk_i, notR, mMeth, mNegO, mCB, Nat.zero_add, Nat.reduceAdd, Nat.reduceLeDiff, Nat.not_lt_zero, List.length_cons, List.length_nil, MM.nodup1, MM.fp1, MM.fp2, MM.fl1, MM.fl2, MM.rv1, MM.rv2, MM.rv3, MM.rv4, MM.rv5, MM.rv6, MM.rv7, MM.rv8, MM.rv9, MM.rv10, MM.in1, MM.in2, MM.ok1, MM.ok2, MM.gc1, MM.gc2, MM.gt1, MM.gt2, MM.gt3, MM.gt4, MM.ixf0, MM.ixf1, MM.fr_int, MM.dEq_fr, MM.dEq_fr2, beq_self_eq_true, List.isEmpty_nil, Option.isNone_none, Option.isNone_some, Bool.and_true, Bool.and_false, Bool.true_and, Bool.false_and, mPut, okU, mFor, mIt, MM.itD_lst, MM.itD_frl, MM.itD_tup, mTgN, aft, loopF, if_false, b_law_frac_w1, hm]
      simp -implicitDefEqProofs only [mRet, mRetN, mCall, mA1, mA0, mAr, mArS, mOp2, mOp1, mNm, nmS, mC, mDrop, ↓R.to_bd, R.bd_ok, R.bd_er, R.bd_no, List.getElem?_cons_zero, List.getElem?_cons_succ, pop2, pk, Option.bind_some, Option.bind_none, Sl.pk, MM.dIx_lst, MM.dIx_frl, MM.dIx_tup, MM.atI0, MM.atI1, MM.atI2, Option.map_some, Option.map_none, MM.dAdd_int, MM.dSub_int, MM.dLt_int, MM.dGt_int, MM.dLe_int, MM.dGe_int, MM.dEq_int, MM.dEq_bl, MM.dNe_bl, MM.dNe_int, dNeg, MM.dAbs_int, dInt, dIsi, chkS, callS, slsOf, slOf, pickL, Src.at, List.map_cons, List.map_nil, List.getD_cons_zero, List.getD_cons_succ, List.length_cons, List.length_nil, and_self, if_true, mvs, List.filterMap, Ar.ix, List.nodup_nil, List.map_nil, back, backS, mDefR, retT, outsOf, outS, List.head?_cons, List.tail_cons, mSeq, mSet, mNext, mIf, mTb, tkB, mNot, mNotV, mIfE, mAndT, mOrT, mAnd, mOr, asg, asgS, asgT, frc, frcS, List.set_cons_zero, List.set_cons_succ, ↓to_cd, cd_t, cd_f, Bool.not_true, Bool.not_false, List.cons_append, List.nil_append, List.append_nil, List.replicate, mLst, mTup, dsOf, mPar, mMake, chkM, mkS, mkR, mFldSet, mutT, mutS, mProp, propR, arD, ownOp, ownNe, MM.ownBin_def, MM.nbOk_q, MM.nbOk_i, notR, mMeth, mNegO, mCB, Nat.zero_add, Nat.reduceAdd, Nat.reduceLeDiff, Nat.not_lt_zero, List.length_cons, List.length_nil, MM.nodup1, MM.fp1, MM.fp2, MM.fl1, MM.fl2, MM.rv1, MM.rv2, MM.rv3, MM.rv4, MM.rv5, MM.rv6, MM.rv7, MM.rv8, MM.rv9, MM.rv10, MM.in1, MM.in2, MM.ok1, MM.ok2, MM.gc1, MM.gc2, MM.gt1, MM.gt2, MM.gt3, MM.gt4, MM.ixf0, MM.ixf1, MM.fr_int, MM.dEq_fr, MM.dEq_fr2, beq_self_eq_true, List.isEmpty_nil, Option.isNone_none, Option.isNone_some, Bool.and_true, Bool.and_false, Bool.true_and, Bool.false_and, mPut, okU, mFor, mIt, MM.itD_lst, MM.itD_frl, MM.itD_tup, mTgN, aft, loopF, if_false, h0, decide_true, st, ih]
      have : Nat.gcd y.natAbs (x.fmod y).natAbs = Nat.gcd x.natAbs y.natAbs := by
        rw [Int.fmod_eq_emod_of_nonneg x hy]
        have e2 : (x % y).natAbs = x.natAbs % y.natAbs := by
          have hh : x % y = ((x.natAbs % y.natAbs : Nat) : Int) := by
            rw [Int.natCast_emod, Int.natAbs_of_nonneg hx, Int.natAbs_of_nonneg hy]
          rw [hh, Int.natAbs_natCast]
        rw [e2, Nat.gcd_comm y.natAbs, ← Nat.gcd_rec, Nat.gcd_comm]
      rw [this]
theorem sg_log {a b : Int} (h : b ≠ 0) (hb : Bt 8999 b) : (sg a b).natAbs.log2 < 9000 := by
  have e : (sg a b).natAbs = Nat.gcd a.natAbs b.natAbs := by unfold sg; split <;> simp
  have l : Nat.gcd a.natAbs b.natAbs ≤ b.natAbs := Nat.gcd_le_right _ (Int.natAbs_pos.mpr h)
  have : Bt 8999 (sg a b) := by unfold Bt at *; rw [e]; omega
  have := this.log
  omega
/-- what the law's own quotient is -/
theorem frac_ (a b : Int) (h : b ≠ 0) (hb : Bt 8999 b) : m_law_frac [.sh (.int a), .sh (.int b)] = .ok (.val (fr (Rat.divInt a b))) [.no, .no] := by
  have hs := sg_ne (a := a) h
  have hl := sg_log (a := a) h hb
  have d1 := dDiv_int a _ hs hl
  have d2 := dDiv_int b _ hs hl
  rw [sg_num h] at d1
  rw [sg_den h] at d2
  show mDefR _ (b_law_frac _) = _
  have w := frac_w a b (b.natAbs + 1) a.natAbs b.natAbs (by omega) (by omega) (by omega)
  simp only [Int.natAbs_natCast] at w
  have w2 := w
  by_cases hb : b < 0
  · have e : 0 - ((Nat.gcd a.natAbs b.natAbs : Nat) : Int) = sg a b := by unfold sg; rw [if_pos hb]; omega
    simp -implicitDefEqProofs only [mRet, mRetN, mCall, mA1, mA0, mAr, mArS, mOp2, mOp1, mNm, nmS, mC, mDrop, ↓R.to_bd, R.bd_ok, R.bd_er, R.bd_no, List.getElem?_cons_zero, List.getElem?_cons_succ, pop2, pk, Option.bind_some, Option.bind_none, Sl.pk, MM.dIx_lst, MM.dIx_frl, MM.dIx_tup, MM.atI0, MM.atI1, MM.atI2, Option.map_some, Option.map_none, MM.dAdd_int, MM.dSub_int, MM.dLt_int, MM.dGt_int, MM.dLe_int, MM.dGe_int, MM.dEq_int, MM.dEq_bl, MM.dNe_bl, MM.dNe_int, dNeg, MM.dAbs_int, dInt, dIsi, chkS, callS, slsOf, slOf, pickL, Src.at, List.map_cons, List.map_nil, List.getD_cons_zero, List.getD_cons_succ, List.length_cons, List.length_nil, and_self, if_true, mvs, List.filterMap, Ar.ix, List.nodup_nil, List.map_nil, back, backS, mDefR, retT, outsOf, outS, List.head?_cons, List.tail_cons, mSeq, mSet, mNext, mIf, mTb, tkB, mNot, mNotV, mIfE, mAndT, mOrT, mAnd, mOr, asg, asgS, asgT, frc, frcS, List.set_cons_zero, List.set_cons_succ, ↓to_cd, cd_t, cd_f, Bool.not_true, Bool.not_false, List.cons_append, List.nil_append, List.append_nil, List.replicate, mLst, mTup, dsOf, mPar, mMake, chkM, mkS, mkR, mFldSet, mutT, mutS, mProp, propR, arD, ownOp, ownNe, MM.ownBin_def, MM.nbOk_q, MM.nbOk_i, notR, mMeth, mNegO, mCB, Nat.zero_add, Nat.reduceAdd, Nat.reduceLeDiff, Nat.not_lt_zero, List.length_cons, List.length_nil, MM.nodup1, MM.fp1, MM.fp2, MM.fl1, MM.fl2, MM.rv1, MM.rv2, MM.rv3, MM.rv4, MM.rv5, MM.rv6, MM.rv7, MM.rv8, MM.rv9, MM.rv10, MM.in1, MM.in2, MM.ok1, MM.ok2, MM.gc1, MM.gc2, MM.gt1, MM.gt2, MM.gt3, MM.gt4, MM.ixf0, MM.ixf1, MM.fr_int, MM.dEq_fr, MM.dEq_fr2, beq_self_eq_true, List.isEmpty_nil, Option.isNone_none, Option.isNone_some, Bool.and_true, Bool.and_false, Bool.true_and, Bool.false_and, mPut, okU, mFor, mIt, MM.itD_lst, MM.itD_frl, MM.itD_tup, mTgN, aft, loopF, if_false, b_law_frac, w2, hb, decide_true, e, d1, d2]
    rfl
  · have e : ((Nat.gcd a.natAbs b.natAbs : Nat) : Int) = sg a b := by unfold sg; rw [if_neg hb]
    rw [e] at w2
    simp -implicitDefEqProofs only [mRet, mRetN, mCall, mA1, mA0, mAr, mArS, mOp2, mOp1, mNm, nmS, mC, mDrop, ↓R.to_bd, R.bd_ok, R.bd_er, R.bd_no, List.getElem?_cons_zero, List.getElem?_cons_succ, pop2, pk, Option.bind_some, Option.bind_none, Sl.pk, MM.dIx_lst, MM.dIx_frl, MM.dIx_tup, MM.atI0, MM.atI1, MM.atI2, Option.map_some, Option.map_none, MM.dAdd_int, MM.dSub_int, MM.dLt_int, MM.dGt_int, MM.dLe_int, MM.dGe_int, MM.dEq_int, MM.dEq_bl, MM.dNe_bl, MM.dNe_int, dNeg, MM.dAbs_int, dInt, dIsi, chkS, callS, slsOf, slOf, pickL, Src.at, List.map_cons, List.map_nil, List.getD_cons_zero, List.getD_cons_succ, List.length_cons, List.length_nil, and_self, if_true, mvs, List.filterMap, Ar.ix, List.nodup_nil, List.map_nil, back, backS, mDefR, retT, outsOf, outS, List.head?_cons, List.tail_cons, mSeq, mSet, mNext, mIf, mTb, tkB, mNot, mNotV, mIfE, mAndT, mOrT, mAnd, mOr, asg, asgS, asgT, frc, frcS, List.set_cons_zero, List.set_cons_succ, ↓to_cd, cd_t, cd_f, Bool.not_true, Bool.not_false, List.cons_append, List.nil_append, List.append_nil, List.replicate, mLst, mTup, dsOf, mPar, mMake, chkM, mkS, mkR, mFldSet, mutT, mutS, mProp, propR, arD, ownOp, ownNe, MM.ownBin_def, MM.nbOk_q, MM.nbOk_i, notR, mMeth, mNegO, mCB, Nat.zero_add, Nat.reduceAdd, Nat.reduceLeDiff, Nat.not_lt_zero, List.length_cons, List.length_nil, MM.nodup1, MM.fp1, MM.fp2, MM.fl1, MM.fl2, MM.rv1, MM.rv2, MM.rv3, MM.rv4, MM.rv5, MM.rv6, MM.rv7, MM.rv8, MM.rv9, MM.rv10, MM.in1, MM.in2, MM.ok1, MM.ok2, MM.gc1, MM.gc2, MM.gt1, MM.gt2, MM.gt3, MM.gt4, MM.ixf0, MM.ixf1, MM.fr_int, MM.dEq_fr, MM.dEq_fr2, beq_self_eq_true, List.isEmpty_nil, Option.isNone_none, Option.isNone_some, Bool.and_true, Bool.and_false, Bool.true_and, Bool.false_and, mPut, okU, mFor, mIt, MM.itD_lst, MM.itD_frl, MM.itD_tup, mTgN, aft, loopF, if_false, b_law_frac, w2, hb, decide_false, d1, d2]
    rfl
theorem init_ (a b : Int) (h : b ≠ 0) (hb : Bt 8999 b) : m_Ratio___init [.io (.ins "Ratio" []), .sh (.int a), .sh (.int b)] = .ok (.val .non) [.io (rt (Rat.divInt a b)), .no, .no] := by
  have hs := sg_ne (a := a) h
  have hl := sg_log (a := a) h hb
  have d1 := dDiv_int a _ hs hl
  have d2 := dDiv_int b _ hs hl
  rw [sg_num h] at d1
  rw [sg_den h] at d2
  show mDefR _ (b_Ratio___init _) = _
  have hz : decide (b = 0) = false := by simp [h]
  by_cases hb : b < 0
  · have e : -((Nat.gcd a.natAbs b.natAbs : Nat) : Int) = sg a b := by unfold sg; rw [if_pos hb]
    simp -implicitDefEqProofs only [mRet, mRetN, mCall, mA1, mA0, mAr, mArS, mOp2, mOp1, mNm, nmS, mC, mDrop, ↓R.to_bd, R.bd_ok, R.bd_er, R.bd_no, List.getElem?_cons_zero, List.getElem?_cons_succ, pop2, pk, Option.bind_some, Option.bind_none, Sl.pk, MM.dIx_lst, MM.dIx_frl, MM.dIx_tup, MM.atI0, MM.atI1, MM.atI2, Option.map_some, Option.map_none, MM.dAdd_int, MM.dSub_int, MM.dLt_int, MM.dGt_int, MM.dLe_int, MM.dGe_int, MM.dEq_int, MM.dEq_bl, MM.dNe_bl, MM.dNe_int, dNeg, MM.dAbs_int, dInt, dIsi, chkS, callS, slsOf, slOf, pickL, Src.at, List.map_cons, List.map_nil, List.getD_cons_zero, List.getD_cons_succ, List.length_cons, List.length_nil, and_self, if_true, mvs, List.filterMap, Ar.ix, List.nodup_nil, List.map_nil, back, backS, mDefR, retT, outsOf, outS, List.head?_cons, List.tail_cons, mSeq, mSet, mNext, mIf, mTb, tkB, mNot, mNotV, mIfE, mAndT, mOrT, mAnd, mOr, asg, asgS, asgT, frc, frcS, List.set_cons_zero, List.set_cons_succ, ↓to_cd, cd_t, cd_f, Bool.not_true, Bool.not_false, List.cons_append, List.nil_append, List.append_nil, List.replicate, mLst, mTup, dsOf, mPar, mMake, chkM, mkS, mkR, mFldSet, mutT, mutS, mProp, propR, arD, ownOp, ownNe, MM.ownBin_def, MM.nbOk_q, MM.nbOk_i, notR, mMeth, mNegO, mCB, Nat.zero_add, Nat.reduceAdd, Nat.reduceLeDiff, Nat.not_lt_zero, List.length_cons, List.length_nil, MM.nodup1, MM.fp1, MM.fp2, MM.fl1, MM.fl2, MM.rv1, MM.rv2, MM.rv3, MM.rv4, MM.rv5, MM.rv6, MM.rv7, MM.rv8, MM.rv9, MM.rv10, MM.in1, MM.in2, MM.ok1, MM.ok2, MM.gc1, MM.gc2, MM.gt1, MM.gt2, MM.gt3, MM.gt4, MM.ixf0, MM.ixf1, MM.fr_int, MM.dEq_fr, MM.dEq_fr2, beq_self_eq_true, List.isEmpty_nil, Option.isNone_none, Option.isNone_some, Bool.and_true, Bool.and_false, Bool.true_and, Bool.false_and, mPut, okU, mFor, mIt, MM.itD_lst, MM.itD_frl, MM.itD_tup, mTgN, aft, loopF, if_false, b_Ratio___init, hz, hb, decide_true, dGcd, e, d1, d2]
    rfl
  · have e : ((Nat.gcd a.natAbs b.natAbs : Nat) : Int) = sg a b := by unfold sg; rw [if_neg hb]
    simp -implicitDefEqProofs only [mRet, mRetN, mCall, mA1, mA0, mAr, mArS, mOp2, mOp1, mNm, nmS, mC, mDrop, ↓R.to_bd, R.bd_ok, R.bd_er, R.bd_no, List.getElem?_cons_zero, List.getElem?_cons_succ, pop2, pk, Option.bind_some, Option.bind_none, Sl.pk, MM.dIx_lst, MM.dIx_frl, MM.dIx_tup, MM.atI0, MM.atI1, MM.atI2, Option.map_some, Option.map_none, MM.dAdd_int, MM.dSub_int, MM.dLt_int, MM.dGt_int, MM.dLe_int, MM.dGe_int, MM.dEq_int, MM.dEq_bl, MM.dNe_bl, MM.dNe_int, dNeg, MM.dAbs_int, dInt, dIsi, chkS, callS, slsOf, slOf, pickL, Src.at, List.map_cons, List.map_nil, List.getD_cons_zero, List.getD_cons_succ, List.length_cons, List.length_nil, and_self, if_true, mvs, List.filterMap, Ar.ix, List.nodup_nil, List.map_nil, back, backS, mDefR, retT, outsOf, outS, List.head?_cons, List.tail_cons, mSeq, mSet, mNext, mIf, mTb, tkB, mNot, mNotV, mIfE, mAndT, mOrT, mAnd, mOr, asg, asgS, asgT, frc, frcS, List.set_cons_zero, List.set_cons_succ, ↓to_cd, cd_t, cd_f, Bool.not_true, Bool.not_false, List.cons_append, List.nil_append, List.append_nil, List.replicate, mLst, mTup, dsOf, mPar, mMake, chkM, mkS, mkR, mFldSet, mutT, mutS, mProp, propR, arD, ownOp, ownNe, MM.ownBin_def, MM.nbOk_q, MM.nbOk_i, notR, mMeth, mNegO, mCB, Nat.zero_add, Nat.reduceAdd, Nat.reduceLeDiff, Nat.not_lt_zero, List.length_cons, List.length_nil, MM.nodup1, MM.fp1, MM.fp2, MM.fl1, MM.fl2, MM.rv1, MM.rv2, MM.rv3, MM.rv4, MM.rv5, MM.rv6, MM.rv7, MM.rv8, MM.rv9, MM.rv10, MM.in1, MM.in2, MM.ok1, MM.ok2, MM.gc1, MM.gc2, MM.gt1, MM.gt2, MM.gt3, MM.gt4, MM.ixf0, MM.ixf1, MM.fr_int, MM.dEq_fr, MM.dEq_fr2, beq_self_eq_true, List.isEmpty_nil, Option.isNone_none, Option.isNone_some, Bool.and_true, Bool.and_false, Bool.true_and, Bool.false_and, mPut, okU, mFor, mIt, MM.itD_lst, MM.itD_frl, MM.itD_tup, mTgN, aft, loopF, if_false, b_Ratio___init, hz, hb, decide_false, dGcd, e, d1, d2]
    rfl
theorem init0 (a : Int) : m_Ratio___init [.io (.ins "Ratio" []), .sh (.int a), .sh (.int 0)] = .er "ByZero" none [.io (.ins "Ratio" []), .no, .no] := by
  show mDefR _ (b_Ratio___init _) = _
  simp -implicitDefEqProofs only [mRet, mRetN, mCall, mA1, mA0, mAr, mArS, mOp2, mOp1, mNm, nmS, mC, mDrop, ↓R.to_bd, R.bd_ok, R.bd_er, R.bd_no, List.getElem?_cons_zero, List.getElem?_cons_succ, pop2, pk, Option.bind_some, Option.bind_none, Sl.pk, MM.dIx_lst, MM.dIx_frl, MM.dIx_tup, MM.atI0, MM.atI1, MM.atI2, Option.map_some, Option.map_none, MM.dAdd_int, MM.dSub_int, MM.dLt_int, MM.dGt_int, MM.dLe_int, MM.dGe_int, MM.dEq_int, MM.dEq_bl, MM.dNe_bl, MM.dNe_int, dNeg, MM.dAbs_int, dInt, dIsi, chkS, callS, slsOf, slOf, pickL, Src.at, List.map_cons, List.map_nil, List.getD_cons_zero, List.getD_cons_succ, List.length_cons, List.length_nil, and_self, if_true, mvs, List.filterMap, Ar.ix, List.nodup_nil, List.map_nil, back, backS, mDefR, retT, outsOf, outS, List.head?_cons, List.tail_cons, mSeq, mSet, mNext, mIf, mTb, tkB, mNot, mNotV, mIfE, mAndT, mOrT, mAnd, mOr, asg, asgS, asgT, frc, frcS, List.set_cons_zero, List.set_cons_succ, ↓to_cd, cd_t, cd_f, Bool.not_true, Bool.not_false, List.cons_append, List.nil_append, List.append_nil, List.replicate, mLst, mTup, dsOf, mPar, mMake, chkM, mkS, mkR, mFldSet, mutT, mutS, mProp, propR, arD, ownOp, ownNe, MM.ownBin_def, MM.nbOk_q, MM.nbOk_i, notR, mMeth, mNegO, mCB, Nat.zero_add, Nat.reduceAdd, Nat.reduceLeDiff, Nat.not_lt_zero, List.length_cons, List.length_nil, MM.nodup1, MM.fp1, MM.fp2, MM.fl1, MM.fl2, MM.rv1, MM.rv2, MM.rv3, MM.rv4, MM.rv5, MM.rv6, MM.rv7, MM.rv8, MM.rv9, MM.rv10, MM.in1, MM.in2, MM.ok1, MM.ok2, MM.gc1, MM.gc2, MM.gt1, MM.gt2, MM.gt3, MM.gt4, MM.ixf0, MM.ixf1, MM.fr_int, MM.dEq_fr, MM.dEq_fr2, beq_self_eq_true, List.isEmpty_nil, Option.isNone_none, Option.isNone_some, Bool.and_true, Bool.and_false, Bool.true_and, Bool.false_and, mPut, okU, mFor, mIt, MM.itD_lst, MM.itD_frl, MM.itD_tup, mTgN, aft, loopF, if_false, b_Ratio___init, decide_true, mRaise0]
theorem fr_of {a b : Int} {q : Rat} (h : b ≠ 0) (hb : Bt 8999 b) (e : Rat.divInt a b = q) : m_law_frac [.sh (.int a), .sh (.int b)] = .ok (.val (fr q)) [.no, .no] := by rw [← e]; exact frac_ a b h hb
theorem in_of {a b : Int} {q : Rat} (h : b ≠ 0) (hb : Bt 8999 b) (e : Rat.divInt a b = q) : m_Ratio___init [.io (.ins "Ratio" []), .sh (.int a), .sh (.int b)] = .ok (.val .non) [.io (rt q), .no, .no] := by rw [← e]; exact init_ a b h hb
theorem is_whole_i : m_is_whole [.sh (.int n)] = .ok (.val (.bl true)) [.no] := by
  show mDefR _ (b_is_whole _) = _
  simp -implicitDefEqProofs only [mRet, mRetN, mCall, mA1, mA0, mAr, mArS, mOp2, mOp1, mNm, nmS, mC, mDrop, ↓R.to_bd, R.bd_ok, R.bd_er, R.bd_no, List.getElem?_cons_zero, List.getElem?_cons_succ, pop2, pk, Option.bind_some, Option.bind_none, Sl.pk, MM.dIx_lst, MM.dIx_frl, MM.dIx_tup, MM.atI0, MM.atI1, MM.atI2, Option.map_some, Option.map_none, MM.dAdd_int, MM.dSub_int, MM.dLt_int, MM.dGt_int, MM.dLe_int, MM.dGe_int, MM.dEq_int, MM.dEq_bl, MM.dNe_bl, MM.dNe_int, dNeg, MM.dAbs_int, dInt, dIsi, chkS, callS, slsOf, slOf, pickL, Src.at, List.map_cons, List.map_nil, List.getD_cons_zero, List.getD_cons_succ, List.length_cons, List.length_nil, and_self, if_true, mvs, List.filterMap, Ar.ix, List.nodup_nil, List.map_nil, back, backS, mDefR, retT, outsOf, outS, List.head?_cons, List.tail_cons, mSeq, mSet, mNext, mIf, mTb, tkB, mNot, mNotV, mIfE, mAndT, mOrT, mAnd, mOr, asg, asgS, asgT, frc, frcS, List.set_cons_zero, List.set_cons_succ, ↓to_cd, cd_t, cd_f, Bool.not_true, Bool.not_false, List.cons_append, List.nil_append, List.append_nil, List.replicate, mLst, mTup, dsOf, mPar, mMake, chkM, mkS, mkR, mFldSet, mutT, mutS, mProp, propR, arD, ownOp, ownNe, MM.ownBin_def, MM.nbOk_q, MM.nbOk_i, notR, mMeth, mNegO, mCB, Nat.zero_add, Nat.reduceAdd, Nat.reduceLeDiff, Nat.not_lt_zero, List.length_cons, List.length_nil, MM.nodup1, MM.fp1, MM.fp2, MM.fl1, MM.fl2, MM.rv1, MM.rv2, MM.rv3, MM.rv4, MM.rv5, MM.rv6, MM.rv7, MM.rv8, MM.rv9, MM.rv10, MM.in1, MM.in2, MM.ok1, MM.ok2, MM.gc1, MM.gc2, MM.gt1, MM.gt2, MM.gt3, MM.gt4, MM.ixf0, MM.ixf1, MM.fr_int, MM.dEq_fr, MM.dEq_fr2, beq_self_eq_true, List.isEmpty_nil, Option.isNone_none, Option.isNone_some, Bool.and_true, Bool.and_false, Bool.true_and, Bool.false_and, mPut, okU, mFor, mIt, MM.itD_lst, MM.itD_frl, MM.itD_tup, mTgN, aft, loopF, if_false, b_is_whole]
theorem is_whole_q : m_is_whole [.sh (rt q)] = .ok (.val (.bl false)) [.no] := by
  show mDefR _ (b_is_whole _) = _
  simp -implicitDefEqProofs only [mRet, mRetN, mCall, mA1, mA0, mAr, mArS, mOp2, mOp1, mNm, nmS, mC, mDrop, ↓R.to_bd, R.bd_ok, R.bd_er, R.bd_no, List.getElem?_cons_zero, List.getElem?_cons_succ, pop2, pk, Option.bind_some, Option.bind_none, Sl.pk, MM.dIx_lst, MM.dIx_frl, MM.dIx_tup, MM.atI0, MM.atI1, MM.atI2, Option.map_some, Option.map_none, MM.dAdd_int, MM.dSub_int, MM.dLt_int, MM.dGt_int, MM.dLe_int, MM.dGe_int, MM.dEq_int, MM.dEq_bl, MM.dNe_bl, MM.dNe_int, dNeg, MM.dAbs_int, dInt, dIsi, chkS, callS, slsOf, slOf, pickL, Src.at, List.map_cons, List.map_nil, List.getD_cons_zero, List.getD_cons_succ, List.length_cons, List.length_nil, and_self, if_true, mvs, List.filterMap, Ar.ix, List.nodup_nil, List.map_nil, back, backS, mDefR, retT, outsOf, outS, List.head?_cons, List.tail_cons, mSeq, mSet, mNext, mIf, mTb, tkB, mNot, mNotV, mIfE, mAndT, mOrT, mAnd, mOr, asg, asgS, asgT, frc, frcS, List.set_cons_zero, List.set_cons_succ, ↓to_cd, cd_t, cd_f, Bool.not_true, Bool.not_false, List.cons_append, List.nil_append, List.append_nil, List.replicate, mLst, mTup, dsOf, mPar, mMake, chkM, mkS, mkR, mFldSet, mutT, mutS, mProp, propR, arD, ownOp, ownNe, MM.ownBin_def, MM.nbOk_q, MM.nbOk_i, notR, mMeth, mNegO, mCB, Nat.zero_add, Nat.reduceAdd, Nat.reduceLeDiff, Nat.not_lt_zero, List.length_cons, List.length_nil, MM.nodup1, MM.fp1, MM.fp2, MM.fl1, MM.fl2, MM.rv1, MM.rv2, MM.rv3, MM.rv4, MM.rv5, MM.rv6, MM.rv7, MM.rv8, MM.rv9, MM.rv10, MM.in1, MM.in2, MM.ok1, MM.ok2, MM.gc1, MM.gc2, MM.gt1, MM.gt2, MM.gt3, MM.gt4, MM.ixf0, MM.ixf1, MM.fr_int, MM.dEq_fr, MM.dEq_fr2, beq_self_eq_true, List.isEmpty_nil, Option.isNone_none, Option.isNone_some, Bool.and_true, Bool.and_false, Bool.true_and, Bool.false_and, mPut, okU, mFor, mIt, MM.itD_lst, MM.itD_frl, MM.itD_tup, mTgN, aft, loopF, if_false, b_is_whole]
theorem eq_ (h : Nb d q) : m_Ratio___eq [.sh (rt p), .sh d] = .ok (.val (.bl (decide (p = q)))) [.no, .no] := by
  show mDefR _ (b_Ratio___eq _) = _
  rw [← decide_rat]
  cases h with
  | q =>
    by_cases h1 : p.num = q.num
    · simp -implicitDefEqProofs only [mRet, mRetN, mCall, mA1, mA0, mAr, mArS, mOp2, mOp1, mNm, nmS, mC, mDrop, ↓R.to_bd, R.bd_ok, R.bd_er, R.bd_no, List.getElem?_cons_zero, List.getElem?_cons_succ, pop2, pk, Option.bind_some, Option.bind_none, Sl.pk, MM.dIx_lst, MM.dIx_frl, MM.dIx_tup, MM.atI0, MM.atI1, MM.atI2, Option.map_some, Option.map_none, MM.dAdd_int, MM.dSub_int, MM.dLt_int, MM.dGt_int, MM.dLe_int, MM.dGe_int, MM.dEq_int, MM.dEq_bl, MM.dNe_bl, MM.dNe_int, dNeg, MM.dAbs_int, dInt, dIsi, chkS, callS, slsOf, slOf, pickL, Src.at, List.map_cons, List.map_nil, List.getD_cons_zero, List.getD_cons_succ, List.length_cons, List.length_nil, and_self, if_true, mvs, List.filterMap, Ar.ix, List.nodup_nil, List.map_nil, back, backS, mDefR, retT, outsOf, outS, List.head?_cons, List.tail_cons, mSeq, mSet, mNext, mIf, mTb, tkB, mNot, mNotV, mIfE, mAndT, mOrT, mAnd, mOr, asg, asgS, asgT, frc, frcS, List.set_cons_zero, List.set_cons_succ, ↓to_cd, cd_t, cd_f, Bool.not_true, Bool.not_false, List.cons_append, List.nil_append, List.append_nil, List.replicate, mLst, mTup, dsOf, mPar, mMake, chkM, mkS, mkR, mFldSet, mutT, mutS, mProp, propR, arD, ownOp, ownNe, MM.ownBin_def, MM.nbOk_q, MM.nbOk_i, notR, mMeth, mNegO, mCB, Nat.zero_add, Nat.reduceAdd, Nat.reduceLeDiff, Nat.not_lt_zero, List.length_cons, List.length_nil, MM.nodup1, MM.fp1, MM.fp2, MM.fl1, MM.fl2, MM.rv1, MM.rv2, MM.rv3, MM.rv4, MM.rv5, MM.rv6, MM.rv7, MM.rv8, MM.rv9, MM.rv10, MM.in1, MM.in2, MM.ok1, MM.ok2, MM.gc1, MM.gc2, MM.gt1, MM.gt2, MM.gt3, MM.gt4, MM.ixf0, MM.ixf1, MM.fr_int, MM.dEq_fr, MM.dEq_fr2, beq_self_eq_true, List.isEmpty_nil, Option.isNone_none, Option.isNone_some, Bool.and_true, Bool.and_false, Bool.true_and, Bool.false_and, mPut, okU, mFor, mIt, MM.itD_lst, MM.itD_frl, MM.itD_tup, mTgN, aft, loopF, if_false, b_Ratio___eq, h1, decide_true, MM.dEq_int]
      simp
      omega
    · simp -implicitDefEqProofs only [mRet, mRetN, mCall, mA1, mA0, mAr, mArS, mOp2, mOp1, mNm, nmS, mC, mDrop, ↓R.to_bd, R.bd_ok, R.bd_er, R.bd_no, List.getElem?_cons_zero, List.getElem?_cons_succ, pop2, pk, Option.bind_some, Option.bind_none, Sl.pk, MM.dIx_lst, MM.dIx_frl, MM.dIx_tup, MM.atI0, MM.atI1, MM.atI2, Option.map_some, Option.map_none, MM.dAdd_int, MM.dSub_int, MM.dLt_int, MM.dGt_int, MM.dLe_int, MM.dGe_int, MM.dEq_int, MM.dEq_bl, MM.dNe_bl, MM.dNe_int, dNeg, MM.dAbs_int, dInt, dIsi, chkS, callS, slsOf, slOf, pickL, Src.at, List.map_cons, List.map_nil, List.getD_cons_zero, List.getD_cons_succ, List.length_cons, List.length_nil, and_self, if_true, mvs, List.filterMap, Ar.ix, List.nodup_nil, List.map_nil, back, backS, mDefR, retT, outsOf, outS, List.head?_cons, List.tail_cons, mSeq, mSet, mNext, mIf, mTb, tkB, mNot, mNotV, mIfE, mAndT, mOrT, mAnd, mOr, asg, asgS, asgT, frc, frcS, List.set_cons_zero, List.set_cons_succ, ↓to_cd, cd_t, cd_f, Bool.not_true, Bool.not_false, List.cons_append, List.nil_append, List.append_nil, List.replicate, mLst, mTup, dsOf, mPar, mMake, chkM, mkS, mkR, mFldSet, mutT, mutS, mProp, propR, arD, ownOp, ownNe, MM.ownBin_def, MM.nbOk_q, MM.nbOk_i, notR, mMeth, mNegO, mCB, Nat.zero_add, Nat.reduceAdd, Nat.reduceLeDiff, Nat.not_lt_zero, List.length_cons, List.length_nil, MM.nodup1, MM.fp1, MM.fp2, MM.fl1, MM.fl2, MM.rv1, MM.rv2, MM.rv3, MM.rv4, MM.rv5, MM.rv6, MM.rv7, MM.rv8, MM.rv9, MM.rv10, MM.in1, MM.in2, MM.ok1, MM.ok2, MM.gc1, MM.gc2, MM.gt1, MM.gt2, MM.gt3, MM.gt4, MM.ixf0, MM.ixf1, MM.fr_int, MM.dEq_fr, MM.dEq_fr2, beq_self_eq_true, List.isEmpty_nil, Option.isNone_none, Option.isNone_some, Bool.and_true, Bool.and_false, Bool.true_and, Bool.false_and, mPut, okU, mFor, mIt, MM.itD_lst, MM.itD_frl, MM.itD_tup, mTgN, aft, loopF, if_false, b_Ratio___eq, h1, decide_false]
  | i n =>
    by_cases h1 : (p.den : Int) = 1
    · have h2 : p.den = 1 := by omega
      simp -implicitDefEqProofs only [mRet, mRetN, mCall, mA1, mA0, mAr, mArS, mOp2, mOp1, mNm, nmS, mC, mDrop, ↓R.to_bd, R.bd_ok, R.bd_er, R.bd_no, List.getElem?_cons_zero, List.getElem?_cons_succ, pop2, pk, Option.bind_some, Option.bind_none, Sl.pk, MM.dIx_lst, MM.dIx_frl, MM.dIx_tup, MM.atI0, MM.atI1, MM.atI2, Option.map_some, Option.map_none, MM.dAdd_int, MM.dSub_int, MM.dLt_int, MM.dGt_int, MM.dLe_int, MM.dGe_int, MM.dEq_int, MM.dEq_bl, MM.dNe_bl, MM.dNe_int, dNeg, MM.dAbs_int, dInt, dIsi, chkS, callS, slsOf, slOf, pickL, Src.at, List.map_cons, List.map_nil, List.getD_cons_zero, List.getD_cons_succ, List.length_cons, List.length_nil, and_self, if_true, mvs, List.filterMap, Ar.ix, List.nodup_nil, List.map_nil, back, backS, mDefR, retT, outsOf, outS, List.head?_cons, List.tail_cons, mSeq, mSet, mNext, mIf, mTb, tkB, mNot, mNotV, mIfE, mAndT, mOrT, mAnd, mOr, asg, asgS, asgT, frc, frcS, List.set_cons_zero, List.set_cons_succ, ↓to_cd, cd_t, cd_f, Bool.not_true, Bool.not_false, List.cons_append, List.nil_append, List.append_nil, List.replicate, mLst, mTup, dsOf, mPar, mMake, chkM, mkS, mkR, mFldSet, mutT, mutS, mProp, propR, arD, ownOp, ownNe, MM.ownBin_def, MM.nbOk_q, MM.nbOk_i, notR, mMeth, mNegO, mCB, Nat.zero_add, Nat.reduceAdd, Nat.reduceLeDiff, Nat.not_lt_zero, List.length_cons, List.length_nil, MM.nodup1, MM.fp1, MM.fp2, MM.fl1, MM.fl2, MM.rv1, MM.rv2, MM.rv3, MM.rv4, MM.rv5, MM.rv6, MM.rv7, MM.rv8, MM.rv9, MM.rv10, MM.in1, MM.in2, MM.ok1, MM.ok2, MM.gc1, MM.gc2, MM.gt1, MM.gt2, MM.gt3, MM.gt4, MM.ixf0, MM.ixf1, MM.fr_int, MM.dEq_fr, MM.dEq_fr2, beq_self_eq_true, List.isEmpty_nil, Option.isNone_none, Option.isNone_some, Bool.and_true, Bool.and_false, Bool.true_and, Bool.false_and, mPut, okU, mFor, mIt, MM.itD_lst, MM.itD_frl, MM.itD_tup, mTgN, aft, loopF, if_false, b_Ratio___eq, is_whole_i, h1, h2, decide_true, Int.natCast_one, Int.cast_ofNat_Int, Rat.num_intCast, Rat.den_intCast]
    · have h2 : ¬ p.den = 1 := by omega
      simp -implicitDefEqProofs only [mRet, mRetN, mCall, mA1, mA0, mAr, mArS, mOp2, mOp1, mNm, nmS, mC, mDrop, ↓R.to_bd, R.bd_ok, R.bd_er, R.bd_no, List.getElem?_cons_zero, List.getElem?_cons_succ, pop2, pk, Option.bind_some, Option.bind_none, Sl.pk, MM.dIx_lst, MM.dIx_frl, MM.dIx_tup, MM.atI0, MM.atI1, MM.atI2, Option.map_some, Option.map_none, MM.dAdd_int, MM.dSub_int, MM.dLt_int, MM.dGt_int, MM.dLe_int, MM.dGe_int, MM.dEq_int, MM.dEq_bl, MM.dNe_bl, MM.dNe_int, dNeg, MM.dAbs_int, dInt, dIsi, chkS, callS, slsOf, slOf, pickL, Src.at, List.map_cons, List.map_nil, List.getD_cons_zero, List.getD_cons_succ, List.length_cons, List.length_nil, and_self, if_true, mvs, List.filterMap, Ar.ix, List.nodup_nil, List.map_nil, back, backS, mDefR, retT, outsOf, outS, List.head?_cons, List.tail_cons, mSeq, mSet, mNext, mIf, mTb, tkB, mNot, mNotV, mIfE, mAndT, mOrT, mAnd, mOr, asg, asgS, asgT, frc, frcS, List.set_cons_zero, List.set_cons_succ, ↓to_cd, cd_t, cd_f, Bool.not_true, Bool.not_false, List.cons_append, List.nil_append, List.append_nil, List.replicate, mLst, mTup, dsOf, mPar, mMake, chkM, mkS, mkR, mFldSet, mutT, mutS, mProp, propR, arD, ownOp, ownNe, MM.ownBin_def, MM.nbOk_q, MM.nbOk_i, notR, mMeth, mNegO, mCB, Nat.zero_add, Nat.reduceAdd, Nat.reduceLeDiff, Nat.not_lt_zero, List.length_cons, List.length_nil, MM.nodup1, MM.fp1, MM.fp2, MM.fl1, MM.fl2, MM.rv1, MM.rv2, MM.rv3, MM.rv4, MM.rv5, MM.rv6, MM.rv7, MM.rv8, MM.rv9, MM.rv10, MM.in1, MM.in2, MM.ok1, MM.ok2, MM.gc1, MM.gc2, MM.gt1, MM.gt2, MM.gt3, MM.gt4, MM.ixf0, MM.ixf1, MM.fr_int, MM.dEq_fr, MM.dEq_fr2, beq_self_eq_true, List.isEmpty_nil, Option.isNone_none, Option.isNone_some, Bool.and_true, Bool.and_false, Bool.true_and, Bool.false_and, mPut, okU, mFor, mIt, MM.itD_lst, MM.itD_frl, MM.itD_tup, mTgN, aft, loopF, if_false, b_Ratio___eq, is_whole_i, h1, h2, decide_false, Rat.num_intCast, Rat.den_intCast]
theorem take_ {n many : Int} {d : D} (h : Box n d) (hn : n < 1000000) (hm : 0 < many) (hb : Bt 8999 many) :
    ∃ r d', 0 ≤ r ∧ r < many ∧ Box (n + 1) d' ∧ m_law_take [.io d, .sh (.int many)] = .ok (.val (.int r)) [.io d', .no] := by
  obtain ⟨b0, b1, b2, rfl, h0, h1, h2, h3⟩ := h
  have hm0 : many ≠ 0 := by omega
  have hl : many.natAbs.log2 < 9000 := by have := hb.log; omega
  by_cases hc : (1000000000000000000 : Int) ≤ b0
  · have e1 := dMod_int b0 many hm0
    have e2 := dDiv_int b0 many hm0 hl
    refine ⟨b0.fmod many, .lst [.int (b0.fdiv many), .int b1, .int b2], Int.fmod_nonneg_of_pos _ hm, Int.fmod_lt_of_pos _ hm, ⟨_, _, _, rfl, Int.fdiv_nonneg h0 (by omega), h1, by omega, h3⟩, ?_⟩
    show mDefR _ (b_law_take _) = _
    simp -implicitDefEqProofs only [mRet, mRetN, mCall, mA1, mA0, mAr, mArS, mOp2, mOp1, mNm, nmS, mC, mDrop, ↓R.to_bd, R.bd_ok, R.bd_er, R.bd_no, List.getElem?_cons_zero, List.getElem?_cons_succ, pop2, pk, Option.bind_some, Option.bind_none, Sl.pk, MM.dIx_lst, MM.dIx_frl, MM.dIx_tup, MM.atI0, MM.atI1, MM.atI2, Option.map_some, Option.map_none, MM.dAdd_int, MM.dSub_int, MM.dLt_int, MM.dGt_int, MM.dLe_int, MM.dGe_int, MM.dEq_int, MM.dEq_bl, MM.dNe_bl, MM.dNe_int, dNeg, MM.dAbs_int, dInt, dIsi, chkS, callS, slsOf, slOf, pickL, Src.at, List.map_cons, List.map_nil, List.getD_cons_zero, List.getD_cons_succ, List.length_cons, List.length_nil, and_self, if_true, mvs, List.filterMap, Ar.ix, List.nodup_nil, List.map_nil, back, backS, mDefR, retT, outsOf, outS, List.head?_cons, List.tail_cons, mSeq, mSet, mNext, mIf, mTb, tkB, mNot, mNotV, mIfE, mAndT, mOrT, mAnd, mOr, asg, asgS, asgT, frc, frcS, List.set_cons_zero, List.set_cons_succ, ↓to_cd, cd_t, cd_f, Bool.not_true, Bool.not_false, List.cons_append, List.nil_append, List.append_nil, List.replicate, mLst, mTup, dsOf, mPar, mMake, chkM, mkS, mkR, mFldSet, mutT, mutS, mProp, propR, arD, ownOp, ownNe, MM.ownBin_def, MM.nbOk_q, MM.nbOk_i, notR, mMeth, mNegO, mCB, Nat.zero_add, Nat.reduceAdd, Nat.reduceLeDiff, Nat.not_lt_zero, List.length_cons, List.length_nil, MM.nodup1, MM.fp1, MM.fp2, MM.fl1, MM.fl2, MM.rv1, MM.rv2, MM.rv3, MM.rv4, MM.rv5, MM.rv6, MM.rv7, MM.rv8, MM.rv9, MM.rv10, MM.in1, MM.in2, MM.ok1, MM.ok2, MM.gc1, MM.gc2, MM.gt1, MM.gt2, MM.gt3, MM.gt4, MM.ixf0, MM.ixf1, MM.fr_int, MM.dEq_fr, MM.dEq_fr2, beq_self_eq_true, List.isEmpty_nil, Option.isNone_none, Option.isNone_some, Bool.and_true, Bool.and_false, Bool.true_and, Bool.false_and, mPut, okU, mFor, mIt, MM.itD_lst, MM.itD_frl, MM.itD_tup, mTgN, aft, loopF, if_false, b_law_take, pw18, hc, decide_true, e1, e2, put0]
  · have p1 := dMul_int (b0 + 7) 69069 (by
      have : Bt 60 (b0 + 7) := by unfold Bt; omega
      have := this.log
      have : (69069 : Int).natAbs.log2 = 16 := by decide +kernel
      omega)
    have p2 := dMul_int (b1 + 1) 40692 (by
      have : Bt 60 (b1 + 1) := by unfold Bt; omega
      have := this.log
      have : (40692 : Int).natAbs.log2 = 15 := by decide +kernel
      omega)
    have p3 := dMul_int (b1 + 1) 17389 (by
      have : Bt 60 (b1 + 1) := by unfold Bt; omega
      have := this.log
      have : (17389 : Int).natAbs.log2 = 14 := by decide +kernel
      omega)
    have g2 : Bt 50 b2 := h3
    unfold Bt at g2
    have q1 := dPow_bt (a := (b0 + 7) * 69069 + (b1 + 1) * 40692 + b2) (Bt.mono (k := 100) (by unfold Bt; omega) (by decide))
    have q2 := dMod_int (((b0 + 7) * 69069 + (b1 + 1) * 40692 + b2) ^ 3) 2147483647 (by decide)
    have f1 := Int.fmod_lt_of_pos (((b0 + 7) * 69069 + (b1 + 1) * 40692 + b2) ^ 3) (b := 2147483647) (by decide)
    have f2 := Int.fmod_nonneg_of_pos (((b0 + 7) * 69069 + (b1 + 1) * 40692 + b2) ^ 3) (b := 2147483647) (by decide)
    generalize (((b0 + 7) * 69069 + (b1 + 1) * 40692 + b2) ^ 3).fmod 2147483647 = X at *
    have q3 := dPow_bt (a := X + (b1 + 1) * 17389) (Bt.mono (k := 100) (by unfold Bt; omega) (by decide))
    have q4 := dMod_int ((X + (b1 + 1) * 17389) ^ 3) 2147483399 (by decide)
    generalize ((X + (b1 + 1) * 17389) ^ 3).fmod 2147483399 = Y at *
    have q5 := dDiv_int Y 64 (by decide) (by decide +kernel)
    have q6 := dMod_int (Y.fdiv 64) many hm0
    refine ⟨(Y.fdiv 64).fmod many, .lst [.int b0, .int (b1 + 1), .int b2], Int.fmod_nonneg_of_pos _ hm, Int.fmod_lt_of_pos _ hm, ⟨_, _, _, rfl, h0, by omega, by omega, h3⟩, ?_⟩
    show mDefR _ (b_law_take _) = _
    simp -implicitDefEqProofs only [mRet, mRetN, mCall, mA1, mA0, mAr, mArS, mOp2, mOp1, mNm, nmS, mC, mDrop, ↓R.to_bd, R.bd_ok, R.bd_er, R.bd_no, List.getElem?_cons_zero, List.getElem?_cons_succ, pop2, pk, Option.bind_some, Option.bind_none, Sl.pk, MM.dIx_lst, MM.dIx_frl, MM.dIx_tup, MM.atI0, MM.atI1, MM.atI2, Option.map_some, Option.map_none, MM.dAdd_int, MM.dSub_int, MM.dLt_int, MM.dGt_int, MM.dLe_int, MM.dGe_int, MM.dEq_int, MM.dEq_bl, MM.dNe_bl, MM.dNe_int, dNeg, MM.dAbs_int, dInt, dIsi, chkS, callS, slsOf, slOf, pickL, Src.at, List.map_cons, List.map_nil, List.getD_cons_zero, List.getD_cons_succ, List.length_cons, List.length_nil, and_self, if_true, mvs, List.filterMap, Ar.ix, List.nodup_nil, List.map_nil, back, backS, mDefR, retT, outsOf, outS, List.head?_cons, List.tail_cons, mSeq, mSet, mNext, mIf, mTb, tkB, mNot, mNotV, mIfE, mAndT, mOrT, mAnd, mOr, asg, asgS, asgT, frc, frcS, List.set_cons_zero, List.set_cons_succ, ↓to_cd, cd_t, cd_f, Bool.not_true, Bool.not_false, List.cons_append, List.nil_append, List.append_nil, List.replicate, mLst, mTup, dsOf, mPar, mMake, chkM, mkS, mkR, mFldSet, mutT, mutS, mProp, propR, arD, ownOp, ownNe, MM.ownBin_def, MM.nbOk_q, MM.nbOk_i, notR, mMeth, mNegO, mCB, Nat.zero_add, Nat.reduceAdd, Nat.reduceLeDiff, Nat.not_lt_zero, List.length_cons, List.length_nil, MM.nodup1, MM.fp1, MM.fp2, MM.fl1, MM.fl2, MM.rv1, MM.rv2, MM.rv3, MM.rv4, MM.rv5, MM.rv6, MM.rv7, MM.rv8, MM.rv9, MM.rv10, MM.in1, MM.in2, MM.ok1, MM.ok2, MM.gc1, MM.gc2, MM.gt1, MM.gt2, MM.gt3, MM.gt4, MM.ixf0, MM.ixf1, MM.fr_int, MM.dEq_fr, MM.dEq_fr2, beq_self_eq_true, List.isEmpty_nil, Option.isNone_none, Option.isNone_some, Bool.and_true, Bool.and_false, Bool.true_and, Bool.false_and, mPut, okU, mFor, mIt, MM.itD_lst, MM.itD_frl, MM.itD_tup, mTgN, aft, loopF, if_false, b_law_take, pw18, hc, decide_false, put0, put1, p1, p2, p3, q1, q2, q3, q4, q5, q6]
theorem cell_ (ns : List Int) (hl : ns.length ≤ 63) (k : Int) (hk : 0 ≤ k) : ∃ c : Int, m_law_cell [.sh (.frl (ns.map .int)), .sh (.int k)] = .ok (.val (.int c)) [.no, .no] := by
  have el : dLen (.frl (ns.map .int)) = some (.val (.int ns.length)) := by
    show some (Tk.val (.int ((ns.map D.int).length : Nat))) = _
    rw [List.length_map]
  by_cases hc : k < ns.length
  · have : ∃ c, L2.atI (ns.map D.int) k = some (.int c) := by
      have hj : k.toNat < ns.length := by omega
      refine ⟨ns[k.toNat], ?_⟩
      simp [L2.atI, L2.ixN, hk, hc, hj]
    obtain ⟨c, hc2⟩ := this
    refine ⟨c, ?_⟩
    show mDefR _ (b_law_cell _) = _
    simp -implicitDefEqProofs only [mRet, mRetN, mCall, mA1, mA0, mAr, mArS, mOp2, mOp1, mNm, nmS, mC, mDrop, ↓R.to_bd, R.bd_ok, R.bd_er, R.bd_no, List.getElem?_cons_zero, List.getElem?_cons_succ, pop2, pk, Option.bind_some, Option.bind_none, Sl.pk, MM.dIx_lst, MM.dIx_frl, MM.dIx_tup, MM.atI0, MM.atI1, MM.atI2, Option.map_some, Option.map_none, MM.dAdd_int, MM.dSub_int, MM.dLt_int, MM.dGt_int, MM.dLe_int, MM.dGe_int, MM.dEq_int, MM.dEq_bl, MM.dNe_bl, MM.dNe_int, dNeg, MM.dAbs_int, dInt, dIsi, chkS, callS, slsOf, slOf, pickL, Src.at, List.map_cons, List.map_nil, List.getD_cons_zero, List.getD_cons_succ, List.length_cons, List.length_nil, and_self, if_true, mvs, List.filterMap, Ar.ix, List.nodup_nil, List.map_nil, back, backS, mDefR, retT, outsOf, outS, List.head?_cons, List.tail_cons, mSeq, mSet, mNext, mIf, mTb, tkB, mNot, mNotV, mIfE, mAndT, mOrT, mAnd, mOr, asg, asgS, asgT, frc, frcS, List.set_cons_zero, List.set_cons_succ, ↓to_cd, cd_t, cd_f, Bool.not_true, Bool.not_false, List.cons_append, List.nil_append, List.append_nil, List.replicate, mLst, mTup, dsOf, mPar, mMake, chkM, mkS, mkR, mFldSet, mutT, mutS, mProp, propR, arD, ownOp, ownNe, MM.ownBin_def, MM.nbOk_q, MM.nbOk_i, notR, mMeth, mNegO, mCB, Nat.zero_add, Nat.reduceAdd, Nat.reduceLeDiff, Nat.not_lt_zero, List.length_cons, List.length_nil, MM.nodup1, MM.fp1, MM.fp2, MM.fl1, MM.fl2, MM.rv1, MM.rv2, MM.rv3, MM.rv4, MM.rv5, MM.rv6, MM.rv7, MM.rv8, MM.rv9, MM.rv10, MM.in1, MM.in2, MM.ok1, MM.ok2, MM.gc1, MM.gc2, MM.gt1, MM.gt2, MM.gt3, MM.gt4, MM.ixf0, MM.ixf1, MM.fr_int, MM.dEq_fr, MM.dEq_fr2, beq_self_eq_true, List.isEmpty_nil, Option.isNone_none, Option.isNone_some, Bool.and_true, Bool.and_false, Bool.true_and, Bool.false_and, mPut, okU, mFor, mIt, MM.itD_lst, MM.itD_frl, MM.itD_tup, mTgN, aft, loopF, if_false, b_law_cell, el, hc, decide_true, hc2]
  · refine ⟨0, ?_⟩
    show mDefR _ (b_law_cell _) = _
    simp -implicitDefEqProofs only [mRet, mRetN, mCall, mA1, mA0, mAr, mArS, mOp2, mOp1, mNm, nmS, mC, mDrop, ↓R.to_bd, R.bd_ok, R.bd_er, R.bd_no, List.getElem?_cons_zero, List.getElem?_cons_succ, pop2, pk, Option.bind_some, Option.bind_none, Sl.pk, MM.dIx_lst, MM.dIx_frl, MM.dIx_tup, MM.atI0, MM.atI1, MM.atI2, Option.map_some, Option.map_none, MM.dAdd_int, MM.dSub_int, MM.dLt_int, MM.dGt_int, MM.dLe_int, MM.dGe_int, MM.dEq_int, MM.dEq_bl, MM.dNe_bl, MM.dNe_int, dNeg, MM.dAbs_int, dInt, dIsi, chkS, callS, slsOf, slOf, pickL, Src.at, List.map_cons, List.map_nil, List.getD_cons_zero, List.getD_cons_succ, List.length_cons, List.length_nil, and_self, if_true, mvs, List.filterMap, Ar.ix, List.nodup_nil, List.map_nil, back, backS, mDefR, retT, outsOf, outS, List.head?_cons, List.tail_cons, mSeq, mSet, mNext, mIf, mTb, tkB, mNot, mNotV, mIfE, mAndT, mOrT, mAnd, mOr, asg, asgS, asgT, frc, frcS, List.set_cons_zero, List.set_cons_succ, ↓to_cd, cd_t, cd_f, Bool.not_true, Bool.not_false, List.cons_append, List.nil_append, List.append_nil, List.replicate, mLst, mTup, dsOf, mPar, mMake, chkM, mkS, mkR, mFldSet, mutT, mutS, mProp, propR, arD, ownOp, ownNe, MM.ownBin_def, MM.nbOk_q, MM.nbOk_i, notR, mMeth, mNegO, mCB, Nat.zero_add, Nat.reduceAdd, Nat.reduceLeDiff, Nat.not_lt_zero, List.length_cons, List.length_nil, MM.nodup1, MM.fp1, MM.fp2, MM.fl1, MM.fl2, MM.rv1, MM.rv2, MM.rv3, MM.rv4, MM.rv5, MM.rv6, MM.rv7, MM.rv8, MM.rv9, MM.rv10, MM.in1, MM.in2, MM.ok1, MM.ok2, MM.gc1, MM.gc2, MM.gt1, MM.gt2, MM.gt3, MM.gt4, MM.ixf0, MM.ixf1, MM.fr_int, MM.dEq_fr, MM.dEq_fr2, beq_self_eq_true, List.isEmpty_nil, Option.isNone_none, Option.isNone_some, Bool.and_true, Bool.and_false, Bool.true_and, Bool.false_and, mPut, okU, mFor, mIt, MM.itD_lst, MM.itD_frl, MM.itD_tup, mTgN, aft, loopF, if_false, b_law_cell, el, hc, decide_false]
theorem box_ (ns : List Int) (hl : ns.length ≤ 63) (k : Int) (hk : 0 ≤ k) (hk2 : k < 64) : ∃ d, Box 0 d ∧ m_law_box [.sh (.frl (ns.map .int)), .sh (.int k)] = .ok (.nw d) [.no, .no] := by
  obtain ⟨c, hc⟩ := cell_ ns hl k hk
  have e := dMul_int 40503 k (by
    have : Bt 7 k := by unfold Bt; omega
    have := this.log
    have : (40503 : Int).natAbs.log2 = 15 := by decide +kernel
    omega)
  refine ⟨.lst [.int c.natAbs, .int 0, .int (40503 * k + 911)], ⟨_, _, _, rfl, by omega, by omega, by omega, by unfold Bt; omega⟩, ?_⟩
  show mDefR _ (b_law_box _) = _
  simp -implicitDefEqProofs only [mRet, mRetN, mCall, mA1, mA0, mAr, mArS, mOp2, mOp1, mNm, nmS, mC, mDrop, ↓R.to_bd, R.bd_ok, R.bd_er, R.bd_no, List.getElem?_cons_zero, List.getElem?_cons_succ, pop2, pk, Option.bind_some, Option.bind_none, Sl.pk, MM.dIx_lst, MM.dIx_frl, MM.dIx_tup, MM.atI0, MM.atI1, MM.atI2, Option.map_some, Option.map_none, MM.dAdd_int, MM.dSub_int, MM.dLt_int, MM.dGt_int, MM.dLe_int, MM.dGe_int, MM.dEq_int, MM.dEq_bl, MM.dNe_bl, MM.dNe_int, dNeg, MM.dAbs_int, dInt, dIsi, chkS, callS, slsOf, slOf, pickL, Src.at, List.map_cons, List.map_nil, List.getD_cons_zero, List.getD_cons_succ, List.length_cons, List.length_nil, and_self, if_true, mvs, List.filterMap, Ar.ix, List.nodup_nil, List.map_nil, back, backS, mDefR, retT, outsOf, outS, List.head?_cons, List.tail_cons, mSeq, mSet, mNext, mIf, mTb, tkB, mNot, mNotV, mIfE, mAndT, mOrT, mAnd, mOr, asg, asgS, asgT, frc, frcS, List.set_cons_zero, List.set_cons_succ, ↓to_cd, cd_t, cd_f, Bool.not_true, Bool.not_false, List.cons_append, List.nil_append, List.append_nil, List.replicate, mLst, mTup, dsOf, mPar, mMake, chkM, mkS, mkR, mFldSet, mutT, mutS, mProp, propR, arD, ownOp, ownNe, MM.ownBin_def, MM.nbOk_q, MM.nbOk_i, notR, mMeth, mNegO, mCB, Nat.zero_add, Nat.reduceAdd, Nat.reduceLeDiff, Nat.not_lt_zero, List.length_cons, List.length_nil, MM.nodup1, MM.fp1, MM.fp2, MM.fl1, MM.fl2, MM.rv1, MM.rv2, MM.rv3, MM.rv4, MM.rv5, MM.rv6, MM.rv7, MM.rv8, MM.rv9, MM.rv10, MM.in1, MM.in2, MM.ok1, MM.ok2, MM.gc1, MM.gc2, MM.gt1, MM.gt2, MM.gt3, MM.gt4, MM.ixf0, MM.ixf1, MM.fr_int, MM.dEq_fr, MM.dEq_fr2, beq_self_eq_true, List.isEmpty_nil, Option.isNone_none, Option.isNone_some, Bool.and_true, Bool.and_false, Bool.true_and, Bool.false_and, mPut, okU, mFor, mIt, MM.itD_lst, MM.itD_frl, MM.itD_tup, mTgN, aft, loopF, if_false, b_law_box, hc, e]
theorem top_ : m_Ratio_top [.sh (rt q)] = .ok (.val (.int q.num)) [.no] := by
  show mDefR _ (b_Ratio_top _) = _
  simp -implicitDefEqProofs only [mRet, mRetN, mCall, mA1, mA0, mAr, mArS, mOp2, mOp1, mNm, nmS, mC, mDrop, ↓R.to_bd, R.bd_ok, R.bd_er, R.bd_no, List.getElem?_cons_zero, List.getElem?_cons_succ, pop2, pk, Option.bind_some, Option.bind_none, Sl.pk, MM.dIx_lst, MM.dIx_frl, MM.dIx_tup, MM.atI0, MM.atI1, MM.atI2, Option.map_some, Option.map_none, MM.dAdd_int, MM.dSub_int, MM.dLt_int, MM.dGt_int, MM.dLe_int, MM.dGe_int, MM.dEq_int, MM.dEq_bl, MM.dNe_bl, MM.dNe_int, dNeg, MM.dAbs_int, dInt, dIsi, chkS, callS, slsOf, slOf, pickL, Src.at, List.map_cons, List.map_nil, List.getD_cons_zero, List.getD_cons_succ, List.length_cons, List.length_nil, and_self, if_true, mvs, List.filterMap, Ar.ix, List.nodup_nil, List.map_nil, back, backS, mDefR, retT, outsOf, outS, List.head?_cons, List.tail_cons, mSeq, mSet, mNext, mIf, mTb, tkB, mNot, mNotV, mIfE, mAndT, mOrT, mAnd, mOr, asg, asgS, asgT, frc, frcS, List.set_cons_zero, List.set_cons_succ, ↓to_cd, cd_t, cd_f, Bool.not_true, Bool.not_false, List.cons_append, List.nil_append, List.append_nil, List.replicate, mLst, mTup, dsOf, mPar, mMake, chkM, mkS, mkR, mFldSet, mutT, mutS, mProp, propR, arD, ownOp, ownNe, MM.ownBin_def, MM.nbOk_q, MM.nbOk_i, notR, mMeth, mNegO, mCB, Nat.zero_add, Nat.reduceAdd, Nat.reduceLeDiff, Nat.not_lt_zero, List.length_cons, List.length_nil, MM.nodup1, MM.fp1, MM.fp2, MM.fl1, MM.fl2, MM.rv1, MM.rv2, MM.rv3, MM.rv4, MM.rv5, MM.rv6, MM.rv7, MM.rv8, MM.rv9, MM.rv10, MM.in1, MM.in2, MM.ok1, MM.ok2, MM.gc1, MM.gc2, MM.gt1, MM.gt2, MM.gt3, MM.gt4, MM.ixf0, MM.ixf1, MM.fr_int, MM.dEq_fr, MM.dEq_fr2, beq_self_eq_true, List.isEmpty_nil, Option.isNone_none, Option.isNone_some, Bool.and_true, Bool.and_false, Bool.true_and, Bool.false_and, mPut, okU, mFor, mIt, MM.itD_lst, MM.itD_frl, MM.itD_tup, mTgN, aft, loopF, if_false, b_Ratio_top]
theorem bottom_ : m_Ratio_bottom [.sh (rt q)] = .ok (.val (.int q.den)) [.no] := by
  show mDefR _ (b_Ratio_bottom _) = _
  simp -implicitDefEqProofs only [mRet, mRetN, mCall, mA1, mA0, mAr, mArS, mOp2, mOp1, mNm, nmS, mC, mDrop, ↓R.to_bd, R.bd_ok, R.bd_er, R.bd_no, List.getElem?_cons_zero, List.getElem?_cons_succ, pop2, pk, Option.bind_some, Option.bind_none, Sl.pk, MM.dIx_lst, MM.dIx_frl, MM.dIx_tup, MM.atI0, MM.atI1, MM.atI2, Option.map_some, Option.map_none, MM.dAdd_int, MM.dSub_int, MM.dLt_int, MM.dGt_int, MM.dLe_int, MM.dGe_int, MM.dEq_int, MM.dEq_bl, MM.dNe_bl, MM.dNe_int, dNeg, MM.dAbs_int, dInt, dIsi, chkS, callS, slsOf, slOf, pickL, Src.at, List.map_cons, List.map_nil, List.getD_cons_zero, List.getD_cons_succ, List.length_cons, List.length_nil, and_self, if_true, mvs, List.filterMap, Ar.ix, List.nodup_nil, List.map_nil, back, backS, mDefR, retT, outsOf, outS, List.head?_cons, List.tail_cons, mSeq, mSet, mNext, mIf, mTb, tkB, mNot, mNotV, mIfE, mAndT, mOrT, mAnd, mOr, asg, asgS, asgT, frc, frcS, List.set_cons_zero, List.set_cons_succ, ↓to_cd, cd_t, cd_f, Bool.not_true, Bool.not_false, List.cons_append, List.nil_append, List.append_nil, List.replicate, mLst, mTup, dsOf, mPar, mMake, chkM, mkS, mkR, mFldSet, mutT, mutS, mProp, propR, arD, ownOp, ownNe, MM.ownBin_def, MM.nbOk_q, MM.nbOk_i, notR, mMeth, mNegO, mCB, Nat.zero_add, Nat.reduceAdd, Nat.reduceLeDiff, Nat.not_lt_zero, List.length_cons, List.length_nil, MM.nodup1, MM.fp1, MM.fp2, MM.fl1, MM.fl2, MM.rv1, MM.rv2, MM.rv3, MM.rv4, MM.rv5, MM.rv6, MM.rv7, MM.rv8, MM.rv9, MM.rv10, MM.in1, MM.in2, MM.ok1, MM.ok2, MM.gc1, MM.gc2, MM.gt1, MM.gt2, MM.gt3, MM.gt4, MM.ixf0, MM.ixf1, MM.fr_int, MM.dEq_fr, MM.dEq_fr2, beq_self_eq_true, List.isEmpty_nil, Option.isNone_none, Option.isNone_some, Bool.and_true, Bool.and_false, Bool.true_and, Bool.false_and, mPut, okU, mFor, mIt, MM.itD_lst, MM.itD_frl, MM.itD_tup, mTgN, aft, loopF, if_false, b_Ratio_bottom]
theorem eq_q (p q : Rat) : m_Ratio___eq [.sh (rt p), .sh (rt q)] = .ok (.val (.bl (decide (p = q)))) [.no, .no] := eq_ (.q q)
end
end K03

set_option Elab.async false
set_option linter.all false
set_option maxRecDepth 100000
set_option maxHeartbeats 4000000
namespace MM
open PySem PySem.Spec PyProof.Rows L2 PySem.NumText TL
theorem dInt_int (i : Int) : dInt (.int i) = some (.val (.int i)) := rfl
theorem dS1 (a : Str) : dStr1 (.str a) = some a := rfl
theorem dSl_s {s : Str} (h : s.length ≤ 16777216) (lo hi : Option Int) : dSl (.str s) lo hi = some (.val (.str (cutS s lo hi))) := if_pos h
theorem dEq_s (a b : Str) : dEq (.str a) (.str b) = some (.val (.bl (decide (a = b)))) := rfl
theorem dNe_s (a b : Str) : dNe (.str a) (.str b) = some (.val (.bl (!decide (a = b)))) := rfl
theorem itD_s (a : Str) : itD (.str a) = some (chD a) := rfl
theorem dStr_b {i : Int} (h : i.natAbs < 2 ^ 1900) : dStr (.int i) = some (.val (.str (st i))) := by
  have hl : i.natAbs.log2 < 1920 := by
    have := Bt.log (k := 1900) (a := i) h
    omega
  simp only [dStr]
  rw [if_pos hl]
  rfl
theorem dFmt_b {i : Int} (h : i.natAbs < 2 ^ 1900) : dFmt (.int i) = some (.val (.str (st i))) := by
  have hl : i.natAbs.log2 < 1920 := by
    have := Bt.log (k := 1900) (a := i) h
    omega
  simp only [dFmt]
  rw [if_pos hl]
  rfl
theorem int_st (i : Int) (h : (st i).length ≤ 640) : intText? (st i) = some i := by
  by_cases hi : i < 0
  · have e : (st i).cps.toList = 45 :: numL i.natAbs := by
      have := tl_st i
      rw [if_pos hi] at this
      exact this
    rw [intText_neg e (numL_digits _) (numL_ne _) (by omega), numL_val]
    congr 1
    omega
  · have e : (st i).cps.toList = numL i.natAbs := by
      have := tl_st i
      rw [if_neg hi] at this
      exact this
    rw [intText_digits (by rw [e]; exact numL_digits _) (by rw [e]; exact numL_ne _) (by omega), e, numL_val]
    congr 1
    omega
theorem dInt_st {i : Int} (h : (st i).length ≤ 640) : dInt (.str (st i)) = some (.val (.int i)) := by
  simp only [dInt]
  rw [if_pos h, int_st i h]
  rfl
/-- of signs that there are -/
def OkS (w : Str) : Prop := ∀ c ∈ tl w, c < 1114112
/-- int or None -/
def oi : Option Int → D
  | some i => .int i
  | none => .non
theorem tl_cut1 (w : Str) : tl (cutS w none (some 1)) = (tl w).take 1 := by
  show (((tl w).drop 0).take (HT.sIx w.length w.length (some ((1 : Nat) : Int)) - 0)) = _
  rw [HT.sIx_nat, List.drop_zero, Nat.sub_zero, len_tl]
  cases tl w with
  | nil => rfl
  | cons c l => simp
theorem tl_cut2 (w : Str) : tl (cutS w (some 1) none) = (tl w).drop 1 := by
  show (((tl w).drop (HT.sIx w.length 0 (some ((1 : Nat) : Int)))).take (w.length - HT.sIx w.length 0 (some ((1 : Nat) : Int)))) = _
  rw [HT.sIx_nat, len_tl]
  cases tl w with
  | nil => rfl
  | cons c l =>
    have : min 1 (c :: l).length = 1 := by simp
    rw [this]
    simp
def isD (c : Nat) : Bool := decide (48 ≤ c ∧ c ≤ 57)
theorem tl_digs : tl ("0123456789" : Str) = [48, 49, 50, 51, 52, 53, 54, 55, 56, 57] := by decide +kernel
theorem notIn_dig (c : Nat) : dNotIn (.str ⟨#[c]⟩) (.str "0123456789") = some (.val (.bl (!isD c))) := by
  show some (Tk.val (.bl (!inStr ⟨#[c]⟩ "0123456789"))) = _
  have e : inStr ⟨#[c]⟩ "0123456789" = isD c := by
    unfold inStr
    rw [StrLaws.found_one]
    show decide (c ∈ tl ("0123456789" : Str)) = _
    rw [tl_digs]
    unfold isD
    apply decide_eq_decide.mpr
    simp only [List.mem_cons, List.not_mem_nil, or_false]
    omega
  rw [e]
theorem ws_canLayAll0 : ∀ ns : List Str, (∀ n ∈ ns, PyData.strOk n = true) → PyData.canLayAll0 (ns.map PyData.str) = true
  | [], _ => rfl
  | n :: r, h => by simp [PyData.canLayAll0, PyData.canLay0, h n (List.mem_cons_self ..), ws_canLayAll0 r fun m hm => h m (List.mem_cons_of_mem _ hm)]
theorem ws_depthAll : ∀ ns : List Str, PyData.depthAll (ns.map PyData.str) = 0
  | [] => rfl
  | _ :: r => by simp [PyData.depthAll, PyData.depth, ws_depthAll r]
theorem pyds_str : ∀ ns : List Str, pyds (ns.map D.str) = some (ns.map PyData.str)
  | [] => rfl
  | n :: r => by
    show (pyd (.str n)).bind _ = _
    rw [pyds_str r]; rfl
theorem dNe_strs (ns : List Str) (hk : ∀ n ∈ ns, PyData.strOk n = true) : dNe (.lst (ns.map D.str)) (.lst []) = some (.val (.bl (!ns.isEmpty))) := by
  have e : dEq (.lst (ns.map D.str)) (.lst []) = some (.val (.bl ns.isEmpty)) := by
    show dEqD (.lst (ns.map D.str)) (.lst []) = _
    unfold dEqD
    have e1 : pyd (.lst (ns.map D.str)) = some (.list (ns.map PyData.str)) := by
      show (pyds (ns.map D.str)).map PyData.list = _
      rw [pyds_str]; rfl
    have e2 : pyd (.lst []) = some (.list []) := rfl
    rw [e1, e2]
    have s1 : SeqAt.shaped (.list (ns.map PyData.str)) = true := by simp [SeqAt.shaped, PyData.canLay0, PyData.depth, ws_canLayAll0 ns hk, ws_depthAll]
    have s2 : SeqAt.shaped (.list []) = true := rfl
    simp only [s1, s2, and_self, if_true]
    cases ns with
    | nil => rfl
    | cons n r => rfl
  unfold dNe
  rw [e]
  rfl
theorem dIn_non (l : List (Option Int)) : dIn .non (.lst (l.map oi)) = some (.val (.bl (l.any Option.isNone))) := by
  have f : (l.map oi).all D.flat = true := by
    rw [List.all_eq_true]
    intro d hd
    obtain ⟨o, _, rfl⟩ := List.mem_map.mp hd
    cases o <;> rfl
  have g : ((l.map oi).any fun z => eqF z .non) = l.any Option.isNone := by
    rw [List.any_map]
    congr 1
    funext o
    cases o <;> rfl
  have e : dInSeq .non (l.map oi) = some (l.any Option.isNone) := by
    unfold dInSeq
    rw [if_pos ⟨rfl, f⟩, g]
  show ((dInSeq .non (l.map oi)).orElse fun _ => dInDeep .non (l.map oi)).map _ = _
  rw [e]
  rfl
end MM
namespace K03
open PySem PySem.Spec PyProof.Rows L2 MM TL PySem.NumText
noncomputable section
theorem dec_cut1 {w : Str} : decide (cutS w none (some 1) = "-") = ((tl w).take 1 == [45]) := by
  have e45 : tl ("-" : Str) = [45] := by decide +kernel
  by_cases h : (tl w).take 1 = [45]
  · rw [h]
    exact decide_eq_true (ext_tl (by rw [tl_cut1, h, e45]))
  · have : cutS w none (some 1) ≠ "-" := fun e => h (by rw [← tl_cut1, e, e45])
    rw [decide_eq_false this]
    simp [h]
theorem nodig_l {s0 s1 : Sl} : ∀ l : List Nat, compL (mTgN 2) (mTb (mOp2 (mNm 2) (mC (.str "0123456789")) (pop2 dNotIn))) (mNm 2) [2] (l.map fun c => .str ⟨#[c]⟩) [s0, s1, .no] = .ok ((l.filter fun c => !isD c).map fun c => .str ⟨#[c]⟩) [s0, s1, .no]
  | [] => rfl
  | c :: l => by
    have ih := nodig_l (s0 := s0) (s1 := s1) l
    by_cases h : isD c = true
    · simp -implicitDefEqProofs only [mRet, mRetN, mCall, mA1, mA0, mAr, mArS, mOp2, mOp1, mNm, nmS, mC, mDrop, ↓R.to_bd, R.bd_ok, R.bd_er, R.bd_no, List.getElem?_cons_zero, List.getElem?_cons_succ, pop2, pk, Option.bind_some, Option.bind_none, Sl.pk, MM.dIx_lst, MM.dIx_frl, MM.dIx_tup, MM.atI0, MM.atI1, MM.atI2, Option.map_some, Option.map_none, MM.dAdd_int, MM.dSub_int, MM.dLt_int, MM.dGt_int, MM.dLe_int, MM.dGe_int, MM.dEq_int, MM.dEq_bl, MM.dNe_bl, MM.dNe_int, dNeg, MM.dAbs_int, MM.dInt_int, dIsi, chkS, callS, slsOf, slOf, pickL, Src.at, List.map_cons, List.map_nil, List.getD_cons_zero, List.getD_cons_succ, List.length_cons, List.length_nil, and_self, if_true, mvs, List.filterMap, Ar.ix, List.nodup_nil, List.map_nil, back, backS, mDefR, retT, outsOf, outS, List.head?_cons, List.tail_cons, mSeq, mSet, mNext, mIf, mTb, tkB, mNot, mNotV, mIfE, mAndT, mOrT, mAnd, mOr, asg, asgS, asgT, frc, frcS, List.set_cons_zero, List.set_cons_succ, ↓to_cd, cd_t, cd_f, Bool.not_true, Bool.not_false, List.cons_append, List.nil_append, List.append_nil, List.replicate, mLst, mTup, dsOf, mPar, mMake, chkM, mkS, mkR, mFldSet, mutT, mutS, mProp, propR, arD, ownOp, ownNe, MM.ownBin_def, MM.nbOk_q, MM.nbOk_i, notR, mMeth, mNegO, mCB, Nat.zero_add, Nat.reduceAdd, Nat.reduceLeDiff, Nat.not_lt_zero, List.length_cons, List.length_nil, MM.nodup1, MM.fp1, MM.fp2, MM.fl1, MM.fl2, MM.rv1, MM.rv2, MM.rv3, MM.rv4, MM.rv5, MM.rv6, MM.rv7, MM.rv8, MM.rv9, MM.rv10, MM.in1, MM.in2, MM.ok1, MM.ok2, MM.gc1, MM.gc2, MM.gt1, MM.gt2, MM.gt3, MM.gt4, MM.ixf0, MM.ixf1, MM.fr_int, MM.dEq_fr, MM.dEq_fr2, beq_self_eq_true, List.isEmpty_nil, Option.isNone_none, Option.isNone_some, Bool.and_true, Bool.and_false, Bool.true_and, Bool.false_and, mPut, okU, mFor, mIt, MM.itD_lst, MM.itD_frl, MM.itD_tup, mTgN, aft, loopF, if_false, MM.dInt_int, mSM1, sm1K, MM.dS1, mSl, mPart, MM.dSl_s, MM.dEq_s, MM.dNe_s, MM.itD_s, mAsgT, mTgT, mTgs, compL, noEr, wipeE, notIn_dig, h, ih, List.filter_cons, Bool.false_eq_true]
    · have h' : isD c = false := by simpa using h
      simp -implicitDefEqProofs only [mRet, mRetN, mCall, mA1, mA0, mAr, mArS, mOp2, mOp1, mNm, nmS, mC, mDrop, ↓R.to_bd, R.bd_ok, R.bd_er, R.bd_no, List.getElem?_cons_zero, List.getElem?_cons_succ, pop2, pk, Option.bind_some, Option.bind_none, Sl.pk, MM.dIx_lst, MM.dIx_frl, MM.dIx_tup, MM.atI0, MM.atI1, MM.atI2, Option.map_some, Option.map_none, MM.dAdd_int, MM.dSub_int, MM.dLt_int, MM.dGt_int, MM.dLe_int, MM.dGe_int, MM.dEq_int, MM.dEq_bl, MM.dNe_bl, MM.dNe_int, dNeg, MM.dAbs_int, MM.dInt_int, dIsi, chkS, callS, slsOf, slOf, pickL, Src.at, List.map_cons, List.map_nil, List.getD_cons_zero, List.getD_cons_succ, List.length_cons, List.length_nil, and_self, if_true, mvs, List.filterMap, Ar.ix, List.nodup_nil, List.map_nil, back, backS, mDefR, retT, outsOf, outS, List.head?_cons, List.tail_cons, mSeq, mSet, mNext, mIf, mTb, tkB, mNot, mNotV, mIfE, mAndT, mOrT, mAnd, mOr, asg, asgS, asgT, frc, frcS, List.set_cons_zero, List.set_cons_succ, ↓to_cd, cd_t, cd_f, Bool.not_true, Bool.not_false, List.cons_append, List.nil_append, List.append_nil, List.replicate, mLst, mTup, dsOf, mPar, mMake, chkM, mkS, mkR, mFldSet, mutT, mutS, mProp, propR, arD, ownOp, ownNe, MM.ownBin_def, MM.nbOk_q, MM.nbOk_i, notR, mMeth, mNegO, mCB, Nat.zero_add, Nat.reduceAdd, Nat.reduceLeDiff, Nat.not_lt_zero, List.length_cons, List.length_nil, MM.nodup1, MM.fp1, MM.fp2, MM.fl1, MM.fl2, MM.rv1, MM.rv2, MM.rv3, MM.rv4, MM.rv5, MM.rv6, MM.rv7, MM.rv8, MM.rv9, MM.rv10, MM.in1, MM.in2, MM.ok1, MM.ok2, MM.gc1, MM.gc2, MM.gt1, MM.gt2, MM.gt3, MM.gt4, MM.ixf0, MM.ixf1, MM.fr_int, MM.dEq_fr, MM.dEq_fr2, beq_self_eq_true, List.isEmpty_nil, Option.isNone_none, Option.isNone_some, Bool.and_true, Bool.and_false, Bool.true_and, Bool.false_and, mPut, okU, mFor, mIt, MM.itD_lst, MM.itD_frl, MM.itD_tup, mTgN, aft, loopF, if_false, MM.dInt_int, mSM1, sm1K, MM.dS1, mSl, mPart, MM.dSl_s, MM.dEq_s, MM.dNe_s, MM.itD_s, mAsgT, mTgT, mTgs, compL, noEr, wipeE, notIn_dig, h', ih, List.filter_cons]
/-- whole, from its digits on -/
theorem whole_rest {w dg : Str} (hw : w.length ≤ 500) (hk : OkS dg) (hd : dg.length ≤ 500) {x : Option Int} (hx : cv w = x)
    (hn : tl dg = [] ∨ (¬ AllDigits (tl dg)) → x = none) (hy : tl dg ≠ [] → AllDigits (tl dg) → ∃ i, i.natAbs < 2 ^ 1900 ∧ intText? w = some i ∧ (x = if st i = w then some i else none)) :
    (mSeq (mIf (mOrT (mTb (mOp2 (mNm 1) (mC (.str "")) (pop2 dEq))) (mTb (mOp2 (mLc (mIt (mNm 1)) (mTgN 2) (mTb (mOp2 (mNm 2) (mC (.str "0123456789")) (pop2 dNotIn))) (mNm 2) [2]) (mLst (mA0)) (pop2 dNe)))) (mRet (mC .non)) (mNext)) (mRet (mIfE (mTb (mOp2 (mOp1 (mOp1 (mNm 0) dInt) dStr) (mNm 0) (pop2 dEq))) (mOp1 (mNm 0) dInt) (mC .non))))
      [.sh (.str w), .sh (.str dg), .no] = .ok (.rt (.val (oi x))) [.sh (.str w), .sh (.str dg), .no] := by
  have e0 : tl ("" : Str) = [] := rfl
  by_cases hz : tl dg = []
  · have : dg = "" := ext_tl hz
    have hx0 := hn (.inl hz)
    subst hx0
    simp -implicitDefEqProofs only [mRet, mRetN, mCall, mA1, mA0, mAr, mArS, mOp2, mOp1, mNm, nmS, mC, mDrop, ↓R.to_bd, R.bd_ok, R.bd_er, R.bd_no, List.getElem?_cons_zero, List.getElem?_cons_succ, pop2, pk, Option.bind_some, Option.bind_none, Sl.pk, MM.dIx_lst, MM.dIx_frl, MM.dIx_tup, MM.atI0, MM.atI1, MM.atI2, Option.map_some, Option.map_none, MM.dAdd_int, MM.dSub_int, MM.dLt_int, MM.dGt_int, MM.dLe_int, MM.dGe_int, MM.dEq_int, MM.dEq_bl, MM.dNe_bl, MM.dNe_int, dNeg, MM.dAbs_int, MM.dInt_int, dIsi, chkS, callS, slsOf, slOf, pickL, Src.at, List.map_cons, List.map_nil, List.getD_cons_zero, List.getD_cons_succ, List.length_cons, List.length_nil, and_self, if_true, mvs, List.filterMap, Ar.ix, List.nodup_nil, List.map_nil, back, backS, mDefR, retT, outsOf, outS, List.head?_cons, List.tail_cons, mSeq, mSet, mNext, mIf, mTb, tkB, mNot, mNotV, mIfE, mAndT, mOrT, mAnd, mOr, asg, asgS, asgT, frc, frcS, List.set_cons_zero, List.set_cons_succ, ↓to_cd, cd_t, cd_f, Bool.not_true, Bool.not_false, List.cons_append, List.nil_append, List.append_nil, List.replicate, mLst, mTup, dsOf, mPar, mMake, chkM, mkS, mkR, mFldSet, mutT, mutS, mProp, propR, arD, ownOp, ownNe, MM.ownBin_def, MM.nbOk_q, MM.nbOk_i, notR, mMeth, mNegO, mCB, Nat.zero_add, Nat.reduceAdd, Nat.reduceLeDiff, Nat.not_lt_zero, List.length_cons, List.length_nil, MM.nodup1, MM.fp1, MM.fp2, MM.fl1, MM.fl2, MM.rv1, MM.rv2, MM.rv3, MM.rv4, MM.rv5, MM.rv6, MM.rv7, MM.rv8, MM.rv9, MM.rv10, MM.in1, MM.in2, MM.ok1, MM.ok2, MM.gc1, MM.gc2, MM.gt1, MM.gt2, MM.gt3, MM.gt4, MM.ixf0, MM.ixf1, MM.fr_int, MM.dEq_fr, MM.dEq_fr2, beq_self_eq_true, List.isEmpty_nil, Option.isNone_none, Option.isNone_some, Bool.and_true, Bool.and_false, Bool.true_and, Bool.false_and, mPut, okU, mFor, mIt, MM.itD_lst, MM.itD_frl, MM.itD_tup, mTgN, aft, loopF, if_false, MM.dInt_int, mSM1, sm1K, MM.dS1, mSl, mPart, MM.dSl_s, MM.dEq_s, MM.dNe_s, MM.itD_s, mAsgT, mTgT, mTgs, this, decide_true]
    rfl
  · have hz' : decide (dg = ("" : Str)) = false := decide_eq_false fun e => hz (by rw [e]; rfl)
    have cl : (chD dg).length ≤ 16777216 := by
      show ((tl dg).map _).length ≤ _
      rw [List.length_map, ← len_tl]; omega
    have cmp : compE (mTgN 2) (mTb (mOp2 (mNm 2) (mC (.str "0123456789")) (pop2 dNotIn))) (mNm 2) [2] (chD dg) [.sh (.str w), .sh (.str dg), .no] = .ok (.nw (.lst (((tl dg).filter fun c => !isD c).map fun c => D.str ⟨#[c]⟩))) [.sh (.str w), .sh (.str dg), .no] := by
      unfold compE
      rw [if_pos cl]
      show (compL _ _ _ _ _ [.sh (.str w), .sh (.str dg), .no]).bind _ = _
      show (compL _ _ _ _ ((tl dg).map fun c => .str ⟨#[c]⟩) [.sh (.str w), .sh (.str dg), .no]).bind _ = _
      rw [nodig_l]
      rfl
    have hm : (((tl dg).filter fun c => !isD c).map fun c => D.str ⟨#[c]⟩) = (((tl dg).filter fun c => !isD c).map fun c => (⟨#[c]⟩ : Str)).map D.str := by rw [List.map_map]; rfl
    have hok : ∀ n ∈ (((tl dg).filter fun c => !isD c).map fun c => (⟨#[c]⟩ : Str)), PyData.strOk n = true := by
      intro n hn
      obtain ⟨c, hc, rfl⟩ := List.mem_map.mp hn
      have := hk c (List.mem_filter.mp hc).1
      simp [PyData.strOk, this]
    have ne := dNe_strs (((tl dg).filter fun c => !isD c).map fun c => (⟨#[c]⟩ : Str)) hok
    rw [← hm] at ne
    by_cases ha : AllDigits (tl dg)
    · have hf : (tl dg).filter (fun c => !isD c) = [] := by
        rw [List.filter_eq_nil_iff]
        intro c hc
        have := ha c hc
        simp [isD, this]
      rw [hf] at ne cmp
      simp only [List.map_nil, List.isEmpty_nil] at ne cmp
      obtain ⟨i, hi, e1, e2⟩ := hy hz ha
      have di : dInt (.str w) = some (.val (.int i)) := by
        simp only [dInt]
        rw [if_pos (by omega), e1]
        rfl
      have ds := dStr_b hi
      by_cases hs : st i = w
      · rw [if_pos hs] at e2
        subst e2
        simp -implicitDefEqProofs only [mRet, mRetN, mCall, mA1, mA0, mAr, mArS, mOp2, mOp1, mNm, nmS, mC, mDrop, ↓R.to_bd, R.bd_ok, R.bd_er, R.bd_no, List.getElem?_cons_zero, List.getElem?_cons_succ, pop2, pk, Option.bind_some, Option.bind_none, Sl.pk, MM.dIx_lst, MM.dIx_frl, MM.dIx_tup, MM.atI0, MM.atI1, MM.atI2, Option.map_some, Option.map_none, MM.dAdd_int, MM.dSub_int, MM.dLt_int, MM.dGt_int, MM.dLe_int, MM.dGe_int, MM.dEq_int, MM.dEq_bl, MM.dNe_bl, MM.dNe_int, dNeg, MM.dAbs_int, MM.dInt_int, dIsi, chkS, callS, slsOf, slOf, pickL, Src.at, List.map_cons, List.map_nil, List.getD_cons_zero, List.getD_cons_succ, List.length_cons, List.length_nil, and_self, if_true, mvs, List.filterMap, Ar.ix, List.nodup_nil, List.map_nil, back, backS, mDefR, retT, outsOf, outS, List.head?_cons, List.tail_cons, mSeq, mSet, mNext, mIf, mTb, tkB, mNot, mNotV, mIfE, mAndT, mOrT, mAnd, mOr, asg, asgS, asgT, frc, frcS, List.set_cons_zero, List.set_cons_succ, ↓to_cd, cd_t, cd_f, Bool.not_true, Bool.not_false, List.cons_append, List.nil_append, List.append_nil, List.replicate, mLst, mTup, dsOf, mPar, mMake, chkM, mkS, mkR, mFldSet, mutT, mutS, mProp, propR, arD, ownOp, ownNe, MM.ownBin_def, MM.nbOk_q, MM.nbOk_i, notR, mMeth, mNegO, mCB, Nat.zero_add, Nat.reduceAdd, Nat.reduceLeDiff, Nat.not_lt_zero, List.length_cons, List.length_nil, MM.nodup1, MM.fp1, MM.fp2, MM.fl1, MM.fl2, MM.rv1, MM.rv2, MM.rv3, MM.rv4, MM.rv5, MM.rv6, MM.rv7, MM.rv8, MM.rv9, MM.rv10, MM.in1, MM.in2, MM.ok1, MM.ok2, MM.gc1, MM.gc2, MM.gt1, MM.gt2, MM.gt3, MM.gt4, MM.ixf0, MM.ixf1, MM.fr_int, MM.dEq_fr, MM.dEq_fr2, beq_self_eq_true, List.isEmpty_nil, Option.isNone_none, Option.isNone_some, Bool.and_true, Bool.and_false, Bool.true_and, Bool.false_and, mPut, okU, mFor, mIt, MM.itD_lst, MM.itD_frl, MM.itD_tup, mTgN, aft, loopF, if_false, MM.dInt_int, mSM1, sm1K, MM.dS1, mSl, mPart, MM.dSl_s, MM.dEq_s, MM.dNe_s, MM.itD_s, mAsgT, mTgT, mTgs, hz', mLc, cmp, backE, ne, di, ds, hs, decide_true]
        rfl
      · rw [if_neg hs] at e2
        subst e2
        simp -implicitDefEqProofs only [mRet, mRetN, mCall, mA1, mA0, mAr, mArS, mOp2, mOp1, mNm, nmS, mC, mDrop, ↓R.to_bd, R.bd_ok, R.bd_er, R.bd_no, List.getElem?_cons_zero, List.getElem?_cons_succ, pop2, pk, Option.bind_some, Option.bind_none, Sl.pk, MM.dIx_lst, MM.dIx_frl, MM.dIx_tup, MM.atI0, MM.atI1, MM.atI2, Option.map_some, Option.map_none, MM.dAdd_int, MM.dSub_int, MM.dLt_int, MM.dGt_int, MM.dLe_int, MM.dGe_int, MM.dEq_int, MM.dEq_bl, MM.dNe_bl, MM.dNe_int, dNeg, MM.dAbs_int, MM.dInt_int, dIsi, chkS, callS, slsOf, slOf, pickL, Src.at, List.map_cons, List.map_nil, List.getD_cons_zero, List.getD_cons_succ, List.length_cons, List.length_nil, and_self, if_true, mvs, List.filterMap, Ar.ix, List.nodup_nil, List.map_nil, back, backS, mDefR, retT, outsOf, outS, List.head?_cons, List.tail_cons, mSeq, mSet, mNext, mIf, mTb, tkB, mNot, mNotV, mIfE, mAndT, mOrT, mAnd, mOr, asg, asgS, asgT, frc, frcS, List.set_cons_zero, List.set_cons_succ, ↓to_cd, cd_t, cd_f, Bool.not_true, Bool.not_false, List.cons_append, List.nil_append, List.append_nil, List.replicate, mLst, mTup, dsOf, mPar, mMake, chkM, mkS, mkR, mFldSet, mutT, mutS, mProp, propR, arD, ownOp, ownNe, MM.ownBin_def, MM.nbOk_q, MM.nbOk_i, notR, mMeth, mNegO, mCB, Nat.zero_add, Nat.reduceAdd, Nat.reduceLeDiff, Nat.not_lt_zero, List.length_cons, List.length_nil, MM.nodup1, MM.fp1, MM.fp2, MM.fl1, MM.fl2, MM.rv1, MM.rv2, MM.rv3, MM.rv4, MM.rv5, MM.rv6, MM.rv7, MM.rv8, MM.rv9, MM.rv10, MM.in1, MM.in2, MM.ok1, MM.ok2, MM.gc1, MM.gc2, MM.gt1, MM.gt2, MM.gt3, MM.gt4, MM.ixf0, MM.ixf1, MM.fr_int, MM.dEq_fr, MM.dEq_fr2, beq_self_eq_true, List.isEmpty_nil, Option.isNone_none, Option.isNone_some, Bool.and_true, Bool.and_false, Bool.true_and, Bool.false_and, mPut, okU, mFor, mIt, MM.itD_lst, MM.itD_frl, MM.itD_tup, mTgN, aft, loopF, if_false, MM.dInt_int, mSM1, sm1K, MM.dS1, mSl, mPart, MM.dSl_s, MM.dEq_s, MM.dNe_s, MM.itD_s, mAsgT, mTgT, mTgs, hz', mLc, cmp, backE, ne, di, ds, hs, decide_false]
        rfl
    · have hx0 := hn (.inr ha)
      subst hx0
      have hf : ((tl dg).filter (fun c => !isD c)).map (fun c => (⟨#[c]⟩ : Str)) ≠ [] := by
        intro e
        apply ha
        have e2 := List.map_eq_nil_iff.mp e
        rw [List.filter_eq_nil_iff] at e2
        intro c hc
        have := e2 c hc
        simpa [isD] using this
      have hf2 : (((tl dg).filter (fun c => !isD c)).map (fun c => (⟨#[c]⟩ : Str))).isEmpty = false := by simpa using hf
      rw [hf2] at ne
      simp -implicitDefEqProofs only [mRet, mRetN, mCall, mA1, mA0, mAr, mArS, mOp2, mOp1, mNm, nmS, mC, mDrop, ↓R.to_bd, R.bd_ok, R.bd_er, R.bd_no, List.getElem?_cons_zero, List.getElem?_cons_succ, pop2, pk, Option.bind_some, Option.bind_none, Sl.pk, MM.dIx_lst, MM.dIx_frl, MM.dIx_tup, MM.atI0, MM.atI1, MM.atI2, Option.map_some, Option.map_none, MM.dAdd_int, MM.dSub_int, MM.dLt_int, MM.dGt_int, MM.dLe_int, MM.dGe_int, MM.dEq_int, MM.dEq_bl, MM.dNe_bl, MM.dNe_int, dNeg, MM.dAbs_int, MM.dInt_int, dIsi, chkS, callS, slsOf, slOf, pickL, Src.at, List.map_cons, List.map_nil, List.getD_cons_zero, List.getD_cons_succ, List.length_cons, List.length_nil, and_self, if_true, mvs, List.filterMap, Ar.ix, List.nodup_nil, List.map_nil, back, backS, mDefR, retT, outsOf, outS, List.head?_cons, List.tail_cons, mSeq, mSet, mNext, mIf, mTb, tkB, mNot, mNotV, mIfE, mAndT, mOrT, mAnd, mOr, asg, asgS, asgT, frc, frcS, List.set_cons_zero, List.set_cons_succ, ↓to_cd, cd_t, cd_f, Bool.not_true, Bool.not_false, List.cons_append, List.nil_append, List.append_nil, List.replicate, mLst, mTup, dsOf, mPar, mMake, chkM, mkS, mkR, mFldSet, mutT, mutS, mProp, propR, arD, ownOp, ownNe, MM.ownBin_def, MM.nbOk_q, MM.nbOk_i, notR, mMeth, mNegO, mCB, Nat.zero_add, Nat.reduceAdd, Nat.reduceLeDiff, Nat.not_lt_zero, List.length_cons, List.length_nil, MM.nodup1, MM.fp1, MM.fp2, MM.fl1, MM.fl2, MM.rv1, MM.rv2, MM.rv3, MM.rv4, MM.rv5, MM.rv6, MM.rv7, MM.rv8, MM.rv9, MM.rv10, MM.in1, MM.in2, MM.ok1, MM.ok2, MM.gc1, MM.gc2, MM.gt1, MM.gt2, MM.gt3, MM.gt4, MM.ixf0, MM.ixf1, MM.fr_int, MM.dEq_fr, MM.dEq_fr2, beq_self_eq_true, List.isEmpty_nil, Option.isNone_none, Option.isNone_some, Bool.and_true, Bool.and_false, Bool.true_and, Bool.false_and, mPut, okU, mFor, mIt, MM.itD_lst, MM.itD_frl, MM.itD_tup, mTgN, aft, loopF, if_false, MM.dInt_int, mSM1, sm1K, MM.dS1, mSl, mPart, MM.dSl_s, MM.dEq_s, MM.dNe_s, MM.itD_s, mAsgT, mTgT, mTgs, hz', mLc, cmp, backE, ne]
      rfl
end
end K03

set_option Elab.async false
set_option linter.all false
set_option maxRecDepth 100000
set_option maxHeartbeats 4000000
set_option exponentiation.threshold 3000
namespace MM
open PySem PySem.Spec PyProof.Rows L2 PySem.NumText TL
theorem mSeq_nx {g h : En → R Fl} {e e1 : En} {r : R Fl} (h1 : g e = .ok .nx e1) (h2 : h e1 = r) : mSeq g h e = r := by
  unfold mSeq
  rw [h1]
  exact h2
theorem val_lt : ∀ (n : Nat) (l : List Nat), l.length = n → AllDigits l → digitsVal l < 10 ^ l.length := by
  intro n
  induction n with
  | zero => intro l h _; have : l = [] := List.eq_nil_of_length_eq_zero h; subst this; decide
  | succ n ih =>
    intro l hl hd
    obtain ⟨l', z, rfl⟩ : ∃ l' z, l = l' ++ [z] := ⟨l.dropLast, l.getLast (by intro e; rw [e] at hl; cases hl), (List.dropLast_concat_getLast _).symm⟩
    have h1 : l'.length = n := by rw [List.length_append] at hl; simpa using hl
    have i := ih l' h1 fun c hc => hd c (by simp [hc])
    have hz := hd z (by simp)
    rw [val_app, List.length_append]
    show _ < 10 ^ (l'.length + 1)
    rw [Nat.pow_succ]
    omega
theorem cv_int {w : Str} {i : Int} (hw : w.length ≤ 640) (h : intText? w = some i) : cv w = if st i = w then some i else none := by
  by_cases e : st i = w
  · rw [if_pos e, ← e, cv_st]
  · rw [if_neg e]
    apply cv_none
    intro j ej
    apply e
    have := int_st j (by rw [← ej]; exact hw)
    rw [← ej, h] at this
    cases this
    exact ej.symm
theorem st_tl_neg {i : Int} (h : i < 0) : tl (st i) = 45 :: numL i.natAbs := by rw [tl_st, if_pos h]
theorem st_tl_nn {i : Int} (h : ¬ i < 0) : tl (st i) = numL i.natAbs := by rw [tl_st, if_neg h]
theorem big400 {l : List Nat} (h : AllDigits l) (hl : l.length ≤ 400) : digitsVal l < 2 ^ 1900 :=
  Nat.lt_of_lt_of_le (val_lt _ l rfl h) (Nat.le_trans (Nat.pow_le_pow_right (by decide) hl) (Nat.le_trans (pow10 400) (Nat.pow_le_pow_right (by decide) (by decide))))
theorem tl_slash : tl ("/" : Str) = [47] := by decide +kernel
theorem split_0 {a : Str} (h : 47 ∉ tl a) : Txt.split a "/" = [a] := by
  apply map_tl_inj
  rw [split_spl a "/" (by rw [tl_slash]; simp) (kind_ok (by decide +kernel)), tl_slash, spl_last1 h]
  rfl
theorem split_1 {a b : Str} (h : 47 ∉ tl a) : Txt.split (a ++ "/" ++ b) "/" = a :: Txt.split b "/" := by
  apply map_tl_inj
  rw [split_spl _ "/" (by rw [tl_slash]; simp) (kind_ok (by decide +kernel)), List.map_cons, split_spl b "/" (by rw [tl_slash]; simp) (kind_ok (by decide +kernel)), tl_slash, tl_append, tl_append, tl_slash, List.append_assoc, spl_part1 h]
  rfl
theorem has_slash {s : Str} (h : 47 ∈ tl s) : ∃ a b, 47 ∉ tl a ∧ s = a ++ "/" ++ b := by
  obtain ⟨p, q, e, hp⟩ := List.eq_append_cons_of_mem h
  refine ⟨⟨p.toArray⟩, ⟨q.toArray⟩, hp, ext_tl ?_⟩
  rw [tl_append, tl_append, tl_slash, tl_mk, tl_mk]
  show tl s = _
  rw [e]
  simp
theorem part_inj {a b a' b' : Str} (h : 47 ∉ tl a) (h' : 47 ∉ tl a') (e : a ++ "/" ++ b = a' ++ "/" ++ b') : a = a' ∧ b = b' := by
  have e1 := partition_app (y := "/") (s := 47) (S := []) tl_slash (b := b) h
  have e2 := partition_app (y := "/") (s := 47) (S := []) tl_slash (b := b') h'
  rw [e, e2] at e1
  injection e1 with e3 e4
  injection e4 with _ e5
  exact ⟨e3.symm, e5.symm⟩
theorem st_no47 (i : Int) : 47 ∉ tl (st i) := by
  rw [tl_st]
  have := numL_free (n := i.natAbs) (s := 47) (.inl (by decide))
  split
  · intro h
    rcases List.mem_cons.mp h with h | h
    · cases h
    · exact this h
  · exact this
/-- the text of a quotient -/
def txt (q : Rat) : Str := if q.den = 1 then st q.num else st q.num ++ "/" ++ st (q.den : Int)
theorem acc_iff (s : Str) : (s = "0" ∨ isC (Txt.removeprefix s "-") = true) ↔ ∃ i, s = st i := by
  have e0 : st 0 = "0" := rfl
  constructor
  · rintro (h | h)
    · exact ⟨0, by rw [h, e0]⟩
    · obtain ⟨n, hn, e⟩ := isC_some h
      have et := congrArg tl e
      rw [rem_st, tl_st_nat] at et
      cases hs : tl s with
      | nil => rw [hs] at et; exact absurd et.symm (numL_ne n)
      | cons c l =>
        by_cases hc : c = 45
        · subst hc
          rw [hs] at et
          exact ⟨_, cv_neg hs hn et⟩
        · refine ⟨n, ext_tl ?_⟩
          rw [tl_st_nat, ← et, hs]
          split
          · rename_i e2; cases e2; exact absurd rfl hc
          · rfl
  · rintro ⟨i, rfl⟩
    by_cases h0 : i = 0
    · subst h0; exact .inl e0
    · right
      by_cases hi : i < 0
      · have et := st_tl_neg hi
        have : Txt.removeprefix (st i) "-" = st (i.natAbs : Int) := ext_tl (by rw [rem_st, et, tl_st_nat]; rfl)
        rw [this]
        exact isC_st (by omega)
      · have et := st_tl_nn hi
        obtain ⟨n, rfl⟩ : ∃ n : Nat, i = n := ⟨i.natAbs, by omega⟩
        have : Txt.removeprefix (st (n : Int)) "-" = st (n : Int) := ext_tl (by
          rw [rem_st, tl_st_nat]
          split
          · rename_i l e2
            exact absurd (show 45 ∈ numL n by rw [e2]; simp) (numL_no45 n)
          · rfl)
        rw [this]
        exact isC_st (by omega)
end MM
namespace K03
open PySem PySem.Spec PyProof.Rows L2 MM TL PySem.NumText
noncomputable section
theorem whole_ {w : Str} (hw : w.length ≤ 400) (hk : OkS w) : m_law_whole [.sh (.str w)] = .ok (.val (oi (cv w))) [.no] := by
  show mDefR _ (b_law_whole [.sh (.str w), .no, .no]) = _
  have fin : ∀ dg : Str, dg.length ≤ 500 → OkS dg → (tl dg = [] ∨ (¬ AllDigits (tl dg)) → cv w = none) → (tl dg ≠ [] → AllDigits (tl dg) → ∃ i, i.natAbs < 2 ^ 1900 ∧ intText? w = some i ∧ (cv w = if st i = w then some i else none)) →
      (mSet 1 (mIfE (mTb (mOp2 (mSl (mNm 0) (mPart none) (mPart (some (mC (.int 1))))) (mC (.str "-")) (pop2 dEq))) (mSl (mNm 0) (mPart (some (mC (.int 1)))) (mPart none)) (mNm 0))) [.sh (.str w), .no, .no] = .ok .nx [.sh (.str w), .sh (.str dg), .no] → mDefR [.sh (.str w)] (b_law_whole [.sh (.str w), .no, .no]) = .ok (.val (oi (cv w))) [.no] := by
    intro dg h1 h2 h3 h4 h5
    have := whole_rest (by omega) h2 h1 rfl h3 h4
    unfold b_law_whole
    rw [mSeq_nx h5 this]
    rfl
  have hs := dSl_s (s := w) (by omega)
  by_cases hc : (tl w).take 1 = [45]
  · obtain ⟨ds, eds⟩ : ∃ ds, tl w = 45 :: ds := by
      cases e : tl w with
      | nil => rw [e] at hc; cases hc
      | cons c l => rw [e] at hc; simp at hc; exact ⟨l, by rw [hc]⟩
    have et : tl (cutS w (some 1) none) = ds := by rw [tl_cut2, eds]; rfl
    refine fin (cutS w (some 1) none) (Nat.le_trans (cutS_length w (some 1) none) (by omega)) (fun c h => hk c (by rw [eds]; rw [et] at h; exact List.mem_cons_of_mem _ h)) (fun h => ?_) (fun h1 h2 => ?_) ?_
    · rw [et] at h
      apply cv_none
      intro i ei
      have e2 := eds
      rw [ei] at e2
      by_cases hi : i < 0
      · rw [st_tl_neg hi] at e2
        have e3 := (List.cons.inj e2).2
        rcases h with h | h
        · rw [h] at e3; exact numL_ne _ e3
        · rw [← e3] at h; exact h (numL_digits _)
      · rw [st_tl_nn hi] at e2
        exact numL_no45 i.natAbs (by rw [e2]; simp)
    · rw [et] at h1 h2
      have hl : w.length = ds.length + 1 := by rw [len_tl, eds]; rfl
      have hi := intText_neg (x := w) eds h2 h1 (by omega)
      exact ⟨_, by rw [Int.natAbs_neg, Int.natAbs_natCast]; exact big400 h2 (by omega), hi, cv_int (by omega) hi⟩
    · have d1 : decide (cutS w none (some 1) = ("-" : Str)) = true := by rw [dec_cut1, hc]; rfl
      simp -implicitDefEqProofs only [mRet, mRetN, mCall, mA1, mA0, mAr, mArS, mOp2, mOp1, mNm, nmS, mC, mDrop, ↓R.to_bd, R.bd_ok, R.bd_er, R.bd_no, List.getElem?_cons_zero, List.getElem?_cons_succ, pop2, pk, Option.bind_some, Option.bind_none, Sl.pk, MM.dIx_lst, MM.dIx_frl, MM.dIx_tup, MM.atI0, MM.atI1, MM.atI2, Option.map_some, Option.map_none, MM.dAdd_int, MM.dSub_int, MM.dLt_int, MM.dGt_int, MM.dLe_int, MM.dGe_int, MM.dEq_int, MM.dEq_bl, MM.dNe_bl, MM.dNe_int, dNeg, MM.dAbs_int, MM.dInt_int, dIsi, chkS, callS, slsOf, slOf, pickL, Src.at, List.map_cons, List.map_nil, List.getD_cons_zero, List.getD_cons_succ, List.length_cons, List.length_nil, and_self, if_true, mvs, List.filterMap, Ar.ix, List.nodup_nil, List.map_nil, back, backS, mDefR, retT, outsOf, outS, List.head?_cons, List.tail_cons, mSeq, mSet, mNext, mIf, mTb, tkB, mNot, mNotV, mIfE, mAndT, mOrT, mAnd, mOr, asg, asgS, asgT, frc, frcS, List.set_cons_zero, List.set_cons_succ, ↓to_cd, cd_t, cd_f, Bool.not_true, Bool.not_false, List.cons_append, List.nil_append, List.append_nil, List.replicate, mLst, mTup, dsOf, mPar, mMake, chkM, mkS, mkR, mFldSet, mutT, mutS, mProp, propR, arD, ownOp, ownNe, MM.ownBin_def, MM.nbOk_q, MM.nbOk_i, notR, mMeth, mNegO, mCB, Nat.zero_add, Nat.reduceAdd, Nat.reduceLeDiff, Nat.not_lt_zero, List.length_cons, List.length_nil, MM.nodup1, MM.fp1, MM.fp2, MM.fl1, MM.fl2, MM.rv1, MM.rv2, MM.rv3, MM.rv4, MM.rv5, MM.rv6, MM.rv7, MM.rv8, MM.rv9, MM.rv10, MM.in1, MM.in2, MM.ok1, MM.ok2, MM.gc1, MM.gc2, MM.gt1, MM.gt2, MM.gt3, MM.gt4, MM.ixf0, MM.ixf1, MM.fr_int, MM.dEq_fr, MM.dEq_fr2, beq_self_eq_true, List.isEmpty_nil, Option.isNone_none, Option.isNone_some, Bool.and_true, Bool.and_false, Bool.true_and, Bool.false_and, mPut, okU, mFor, mIt, MM.itD_lst, MM.itD_frl, MM.itD_tup, mTgN, aft, loopF, if_false, MM.dInt_int, mSM1, sm1K, MM.dS1, mSl, mPart, MM.dSl_s, MM.dEq_s, MM.dNe_s, MM.itD_s, mAsgT, mTgT, mTgs, hs, d1]
  · have d1 : decide (cutS w none (some 1) = ("-" : Str)) = false := by rw [dec_cut1]; simpa using hc
    refine fin w (by omega) hk (fun h => ?_) (fun h1 h2 => ?_) ?_
    · apply cv_none
      intro i ei
      by_cases hi : i < 0
      · rw [ei, st_tl_neg hi] at hc
        exact hc rfl
      · rw [ei, st_tl_nn hi] at h
        rcases h with h | h
        · exact numL_ne _ h
        · exact h (numL_digits _)
    · have hi := intText_digits (x := w) h2 h1 (by omega)
      exact ⟨_, by rw [Int.natAbs_natCast]; exact big400 h2 (by rw [← len_tl]; exact hw), hi, cv_int (by omega) hi⟩
    · simp -implicitDefEqProofs only [mRet, mRetN, mCall, mA1, mA0, mAr, mArS, mOp2, mOp1, mNm, nmS, mC, mDrop, ↓R.to_bd, R.bd_ok, R.bd_er, R.bd_no, List.getElem?_cons_zero, List.getElem?_cons_succ, pop2, pk, Option.bind_some, Option.bind_none, Sl.pk, MM.dIx_lst, MM.dIx_frl, MM.dIx_tup, MM.atI0, MM.atI1, MM.atI2, Option.map_some, Option.map_none, MM.dAdd_int, MM.dSub_int, MM.dLt_int, MM.dGt_int, MM.dLe_int, MM.dGe_int, MM.dEq_int, MM.dEq_bl, MM.dNe_bl, MM.dNe_int, dNeg, MM.dAbs_int, MM.dInt_int, dIsi, chkS, callS, slsOf, slOf, pickL, Src.at, List.map_cons, List.map_nil, List.getD_cons_zero, List.getD_cons_succ, List.length_cons, List.length_nil, and_self, if_true, mvs, List.filterMap, Ar.ix, List.nodup_nil, List.map_nil, back, backS, mDefR, retT, outsOf, outS, List.head?_cons, List.tail_cons, mSeq, mSet, mNext, mIf, mTb, tkB, mNot, mNotV, mIfE, mAndT, mOrT, mAnd, mOr, asg, asgS, asgT, frc, frcS, List.set_cons_zero, List.set_cons_succ, ↓to_cd, cd_t, cd_f, Bool.not_true, Bool.not_false, List.cons_append, List.nil_append, List.append_nil, List.replicate, mLst, mTup, dsOf, mPar, mMake, chkM, mkS, mkR, mFldSet, mutT, mutS, mProp, propR, arD, ownOp, ownNe, MM.ownBin_def, MM.nbOk_q, MM.nbOk_i, notR, mMeth, mNegO, mCB, Nat.zero_add, Nat.reduceAdd, Nat.reduceLeDiff, Nat.not_lt_zero, List.length_cons, List.length_nil, MM.nodup1, MM.fp1, MM.fp2, MM.fl1, MM.fl2, MM.rv1, MM.rv2, MM.rv3, MM.rv4, MM.rv5, MM.rv6, MM.rv7, MM.rv8, MM.rv9, MM.rv10, MM.in1, MM.in2, MM.ok1, MM.ok2, MM.gc1, MM.gc2, MM.gt1, MM.gt2, MM.gt3, MM.gt4, MM.ixf0, MM.ixf1, MM.fr_int, MM.dEq_fr, MM.dEq_fr2, beq_self_eq_true, List.isEmpty_nil, Option.isNone_none, Option.isNone_some, Bool.and_true, Bool.and_false, Bool.true_and, Bool.false_and, mPut, okU, mFor, mIt, MM.itD_lst, MM.itD_frl, MM.itD_tup, mTgN, aft, loopF, if_false, MM.dInt_int, mSM1, sm1K, MM.dS1, mSl, mPart, MM.dSl_s, MM.dEq_s, MM.dNe_s, MM.itD_s, mAsgT, mTgT, mTgs, hs, d1]
theorem counting_ (w : Str) : m_is_counting [.sh (.str w)] = .ok (.val (.bl (isC w))) [.no] := by
  show mDefR _ (b_is_counting _) = _
  unfold isC
  cases h1 : Txt.isascii w with
  | false => simp -implicitDefEqProofs only [mRet, mRetN, mCall, mA1, mA0, mAr, mArS, mOp2, mOp1, mNm, nmS, mC, mDrop, ↓R.to_bd, R.bd_ok, R.bd_er, R.bd_no, List.getElem?_cons_zero, List.getElem?_cons_succ, pop2, pk, Option.bind_some, Option.bind_none, Sl.pk, MM.dIx_lst, MM.dIx_frl, MM.dIx_tup, MM.atI0, MM.atI1, MM.atI2, Option.map_some, Option.map_none, MM.dAdd_int, MM.dSub_int, MM.dLt_int, MM.dGt_int, MM.dLe_int, MM.dGe_int, MM.dEq_int, MM.dEq_bl, MM.dNe_bl, MM.dNe_int, dNeg, MM.dAbs_int, MM.dInt_int, dIsi, chkS, callS, slsOf, slOf, pickL, Src.at, List.map_cons, List.map_nil, List.getD_cons_zero, List.getD_cons_succ, List.length_cons, List.length_nil, and_self, if_true, mvs, List.filterMap, Ar.ix, List.nodup_nil, List.map_nil, back, backS, mDefR, retT, outsOf, outS, List.head?_cons, List.tail_cons, mSeq, mSet, mNext, mIf, mTb, tkB, mNot, mNotV, mIfE, mAndT, mOrT, mAnd, mOr, asg, asgS, asgT, frc, frcS, List.set_cons_zero, List.set_cons_succ, ↓to_cd, cd_t, cd_f, Bool.not_true, Bool.not_false, List.cons_append, List.nil_append, List.append_nil, List.replicate, mLst, mTup, dsOf, mPar, mMake, chkM, mkS, mkR, mFldSet, mutT, mutS, mProp, propR, arD, ownOp, ownNe, MM.ownBin_def, MM.nbOk_q, MM.nbOk_i, notR, mMeth, mNegO, mCB, Nat.zero_add, Nat.reduceAdd, Nat.reduceLeDiff, Nat.not_lt_zero, List.length_cons, List.length_nil, MM.nodup1, MM.fp1, MM.fp2, MM.fl1, MM.fl2, MM.rv1, MM.rv2, MM.rv3, MM.rv4, MM.rv5, MM.rv6, MM.rv7, MM.rv8, MM.rv9, MM.rv10, MM.in1, MM.in2, MM.ok1, MM.ok2, MM.gc1, MM.gc2, MM.gt1, MM.gt2, MM.gt3, MM.gt4, MM.ixf0, MM.ixf1, MM.fr_int, MM.dEq_fr, MM.dEq_fr2, beq_self_eq_true, List.isEmpty_nil, Option.isNone_none, Option.isNone_some, Bool.and_true, Bool.and_false, Bool.true_and, Bool.false_and, mPut, okU, mFor, mIt, MM.itD_lst, MM.itD_frl, MM.itD_tup, mTgN, aft, loopF, if_false, MM.dInt_int, mSM1, sm1K, MM.dS1, mSl, mPart, MM.dSl_s, MM.dEq_s, MM.dNe_s, MM.itD_s, mAsgT, mTgT, mTgs, b_is_counting, dIsascii, dIsdigit, dStarts, h1]
  | true =>
    cases h2 : Txt.isdigit w with
    | false => simp -implicitDefEqProofs only [mRet, mRetN, mCall, mA1, mA0, mAr, mArS, mOp2, mOp1, mNm, nmS, mC, mDrop, ↓R.to_bd, R.bd_ok, R.bd_er, R.bd_no, List.getElem?_cons_zero, List.getElem?_cons_succ, pop2, pk, Option.bind_some, Option.bind_none, Sl.pk, MM.dIx_lst, MM.dIx_frl, MM.dIx_tup, MM.atI0, MM.atI1, MM.atI2, Option.map_some, Option.map_none, MM.dAdd_int, MM.dSub_int, MM.dLt_int, MM.dGt_int, MM.dLe_int, MM.dGe_int, MM.dEq_int, MM.dEq_bl, MM.dNe_bl, MM.dNe_int, dNeg, MM.dAbs_int, MM.dInt_int, dIsi, chkS, callS, slsOf, slOf, pickL, Src.at, List.map_cons, List.map_nil, List.getD_cons_zero, List.getD_cons_succ, List.length_cons, List.length_nil, and_self, if_true, mvs, List.filterMap, Ar.ix, List.nodup_nil, List.map_nil, back, backS, mDefR, retT, outsOf, outS, List.head?_cons, List.tail_cons, mSeq, mSet, mNext, mIf, mTb, tkB, mNot, mNotV, mIfE, mAndT, mOrT, mAnd, mOr, asg, asgS, asgT, frc, frcS, List.set_cons_zero, List.set_cons_succ, ↓to_cd, cd_t, cd_f, Bool.not_true, Bool.not_false, List.cons_append, List.nil_append, List.append_nil, List.replicate, mLst, mTup, dsOf, mPar, mMake, chkM, mkS, mkR, mFldSet, mutT, mutS, mProp, propR, arD, ownOp, ownNe, MM.ownBin_def, MM.nbOk_q, MM.nbOk_i, notR, mMeth, mNegO, mCB, Nat.zero_add, Nat.reduceAdd, Nat.reduceLeDiff, Nat.not_lt_zero, List.length_cons, List.length_nil, MM.nodup1, MM.fp1, MM.fp2, MM.fl1, MM.fl2, MM.rv1, MM.rv2, MM.rv3, MM.rv4, MM.rv5, MM.rv6, MM.rv7, MM.rv8, MM.rv9, MM.rv10, MM.in1, MM.in2, MM.ok1, MM.ok2, MM.gc1, MM.gc2, MM.gt1, MM.gt2, MM.gt3, MM.gt4, MM.ixf0, MM.ixf1, MM.fr_int, MM.dEq_fr, MM.dEq_fr2, beq_self_eq_true, List.isEmpty_nil, Option.isNone_none, Option.isNone_some, Bool.and_true, Bool.and_false, Bool.true_and, Bool.false_and, mPut, okU, mFor, mIt, MM.itD_lst, MM.itD_frl, MM.itD_tup, mTgN, aft, loopF, if_false, MM.dInt_int, mSM1, sm1K, MM.dS1, mSl, mPart, MM.dSl_s, MM.dEq_s, MM.dNe_s, MM.itD_s, mAsgT, mTgT, mTgs, b_is_counting, dIsascii, dIsdigit, dStarts, h1, h2]
    | true => simp -implicitDefEqProofs only [mRet, mRetN, mCall, mA1, mA0, mAr, mArS, mOp2, mOp1, mNm, nmS, mC, mDrop, ↓R.to_bd, R.bd_ok, R.bd_er, R.bd_no, List.getElem?_cons_zero, List.getElem?_cons_succ, pop2, pk, Option.bind_some, Option.bind_none, Sl.pk, MM.dIx_lst, MM.dIx_frl, MM.dIx_tup, MM.atI0, MM.atI1, MM.atI2, Option.map_some, Option.map_none, MM.dAdd_int, MM.dSub_int, MM.dLt_int, MM.dGt_int, MM.dLe_int, MM.dGe_int, MM.dEq_int, MM.dEq_bl, MM.dNe_bl, MM.dNe_int, dNeg, MM.dAbs_int, MM.dInt_int, dIsi, chkS, callS, slsOf, slOf, pickL, Src.at, List.map_cons, List.map_nil, List.getD_cons_zero, List.getD_cons_succ, List.length_cons, List.length_nil, and_self, if_true, mvs, List.filterMap, Ar.ix, List.nodup_nil, List.map_nil, back, backS, mDefR, retT, outsOf, outS, List.head?_cons, List.tail_cons, mSeq, mSet, mNext, mIf, mTb, tkB, mNot, mNotV, mIfE, mAndT, mOrT, mAnd, mOr, asg, asgS, asgT, frc, frcS, List.set_cons_zero, List.set_cons_succ, ↓to_cd, cd_t, cd_f, Bool.not_true, Bool.not_false, List.cons_append, List.nil_append, List.append_nil, List.replicate, mLst, mTup, dsOf, mPar, mMake, chkM, mkS, mkR, mFldSet, mutT, mutS, mProp, propR, arD, ownOp, ownNe, MM.ownBin_def, MM.nbOk_q, MM.nbOk_i, notR, mMeth, mNegO, mCB, Nat.zero_add, Nat.reduceAdd, Nat.reduceLeDiff, Nat.not_lt_zero, List.length_cons, List.length_nil, MM.nodup1, MM.fp1, MM.fp2, MM.fl1, MM.fl2, MM.rv1, MM.rv2, MM.rv3, MM.rv4, MM.rv5, MM.rv6, MM.rv7, MM.rv8, MM.rv9, MM.rv10, MM.in1, MM.in2, MM.ok1, MM.ok2, MM.gc1, MM.gc2, MM.gt1, MM.gt2, MM.gt3, MM.gt4, MM.ixf0, MM.ixf1, MM.fr_int, MM.dEq_fr, MM.dEq_fr2, beq_self_eq_true, List.isEmpty_nil, Option.isNone_none, Option.isNone_some, Bool.and_true, Bool.and_false, Bool.true_and, Bool.false_and, mPut, okU, mFor, mIt, MM.itD_lst, MM.itD_frl, MM.itD_tup, mTgN, aft, loopF, if_false, MM.dInt_int, mSM1, sm1K, MM.dS1, mSl, mPart, MM.dSl_s, MM.dEq_s, MM.dNe_s, MM.itD_s, mAsgT, mTgT, mTgs, b_is_counting, dIsascii, dIsdigit, dStarts, h1, h2]
theorem text_ {q : Rat} (h1 : q.num.natAbs < 2 ^ 1900) (h2 : q.den < 2 ^ 1900) (h3 : (st q.num).length ≤ 1000) (h4 : (st (q.den : Int)).length ≤ 1000) : m_Ratio_text [.sh (rt q)] = .ok (.val (.str (txt q))) [.no] := by
  have a1 := dStr_b h1
  have a2 := dFmt_b h1
  have a3 := dFmt_b (i := (q.den : Int)) (by rw [Int.natAbs_natCast]; exact h2)
  show mDefR _ (b_Ratio_text _) = _
  unfold txt
  by_cases hd : q.den = 1
  · have hd' : decide ((q.den : Int) = 1) = true := decide_eq_true (by omega)
    rw [if_pos hd]
    simp -implicitDefEqProofs only [mRet, mRetN, mCall, mA1, mA0, mAr, mArS, mOp2, mOp1, mNm, nmS, mC, mDrop, ↓R.to_bd, R.bd_ok, R.bd_er, R.bd_no, List.getElem?_cons_zero, List.getElem?_cons_succ, pop2, pk, Option.bind_some, Option.bind_none, Sl.pk, MM.dIx_lst, MM.dIx_frl, MM.dIx_tup, MM.atI0, MM.atI1, MM.atI2, Option.map_some, Option.map_none, MM.dAdd_int, MM.dSub_int, MM.dLt_int, MM.dGt_int, MM.dLe_int, MM.dGe_int, MM.dEq_int, MM.dEq_bl, MM.dNe_bl, MM.dNe_int, dNeg, MM.dAbs_int, MM.dInt_int, dIsi, chkS, callS, slsOf, slOf, pickL, Src.at, List.map_cons, List.map_nil, List.getD_cons_zero, List.getD_cons_succ, List.length_cons, List.length_nil, and_self, if_true, mvs, List.filterMap, Ar.ix, List.nodup_nil, List.map_nil, back, backS, mDefR, retT, outsOf, outS, List.head?_cons, List.tail_cons, mSeq, mSet, mNext, mIf, mTb, tkB, mNot, mNotV, mIfE, mAndT, mOrT, mAnd, mOr, asg, asgS, asgT, frc, frcS, List.set_cons_zero, List.set_cons_succ, ↓to_cd, cd_t, cd_f, Bool.not_true, Bool.not_false, List.cons_append, List.nil_append, List.append_nil, List.replicate, mLst, mTup, dsOf, mPar, mMake, chkM, mkS, mkR, mFldSet, mutT, mutS, mProp, propR, arD, ownOp, ownNe, MM.ownBin_def, MM.nbOk_q, MM.nbOk_i, notR, mMeth, mNegO, mCB, Nat.zero_add, Nat.reduceAdd, Nat.reduceLeDiff, Nat.not_lt_zero, List.length_cons, List.length_nil, MM.nodup1, MM.fp1, MM.fp2, MM.fl1, MM.fl2, MM.rv1, MM.rv2, MM.rv3, MM.rv4, MM.rv5, MM.rv6, MM.rv7, MM.rv8, MM.rv9, MM.rv10, MM.in1, MM.in2, MM.ok1, MM.ok2, MM.gc1, MM.gc2, MM.gt1, MM.gt2, MM.gt3, MM.gt4, MM.ixf0, MM.ixf1, MM.fr_int, MM.dEq_fr, MM.dEq_fr2, beq_self_eq_true, List.isEmpty_nil, Option.isNone_none, Option.isNone_some, Bool.and_true, Bool.and_false, Bool.true_and, Bool.false_and, mPut, okU, mFor, mIt, MM.itD_lst, MM.itD_frl, MM.itD_tup, mTgN, aft, loopF, if_false, MM.dInt_int, mSM1, sm1K, MM.dS1, mSl, mPart, MM.dSl_s, MM.dEq_s, MM.dNe_s, MM.itD_s, mAsgT, mTgT, mTgs, b_Ratio_text, hd', a1]
  · have hd' : decide ((q.den : Int) = 1) = false := decide_eq_false (by omega)
    rw [if_neg hd]
    have ea : ∀ x : Str, Str.empty ++ x = x := fun x => ext_tl (by rw [tl_append]; rfl)
    have l1 : (st q.num ++ "/").length ≤ 16777216 := by
      have e1 := len_tl (st q.num)
      rw [len_tl, tl_append, tl_slash, List.length_append]
      simp only [List.length_cons, List.length_nil]
      omega
    have l2 : (st q.num ++ "/" ++ st (q.den : Int)).length ≤ 16777216 := by
      have e1 := len_tl (st q.num)
      have e2 := len_tl (st (q.den : Int))
      rw [len_tl, tl_append, tl_append, tl_slash, List.length_append, List.length_append]
      simp only [List.length_cons, List.length_nil]
      omega
    have l0 : (st q.num).length ≤ 16777216 := by omega
    simp -implicitDefEqProofs only [mRet, mRetN, mCall, mA1, mA0, mAr, mArS, mOp2, mOp1, mNm, nmS, mC, mDrop, ↓R.to_bd, R.bd_ok, R.bd_er, R.bd_no, List.getElem?_cons_zero, List.getElem?_cons_succ, pop2, pk, Option.bind_some, Option.bind_none, Sl.pk, MM.dIx_lst, MM.dIx_frl, MM.dIx_tup, MM.atI0, MM.atI1, MM.atI2, Option.map_some, Option.map_none, MM.dAdd_int, MM.dSub_int, MM.dLt_int, MM.dGt_int, MM.dLe_int, MM.dGe_int, MM.dEq_int, MM.dEq_bl, MM.dNe_bl, MM.dNe_int, dNeg, MM.dAbs_int, MM.dInt_int, dIsi, chkS, callS, slsOf, slOf, pickL, Src.at, List.map_cons, List.map_nil, List.getD_cons_zero, List.getD_cons_succ, List.length_cons, List.length_nil, and_self, if_true, mvs, List.filterMap, Ar.ix, List.nodup_nil, List.map_nil, back, backS, mDefR, retT, outsOf, outS, List.head?_cons, List.tail_cons, mSeq, mSet, mNext, mIf, mTb, tkB, mNot, mNotV, mIfE, mAndT, mOrT, mAnd, mOr, asg, asgS, asgT, frc, frcS, List.set_cons_zero, List.set_cons_succ, ↓to_cd, cd_t, cd_f, Bool.not_true, Bool.not_false, List.cons_append, List.nil_append, List.append_nil, List.replicate, mLst, mTup, dsOf, mPar, mMake, chkM, mkS, mkR, mFldSet, mutT, mutS, mProp, propR, arD, ownOp, ownNe, MM.ownBin_def, MM.nbOk_q, MM.nbOk_i, notR, mMeth, mNegO, mCB, Nat.zero_add, Nat.reduceAdd, Nat.reduceLeDiff, Nat.not_lt_zero, List.length_cons, List.length_nil, MM.nodup1, MM.fp1, MM.fp2, MM.fl1, MM.fl2, MM.rv1, MM.rv2, MM.rv3, MM.rv4, MM.rv5, MM.rv6, MM.rv7, MM.rv8, MM.rv9, MM.rv10, MM.in1, MM.in2, MM.ok1, MM.ok2, MM.gc1, MM.gc2, MM.gt1, MM.gt2, MM.gt3, MM.gt4, MM.ixf0, MM.ixf1, MM.fr_int, MM.dEq_fr, MM.dEq_fr2, beq_self_eq_true, List.isEmpty_nil, Option.isNone_none, Option.isNone_some, Bool.and_true, Bool.and_false, Bool.true_and, Bool.false_and, mPut, okU, mFor, mIt, MM.itD_lst, MM.itD_frl, MM.itD_tup, mTgN, aft, loopF, if_false, MM.dInt_int, mSM1, sm1K, MM.dS1, mSl, mPart, MM.dSl_s, MM.dEq_s, MM.dNe_s, MM.itD_s, mAsgT, mTgT, mTgs, b_Ratio_text, hd', a2, a3, mFs, ea, l0, l1, l2]
end
end K03

set_option Elab.async false
set_option linter.all false
set_option maxRecDepth 100000
set_option maxHeartbeats 4000000
set_option exponentiation.threshold 3000
namespace MM
open PySem PySem.Spec PyProof.Rows L2 PySem.NumText TL
theorem txt_1 {q : Rat} (h : q.den = 1) : txt q = st q.num := if_pos h
theorem txt_2 {q : Rat} (h : q.den ≠ 1) : txt q = st q.num ++ "/" ++ st (q.den : Int) := if_neg h
theorem in_sl (a b : Str) : 47 ∈ tl (a ++ "/" ++ b) := by rw [tl_append, tl_append, tl_slash]; simp
theorem txt_inj {q r : Rat} (h : txt q = txt r) : q = r := by
  by_cases h1 : q.den = 1 <;> by_cases h2 : r.den = 1
  · rw [txt_1 h1, txt_1 h2] at h
    exact Rat.ext (st_inj h) (by rw [h1, h2])
  · rw [txt_1 h1, txt_2 h2] at h
    exact absurd (by rw [h]; exact in_sl _ _) (st_no47 q.num)
  · rw [txt_2 h1, txt_1 h2] at h
    exact absurd (by rw [← h]; exact in_sl _ _) (st_no47 r.num)
  · rw [txt_2 h1, txt_2 h2] at h
    obtain ⟨e1, e2⟩ := part_inj (st_no47 _) (st_no47 _) h
    have := st_inj e2
    exact Rat.ext (st_inj e1) (by omega)
open Classical in
/-- what a text tells: a quotient or nothing -/
noncomputable def dd (s : Str) : D := if h : ∃ q, s = txt q then fr h.choose else .non
theorem dd_txt (q : Rat) : dd (txt q) = fr q := by
  have h : ∃ r, txt q = txt r := ⟨q, rfl⟩
  unfold dd
  rw [dif_pos h]
  exact congrArg fr (txt_inj h.choose_spec).symm
theorem dd_none {s : Str} (h : ∀ q, s ≠ txt q) : dd s = .non := by
  unfold dd
  rw [dif_neg fun ⟨q, e⟩ => h q e]
theorem split_sub : ∀ (n : Nat) (s : Str), s.length ≤ n → ∀ w ∈ Txt.split s "/", w.length ≤ s.length ∧ ∀ c ∈ tl w, c ∈ tl s := by
  intro n
  induction n with
  | zero =>
    intro s hs w hw
    have e : tl s = [] := List.eq_nil_of_length_eq_zero (by rw [← len_tl]; omega)
    rw [split_0 (by rw [e]; simp)] at hw
    rw [List.mem_singleton.mp hw]
    exact ⟨Nat.le_refl _, fun c h => h⟩
  | succ n ih =>
    intro s hs w hw
    by_cases h : 47 ∈ tl s
    · obtain ⟨a, b, ha, rfl⟩ := has_slash h
      have hl : (a ++ "/" ++ b).length = a.length + 1 + b.length := by rw [len_tl, tl_append, tl_append, tl_slash, List.length_append, List.length_append, ← len_tl a, ← len_tl b]; rfl
      rw [split_1 ha] at hw
      rcases List.mem_cons.mp hw with rfl | hw
      · exact ⟨by omega, fun c hc => by rw [tl_append, tl_append]; simp [hc]⟩
      · obtain ⟨i1, i2⟩ := ih b (by omega) w hw
        exact ⟨by omega, fun c hc => by rw [tl_append, tl_append]; simp [i2 c hc]⟩
    · rw [split_0 h] at hw
      rw [List.mem_singleton.mp hw]
      exact ⟨Nat.le_refl _, fun c h => h⟩
theorem split_len : ∀ (n : Nat) (s : Str), s.length ≤ n → (Txt.split s "/").length ≤ s.length + 1 := by
  intro n
  induction n with
  | zero =>
    intro s hs
    have e : tl s = [] := List.eq_nil_of_length_eq_zero (by rw [← len_tl]; omega)
    rw [split_0 (by rw [e]; simp)]
    simp
  | succ n ih =>
    intro s hs
    by_cases h : 47 ∈ tl s
    · obtain ⟨a, b, ha, rfl⟩ := has_slash h
      have hl : (a ++ "/" ++ b).length = a.length + 1 + b.length := by rw [len_tl, tl_append, tl_append, tl_slash, List.length_append, List.length_append, ← len_tl a, ← len_tl b]; rfl
      rw [split_1 ha, List.length_cons]
      have := ih b (by omega)
      omega
    · rw [split_0 h]
      simp
theorem split_ne (s : Str) : Txt.split s "/" ≠ [] := by
  by_cases h : 47 ∈ tl s
  · obtain ⟨a, b, ha, rfl⟩ := has_slash h
    rw [split_1 ha]; simp
  · rw [split_0 h]; simp
theorem dSplit_s {a : Str} (h : a.length ≤ 1000) : dSplit a (.str "/") = some (.nw (.lst ((Txt.split a "/").map .str))) := by
  have e : ("/" : Str).length ≠ 0 := by decide +kernel
  simp only [dSplit]
  rw [if_pos ⟨e, by omega⟩]
theorem dPart_s {a : Str} (h : a.length ≤ 1000) : dPart a (.str "/") = some (.val (.tup [.str (Txt.partition a "/").1, .str (Txt.partition a "/").2.1, .str (Txt.partition a "/").2.2])) := by
  have e : ("/" : Str).length ≠ 0 := by decide +kernel
  simp only [dPart]
  rw [if_pos ⟨e, by omega⟩]
theorem dRemPre_s {a : Str} (h : a.length ≤ 1000) (b : Str) : dRemPre a (.str b) = some (.val (.str (Txt.removeprefix a b))) := by
  simp only [dRemPre]
  rw [if_pos (by omega)]
theorem dEq_pair (a b c d : Int) : dEq (.tup [.int a, .int b]) (.tup [.int c, .int d]) = some (.val (.bl (decide (a = c ∧ b = d)))) := by
  show (if SeqAt.shaped (.tuple [.int a, .int b]) = true ∧ SeqAt.shaped (.tuple [.int c, .int d]) = true then some (Tk.val (.bl (PyData.eqv (.tuple [.int a, .int b]) (.tuple [.int c, .int d])))) else none) = _
  rw [if_pos ⟨rfl, rfl⟩]
  have : PyData.eqv (.tuple [.int a, .int b]) (.tuple [.int c, .int d]) = decide (a = c ∧ b = d) := by
    simp only [PyData.eqv, PyData.eqvAll]
    by_cases h : a = c <;> by_cases h2 : b = d <;> simp [h, h2]
  rw [this]
theorem bt_of {i : Int} (h : (st i).length ≤ 400) : Bt 1600 i := bt_st h
end MM
namespace K03
open PySem PySem.Spec PyProof.Rows L2 MM TL PySem.NumText
noncomputable section
theorem due_l {s0 s1 : Sl} : ∀ ws : List Str, (∀ w ∈ ws, w.length ≤ 400 ∧ OkS w) → compL (mTgN 2) mYes (mCall 1 0 [.p 0] [] m_law_whole (mA1 false (mNm 2) (mA0)) (mA0)) [2] (ws.map D.str) [s0, s1, .no] = .ok (ws.map fun w => oi (cv w)) [s0, s1, .no]
  | [], _ => rfl
  | w :: ws, h => by
    have ih := due_l (s0 := s0) (s1 := s1) ws fun v hv => h v (List.mem_cons_of_mem _ hv)
    obtain ⟨h1, h2⟩ := h w (List.mem_cons_self ..)
    have e := whole_ h1 h2
    simp -implicitDefEqProofs only [mRet, mRetN, mCall, mA1, mA0, mAr, mArS, mOp2, mOp1, mNm, nmS, mC, mDrop, ↓R.to_bd, R.bd_ok, R.bd_er, R.bd_no, List.getElem?_cons_zero, List.getElem?_cons_succ, pop2, pk, Option.bind_some, Option.bind_none, Sl.pk, MM.dIx_lst, MM.dIx_frl, MM.dIx_tup, MM.atI0, MM.atI1, MM.atI2, Option.map_some, Option.map_none, MM.dAdd_int, MM.dSub_int, MM.dLt_int, MM.dGt_int, MM.dLe_int, MM.dGe_int, MM.dEq_int, MM.dEq_bl, MM.dNe_bl, MM.dNe_int, dNeg, MM.dAbs_int, MM.dInt_int, dIsi, chkS, callS, slsOf, slOf, pickL, Src.at, List.map_cons, List.map_nil, List.getD_cons_zero, List.getD_cons_succ, List.length_cons, List.length_nil, and_self, if_true, mvs, List.filterMap, Ar.ix, List.nodup_nil, List.map_nil, back, backS, mDefR, retT, outsOf, outS, List.head?_cons, List.tail_cons, mSeq, mSet, mNext, mIf, mTb, tkB, mNot, mNotV, mIfE, mAndT, mOrT, mAnd, mOr, asg, asgS, asgT, frc, frcS, List.set_cons_zero, List.set_cons_succ, ↓to_cd, cd_t, cd_f, Bool.not_true, Bool.not_false, List.cons_append, List.nil_append, List.append_nil, List.replicate, mLst, mTup, dsOf, mPar, mMake, chkM, mkS, mkR, mFldSet, mutT, mutS, mProp, propR, arD, ownOp, ownNe, MM.ownBin_def, MM.nbOk_q, MM.nbOk_i, notR, mMeth, mNegO, mCB, Nat.zero_add, Nat.reduceAdd, Nat.reduceLeDiff, Nat.not_lt_zero, List.length_cons, List.length_nil, MM.nodup1, MM.fp1, MM.fp2, MM.fl1, MM.fl2, MM.rv1, MM.rv2, MM.rv3, MM.rv4, MM.rv5, MM.rv6, MM.rv7, MM.rv8, MM.rv9, MM.rv10, MM.in1, MM.in2, MM.ok1, MM.ok2, MM.gc1, MM.gc2, MM.gt1, MM.gt2, MM.gt3, MM.gt4, MM.ixf0, MM.ixf1, MM.fr_int, MM.dEq_fr, MM.dEq_fr2, beq_self_eq_true, List.isEmpty_nil, Option.isNone_none, Option.isNone_some, Bool.and_true, Bool.and_false, Bool.true_and, Bool.false_and, mPut, okU, mFor, mIt, MM.itD_lst, MM.itD_frl, MM.itD_tup, mTgN, aft, loopF, if_false, MM.dInt_int, mSM1, sm1K, MM.dS1, mSl, mPart, MM.dSl_s, MM.dEq_s, MM.dNe_s, MM.itD_s, mAsgT, mTgT, mTgs, compL, noEr, wipeE, mYes, e, ih]
theorem due_c {s : Str} (hs : s.length ≤ 400) (hk : OkS s) : mSet 1 (mLc (mIt (mSM1 (mNm 0) (mC (.str "/")) dSplit)) (mTgN 2) (mYes) (mCall 1 0 [.p 0] [] m_law_whole (mA1 false (mNm 2) (mA0)) (mA0)) [2]) [.sh (.str s), .no, .no] = .ok .nx [.sh (.str s), .ow (.lst ((Txt.split s "/").map fun w => oi (cv w))), .no] := by
  have e := due_l (s0 := .sh (.str s)) (s1 := .no) (Txt.split s "/") fun w hw => by
    obtain ⟨a, b⟩ := split_sub _ s (Nat.le_refl _) w hw
    exact ⟨by omega, fun c hc => hk c (b c hc)⟩
  have cmp : compE (mTgN 2) mYes (mCall 1 0 [.p 0] [] m_law_whole (mA1 false (mNm 2) (mA0)) (mA0)) [2] ((Txt.split s "/").map D.str) [.sh (.str s), .no, .no] = .ok (.nw (.lst ((Txt.split s "/").map fun w => oi (cv w)))) [.sh (.str s), .no, .no] := by
    have hl : ((Txt.split s "/").map D.str).length ≤ 16777216 := by
      rw [List.length_map]
      have := split_len _ s (Nat.le_refl _)
      omega
    unfold compE
    rw [if_pos hl]
    show (compL _ _ _ _ _ [.sh (.str s), .no, .no]).bind _ = _
    rw [e]
    rfl
  have sp := dSplit_s (a := s) (by omega)
  simp -implicitDefEqProofs only [mRet, mRetN, mCall, mA1, mA0, mAr, mArS, mOp2, mOp1, mNm, nmS, mC, mDrop, ↓R.to_bd, R.bd_ok, R.bd_er, R.bd_no, List.getElem?_cons_zero, List.getElem?_cons_succ, pop2, pk, Option.bind_some, Option.bind_none, Sl.pk, MM.dIx_lst, MM.dIx_frl, MM.dIx_tup, MM.atI0, MM.atI1, MM.atI2, Option.map_some, Option.map_none, MM.dAdd_int, MM.dSub_int, MM.dLt_int, MM.dGt_int, MM.dLe_int, MM.dGe_int, MM.dEq_int, MM.dEq_bl, MM.dNe_bl, MM.dNe_int, dNeg, MM.dAbs_int, MM.dInt_int, dIsi, chkS, callS, slsOf, slOf, pickL, Src.at, List.map_cons, List.map_nil, List.getD_cons_zero, List.getD_cons_succ, List.length_cons, List.length_nil, and_self, if_true, mvs, List.filterMap, Ar.ix, List.nodup_nil, List.map_nil, back, backS, mDefR, retT, outsOf, outS, List.head?_cons, List.tail_cons, mSeq, mSet, mNext, mIf, mTb, tkB, mNot, mNotV, mIfE, mAndT, mOrT, mAnd, mOr, asg, asgS, asgT, frc, frcS, List.set_cons_zero, List.set_cons_succ, ↓to_cd, cd_t, cd_f, Bool.not_true, Bool.not_false, List.cons_append, List.nil_append, List.append_nil, List.replicate, mLst, mTup, dsOf, mPar, mMake, chkM, mkS, mkR, mFldSet, mutT, mutS, mProp, propR, arD, ownOp, ownNe, MM.ownBin_def, MM.nbOk_q, MM.nbOk_i, notR, mMeth, mNegO, mCB, Nat.zero_add, Nat.reduceAdd, Nat.reduceLeDiff, Nat.not_lt_zero, List.length_cons, List.length_nil, MM.nodup1, MM.fp1, MM.fp2, MM.fl1, MM.fl2, MM.rv1, MM.rv2, MM.rv3, MM.rv4, MM.rv5, MM.rv6, MM.rv7, MM.rv8, MM.rv9, MM.rv10, MM.in1, MM.in2, MM.ok1, MM.ok2, MM.gc1, MM.gc2, MM.gt1, MM.gt2, MM.gt3, MM.gt4, MM.ixf0, MM.ixf1, MM.fr_int, MM.dEq_fr, MM.dEq_fr2, beq_self_eq_true, List.isEmpty_nil, Option.isNone_none, Option.isNone_some, Bool.and_true, Bool.and_false, Bool.true_and, Bool.false_and, mPut, okU, mFor, mIt, MM.itD_lst, MM.itD_frl, MM.itD_tup, mTgN, aft, loopF, if_false, MM.dInt_int, mSM1, sm1K, MM.dS1, mSl, mPart, MM.dSl_s, MM.dEq_s, MM.dNe_s, MM.itD_s, mAsgT, mTgT, mTgs, mLc, sp, cmp, backE]
theorem due_ {s : Str} (hs : s.length ≤ 400) (hk : OkS s) : m_law_due [.sh (.str s)] = .ok (.val (dd s)) [.no] := by
  show mDefR _ (b_law_due [.sh (.str s), .no, .no]) = _
  have c := due_c hs hk
  have hm : ∀ ws : List Str, (ws.map fun w => oi (cv w)) = (ws.map cv).map oi := fun ws => by rw [List.map_map]; rfl
  have dn : ∀ l : List Str, dIn .non (.lst (l.map fun w => oi (cv w))) = some (.val (.bl ((l.map cv).any Option.isNone))) := fun l => by rw [hm]; exact dIn_non _
  unfold b_law_due
  refine congrArg (mDefR _) (mSeq_nx c ?_) |>.trans (b := mDefR [.sh (.str s)] (.ok (.rt (.val (dd s))) [.sh (.str s), .ow (.lst ((Txt.split s "/").map fun w => oi (cv w))), .no])) rfl
  by_cases h0 : 47 ∈ tl s
  · obtain ⟨a, b, ha, es⟩ := has_slash h0
    have hl : s.length = a.length + 1 + b.length := by rw [es, len_tl, tl_append, tl_append, tl_slash, List.length_append, List.length_append, ← len_tl a, ← len_tl b]; rfl
    have e1 : Txt.split s "/" = a :: Txt.split b "/" := by rw [es, split_1 ha]
    have nsl : ∀ i, s ≠ st i := fun i e => st_no47 i (by rw [← e]; exact h0)
    by_cases h1 : 47 ∈ tl b
    · -- three parts or more
      obtain ⟨a2, b2, ha2, eb⟩ := has_slash h1
      have e2 : Txt.split s "/" = a :: a2 :: Txt.split b2 "/" := by rw [e1, eb, split_1 ha2]
      have hd : dd s = .non := dd_none fun q e => by
        by_cases hq : q.den = 1
        · rw [txt_1 hq] at e; exact nsl _ e
        · rw [txt_2 hq, es] at e
          obtain ⟨_, z⟩ := part_inj ha (st_no47 _) e
          exact st_no47 (q.den : Int) (by rw [← z]; exact h1)
      have hlen : (2 : Int) < ((((a :: a2 :: Txt.split b2 "/").map fun w => oi (cv w)).length : Nat) : Int) := by
        rw [List.length_map, List.length_cons, List.length_cons]
        have := List.length_pos_iff.mpr (split_ne b2)
        omega
      rw [hd, e2]
      have d := dn (a :: a2 :: Txt.split b2 "/")
      cases hb : ((a :: a2 :: Txt.split b2 "/").map cv).any Option.isNone with
      | true =>
        rw [hb] at d
        generalize ((a :: a2 :: Txt.split b2 "/").map fun w => oi (cv w)) = L at *
        simp -implicitDefEqProofs only [mRet, mRetN, mCall, mA1, mA0, mAr, mArS, mOp2, mOp1, mNm, nmS, mC, mDrop, ↓R.to_bd, R.bd_ok, R.bd_er, R.bd_no, List.getElem?_cons_zero, List.getElem?_cons_succ, pop2, pk, Option.bind_some, Option.bind_none, Sl.pk, MM.dIx_lst, MM.dIx_frl, MM.dIx_tup, MM.atI0, MM.atI1, MM.atI2, Option.map_some, Option.map_none, MM.dAdd_int, MM.dSub_int, MM.dLt_int, MM.dGt_int, MM.dLe_int, MM.dGe_int, MM.dEq_int, MM.dEq_bl, MM.dNe_bl, MM.dNe_int, dNeg, MM.dAbs_int, MM.dInt_int, dIsi, chkS, callS, slsOf, slOf, pickL, Src.at, List.map_cons, List.map_nil, List.getD_cons_zero, List.getD_cons_succ, List.length_cons, List.length_nil, and_self, if_true, mvs, List.filterMap, Ar.ix, List.nodup_nil, List.map_nil, back, backS, mDefR, retT, outsOf, outS, List.head?_cons, List.tail_cons, mSeq, mSet, mNext, mIf, mTb, tkB, mNot, mNotV, mIfE, mAndT, mOrT, mAnd, mOr, asg, asgS, asgT, frc, frcS, List.set_cons_zero, List.set_cons_succ, ↓to_cd, cd_t, cd_f, Bool.not_true, Bool.not_false, List.cons_append, List.nil_append, List.append_nil, List.replicate, mLst, mTup, dsOf, mPar, mMake, chkM, mkS, mkR, mFldSet, mutT, mutS, mProp, propR, arD, ownOp, ownNe, MM.ownBin_def, MM.nbOk_q, MM.nbOk_i, notR, mMeth, mNegO, mCB, Nat.zero_add, Nat.reduceAdd, Nat.reduceLeDiff, Nat.not_lt_zero, List.length_cons, List.length_nil, MM.nodup1, MM.fp1, MM.fp2, MM.fl1, MM.fl2, MM.rv1, MM.rv2, MM.rv3, MM.rv4, MM.rv5, MM.rv6, MM.rv7, MM.rv8, MM.rv9, MM.rv10, MM.in1, MM.in2, MM.ok1, MM.ok2, MM.gc1, MM.gc2, MM.gt1, MM.gt2, MM.gt3, MM.gt4, MM.ixf0, MM.ixf1, MM.fr_int, MM.dEq_fr, MM.dEq_fr2, beq_self_eq_true, List.isEmpty_nil, Option.isNone_none, Option.isNone_some, Bool.and_true, Bool.and_false, Bool.true_and, Bool.false_and, mPut, okU, mFor, mIt, MM.itD_lst, MM.itD_frl, MM.itD_tup, mTgN, aft, loopF, if_false, MM.dInt_int, mSM1, sm1K, MM.dS1, mSl, mPart, MM.dSl_s, MM.dEq_s, MM.dNe_s, MM.itD_s, mAsgT, mTgT, mTgs, d]
      | false =>
        rw [hb] at d
        generalize ((a :: a2 :: Txt.split b2 "/").map fun w => oi (cv w)) = L at *
        simp -implicitDefEqProofs only [mRet, mRetN, mCall, mA1, mA0, mAr, mArS, mOp2, mOp1, mNm, nmS, mC, mDrop, ↓R.to_bd, R.bd_ok, R.bd_er, R.bd_no, List.getElem?_cons_zero, List.getElem?_cons_succ, pop2, pk, Option.bind_some, Option.bind_none, Sl.pk, MM.dIx_lst, MM.dIx_frl, MM.dIx_tup, MM.atI0, MM.atI1, MM.atI2, Option.map_some, Option.map_none, MM.dAdd_int, MM.dSub_int, MM.dLt_int, MM.dGt_int, MM.dLe_int, MM.dGe_int, MM.dEq_int, MM.dEq_bl, MM.dNe_bl, MM.dNe_int, dNeg, MM.dAbs_int, MM.dInt_int, dIsi, chkS, callS, slsOf, slOf, pickL, Src.at, List.map_cons, List.map_nil, List.getD_cons_zero, List.getD_cons_succ, List.length_cons, List.length_nil, and_self, if_true, mvs, List.filterMap, Ar.ix, List.nodup_nil, List.map_nil, back, backS, mDefR, retT, outsOf, outS, List.head?_cons, List.tail_cons, mSeq, mSet, mNext, mIf, mTb, tkB, mNot, mNotV, mIfE, mAndT, mOrT, mAnd, mOr, asg, asgS, asgT, frc, frcS, List.set_cons_zero, List.set_cons_succ, ↓to_cd, cd_t, cd_f, Bool.not_true, Bool.not_false, List.cons_append, List.nil_append, List.append_nil, List.replicate, mLst, mTup, dsOf, mPar, mMake, chkM, mkS, mkR, mFldSet, mutT, mutS, mProp, propR, arD, ownOp, ownNe, MM.ownBin_def, MM.nbOk_q, MM.nbOk_i, notR, mMeth, mNegO, mCB, Nat.zero_add, Nat.reduceAdd, Nat.reduceLeDiff, Nat.not_lt_zero, List.length_cons, List.length_nil, MM.nodup1, MM.fp1, MM.fp2, MM.fl1, MM.fl2, MM.rv1, MM.rv2, MM.rv3, MM.rv4, MM.rv5, MM.rv6, MM.rv7, MM.rv8, MM.rv9, MM.rv10, MM.in1, MM.in2, MM.ok1, MM.ok2, MM.gc1, MM.gc2, MM.gt1, MM.gt2, MM.gt3, MM.gt4, MM.ixf0, MM.ixf1, MM.fr_int, MM.dEq_fr, MM.dEq_fr2, beq_self_eq_true, List.isEmpty_nil, Option.isNone_none, Option.isNone_some, Bool.and_true, Bool.and_false, Bool.true_and, Bool.false_and, mPut, okU, mFor, mIt, MM.itD_lst, MM.itD_frl, MM.itD_tup, mTgN, aft, loopF, if_false, MM.dInt_int, mSM1, sm1K, MM.dS1, mSl, mPart, MM.dSl_s, MM.dEq_s, MM.dNe_s, MM.itD_s, mAsgT, mTgT, mTgs, d, dLen_lst, hlen, decide_true]
    · have e2 : Txt.split s "/" = [a, b] := by rw [e1, split_0 h1]
      rw [e2]
      have d := dn [a, b]
      have nh1 : decide ((2 : Int) < ((0 + 1 + 1 : Nat) : Int)) = false := by decide
      have nh2 : decide ((((0 + 1 + 1 : Nat) : Int)) = 1) = false := by decide
      cases ca : cv a with
      | none =>
        have hd : dd s = .non := dd_none fun q e => by
          by_cases hq : q.den = 1
          · rw [txt_1 hq] at e; exact nsl _ e
          · rw [txt_2 hq, es] at e
            obtain ⟨z, _⟩ := part_inj ha (st_no47 _) e
            rw [z, cv_st] at ca; cases ca
        rw [hd]
        simp only [List.map_cons, List.map_nil, ca, List.any_cons, Option.isNone_none, Bool.true_or, oi] at d ⊢
        simp -implicitDefEqProofs only [mRet, mRetN, mCall, mA1, mA0, mAr, mArS, mOp2, mOp1, mNm, nmS, mC, mDrop, ↓R.to_bd, R.bd_ok, R.bd_er, R.bd_no, List.getElem?_cons_zero, List.getElem?_cons_succ, pop2, pk, Option.bind_some, Option.bind_none, Sl.pk, MM.dIx_lst, MM.dIx_frl, MM.dIx_tup, MM.atI0, MM.atI1, MM.atI2, Option.map_some, Option.map_none, MM.dAdd_int, MM.dSub_int, MM.dLt_int, MM.dGt_int, MM.dLe_int, MM.dGe_int, MM.dEq_int, MM.dEq_bl, MM.dNe_bl, MM.dNe_int, dNeg, MM.dAbs_int, MM.dInt_int, dIsi, chkS, callS, slsOf, slOf, pickL, Src.at, List.map_cons, List.map_nil, List.getD_cons_zero, List.getD_cons_succ, List.length_cons, List.length_nil, and_self, if_true, mvs, List.filterMap, Ar.ix, List.nodup_nil, List.map_nil, back, backS, mDefR, retT, outsOf, outS, List.head?_cons, List.tail_cons, mSeq, mSet, mNext, mIf, mTb, tkB, mNot, mNotV, mIfE, mAndT, mOrT, mAnd, mOr, asg, asgS, asgT, frc, frcS, List.set_cons_zero, List.set_cons_succ, ↓to_cd, cd_t, cd_f, Bool.not_true, Bool.not_false, List.cons_append, List.nil_append, List.append_nil, List.replicate, mLst, mTup, dsOf, mPar, mMake, chkM, mkS, mkR, mFldSet, mutT, mutS, mProp, propR, arD, ownOp, ownNe, MM.ownBin_def, MM.nbOk_q, MM.nbOk_i, notR, mMeth, mNegO, mCB, Nat.zero_add, Nat.reduceAdd, Nat.reduceLeDiff, Nat.not_lt_zero, List.length_cons, List.length_nil, MM.nodup1, MM.fp1, MM.fp2, MM.fl1, MM.fl2, MM.rv1, MM.rv2, MM.rv3, MM.rv4, MM.rv5, MM.rv6, MM.rv7, MM.rv8, MM.rv9, MM.rv10, MM.in1, MM.in2, MM.ok1, MM.ok2, MM.gc1, MM.gc2, MM.gt1, MM.gt2, MM.gt3, MM.gt4, MM.ixf0, MM.ixf1, MM.fr_int, MM.dEq_fr, MM.dEq_fr2, beq_self_eq_true, List.isEmpty_nil, Option.isNone_none, Option.isNone_some, Bool.and_true, Bool.and_false, Bool.true_and, Bool.false_and, mPut, okU, mFor, mIt, MM.itD_lst, MM.itD_frl, MM.itD_tup, mTgN, aft, loopF, if_false, MM.dInt_int, mSM1, sm1K, MM.dS1, mSl, mPart, MM.dSl_s, MM.dEq_s, MM.dNe_s, MM.itD_s, mAsgT, mTgT, mTgs, d]
      | some n =>
        cases cb : cv b with
        | none =>
          have hd : dd s = .non := dd_none fun q e => by
            by_cases hq : q.den = 1
            · rw [txt_1 hq] at e; exact nsl _ e
            · rw [txt_2 hq, es] at e
              obtain ⟨_, z⟩ := part_inj ha (st_no47 _) e
              rw [z, cv_st] at cb; cases cb
          rw [hd]
          simp only [List.map_cons, List.map_nil, ca, cb, List.any_cons, Option.isNone_none, Option.isNone_some, Bool.true_or, Bool.or_true, Bool.false_or, oi] at d ⊢
          simp -implicitDefEqProofs only [mRet, mRetN, mCall, mA1, mA0, mAr, mArS, mOp2, mOp1, mNm, nmS, mC, mDrop, ↓R.to_bd, R.bd_ok, R.bd_er, R.bd_no, List.getElem?_cons_zero, List.getElem?_cons_succ, pop2, pk, Option.bind_some, Option.bind_none, Sl.pk, MM.dIx_lst, MM.dIx_frl, MM.dIx_tup, MM.atI0, MM.atI1, MM.atI2, Option.map_some, Option.map_none, MM.dAdd_int, MM.dSub_int, MM.dLt_int, MM.dGt_int, MM.dLe_int, MM.dGe_int, MM.dEq_int, MM.dEq_bl, MM.dNe_bl, MM.dNe_int, dNeg, MM.dAbs_int, MM.dInt_int, dIsi, chkS, callS, slsOf, slOf, pickL, Src.at, List.map_cons, List.map_nil, List.getD_cons_zero, List.getD_cons_succ, List.length_cons, List.length_nil, and_self, if_true, mvs, List.filterMap, Ar.ix, List.nodup_nil, List.map_nil, back, backS, mDefR, retT, outsOf, outS, List.head?_cons, List.tail_cons, mSeq, mSet, mNext, mIf, mTb, tkB, mNot, mNotV, mIfE, mAndT, mOrT, mAnd, mOr, asg, asgS, asgT, frc, frcS, List.set_cons_zero, List.set_cons_succ, ↓to_cd, cd_t, cd_f, Bool.not_true, Bool.not_false, List.cons_append, List.nil_append, List.append_nil, List.replicate, mLst, mTup, dsOf, mPar, mMake, chkM, mkS, mkR, mFldSet, mutT, mutS, mProp, propR, arD, ownOp, ownNe, MM.ownBin_def, MM.nbOk_q, MM.nbOk_i, notR, mMeth, mNegO, mCB, Nat.zero_add, Nat.reduceAdd, Nat.reduceLeDiff, Nat.not_lt_zero, List.length_cons, List.length_nil, MM.nodup1, MM.fp1, MM.fp2, MM.fl1, MM.fl2, MM.rv1, MM.rv2, MM.rv3, MM.rv4, MM.rv5, MM.rv6, MM.rv7, MM.rv8, MM.rv9, MM.rv10, MM.in1, MM.in2, MM.ok1, MM.ok2, MM.gc1, MM.gc2, MM.gt1, MM.gt2, MM.gt3, MM.gt4, MM.ixf0, MM.ixf1, MM.fr_int, MM.dEq_fr, MM.dEq_fr2, beq_self_eq_true, List.isEmpty_nil, Option.isNone_none, Option.isNone_some, Bool.and_true, Bool.and_false, Bool.true_and, Bool.false_and, mPut, okU, mFor, mIt, MM.itD_lst, MM.itD_frl, MM.itD_tup, mTgN, aft, loopF, if_false, MM.dInt_int, mSM1, sm1K, MM.dS1, mSl, mPart, MM.dSl_s, MM.dEq_s, MM.dNe_s, MM.itD_s, mAsgT, mTgT, mTgs, d]
        | some m =>
          have ea := cv_some ca
          have eb := cv_some cb
          have bm : Bt 8999 m := (bt_of (i := m) (by rw [← eb]; omega)).mono (by decide)
          simp only [List.map_cons, List.map_nil, ca, cb, List.any_cons, List.any_nil, Option.isNone_some, Bool.or_false, oi] at d ⊢
          by_cases h2 : 1 < m
          · have f := frac_ n m (by omega) bm
            have fe : dEq (fr (Rat.divInt n m)) (.tup [.int n, .int m]) = some (.val (.bl (decide ((Rat.divInt n m).num = n ∧ ((Rat.divInt n m).den : Int) = m)))) := dEq_pair _ _ _ _
            by_cases h3 : (Rat.divInt n m).num = n ∧ ((Rat.divInt n m).den : Int) = m
            · have hq : (Rat.divInt n m).den ≠ 1 := by omega
              have hd : dd s = .tup [.int n, .int m] := by
                have : s = txt (Rat.divInt n m) := by rw [txt_2 hq, h3.1, h3.2, es, ea, eb]
                rw [this, dd_txt]
                show D.tup [.int _, .int _] = _
                rw [h3.1, h3.2]
              rw [hd]
              rw [decide_eq_true h3] at fe
              simp -implicitDefEqProofs only [mRet, mRetN, mCall, mA1, mA0, mAr, mArS, mOp2, mOp1, mNm, nmS, mC, mDrop, ↓R.to_bd, R.bd_ok, R.bd_er, R.bd_no, List.getElem?_cons_zero, List.getElem?_cons_succ, pop2, pk, Option.bind_some, Option.bind_none, Sl.pk, MM.dIx_lst, MM.dIx_frl, MM.dIx_tup, MM.atI0, MM.atI1, MM.atI2, Option.map_some, Option.map_none, MM.dAdd_int, MM.dSub_int, MM.dLt_int, MM.dGt_int, MM.dLe_int, MM.dGe_int, MM.dEq_int, MM.dEq_bl, MM.dNe_bl, MM.dNe_int, dNeg, MM.dAbs_int, MM.dInt_int, dIsi, chkS, callS, slsOf, slOf, pickL, Src.at, List.map_cons, List.map_nil, List.getD_cons_zero, List.getD_cons_succ, List.length_cons, List.length_nil, and_self, if_true, mvs, List.filterMap, Ar.ix, List.nodup_nil, List.map_nil, back, backS, mDefR, retT, outsOf, outS, List.head?_cons, List.tail_cons, mSeq, mSet, mNext, mIf, mTb, tkB, mNot, mNotV, mIfE, mAndT, mOrT, mAnd, mOr, asg, asgS, asgT, frc, frcS, List.set_cons_zero, List.set_cons_succ, ↓to_cd, cd_t, cd_f, Bool.not_true, Bool.not_false, List.cons_append, List.nil_append, List.append_nil, List.replicate, mLst, mTup, dsOf, mPar, mMake, chkM, mkS, mkR, mFldSet, mutT, mutS, mProp, propR, arD, ownOp, ownNe, MM.ownBin_def, MM.nbOk_q, MM.nbOk_i, notR, mMeth, mNegO, mCB, Nat.zero_add, Nat.reduceAdd, Nat.reduceLeDiff, Nat.not_lt_zero, List.length_cons, List.length_nil, MM.nodup1, MM.fp1, MM.fp2, MM.fl1, MM.fl2, MM.rv1, MM.rv2, MM.rv3, MM.rv4, MM.rv5, MM.rv6, MM.rv7, MM.rv8, MM.rv9, MM.rv10, MM.in1, MM.in2, MM.ok1, MM.ok2, MM.gc1, MM.gc2, MM.gt1, MM.gt2, MM.gt3, MM.gt4, MM.ixf0, MM.ixf1, MM.fr_int, MM.dEq_fr, MM.dEq_fr2, beq_self_eq_true, List.isEmpty_nil, Option.isNone_none, Option.isNone_some, Bool.and_true, Bool.and_false, Bool.true_and, Bool.false_and, mPut, okU, mFor, mIt, MM.itD_lst, MM.itD_frl, MM.itD_tup, mTgN, aft, loopF, if_false, MM.dInt_int, mSM1, sm1K, MM.dS1, mSl, mPart, MM.dSl_s, MM.dEq_s, MM.dNe_s, MM.itD_s, mAsgT, mTgT, mTgs, d, dLen_lst, nh1, nh2, h2, decide_true, f, fe]
            · have hd : dd s = .non := dd_none fun q e => by
                by_cases hq : q.den = 1
                · rw [txt_1 hq] at e; exact nsl _ e
                · rw [txt_2 hq, es] at e
                  obtain ⟨z1, z2⟩ := part_inj ha (st_no47 _) e
                  rw [ea] at z1; rw [eb] at z2
                  have y1 := st_inj z1
                  have y2 := st_inj z2
                  exact h3 (by rw [y1, y2, Rat.num_divInt_den]; exact ⟨rfl, rfl⟩)
              rw [hd]
              rw [decide_eq_false h3] at fe
              simp -implicitDefEqProofs only [mRet, mRetN, mCall, mA1, mA0, mAr, mArS, mOp2, mOp1, mNm, nmS, mC, mDrop, ↓R.to_bd, R.bd_ok, R.bd_er, R.bd_no, List.getElem?_cons_zero, List.getElem?_cons_succ, pop2, pk, Option.bind_some, Option.bind_none, Sl.pk, MM.dIx_lst, MM.dIx_frl, MM.dIx_tup, MM.atI0, MM.atI1, MM.atI2, Option.map_some, Option.map_none, MM.dAdd_int, MM.dSub_int, MM.dLt_int, MM.dGt_int, MM.dLe_int, MM.dGe_int, MM.dEq_int, MM.dEq_bl, MM.dNe_bl, MM.dNe_int, dNeg, MM.dAbs_int, MM.dInt_int, dIsi, chkS, callS, slsOf, slOf, pickL, Src.at, List.map_cons, List.map_nil, List.getD_cons_zero, List.getD_cons_succ, List.length_cons, List.length_nil, and_self, if_true, mvs, List.filterMap, Ar.ix, List.nodup_nil, List.map_nil, back, backS, mDefR, retT, outsOf, outS, List.head?_cons, List.tail_cons, mSeq, mSet, mNext, mIf, mTb, tkB, mNot, mNotV, mIfE, mAndT, mOrT, mAnd, mOr, asg, asgS, asgT, frc, frcS, List.set_cons_zero, List.set_cons_succ, ↓to_cd, cd_t, cd_f, Bool.not_true, Bool.not_false, List.cons_append, List.nil_append, List.append_nil, List.replicate, mLst, mTup, dsOf, mPar, mMake, chkM, mkS, mkR, mFldSet, mutT, mutS, mProp, propR, arD, ownOp, ownNe, MM.ownBin_def, MM.nbOk_q, MM.nbOk_i, notR, mMeth, mNegO, mCB, Nat.zero_add, Nat.reduceAdd, Nat.reduceLeDiff, Nat.not_lt_zero, List.length_cons, List.length_nil, MM.nodup1, MM.fp1, MM.fp2, MM.fl1, MM.fl2, MM.rv1, MM.rv2, MM.rv3, MM.rv4, MM.rv5, MM.rv6, MM.rv7, MM.rv8, MM.rv9, MM.rv10, MM.in1, MM.in2, MM.ok1, MM.ok2, MM.gc1, MM.gc2, MM.gt1, MM.gt2, MM.gt3, MM.gt4, MM.ixf0, MM.ixf1, MM.fr_int, MM.dEq_fr, MM.dEq_fr2, beq_self_eq_true, List.isEmpty_nil, Option.isNone_none, Option.isNone_some, Bool.and_true, Bool.and_false, Bool.true_and, Bool.false_and, mPut, okU, mFor, mIt, MM.itD_lst, MM.itD_frl, MM.itD_tup, mTgN, aft, loopF, if_false, MM.dInt_int, mSM1, sm1K, MM.dS1, mSl, mPart, MM.dSl_s, MM.dEq_s, MM.dNe_s, MM.itD_s, mAsgT, mTgT, mTgs, d, dLen_lst, nh1, nh2, h2, decide_true, f, fe]
          · have hd : dd s = .non := dd_none fun q e => by
              by_cases hq : q.den = 1
              · rw [txt_1 hq] at e; exact nsl _ e
              · rw [txt_2 hq, es] at e
                obtain ⟨_, z2⟩ := part_inj ha (st_no47 _) e
                rw [eb] at z2
                have y2 := st_inj z2
                have := q.den_nz
                omega
            rw [hd]
            simp -implicitDefEqProofs only [mRet, mRetN, mCall, mA1, mA0, mAr, mArS, mOp2, mOp1, mNm, nmS, mC, mDrop, ↓R.to_bd, R.bd_ok, R.bd_er, R.bd_no, List.getElem?_cons_zero, List.getElem?_cons_succ, pop2, pk, Option.bind_some, Option.bind_none, Sl.pk, MM.dIx_lst, MM.dIx_frl, MM.dIx_tup, MM.atI0, MM.atI1, MM.atI2, Option.map_some, Option.map_none, MM.dAdd_int, MM.dSub_int, MM.dLt_int, MM.dGt_int, MM.dLe_int, MM.dGe_int, MM.dEq_int, MM.dEq_bl, MM.dNe_bl, MM.dNe_int, dNeg, MM.dAbs_int, MM.dInt_int, dIsi, chkS, callS, slsOf, slOf, pickL, Src.at, List.map_cons, List.map_nil, List.getD_cons_zero, List.getD_cons_succ, List.length_cons, List.length_nil, and_self, if_true, mvs, List.filterMap, Ar.ix, List.nodup_nil, List.map_nil, back, backS, mDefR, retT, outsOf, outS, List.head?_cons, List.tail_cons, mSeq, mSet, mNext, mIf, mTb, tkB, mNot, mNotV, mIfE, mAndT, mOrT, mAnd, mOr, asg, asgS, asgT, frc, frcS, List.set_cons_zero, List.set_cons_succ, ↓to_cd, cd_t, cd_f, Bool.not_true, Bool.not_false, List.cons_append, List.nil_append, List.append_nil, List.replicate, mLst, mTup, dsOf, mPar, mMake, chkM, mkS, mkR, mFldSet, mutT, mutS, mProp, propR, arD, ownOp, ownNe, MM.ownBin_def, MM.nbOk_q, MM.nbOk_i, notR, mMeth, mNegO, mCB, Nat.zero_add, Nat.reduceAdd, Nat.reduceLeDiff, Nat.not_lt_zero, List.length_cons, List.length_nil, MM.nodup1, MM.fp1, MM.fp2, MM.fl1, MM.fl2, MM.rv1, MM.rv2, MM.rv3, MM.rv4, MM.rv5, MM.rv6, MM.rv7, MM.rv8, MM.rv9, MM.rv10, MM.in1, MM.in2, MM.ok1, MM.ok2, MM.gc1, MM.gc2, MM.gt1, MM.gt2, MM.gt3, MM.gt4, MM.ixf0, MM.ixf1, MM.fr_int, MM.dEq_fr, MM.dEq_fr2, beq_self_eq_true, List.isEmpty_nil, Option.isNone_none, Option.isNone_some, Bool.and_true, Bool.and_false, Bool.true_and, Bool.false_and, mPut, okU, mFor, mIt, MM.itD_lst, MM.itD_frl, MM.itD_tup, mTgN, aft, loopF, if_false, MM.dInt_int, mSM1, sm1K, MM.dS1, mSl, mPart, MM.dSl_s, MM.dEq_s, MM.dNe_s, MM.itD_s, mAsgT, mTgT, mTgs, d, dLen_lst, nh1, nh2, h2, decide_false]
  · have e1 : Txt.split s "/" = [s] := split_0 h0
    rw [e1]
    have d := dn [s]
    have nh1 : decide ((2 : Int) < ((0 + 1 : Nat) : Int)) = false := by decide
    have nh2 : decide ((((0 + 1 : Nat) : Int)) = 1) = true := by decide
    cases ca : cv s with
    | none =>
      have hd : dd s = .non := dd_none fun q e => by
        by_cases hq : q.den = 1
        · rw [txt_1 hq] at e; rw [e, cv_st] at ca; cases ca
        · rw [txt_2 hq] at e; exact h0 (by rw [e]; exact in_sl _ _)
      rw [hd]
      simp only [List.map_cons, List.map_nil, ca, List.any_cons, Option.isNone_none, Bool.true_or, oi] at d ⊢
      simp -implicitDefEqProofs only [mRet, mRetN, mCall, mA1, mA0, mAr, mArS, mOp2, mOp1, mNm, nmS, mC, mDrop, ↓R.to_bd, R.bd_ok, R.bd_er, R.bd_no, List.getElem?_cons_zero, List.getElem?_cons_succ, pop2, pk, Option.bind_some, Option.bind_none, Sl.pk, MM.dIx_lst, MM.dIx_frl, MM.dIx_tup, MM.atI0, MM.atI1, MM.atI2, Option.map_some, Option.map_none, MM.dAdd_int, MM.dSub_int, MM.dLt_int, MM.dGt_int, MM.dLe_int, MM.dGe_int, MM.dEq_int, MM.dEq_bl, MM.dNe_bl, MM.dNe_int, dNeg, MM.dAbs_int, MM.dInt_int, dIsi, chkS, callS, slsOf, slOf, pickL, Src.at, List.map_cons, List.map_nil, List.getD_cons_zero, List.getD_cons_succ, List.length_cons, List.length_nil, and_self, if_true, mvs, List.filterMap, Ar.ix, List.nodup_nil, List.map_nil, back, backS, mDefR, retT, outsOf, outS, List.head?_cons, List.tail_cons, mSeq, mSet, mNext, mIf, mTb, tkB, mNot, mNotV, mIfE, mAndT, mOrT, mAnd, mOr, asg, asgS, asgT, frc, frcS, List.set_cons_zero, List.set_cons_succ, ↓to_cd, cd_t, cd_f, Bool.not_true, Bool.not_false, List.cons_append, List.nil_append, List.append_nil, List.replicate, mLst, mTup, dsOf, mPar, mMake, chkM, mkS, mkR, mFldSet, mutT, mutS, mProp, propR, arD, ownOp, ownNe, MM.ownBin_def, MM.nbOk_q, MM.nbOk_i, notR, mMeth, mNegO, mCB, Nat.zero_add, Nat.reduceAdd, Nat.reduceLeDiff, Nat.not_lt_zero, List.length_cons, List.length_nil, MM.nodup1, MM.fp1, MM.fp2, MM.fl1, MM.fl2, MM.rv1, MM.rv2, MM.rv3, MM.rv4, MM.rv5, MM.rv6, MM.rv7, MM.rv8, MM.rv9, MM.rv10, MM.in1, MM.in2, MM.ok1, MM.ok2, MM.gc1, MM.gc2, MM.gt1, MM.gt2, MM.gt3, MM.gt4, MM.ixf0, MM.ixf1, MM.fr_int, MM.dEq_fr, MM.dEq_fr2, beq_self_eq_true, List.isEmpty_nil, Option.isNone_none, Option.isNone_some, Bool.and_true, Bool.and_false, Bool.true_and, Bool.false_and, mPut, okU, mFor, mIt, MM.itD_lst, MM.itD_frl, MM.itD_tup, mTgN, aft, loopF, if_false, MM.dInt_int, mSM1, sm1K, MM.dS1, mSl, mPart, MM.dSl_s, MM.dEq_s, MM.dNe_s, MM.itD_s, mAsgT, mTgT, mTgs, d]
    | some i =>
      have es := cv_some ca
      have hd : dd s = fr (i : Rat) := by
        have : s = txt (i : Rat) := by rw [txt_1 rfl, es]; rfl
        rw [this, dd_txt]
      rw [hd]
      simp only [List.map_cons, List.map_nil, ca, List.any_cons, List.any_nil, Option.isNone_some, Bool.or_false, oi] at d ⊢
      simp -implicitDefEqProofs only [mRet, mRetN, mCall, mA1, mA0, mAr, mArS, mOp2, mOp1, mNm, nmS, mC, mDrop, ↓R.to_bd, R.bd_ok, R.bd_er, R.bd_no, List.getElem?_cons_zero, List.getElem?_cons_succ, pop2, pk, Option.bind_some, Option.bind_none, Sl.pk, MM.dIx_lst, MM.dIx_frl, MM.dIx_tup, MM.atI0, MM.atI1, MM.atI2, Option.map_some, Option.map_none, MM.dAdd_int, MM.dSub_int, MM.dLt_int, MM.dGt_int, MM.dLe_int, MM.dGe_int, MM.dEq_int, MM.dEq_bl, MM.dNe_bl, MM.dNe_int, dNeg, MM.dAbs_int, MM.dInt_int, dIsi, chkS, callS, slsOf, slOf, pickL, Src.at, List.map_cons, List.map_nil, List.getD_cons_zero, List.getD_cons_succ, List.length_cons, List.length_nil, and_self, if_true, mvs, List.filterMap, Ar.ix, List.nodup_nil, List.map_nil, back, backS, mDefR, retT, outsOf, outS, List.head?_cons, List.tail_cons, mSeq, mSet, mNext, mIf, mTb, tkB, mNot, mNotV, mIfE, mAndT, mOrT, mAnd, mOr, asg, asgS, asgT, frc, frcS, List.set_cons_zero, List.set_cons_succ, ↓to_cd, cd_t, cd_f, Bool.not_true, Bool.not_false, List.cons_append, List.nil_append, List.append_nil, List.replicate, mLst, mTup, dsOf, mPar, mMake, chkM, mkS, mkR, mFldSet, mutT, mutS, mProp, propR, arD, ownOp, ownNe, MM.ownBin_def, MM.nbOk_q, MM.nbOk_i, notR, mMeth, mNegO, mCB, Nat.zero_add, Nat.reduceAdd, Nat.reduceLeDiff, Nat.not_lt_zero, List.length_cons, List.length_nil, MM.nodup1, MM.fp1, MM.fp2, MM.fl1, MM.fl2, MM.rv1, MM.rv2, MM.rv3, MM.rv4, MM.rv5, MM.rv6, MM.rv7, MM.rv8, MM.rv9, MM.rv10, MM.in1, MM.in2, MM.ok1, MM.ok2, MM.gc1, MM.gc2, MM.gt1, MM.gt2, MM.gt3, MM.gt4, MM.ixf0, MM.ixf1, MM.fr_int, MM.dEq_fr, MM.dEq_fr2, beq_self_eq_true, List.isEmpty_nil, Option.isNone_none, Option.isNone_some, Bool.and_true, Bool.and_false, Bool.true_and, Bool.false_and, mPut, okU, mFor, mIt, MM.itD_lst, MM.itD_frl, MM.itD_tup, mTgN, aft, loopF, if_false, MM.dInt_int, mSM1, sm1K, MM.dS1, mSl, mPart, MM.dSl_s, MM.dEq_s, MM.dNe_s, MM.itD_s, mAsgT, mTgT, mTgs, d, dLen_lst, nh1, nh2]
end
end K03

set_option Elab.async false
set_option linter.all false
set_option maxRecDepth 100000
set_option maxHeartbeats 4000000
set_option exponentiation.threshold 3000
namespace MM
open PySem PySem.Spec PyProof.Rows L2 PySem.NumText TL
theorem st_len {i : Int} {k : Nat} (hk : 0 < k) (h : i.natAbs < 10 ^ k) : (st i).length ≤ k + 1 := by
  have := numL_len hk h
  rw [len_tl, tl_st]
  split
  · rw [List.length_cons]; omega
  · omega
theorem p1600 : 2 ^ 1600 ≤ 10 ^ 900 := by decide +kernel
theorem exG_bt : exG [("BadText", true)] "BadText" = some true := rfl
theorem emp1 : decide ((Str.empty : Str) = "") = true := by decide +kernel
theorem emp2 : decide (("/" : Str) = "") = false := by decide +kernel
theorem dNe_dd (s : Str) : dNe (dd s) (dd s) = some (.val (.bl false)) := by
  unfold dd
  split
  · rw [dNe_fr, decide_eq_true rfl]; rfl
  · rfl
end MM
namespace K03
open PySem PySem.Spec PyProof.Rows L2 MM TL PySem.NumText
noncomputable section
theorem read_ok {s : Str} (hs : s.length ≤ 400) {q : Rat} (h : s = txt q) : ∃ t, (t = .val (rt q) ∨ t = .nw (rt q)) ∧ m_Ratio_read [.sh (.cls "Ratio"), .sh (.str s)] = .ok t [.no, .no] := by
  have pt := dPart_s (a := s) (by omega)
  by_cases hq : q.den = 1
  · rw [txt_1 hq] at h
    have n47 : 47 ∉ tl s := by rw [h]; exact st_no47 _
    rw [partition_none (y := "/") (s := 47) (S := []) tl_slash n47] at pt
    have rp := dRemPre_s (a := s) (by omega) "-"
    have di : dInt (.str s) = some (.val (.int q.num)) := by rw [h]; exact dInt_st (by rw [← h]; omega)
    have ini := in_of (a := q.num) (b := 1) (q := q) (by decide) (bt1 (by decide)) (by rw [rat_int]; exact Rat.ext rfl hq.symm)
    have cn := counting_ (Txt.removeprefix s "-")
    refine ⟨.nw (rt q), .inr rfl, ?_⟩
    show mDefR _ (b_Ratio_read _) = _
    have acc := (acc_iff s).mpr ⟨_, h⟩
    by_cases h0 : s = "0"
    · have d0 : decide (s = ("0" : Str)) = true := decide_eq_true h0
      simp -implicitDefEqProofs only [mRet, mRetN, mCall, mA1, mA0, mAr, mArS, mOp2, mOp1, mNm, nmS, mC, mDrop, ↓R.to_bd, R.bd_ok, R.bd_er, R.bd_no, List.getElem?_cons_zero, List.getElem?_cons_succ, pop2, pk, Option.bind_some, Option.bind_none, Sl.pk, MM.dIx_lst, MM.dIx_frl, MM.dIx_tup, MM.atI0, MM.atI1, MM.atI2, Option.map_some, Option.map_none, MM.dAdd_int, MM.dSub_int, MM.dLt_int, MM.dGt_int, MM.dLe_int, MM.dGe_int, MM.dEq_int, MM.dEq_bl, MM.dNe_bl, MM.dNe_int, dNeg, MM.dAbs_int, MM.dInt_int, dIsi, chkS, callS, slsOf, slOf, pickL, Src.at, List.map_cons, List.map_nil, List.getD_cons_zero, List.getD_cons_succ, List.length_cons, List.length_nil, and_self, if_true, mvs, List.filterMap, Ar.ix, List.nodup_nil, List.map_nil, back, backS, mDefR, retT, outsOf, outS, List.head?_cons, List.tail_cons, mSeq, mSet, mNext, mIf, mTb, tkB, mNot, mNotV, mIfE, mAndT, mOrT, mAnd, mOr, asg, asgS, asgT, frc, frcS, List.set_cons_zero, List.set_cons_succ, ↓to_cd, cd_t, cd_f, Bool.not_true, Bool.not_false, List.cons_append, List.nil_append, List.append_nil, List.replicate, mLst, mTup, dsOf, mPar, mMake, chkM, mkS, mkR, mFldSet, mutT, mutS, mProp, propR, arD, ownOp, ownNe, MM.ownBin_def, MM.nbOk_q, MM.nbOk_i, notR, mMeth, mNegO, mCB, Nat.zero_add, Nat.reduceAdd, Nat.reduceLeDiff, Nat.not_lt_zero, List.length_cons, List.length_nil, MM.nodup1, MM.fp1, MM.fp2, MM.fl1, MM.fl2, MM.rv1, MM.rv2, MM.rv3, MM.rv4, MM.rv5, MM.rv6, MM.rv7, MM.rv8, MM.rv9, MM.rv10, MM.in1, MM.in2, MM.ok1, MM.ok2, MM.gc1, MM.gc2, MM.gt1, MM.gt2, MM.gt3, MM.gt4, MM.ixf0, MM.ixf1, MM.fr_int, MM.dEq_fr, MM.dEq_fr2, beq_self_eq_true, List.isEmpty_nil, Option.isNone_none, Option.isNone_some, Bool.and_true, Bool.and_false, Bool.true_and, Bool.false_and, mPut, okU, mFor, mIt, MM.itD_lst, MM.itD_frl, MM.itD_tup, mTgN, aft, loopF, if_false, MM.dInt_int, mSM1, sm1K, MM.dS1, mSl, mPart, MM.dSl_s, MM.dEq_s, MM.dNe_s, MM.itD_s, mAsgT, mTgT, mTgs, b_Ratio_read, pt, d0, emp1, mMakeL, isCls, beq_self_eq_true, di, ini]
    · have d0 : decide (s = ("0" : Str)) = false := decide_eq_false h0
      have c1 : isC (Txt.removeprefix s "-") = true := acc.resolve_left h0
      rw [c1] at cn
      simp -implicitDefEqProofs only [mRet, mRetN, mCall, mA1, mA0, mAr, mArS, mOp2, mOp1, mNm, nmS, mC, mDrop, ↓R.to_bd, R.bd_ok, R.bd_er, R.bd_no, List.getElem?_cons_zero, List.getElem?_cons_succ, pop2, pk, Option.bind_some, Option.bind_none, Sl.pk, MM.dIx_lst, MM.dIx_frl, MM.dIx_tup, MM.atI0, MM.atI1, MM.atI2, Option.map_some, Option.map_none, MM.dAdd_int, MM.dSub_int, MM.dLt_int, MM.dGt_int, MM.dLe_int, MM.dGe_int, MM.dEq_int, MM.dEq_bl, MM.dNe_bl, MM.dNe_int, dNeg, MM.dAbs_int, MM.dInt_int, dIsi, chkS, callS, slsOf, slOf, pickL, Src.at, List.map_cons, List.map_nil, List.getD_cons_zero, List.getD_cons_succ, List.length_cons, List.length_nil, and_self, if_true, mvs, List.filterMap, Ar.ix, List.nodup_nil, List.map_nil, back, backS, mDefR, retT, outsOf, outS, List.head?_cons, List.tail_cons, mSeq, mSet, mNext, mIf, mTb, tkB, mNot, mNotV, mIfE, mAndT, mOrT, mAnd, mOr, asg, asgS, asgT, frc, frcS, List.set_cons_zero, List.set_cons_succ, ↓to_cd, cd_t, cd_f, Bool.not_true, Bool.not_false, List.cons_append, List.nil_append, List.append_nil, List.replicate, mLst, mTup, dsOf, mPar, mMake, chkM, mkS, mkR, mFldSet, mutT, mutS, mProp, propR, arD, ownOp, ownNe, MM.ownBin_def, MM.nbOk_q, MM.nbOk_i, notR, mMeth, mNegO, mCB, Nat.zero_add, Nat.reduceAdd, Nat.reduceLeDiff, Nat.not_lt_zero, List.length_cons, List.length_nil, MM.nodup1, MM.fp1, MM.fp2, MM.fl1, MM.fl2, MM.rv1, MM.rv2, MM.rv3, MM.rv4, MM.rv5, MM.rv6, MM.rv7, MM.rv8, MM.rv9, MM.rv10, MM.in1, MM.in2, MM.ok1, MM.ok2, MM.gc1, MM.gc2, MM.gt1, MM.gt2, MM.gt3, MM.gt4, MM.ixf0, MM.ixf1, MM.fr_int, MM.dEq_fr, MM.dEq_fr2, beq_self_eq_true, List.isEmpty_nil, Option.isNone_none, Option.isNone_some, Bool.and_true, Bool.and_false, Bool.true_and, Bool.false_and, mPut, okU, mFor, mIt, MM.itD_lst, MM.itD_frl, MM.itD_tup, mTgN, aft, loopF, if_false, MM.dInt_int, mSM1, sm1K, MM.dS1, mSl, mPart, MM.dSl_s, MM.dEq_s, MM.dNe_s, MM.itD_s, mAsgT, mTgT, mTgs, b_Ratio_read, pt, rp, cn, d0, emp1, mMakeL, isCls, beq_self_eq_true, di, ini]
  · rw [txt_2 hq] at h
    rw [h, partition_app (y := "/") (s := 47) (S := []) tl_slash (st_no47 _), ← h] at pt
    have hl : s.length = (st q.num).length + 1 + (st (q.den : Int)).length := by rw [h, len_tl, tl_append, tl_append, tl_slash, List.length_append, List.length_append, ← len_tl, ← len_tl]; rfl
    have rp := dRemPre_s (a := st q.num) (by omega) "-"
    have di := dInt_st (i := q.num) (by omega)
    have di2 := dInt_st (i := (q.den : Int)) (by omega)
    have b1 := bt_of (i := q.num) (by omega)
    have b2 := bt_of (i := (q.den : Int)) (by omega)
    have ini := in_of (a := q.num) (b := (q.den : Int)) (q := q) (rat_dn q) (b2.mono (by decide)) (Rat.num_divInt_den q)
    have cn := counting_ (Txt.removeprefix (st q.num) "-")
    have cn2 := counting_ (st (q.den : Int))
    rw [isC_st (by have := q.den_nz; omega)] at cn2
    have tx := text_ (q := q) (Nat.lt_of_lt_of_le b1 (Nat.pow_le_pow_right (by decide) (by decide))) (by
      have : (q.den : Int).natAbs < 2 ^ 1600 := b2
      rw [Int.natAbs_natCast] at this
      exact Nat.lt_of_lt_of_le this (Nat.pow_le_pow_right (by decide) (by decide))) (by omega) (by omega)
    rw [txt_2 hq, ← h] at tx
    refine ⟨.val (rt q), .inl rfl, ?_⟩
    show mDefR _ (b_Ratio_read _) = _
    have acc := (acc_iff (st q.num)).mpr ⟨_, rfl⟩
    have rc : isRecv "Ratio" "text" (some (rt q)) = true := rfl
    by_cases h0 : st q.num = "0"
    · have d0 : decide (st q.num = ("0" : Str)) = true := decide_eq_true h0
      simp -implicitDefEqProofs only [mRet, mRetN, mCall, mA1, mA0, mAr, mArS, mOp2, mOp1, mNm, nmS, mC, mDrop, ↓R.to_bd, R.bd_ok, R.bd_er, R.bd_no, List.getElem?_cons_zero, List.getElem?_cons_succ, pop2, pk, Option.bind_some, Option.bind_none, Sl.pk, MM.dIx_lst, MM.dIx_frl, MM.dIx_tup, MM.atI0, MM.atI1, MM.atI2, Option.map_some, Option.map_none, MM.dAdd_int, MM.dSub_int, MM.dLt_int, MM.dGt_int, MM.dLe_int, MM.dGe_int, MM.dEq_int, MM.dEq_bl, MM.dNe_bl, MM.dNe_int, dNeg, MM.dAbs_int, MM.dInt_int, dIsi, chkS, callS, slsOf, slOf, pickL, Src.at, List.map_cons, List.map_nil, List.getD_cons_zero, List.getD_cons_succ, List.length_cons, List.length_nil, and_self, if_true, mvs, List.filterMap, Ar.ix, List.nodup_nil, List.map_nil, back, backS, mDefR, retT, outsOf, outS, List.head?_cons, List.tail_cons, mSeq, mSet, mNext, mIf, mTb, tkB, mNot, mNotV, mIfE, mAndT, mOrT, mAnd, mOr, asg, asgS, asgT, frc, frcS, List.set_cons_zero, List.set_cons_succ, ↓to_cd, cd_t, cd_f, Bool.not_true, Bool.not_false, List.cons_append, List.nil_append, List.append_nil, List.replicate, mLst, mTup, dsOf, mPar, mMake, chkM, mkS, mkR, mFldSet, mutT, mutS, mProp, propR, arD, ownOp, ownNe, MM.ownBin_def, MM.nbOk_q, MM.nbOk_i, notR, mMeth, mNegO, mCB, Nat.zero_add, Nat.reduceAdd, Nat.reduceLeDiff, Nat.not_lt_zero, List.length_cons, List.length_nil, MM.nodup1, MM.fp1, MM.fp2, MM.fl1, MM.fl2, MM.rv1, MM.rv2, MM.rv3, MM.rv4, MM.rv5, MM.rv6, MM.rv7, MM.rv8, MM.rv9, MM.rv10, MM.in1, MM.in2, MM.ok1, MM.ok2, MM.gc1, MM.gc2, MM.gt1, MM.gt2, MM.gt3, MM.gt4, MM.ixf0, MM.ixf1, MM.fr_int, MM.dEq_fr, MM.dEq_fr2, beq_self_eq_true, List.isEmpty_nil, Option.isNone_none, Option.isNone_some, Bool.and_true, Bool.and_false, Bool.true_and, Bool.false_and, mPut, okU, mFor, mIt, MM.itD_lst, MM.itD_frl, MM.itD_tup, mTgN, aft, loopF, if_false, MM.dInt_int, mSM1, sm1K, MM.dS1, mSl, mPart, MM.dSl_s, MM.dEq_s, MM.dNe_s, MM.itD_s, mAsgT, mTgT, mTgs, b_Ratio_read, pt, d0, emp2, mMakeL, isCls, beq_self_eq_true, di, di2, ini, cn2, tx, decide_true, rc]
    · have d0 : decide (st q.num = ("0" : Str)) = false := decide_eq_false h0
      have c1 : isC (Txt.removeprefix (st q.num) "-") = true := acc.resolve_left h0
      rw [c1] at cn
      simp -implicitDefEqProofs only [mRet, mRetN, mCall, mA1, mA0, mAr, mArS, mOp2, mOp1, mNm, nmS, mC, mDrop, ↓R.to_bd, R.bd_ok, R.bd_er, R.bd_no, List.getElem?_cons_zero, List.getElem?_cons_succ, pop2, pk, Option.bind_some, Option.bind_none, Sl.pk, MM.dIx_lst, MM.dIx_frl, MM.dIx_tup, MM.atI0, MM.atI1, MM.atI2, Option.map_some, Option.map_none, MM.dAdd_int, MM.dSub_int, MM.dLt_int, MM.dGt_int, MM.dLe_int, MM.dGe_int, MM.dEq_int, MM.dEq_bl, MM.dNe_bl, MM.dNe_int, dNeg, MM.dAbs_int, MM.dInt_int, dIsi, chkS, callS, slsOf, slOf, pickL, Src.at, List.map_cons, List.map_nil, List.getD_cons_zero, List.getD_cons_succ, List.length_cons, List.length_nil, and_self, if_true, mvs, List.filterMap, Ar.ix, List.nodup_nil, List.map_nil, back, backS, mDefR, retT, outsOf, outS, List.head?_cons, List.tail_cons, mSeq, mSet, mNext, mIf, mTb, tkB, mNot, mNotV, mIfE, mAndT, mOrT, mAnd, mOr, asg, asgS, asgT, frc, frcS, List.set_cons_zero, List.set_cons_succ, ↓to_cd, cd_t, cd_f, Bool.not_true, Bool.not_false, List.cons_append, List.nil_append, List.append_nil, List.replicate, mLst, mTup, dsOf, mPar, mMake, chkM, mkS, mkR, mFldSet, mutT, mutS, mProp, propR, arD, ownOp, ownNe, MM.ownBin_def, MM.nbOk_q, MM.nbOk_i, notR, mMeth, mNegO, mCB, Nat.zero_add, Nat.reduceAdd, Nat.reduceLeDiff, Nat.not_lt_zero, List.length_cons, List.length_nil, MM.nodup1, MM.fp1, MM.fp2, MM.fl1, MM.fl2, MM.rv1, MM.rv2, MM.rv3, MM.rv4, MM.rv5, MM.rv6, MM.rv7, MM.rv8, MM.rv9, MM.rv10, MM.in1, MM.in2, MM.ok1, MM.ok2, MM.gc1, MM.gc2, MM.gt1, MM.gt2, MM.gt3, MM.gt4, MM.ixf0, MM.ixf1, MM.fr_int, MM.dEq_fr, MM.dEq_fr2, beq_self_eq_true, List.isEmpty_nil, Option.isNone_none, Option.isNone_some, Bool.and_true, Bool.and_false, Bool.true_and, Bool.false_and, mPut, okU, mFor, mIt, MM.itD_lst, MM.itD_frl, MM.itD_tup, mTgN, aft, loopF, if_false, MM.dInt_int, mSM1, sm1K, MM.dS1, mSl, mPart, MM.dSl_s, MM.dEq_s, MM.dNe_s, MM.itD_s, mAsgT, mTgT, mTgs, b_Ratio_read, pt, rp, cn, d0, emp2, mMakeL, isCls, beq_self_eq_true, di, di2, ini, cn2, tx, decide_true, rc]
theorem read_no {s : Str} (hs : s.length ≤ 400) (h : ∀ q, s ≠ txt q) : m_Ratio_read [.sh (.cls "Ratio"), .sh (.str s)] = .er "BadText" none [.no, .no] := by
  have pt := dPart_s (a := s) (by omega)
  show mDefR _ (b_Ratio_read _) = _
  -- a text of which the first part is none
  have bad : ∀ a sl b : Str, a.length ≤ 1000 → (¬ ∃ i, a = st i) → dPart s (.str "/") = some (.val (.tup [.str a, .str sl, .str b])) → mDefR [.sh (.cls "Ratio"), .sh (.str s)] (b_Ratio_read [.sh (.cls "Ratio"), .sh (.str s), .no, .no, .no, .no]) = .er "BadText" none [.no, .no] := by
    intro a sl b hl hn pt
    have rp := dRemPre_s (a := a) hl "-"
    have cn := counting_ (Txt.removeprefix a "-")
    have nn : ¬ (a = "0" ∨ isC (Txt.removeprefix a "-") = true) := fun z => hn ((acc_iff a).mp z)
    have d0 : decide (a = ("0" : Str)) = false := decide_eq_false fun z => nn (.inl z)
    have c1 : isC (Txt.removeprefix a "-") = false := by
      cases z : isC (Txt.removeprefix a "-") with
      | true => exact absurd (.inr z) nn
      | false => rfl
    rw [c1] at cn
    simp -implicitDefEqProofs only [mRet, mRetN, mCall, mA1, mA0, mAr, mArS, mOp2, mOp1, mNm, nmS, mC, mDrop, ↓R.to_bd, R.bd_ok, R.bd_er, R.bd_no, List.getElem?_cons_zero, List.getElem?_cons_succ, pop2, pk, Option.bind_some, Option.bind_none, Sl.pk, MM.dIx_lst, MM.dIx_frl, MM.dIx_tup, MM.atI0, MM.atI1, MM.atI2, Option.map_some, Option.map_none, MM.dAdd_int, MM.dSub_int, MM.dLt_int, MM.dGt_int, MM.dLe_int, MM.dGe_int, MM.dEq_int, MM.dEq_bl, MM.dNe_bl, MM.dNe_int, dNeg, MM.dAbs_int, MM.dInt_int, dIsi, chkS, callS, slsOf, slOf, pickL, Src.at, List.map_cons, List.map_nil, List.getD_cons_zero, List.getD_cons_succ, List.length_cons, List.length_nil, and_self, if_true, mvs, List.filterMap, Ar.ix, List.nodup_nil, List.map_nil, back, backS, mDefR, retT, outsOf, outS, List.head?_cons, List.tail_cons, mSeq, mSet, mNext, mIf, mTb, tkB, mNot, mNotV, mIfE, mAndT, mOrT, mAnd, mOr, asg, asgS, asgT, frc, frcS, List.set_cons_zero, List.set_cons_succ, ↓to_cd, cd_t, cd_f, Bool.not_true, Bool.not_false, List.cons_append, List.nil_append, List.append_nil, List.replicate, mLst, mTup, dsOf, mPar, mMake, chkM, mkS, mkR, mFldSet, mutT, mutS, mProp, propR, arD, ownOp, ownNe, MM.ownBin_def, MM.nbOk_q, MM.nbOk_i, notR, mMeth, mNegO, mCB, Nat.zero_add, Nat.reduceAdd, Nat.reduceLeDiff, Nat.not_lt_zero, List.length_cons, List.length_nil, MM.nodup1, MM.fp1, MM.fp2, MM.fl1, MM.fl2, MM.rv1, MM.rv2, MM.rv3, MM.rv4, MM.rv5, MM.rv6, MM.rv7, MM.rv8, MM.rv9, MM.rv10, MM.in1, MM.in2, MM.ok1, MM.ok2, MM.gc1, MM.gc2, MM.gt1, MM.gt2, MM.gt3, MM.gt4, MM.ixf0, MM.ixf1, MM.fr_int, MM.dEq_fr, MM.dEq_fr2, beq_self_eq_true, List.isEmpty_nil, Option.isNone_none, Option.isNone_some, Bool.and_true, Bool.and_false, Bool.true_and, Bool.false_and, mPut, okU, mFor, mIt, MM.itD_lst, MM.itD_frl, MM.itD_tup, mTgN, aft, loopF, if_false, MM.dInt_int, mSM1, sm1K, MM.dS1, mSl, mPart, MM.dSl_s, MM.dEq_s, MM.dNe_s, MM.itD_s, mAsgT, mTgT, mTgs, b_Ratio_read, pt, rp, cn, d0, mRaise0]
  by_cases h0 : 47 ∈ tl s
  · obtain ⟨a, b, ha, es⟩ := has_slash h0
    have hl : s.length = a.length + 1 + b.length := by rw [es, len_tl, tl_append, tl_append, tl_slash, List.length_append, List.length_append, ← len_tl a, ← len_tl b]; rfl
    rw [es, partition_app (y := "/") (s := 47) (S := []) tl_slash ha, ← es] at pt
    by_cases hn : ∃ i, a = st i
    · obtain ⟨n, rfl⟩ := hn
      have rp := dRemPre_s (a := st n) (by omega) "-"
      have cn := counting_ (Txt.removeprefix (st n) "-")
      have cn2 := counting_ b
      have di := dInt_st (i := n) (by omega)
      have acc := (acc_iff (st n)).mpr ⟨_, rfl⟩
      -- the test of the first part is passed
      cases hb : isC b with
      | false =>
        rw [hb] at cn2
        by_cases h1 : st n = "0"
        · have d0 : decide (st n = ("0" : Str)) = true := decide_eq_true h1
          simp -implicitDefEqProofs only [mRet, mRetN, mCall, mA1, mA0, mAr, mArS, mOp2, mOp1, mNm, nmS, mC, mDrop, ↓R.to_bd, R.bd_ok, R.bd_er, R.bd_no, List.getElem?_cons_zero, List.getElem?_cons_succ, pop2, pk, Option.bind_some, Option.bind_none, Sl.pk, MM.dIx_lst, MM.dIx_frl, MM.dIx_tup, MM.atI0, MM.atI1, MM.atI2, Option.map_some, Option.map_none, MM.dAdd_int, MM.dSub_int, MM.dLt_int, MM.dGt_int, MM.dLe_int, MM.dGe_int, MM.dEq_int, MM.dEq_bl, MM.dNe_bl, MM.dNe_int, dNeg, MM.dAbs_int, MM.dInt_int, dIsi, chkS, callS, slsOf, slOf, pickL, Src.at, List.map_cons, List.map_nil, List.getD_cons_zero, List.getD_cons_succ, List.length_cons, List.length_nil, and_self, if_true, mvs, List.filterMap, Ar.ix, List.nodup_nil, List.map_nil, back, backS, mDefR, retT, outsOf, outS, List.head?_cons, List.tail_cons, mSeq, mSet, mNext, mIf, mTb, tkB, mNot, mNotV, mIfE, mAndT, mOrT, mAnd, mOr, asg, asgS, asgT, frc, frcS, List.set_cons_zero, List.set_cons_succ, ↓to_cd, cd_t, cd_f, Bool.not_true, Bool.not_false, List.cons_append, List.nil_append, List.append_nil, List.replicate, mLst, mTup, dsOf, mPar, mMake, chkM, mkS, mkR, mFldSet, mutT, mutS, mProp, propR, arD, ownOp, ownNe, MM.ownBin_def, MM.nbOk_q, MM.nbOk_i, notR, mMeth, mNegO, mCB, Nat.zero_add, Nat.reduceAdd, Nat.reduceLeDiff, Nat.not_lt_zero, List.length_cons, List.length_nil, MM.nodup1, MM.fp1, MM.fp2, MM.fl1, MM.fl2, MM.rv1, MM.rv2, MM.rv3, MM.rv4, MM.rv5, MM.rv6, MM.rv7, MM.rv8, MM.rv9, MM.rv10, MM.in1, MM.in2, MM.ok1, MM.ok2, MM.gc1, MM.gc2, MM.gt1, MM.gt2, MM.gt3, MM.gt4, MM.ixf0, MM.ixf1, MM.fr_int, MM.dEq_fr, MM.dEq_fr2, beq_self_eq_true, List.isEmpty_nil, Option.isNone_none, Option.isNone_some, Bool.and_true, Bool.and_false, Bool.true_and, Bool.false_and, mPut, okU, mFor, mIt, MM.itD_lst, MM.itD_frl, MM.itD_tup, mTgN, aft, loopF, if_false, MM.dInt_int, mSM1, sm1K, MM.dS1, mSl, mPart, MM.dSl_s, MM.dEq_s, MM.dNe_s, MM.itD_s, mAsgT, mTgT, mTgs, b_Ratio_read, pt, d0, emp2, cn2, mRaise0]
        · have d0 : decide (st n = ("0" : Str)) = false := decide_eq_false h1
          rw [acc.resolve_left h1] at cn
          simp -implicitDefEqProofs only [mRet, mRetN, mCall, mA1, mA0, mAr, mArS, mOp2, mOp1, mNm, nmS, mC, mDrop, ↓R.to_bd, R.bd_ok, R.bd_er, R.bd_no, List.getElem?_cons_zero, List.getElem?_cons_succ, pop2, pk, Option.bind_some, Option.bind_none, Sl.pk, MM.dIx_lst, MM.dIx_frl, MM.dIx_tup, MM.atI0, MM.atI1, MM.atI2, Option.map_some, Option.map_none, MM.dAdd_int, MM.dSub_int, MM.dLt_int, MM.dGt_int, MM.dLe_int, MM.dGe_int, MM.dEq_int, MM.dEq_bl, MM.dNe_bl, MM.dNe_int, dNeg, MM.dAbs_int, MM.dInt_int, dIsi, chkS, callS, slsOf, slOf, pickL, Src.at, List.map_cons, List.map_nil, List.getD_cons_zero, List.getD_cons_succ, List.length_cons, List.length_nil, and_self, if_true, mvs, List.filterMap, Ar.ix, List.nodup_nil, List.map_nil, back, backS, mDefR, retT, outsOf, outS, List.head?_cons, List.tail_cons, mSeq, mSet, mNext, mIf, mTb, tkB, mNot, mNotV, mIfE, mAndT, mOrT, mAnd, mOr, asg, asgS, asgT, frc, frcS, List.set_cons_zero, List.set_cons_succ, ↓to_cd, cd_t, cd_f, Bool.not_true, Bool.not_false, List.cons_append, List.nil_append, List.append_nil, List.replicate, mLst, mTup, dsOf, mPar, mMake, chkM, mkS, mkR, mFldSet, mutT, mutS, mProp, propR, arD, ownOp, ownNe, MM.ownBin_def, MM.nbOk_q, MM.nbOk_i, notR, mMeth, mNegO, mCB, Nat.zero_add, Nat.reduceAdd, Nat.reduceLeDiff, Nat.not_lt_zero, List.length_cons, List.length_nil, MM.nodup1, MM.fp1, MM.fp2, MM.fl1, MM.fl2, MM.rv1, MM.rv2, MM.rv3, MM.rv4, MM.rv5, MM.rv6, MM.rv7, MM.rv8, MM.rv9, MM.rv10, MM.in1, MM.in2, MM.ok1, MM.ok2, MM.gc1, MM.gc2, MM.gt1, MM.gt2, MM.gt3, MM.gt4, MM.ixf0, MM.ixf1, MM.fr_int, MM.dEq_fr, MM.dEq_fr2, beq_self_eq_true, List.isEmpty_nil, Option.isNone_none, Option.isNone_some, Bool.and_true, Bool.and_false, Bool.true_and, Bool.false_and, mPut, okU, mFor, mIt, MM.itD_lst, MM.itD_frl, MM.itD_tup, mTgN, aft, loopF, if_false, MM.dInt_int, mSM1, sm1K, MM.dS1, mSl, mPart, MM.dSl_s, MM.dEq_s, MM.dNe_s, MM.itD_s, mAsgT, mTgT, mTgs, b_Ratio_read, pt, rp, cn, d0, emp2, cn2, mRaise0]
      | true =>
        rw [hb] at cn2
        obtain ⟨m, hm, rfl⟩ := isC_some hb
        have di2 := dInt_st (i := (m : Int)) (by omega)
        have b1 := bt_of (i := n) (by omega)
        have b2 := bt_of (i := (m : Int)) (by omega)
        have m0 : (m : Int) ≠ 0 := by omega
        have ini := in_of (a := n) (b := (m : Int)) (q := Rat.divInt n m) m0 (b2.mono (by decide)) rfl
        have q1 := num_le (a := n) m0
        have q2 := den_le (a := n) m0
        have tx := text_ (q := Rat.divInt n m) (Nat.lt_of_le_of_lt q1 (Nat.lt_of_lt_of_le b1 (Nat.pow_le_pow_right (by decide) (by decide)))) (Nat.lt_of_le_of_lt q2 (Nat.lt_of_lt_of_le b2 (Nat.pow_le_pow_right (by decide) (by decide))))
          (Nat.le_trans (st_len (k := 900) (by decide) (Nat.lt_of_le_of_lt q1 (Nat.lt_of_lt_of_le b1 p1600))) (by decide)) (Nat.le_trans (st_len (k := 900) (by decide) (by rw [Int.natAbs_natCast]; exact Nat.lt_of_le_of_lt q2 (Nat.lt_of_lt_of_le b2 p1600))) (by decide))
        have ne : decide (txt (Rat.divInt n m) = s) = false := decide_eq_false fun z => h _ z.symm
        have rc : isRecv "Ratio" "text" (some (rt (Rat.divInt n m))) = true := rfl
        by_cases h1 : st n = "0"
        · have d0 : decide (st n = ("0" : Str)) = true := decide_eq_true h1
          simp -implicitDefEqProofs only [mRet, mRetN, mCall, mA1, mA0, mAr, mArS, mOp2, mOp1, mNm, nmS, mC, mDrop, ↓R.to_bd, R.bd_ok, R.bd_er, R.bd_no, List.getElem?_cons_zero, List.getElem?_cons_succ, pop2, pk, Option.bind_some, Option.bind_none, Sl.pk, MM.dIx_lst, MM.dIx_frl, MM.dIx_tup, MM.atI0, MM.atI1, MM.atI2, Option.map_some, Option.map_none, MM.dAdd_int, MM.dSub_int, MM.dLt_int, MM.dGt_int, MM.dLe_int, MM.dGe_int, MM.dEq_int, MM.dEq_bl, MM.dNe_bl, MM.dNe_int, dNeg, MM.dAbs_int, MM.dInt_int, dIsi, chkS, callS, slsOf, slOf, pickL, Src.at, List.map_cons, List.map_nil, List.getD_cons_zero, List.getD_cons_succ, List.length_cons, List.length_nil, and_self, if_true, mvs, List.filterMap, Ar.ix, List.nodup_nil, List.map_nil, back, backS, mDefR, retT, outsOf, outS, List.head?_cons, List.tail_cons, mSeq, mSet, mNext, mIf, mTb, tkB, mNot, mNotV, mIfE, mAndT, mOrT, mAnd, mOr, asg, asgS, asgT, frc, frcS, List.set_cons_zero, List.set_cons_succ, ↓to_cd, cd_t, cd_f, Bool.not_true, Bool.not_false, List.cons_append, List.nil_append, List.append_nil, List.replicate, mLst, mTup, dsOf, mPar, mMake, chkM, mkS, mkR, mFldSet, mutT, mutS, mProp, propR, arD, ownOp, ownNe, MM.ownBin_def, MM.nbOk_q, MM.nbOk_i, notR, mMeth, mNegO, mCB, Nat.zero_add, Nat.reduceAdd, Nat.reduceLeDiff, Nat.not_lt_zero, List.length_cons, List.length_nil, MM.nodup1, MM.fp1, MM.fp2, MM.fl1, MM.fl2, MM.rv1, MM.rv2, MM.rv3, MM.rv4, MM.rv5, MM.rv6, MM.rv7, MM.rv8, MM.rv9, MM.rv10, MM.in1, MM.in2, MM.ok1, MM.ok2, MM.gc1, MM.gc2, MM.gt1, MM.gt2, MM.gt3, MM.gt4, MM.ixf0, MM.ixf1, MM.fr_int, MM.dEq_fr, MM.dEq_fr2, beq_self_eq_true, List.isEmpty_nil, Option.isNone_none, Option.isNone_some, Bool.and_true, Bool.and_false, Bool.true_and, Bool.false_and, mPut, okU, mFor, mIt, MM.itD_lst, MM.itD_frl, MM.itD_tup, mTgN, aft, loopF, if_false, MM.dInt_int, mSM1, sm1K, MM.dS1, mSl, mPart, MM.dSl_s, MM.dEq_s, MM.dNe_s, MM.itD_s, mAsgT, mTgT, mTgs, b_Ratio_read, pt, d0, emp2, mMakeL, isCls, beq_self_eq_true, di, di2, ini, cn2, tx, ne, rc, mRaise0]
        · have d0 : decide (st n = ("0" : Str)) = false := decide_eq_false h1
          rw [acc.resolve_left h1] at cn
          simp -implicitDefEqProofs only [mRet, mRetN, mCall, mA1, mA0, mAr, mArS, mOp2, mOp1, mNm, nmS, mC, mDrop, ↓R.to_bd, R.bd_ok, R.bd_er, R.bd_no, List.getElem?_cons_zero, List.getElem?_cons_succ, pop2, pk, Option.bind_some, Option.bind_none, Sl.pk, MM.dIx_lst, MM.dIx_frl, MM.dIx_tup, MM.atI0, MM.atI1, MM.atI2, Option.map_some, Option.map_none, MM.dAdd_int, MM.dSub_int, MM.dLt_int, MM.dGt_int, MM.dLe_int, MM.dGe_int, MM.dEq_int, MM.dEq_bl, MM.dNe_bl, MM.dNe_int, dNeg, MM.dAbs_int, MM.dInt_int, dIsi, chkS, callS, slsOf, slOf, pickL, Src.at, List.map_cons, List.map_nil, List.getD_cons_zero, List.getD_cons_succ, List.length_cons, List.length_nil, and_self, if_true, mvs, List.filterMap, Ar.ix, List.nodup_nil, List.map_nil, back, backS, mDefR, retT, outsOf, outS, List.head?_cons, List.tail_cons, mSeq, mSet, mNext, mIf, mTb, tkB, mNot, mNotV, mIfE, mAndT, mOrT, mAnd, mOr, asg, asgS, asgT, frc, frcS, List.set_cons_zero, List.set_cons_succ, ↓to_cd, cd_t, cd_f, Bool.not_true, Bool.not_false, List.cons_append, List.nil_append, List.append_nil, List.replicate, mLst, mTup, dsOf, mPar, mMake, chkM, mkS, mkR, mFldSet, mutT, mutS, mProp, propR, arD, ownOp, ownNe, MM.ownBin_def, MM.nbOk_q, MM.nbOk_i, notR, mMeth, mNegO, mCB, Nat.zero_add, Nat.reduceAdd, Nat.reduceLeDiff, Nat.not_lt_zero, List.length_cons, List.length_nil, MM.nodup1, MM.fp1, MM.fp2, MM.fl1, MM.fl2, MM.rv1, MM.rv2, MM.rv3, MM.rv4, MM.rv5, MM.rv6, MM.rv7, MM.rv8, MM.rv9, MM.rv10, MM.in1, MM.in2, MM.ok1, MM.ok2, MM.gc1, MM.gc2, MM.gt1, MM.gt2, MM.gt3, MM.gt4, MM.ixf0, MM.ixf1, MM.fr_int, MM.dEq_fr, MM.dEq_fr2, beq_self_eq_true, List.isEmpty_nil, Option.isNone_none, Option.isNone_some, Bool.and_true, Bool.and_false, Bool.true_and, Bool.false_and, mPut, okU, mFor, mIt, MM.itD_lst, MM.itD_frl, MM.itD_tup, mTgN, aft, loopF, if_false, MM.dInt_int, mSM1, sm1K, MM.dS1, mSl, mPart, MM.dSl_s, MM.dEq_s, MM.dNe_s, MM.itD_s, mAsgT, mTgT, mTgs, b_Ratio_read, pt, rp, cn, d0, emp2, mMakeL, isCls, beq_self_eq_true, di, di2, ini, cn2, tx, ne, rc, mRaise0]
    · exact bad a _ b (by omega) hn pt
  · rw [partition_none (y := "/") (s := 47) (S := []) tl_slash h0] at pt
    refine bad s _ _ (by omega) (fun ⟨i, e⟩ => h (i : Rat) (by rw [txt_1 rfl, e]; rfl)) pt
theorem lread_ {s : Str} (hs : s.length ≤ 400) : m_law_read [.sh (.str s)] = .ok (.val (dd s)) [.no] := by
  show mDefR _ (b_law_read _) = _
  by_cases h : ∃ q, s = txt q
  · obtain ⟨q, e⟩ := h
    obtain ⟨t, ht, r⟩ := read_ok hs e
    have ed : dd s = .tup [.int q.num, .int q.den] := by rw [e, dd_txt]; rfl
    rw [ed]
    rcases ht with rfl | rfl <;> simp -implicitDefEqProofs only [mRet, mRetN, mCall, mA1, mA0, mAr, mArS, mOp2, mOp1, mNm, nmS, mC, mDrop, ↓R.to_bd, R.bd_ok, R.bd_er, R.bd_no, List.getElem?_cons_zero, List.getElem?_cons_succ, pop2, pk, Option.bind_some, Option.bind_none, Sl.pk, MM.dIx_lst, MM.dIx_frl, MM.dIx_tup, MM.atI0, MM.atI1, MM.atI2, Option.map_some, Option.map_none, MM.dAdd_int, MM.dSub_int, MM.dLt_int, MM.dGt_int, MM.dLe_int, MM.dGe_int, MM.dEq_int, MM.dEq_bl, MM.dNe_bl, MM.dNe_int, dNeg, MM.dAbs_int, MM.dInt_int, dIsi, chkS, callS, slsOf, slOf, pickL, Src.at, List.map_cons, List.map_nil, List.getD_cons_zero, List.getD_cons_succ, List.length_cons, List.length_nil, and_self, if_true, mvs, List.filterMap, Ar.ix, List.nodup_nil, List.map_nil, back, backS, mDefR, retT, outsOf, outS, List.head?_cons, List.tail_cons, mSeq, mSet, mNext, mIf, mTb, tkB, mNot, mNotV, mIfE, mAndT, mOrT, mAnd, mOr, asg, asgS, asgT, frc, frcS, List.set_cons_zero, List.set_cons_succ, ↓to_cd, cd_t, cd_f, Bool.not_true, Bool.not_false, List.cons_append, List.nil_append, List.append_nil, List.replicate, mLst, mTup, dsOf, mPar, mMake, chkM, mkS, mkR, mFldSet, mutT, mutS, mProp, propR, arD, ownOp, ownNe, MM.ownBin_def, MM.nbOk_q, MM.nbOk_i, notR, mMeth, mNegO, mCB, Nat.zero_add, Nat.reduceAdd, Nat.reduceLeDiff, Nat.not_lt_zero, List.length_cons, List.length_nil, MM.nodup1, MM.fp1, MM.fp2, MM.fl1, MM.fl2, MM.rv1, MM.rv2, MM.rv3, MM.rv4, MM.rv5, MM.rv6, MM.rv7, MM.rv8, MM.rv9, MM.rv10, MM.in1, MM.in2, MM.ok1, MM.ok2, MM.gc1, MM.gc2, MM.gt1, MM.gt2, MM.gt3, MM.gt4, MM.ixf0, MM.ixf1, MM.fr_int, MM.dEq_fr, MM.dEq_fr2, beq_self_eq_true, List.isEmpty_nil, Option.isNone_none, Option.isNone_some, Bool.and_true, Bool.and_false, Bool.true_and, Bool.false_and, mPut, okU, mFor, mIt, MM.itD_lst, MM.itD_frl, MM.itD_tup, mTgN, aft, loopF, if_false, MM.dInt_int, mSM1, sm1K, MM.dS1, mSl, mPart, MM.dSl_s, MM.dEq_s, MM.dNe_s, MM.itD_s, mAsgT, mTgT, mTgs, b_law_read, mCMeth, r, mTry, tryR, top_, bottom_]
  · have h' : ∀ q, s ≠ txt q := fun q e => h ⟨q, e⟩
    have r := read_no hs h'
    rw [dd_none h']
    simp -implicitDefEqProofs only [mRet, mRetN, mCall, mA1, mA0, mAr, mArS, mOp2, mOp1, mNm, nmS, mC, mDrop, ↓R.to_bd, R.bd_ok, R.bd_er, R.bd_no, List.getElem?_cons_zero, List.getElem?_cons_succ, pop2, pk, Option.bind_some, Option.bind_none, Sl.pk, MM.dIx_lst, MM.dIx_frl, MM.dIx_tup, MM.atI0, MM.atI1, MM.atI2, Option.map_some, Option.map_none, MM.dAdd_int, MM.dSub_int, MM.dLt_int, MM.dGt_int, MM.dLe_int, MM.dGe_int, MM.dEq_int, MM.dEq_bl, MM.dNe_bl, MM.dNe_int, dNeg, MM.dAbs_int, MM.dInt_int, dIsi, chkS, callS, slsOf, slOf, pickL, Src.at, List.map_cons, List.map_nil, List.getD_cons_zero, List.getD_cons_succ, List.length_cons, List.length_nil, and_self, if_true, mvs, List.filterMap, Ar.ix, List.nodup_nil, List.map_nil, back, backS, mDefR, retT, outsOf, outS, List.head?_cons, List.tail_cons, mSeq, mSet, mNext, mIf, mTb, tkB, mNot, mNotV, mIfE, mAndT, mOrT, mAnd, mOr, asg, asgS, asgT, frc, frcS, List.set_cons_zero, List.set_cons_succ, ↓to_cd, cd_t, cd_f, Bool.not_true, Bool.not_false, List.cons_append, List.nil_append, List.append_nil, List.replicate, mLst, mTup, dsOf, mPar, mMake, chkM, mkS, mkR, mFldSet, mutT, mutS, mProp, propR, arD, ownOp, ownNe, MM.ownBin_def, MM.nbOk_q, MM.nbOk_i, notR, mMeth, mNegO, mCB, Nat.zero_add, Nat.reduceAdd, Nat.reduceLeDiff, Nat.not_lt_zero, List.length_cons, List.length_nil, MM.nodup1, MM.fp1, MM.fp2, MM.fl1, MM.fl2, MM.rv1, MM.rv2, MM.rv3, MM.rv4, MM.rv5, MM.rv6, MM.rv7, MM.rv8, MM.rv9, MM.rv10, MM.in1, MM.in2, MM.ok1, MM.ok2, MM.gc1, MM.gc2, MM.gt1, MM.gt2, MM.gt3, MM.gt4, MM.ixf0, MM.ixf1, MM.fr_int, MM.dEq_fr, MM.dEq_fr2, beq_self_eq_true, List.isEmpty_nil, Option.isNone_none, Option.isNone_some, Bool.and_true, Bool.and_false, Bool.true_and, Bool.false_and, mPut, okU, mFor, mIt, MM.itD_lst, MM.itD_frl, MM.itD_tup, mTgN, aft, loopF, if_false, MM.dInt_int, mSM1, sm1K, MM.dS1, mSl, mPart, MM.dSl_s, MM.dEq_s, MM.dNe_s, MM.itD_s, mAsgT, mTgT, mTgs, b_law_read, mCMeth, r, mTry, tryR, mHds, clR, noEx, List.all_cons, List.all_nil, Sl.isEx, exIn, exOut, flNm, Tk.nmIs, exG_bt]
end
end K03

set_option Elab.async false
set_option linter.all false
set_option maxRecDepth 100000
set_option maxHeartbeats 4000000
set_option exponentiation.threshold 3000
namespace MM
open PySem PySem.Spec PyProof.Rows L2 PySem.NumText TL
theorem dAdd_s {a b : Str} (h : a.length + b.length ≤ 16777216) : dAdd (.str a) (.str b) = some (.val (.str (a ++ b))) := by
  have e : dAddS (.str a) (.str b) = some (.val (.str (a ++ b))) := by
    simp only [dAddS]
    rw [if_pos h]
  unfold dAdd
  rw [e]
  rfl
theorem dLen_s {a : Str} (h : a.length ≤ 16777216) : dLen (.str a) = some (.val (.int a.length)) := by
  have e : lenD (.str a) = some a.length := if_pos h
  unfold dLen
  rw [e]; rfl
/-- a text of at most n signs, of signs that there are -/
structure Tx (n : Nat) (s : Str) : Prop where
  l : s.length ≤ n
  k : OkS s
theorem Tx.mono {n m : Nat} {s : Str} (h : Tx n s) (l : n ≤ m) : Tx m s := ⟨Nat.le_trans h.l l, h.k⟩
theorem Tx.app {n m : Nat} {a b : Str} (h : Tx n a) (g : Tx m b) : Tx (n + m) (a ++ b) := ⟨by
  rw [len_tl, tl_append, List.length_append, ← len_tl, ← len_tl]
  exact Nat.add_le_add h.l g.l, fun c hc => by
  rw [tl_append] at hc
  rcases List.mem_append.mp hc with hc | hc
  · exact h.k c hc
  · exact g.k c hc⟩
theorem Tx.cut {n : Nat} {a : Str} (h : Tx n a) (lo hi : Option Int) : Tx n (cutS a lo hi) := ⟨Nat.le_trans (cutS_length a lo hi) h.l, fun c hc => h.k c (List.mem_of_mem_drop (List.mem_of_mem_take hc))⟩
theorem Tx.st {i : Int} {k : Nat} (hk : 0 < k) (h : i.natAbs < 10 ^ k) : Tx (k + 1) (st i) := ⟨st_len hk h, fun c hc => by
  have d := numL_digits i.natAbs
  rw [tl_st] at hc
  split at hc
  · rcases List.mem_cons.mp hc with rfl | hc
    · decide
    · have := d c hc; omega
  · have := d c hc; omega⟩
theorem Tx.slash : Tx 1 "/" := ⟨by decide +kernel, by rw [OkS, tl_slash]; decide⟩
theorem Tx.empty : Tx 0 "" := ⟨by decide +kernel, fun c hc => by cases hc⟩
def okB (s : Str) : Bool := decide (s.length ≤ 2) && (tl s).all fun c => decide (c < 1114112)
theorem Tx.ofB {s : Str} (h : okB s = true) : Tx 2 s := by
  unfold okB at h
  rw [Bool.and_eq_true, decide_eq_true_eq, List.all_eq_true] at h
  exact ⟨h.1, fun c hc => of_decide_eq_true (h.2 c hc)⟩
end MM
namespace K03
open PySem PySem.Spec PyProof.Rows L2 MM TL PySem.NumText
noncomputable section
variable {n : Int} {d : D}
theorem part_ (r : Int) (h0 : 0 ≤ r) (h1 : r < 14) : ∃ p : Str, Tx 2 p ∧ L2.atI [D.str "0", .str "1", .str "-", .str "/", .str " ", .str "+", .str ".", .str "/1", .str "/0", .str "00", .str "a", .str "", .str "_", .str "\n"] r = some (.str p) := by
  have : r = 0 ∨ r = 1 ∨ r = 2 ∨ r = 3 ∨ r = 4 ∨ r = 5 ∨ r = 6 ∨ r = 7 ∨ r = 8 ∨ r = 9 ∨ r = 10 ∨ r = 11 ∨ r = 12 ∨ r = 13 := by omega
  rcases this with rfl | rfl | rfl | rfl | rfl | rfl | rfl | rfl | rfl | rfl | rfl | rfl | rfl | rfl
  all_goals exact ⟨_, Tx.ofB (by decide +kernel), rfl⟩
theorem f1_ {s : Str} (h : Tx 400 s) (s0 s1 s2 s3 s4 s5 s6 s7 s8 s9 s10 : Sl) : b_law_f1 [s0, s1, s2, s3, s4, s5, s6, s7, s8, s9, s10, .sh (.str s)] = .ok .nx [s0, s1, s2, s3, s4, s5, s6, s7, s8, s9, s10, .sh (.str s)] := by
  have r := lread_ h.l
  have d := due_ h.l h.k
  have e := dNe_dd s
  simp -implicitDefEqProofs only [mRet, mRetN, mCall, mA1, mA0, mAr, mArS, mOp2, mOp1, mNm, nmS, mC, mDrop, ↓R.to_bd, R.bd_ok, R.bd_er, R.bd_no, List.getElem?_cons_zero, List.getElem?_cons_succ, pop2, pk, Option.bind_some, Option.bind_none, Sl.pk, MM.dIx_lst, MM.dIx_frl, MM.dIx_tup, MM.atI0, MM.atI1, MM.atI2, Option.map_some, Option.map_none, MM.dAdd_int, MM.dSub_int, MM.dLt_int, MM.dGt_int, MM.dLe_int, MM.dGe_int, MM.dEq_int, MM.dEq_bl, MM.dNe_bl, MM.dNe_int, dNeg, MM.dAbs_int, MM.dInt_int, dIsi, chkS, callS, slsOf, slOf, pickL, Src.at, List.map_cons, List.map_nil, List.getD_cons_zero, List.getD_cons_succ, List.length_cons, List.length_nil, and_self, if_true, mvs, List.filterMap, Ar.ix, List.nodup_nil, List.map_nil, back, backS, mDefR, retT, outsOf, outS, List.head?_cons, List.tail_cons, mSeq, mSet, mNext, mIf, mTb, tkB, mNot, mNotV, mIfE, mAndT, mOrT, mAnd, mOr, asg, asgS, asgT, frc, frcS, List.set_cons_zero, List.set_cons_succ, ↓to_cd, cd_t, cd_f, Bool.not_true, Bool.not_false, List.cons_append, List.nil_append, List.append_nil, List.replicate, mLst, mTup, dsOf, mPar, mMake, chkM, mkS, mkR, mFldSet, mutT, mutS, mProp, propR, arD, ownOp, ownNe, MM.ownBin_def, MM.nbOk_q, MM.nbOk_i, notR, mMeth, mNegO, mCB, Nat.zero_add, Nat.reduceAdd, Nat.reduceLeDiff, Nat.not_lt_zero, List.length_cons, List.length_nil, MM.nodup1, MM.fp1, MM.fp2, MM.fl1, MM.fl2, MM.rv1, MM.rv2, MM.rv3, MM.rv4, MM.rv5, MM.rv6, MM.rv7, MM.rv8, MM.rv9, MM.rv10, MM.in1, MM.in2, MM.ok1, MM.ok2, MM.gc1, MM.gc2, MM.gt1, MM.gt2, MM.gt3, MM.gt4, MM.ixf0, MM.ixf1, MM.fr_int, MM.dEq_fr, MM.dEq_fr2, beq_self_eq_true, List.isEmpty_nil, Option.isNone_none, Option.isNone_some, Bool.and_true, Bool.and_false, Bool.true_and, Bool.false_and, mPut, okU, mFor, mIt, MM.itD_lst, MM.itD_frl, MM.itD_tup, mTgN, aft, loopF, if_false, MM.dInt_int, mSM1, sm1K, MM.dS1, mSl, mPart, MM.dSl_s, MM.dEq_s, MM.dNe_s, MM.itD_s, mAsgT, mTgT, mTgs, b_law_f1, r, d, e]
theorem f1_l (s0 s1 s2 s3 s4 s5 s6 s7 s8 s9 s10 : Sl) : ∀ (l : List Str) (s11 : Sl), (∀ s ∈ l, Tx 400 s) → s11.nio = true → ∃ z : Sl, z.nio = true ∧ loopF (mTgN 11) b_law_f1 (l.map D.str) [s0, s1, s2, s3, s4, s5, s6, s7, s8, s9, s10, s11] = .ok .nx [s0, s1, s2, s3, s4, s5, s6, s7, s8, s9, s10, z]
  | [], s11, _, hn => ⟨s11, hn, rfl⟩
  | s :: l, s11, h, hn => by
    obtain ⟨z, hz, e⟩ := f1_l s0 s1 s2 s3 s4 s5 s6 s7 s8 s9 s10 l (.sh (.str s)) (fun t ht => h t (List.mem_cons_of_mem _ ht)) rfl
    exact ⟨z, hz, loopF_cons (by simp -implicitDefEqProofs only [mRet, mRetN, mCall, mA1, mA0, mAr, mArS, mOp2, mOp1, mNm, nmS, mC, mDrop, ↓R.to_bd, R.bd_ok, R.bd_er, R.bd_no, List.getElem?_cons_zero, List.getElem?_cons_succ, pop2, pk, Option.bind_some, Option.bind_none, Sl.pk, MM.dIx_lst, MM.dIx_frl, MM.dIx_tup, MM.atI0, MM.atI1, MM.atI2, Option.map_some, Option.map_none, MM.dAdd_int, MM.dSub_int, MM.dLt_int, MM.dGt_int, MM.dLe_int, MM.dGe_int, MM.dEq_int, MM.dEq_bl, MM.dNe_bl, MM.dNe_int, dNeg, MM.dAbs_int, MM.dInt_int, dIsi, chkS, callS, slsOf, slOf, pickL, Src.at, List.map_cons, List.map_nil, List.getD_cons_zero, List.getD_cons_succ, List.length_cons, List.length_nil, and_self, if_true, mvs, List.filterMap, Ar.ix, List.nodup_nil, List.map_nil, back, backS, mDefR, retT, outsOf, outS, List.head?_cons, List.tail_cons, mSeq, mSet, mNext, mIf, mTb, tkB, mNot, mNotV, mAndT, mOrT, mAnd, mOr, asg, asgT, frc, frcS, List.set_cons_zero, List.set_cons_succ, ↓to_cd, cd_t, cd_f, Bool.not_true, Bool.not_false, List.cons_append, List.nil_append, List.append_nil, List.replicate, mLst, mTup, dsOf, mPar, mMake, chkM, mkS, mkR, mFldSet, mutT, mutS, mProp, propR, arD, ownOp, ownNe, MM.ownBin_def, MM.nbOk_q, MM.nbOk_i, notR, mMeth, mNegO, mCB, Nat.zero_add, Nat.reduceAdd, Nat.reduceLeDiff, Nat.not_lt_zero, List.length_cons, List.length_nil, MM.nodup1, MM.fp1, MM.fp2, MM.fl1, MM.fl2, MM.rv1, MM.rv2, MM.rv3, MM.rv4, MM.rv5, MM.rv6, MM.rv7, MM.rv8, MM.rv9, MM.rv10, MM.in1, MM.in2, MM.ok1, MM.ok2, MM.gc1, MM.gc2, MM.gt1, MM.gt2, MM.gt3, MM.gt4, MM.ixf0, MM.ixf1, MM.fr_int, MM.dEq_fr, MM.dEq_fr2, beq_self_eq_true, List.isEmpty_nil, Option.isNone_none, Option.isNone_some, Bool.and_true, Bool.and_false, Bool.true_and, Bool.false_and, mPut, okU, mFor, mIt, MM.itD_lst, MM.itD_frl, MM.itD_tup, mTgN, aft, if_false, MM.dInt_int, mSM1, sm1K, MM.dS1, mSl, mPart, MM.dSl_s, MM.dEq_s, MM.dNe_s, MM.itD_s, mAsgT, mTgT, mTgs, asgS_nio, hn]) (f1_ (h s (List.mem_cons_self ..)) ..) e⟩
/-- one turn: texts near -/
theorem f2_ {b : D} {m : Int} (hb : Box m b) (hm : m + 10 < 1000000) {x : Rat} (hx1 : x.num.natAbs < 10 ^ 60) (hx2 : x.den < 10 ^ 60) {ph : Str} (hp : Tx 130 ph) (s0 s1 s3 s6 : Sl) {s7 s8 s9 s10 s11 : Sl} (h7 : s7.nio = true) (h8 : s8.nio = true) (h9 : s9.nio = true) (h10 : s10.nio = true) (h11 : s11.nio = true) :
    ∃ b' z7 z8 z9 z10 z11, Box (m + 3) b' ∧ (z7.nio = true ∧ z8.nio = true ∧ z9.nio = true ∧ z10.nio = true ∧ z11.nio = true) ∧ b_law_f2 [s0, s1, .ow b, s3, .sh (fr x), .sh (.str ph), s6, s7, s8, s9, s10, s11] = .ok .nx [s0, s1, .ow b', s3, .sh (fr x), .sh (.str ph), s6, z7, z8, z9, z10, z11] := by
  have ln := dLen_s (a := ph) (by have := hp.l; omega)
  have hl := hp.l
  obtain ⟨r1, b1, a1, a2, bx1, t1⟩ := take_ hb (by omega) (many := ph.length + 1) (by omega) (Bt.mono (k := 10) (by unfold Bt; omega) (by decide))
  obtain ⟨r2, b2, c1, c2, bx2, t2⟩ := take_ bx1 (by omega) (many := 14) (by decide) (Bt.mono (k := 4) (by unfold Bt; decide) (by decide))
  obtain ⟨r3, b3, d1, d2, bx3, t3⟩ := take_ bx2 (by omega) (many := 2) (by decide) (Bt.mono (k := 2) (by unfold Bt; decide) (by decide))
  obtain ⟨p, hpt, ep⟩ := part_ r2 c1 c2
  have sl1 := dSl_s (s := ph) (by omega) none (some r1)
  have sl2 := dSl_s (s := ph) (by omega) (some (r1 + r3)) none
  have tc1 := hp.cut none (some r1)
  have tc2 := hp.cut (some (r1 + r3)) none
  have m1 := dMul_bt (a := x.num) (b := 2) (k := 240) (m := 2) (Nat.lt_of_lt_of_le hx1 (pow10 60)) (by unfold Bt; decide)
  have m2 := dMul_bt (a := (x.den : Int)) (b := 2) (k := 240) (m := 2) (by unfold Bt; rw [Int.natAbs_natCast]; exact Nat.lt_of_lt_of_le hx2 (pow10 60)) (by unfold Bt; decide)
  have q1 : (x.num * 2).natAbs < 10 ^ 61 := by omega
  have q2 : ((x.den : Int) * 2).natAbs < 10 ^ 61 := by omega
  have w1 := Tx.st (by decide) q1
  have w2 := Tx.st (by decide) q2
  have g : 10 ^ 61 ≤ 2 ^ 1900 := Nat.le_trans (pow10 61) (Nat.pow_le_pow_right (by decide) (by decide))
  have ds1 := dStr_b (Nat.lt_of_lt_of_le q1 g)
  have ds2 := dStr_b (Nat.lt_of_lt_of_le q2 g)
  have A := fun {a b : Str} {n m : Nat} (h : Tx n a) (g : Tx m b) (l : n + m ≤ 16777216) => dAdd_s (a := a) (b := b) (Nat.le_trans (Nat.add_le_add h.l g.l) l)
  have e1 := A tc1 hpt (by decide)
  have e2 := A (tc1.app hpt) tc2 (by decide)
  have e3 := A w1 Tx.slash (by decide)
  have e4 := A (w1.app Tx.slash) w2 (by decide)
  have e5 := A hp Tx.slash (by decide)
  have e6 := A (hp.app Tx.slash) hpt (by decide)
  have e7 := A hpt hp (by decide)
  have e8 := A hp hpt (by decide)
  obtain ⟨z, hz, lf⟩ := f1_l s0 s1 (.ow b3) s3 (.sh (fr x)) (.sh (.str ph)) s6 (.sh (.int r1)) (.sh (.str p)) (.sh (.str (cutS ph none (some r1) ++ p ++ cutS ph (some (r1 + r3)) none))) (.sh (.str (st (x.num * 2) ++ "/" ++ st ((x.den : Int) * 2))))
    [cutS ph none (some r1) ++ p ++ cutS ph (some (r1 + r3)) none, st (x.num * 2) ++ "/" ++ st ((x.den : Int) * 2), ph ++ "/" ++ p, p ++ ph, ph ++ p] s11 (by
      intro s hs
      simp only [List.mem_cons, List.not_mem_nil, or_false] at hs
      rcases hs with rfl | rfl | rfl | rfl | rfl
      · exact ((tc1.app hpt).app tc2).mono (by decide)
      · exact ((w1.app Tx.slash).app w2).mono (by decide)
      · exact ((hp.app Tx.slash).app hpt).mono (by decide)
      · exact (hpt.app hp).mono (by decide)
      · exact (hp.app hpt).mono (by decide)) h11
  simp only [List.map_cons, List.map_nil] at lf
  refine ⟨b3, .sh (.int r1), .sh (.str p), .sh (.str (cutS ph none (some r1) ++ p ++ cutS ph (some (r1 + r3)) none)), .sh (.str (st (x.num * 2) ++ "/" ++ st ((x.den : Int) * 2))), z, bx3.mono (by omega), ⟨rfl, rfl, rfl, rfl, hz⟩, ?_⟩
  simp -implicitDefEqProofs only [mRet, mRetN, mCall, mA1, mA0, mAr, mArS, mOp2, mOp1, mNm, nmS, mC, mDrop, ↓R.to_bd, R.bd_ok, R.bd_er, R.bd_no, List.getElem?_cons_zero, List.getElem?_cons_succ, pop2, pk, Option.bind_some, Option.bind_none, Sl.pk, MM.dIx_lst, MM.dIx_frl, MM.dIx_tup, MM.atI0, MM.atI1, MM.atI2, Option.map_some, Option.map_none, MM.dAdd_int, MM.dSub_int, MM.dLt_int, MM.dGt_int, MM.dLe_int, MM.dGe_int, MM.dEq_int, MM.dEq_bl, MM.dNe_bl, MM.dNe_int, dNeg, MM.dAbs_int, MM.dInt_int, dIsi, chkS, callS, slsOf, slOf, pickL, Src.at, List.map_cons, List.map_nil, List.getD_cons_zero, List.getD_cons_succ, List.length_cons, List.length_nil, and_self, if_true, mvs, List.filterMap, Ar.ix, List.nodup_nil, List.map_nil, back, backS, mDefR, retT, outsOf, outS, List.head?_cons, List.tail_cons, mSeq, mSet, mNext, mIf, mTb, tkB, mNot, mNotV, mAndT, mOrT, mAnd, mOr, asg, asgT, frc, frcS, List.set_cons_zero, List.set_cons_succ, ↓to_cd, cd_t, cd_f, Bool.not_true, Bool.not_false, List.cons_append, List.nil_append, List.append_nil, List.replicate, mLst, mTup, dsOf, mPar, mMake, chkM, mkS, mkR, mFldSet, mutT, mutS, mProp, propR, arD, ownOp, ownNe, MM.ownBin_def, MM.nbOk_q, MM.nbOk_i, notR, mMeth, mNegO, mCB, Nat.zero_add, Nat.reduceAdd, Nat.reduceLeDiff, Nat.not_lt_zero, List.length_cons, List.length_nil, MM.nodup1, MM.fp1, MM.fp2, MM.fl1, MM.fl2, MM.rv1, MM.rv2, MM.rv3, MM.rv4, MM.rv5, MM.rv6, MM.rv7, MM.rv8, MM.rv9, MM.rv10, MM.in1, MM.in2, MM.ok1, MM.ok2, MM.gc1, MM.gc2, MM.gt1, MM.gt2, MM.gt3, MM.gt4, MM.ixf0, MM.ixf1, MM.fr_int, MM.dEq_fr, MM.dEq_fr2, beq_self_eq_true, List.isEmpty_nil, Option.isNone_none, Option.isNone_some, Bool.and_true, Bool.and_false, Bool.true_and, Bool.false_and, mPut, okU, mFor, mIt, MM.itD_lst, MM.itD_frl, MM.itD_tup, mTgN, aft, if_false, MM.dInt_int, mSM1, sm1K, MM.dS1, mSl, mPart, MM.dSl_s, MM.dEq_s, MM.dNe_s, MM.itD_s, mAsgT, mTgT, mTgs, b_law_f2, ln, t1, t2, t3, ep, sl1, sl2, m1, m2, ds1, ds2, e1, e2, e3, e4, e5, e6, e7, e8, asgS_nio, nio_no, nio_sh, nio_ow, h7, h8, h9, h10, h11, lf]
end
end K03

set_option Elab.async false
set_option linter.all false
set_option maxRecDepth 100000
set_option maxHeartbeats 4000000
set_option exponentiation.threshold 3000
namespace MM
open PySem PySem.Spec PyProof.Rows L2 PySem.NumText TL
theorem pw9 : dPow (.int 10) (.int 9) = some (.val (.int (10 ^ 9))) := rfl
theorem txt_tx {x : Rat} (hx1 : x.num.natAbs < 10 ^ 60) (hx2 : x.den < 10 ^ 60) : Tx 130 (txt x) := by
  have w1 := Tx.st (by decide) hx1
  have w2 := Tx.st (i := (x.den : Int)) (k := 60) (by decide) (by rw [Int.natAbs_natCast]; exact hx2)
  by_cases h : x.den = 1
  · rw [txt_1 h]; exact w1.mono (by decide)
  · rw [txt_2 h]; exact ((w1.app Tx.slash).app w2).mono (by decide)
theorem tl_st_ne (i : Int) : tl (st i) ≠ [] := by
  rw [tl_st]
  split
  · simp
  · exact numL_ne _
theorem dd_e : dd "" = .non := dd_none fun q e => by
  have z := congrArg tl e
  by_cases h : q.den = 1
  · rw [txt_1 h] at z; exact tl_st_ne _ z.symm
  · rw [txt_2 h, tl_append, tl_append, tl_slash] at z
    have : (47 : Nat) ∈ (tl ("" : Str)) := by rw [z]; simp
    cases this
theorem dd_m0 : dd "-0" = .non := dd_none fun q e => by
  have z := congrArg tl e
  have t : tl ("-0" : Str) = [45, 48] := by decide +kernel
  rw [t] at z
  by_cases h : q.den = 1
  · rw [txt_1 h] at z
    by_cases hn : q.num < 0
    · rw [st_tl_neg hn] at z
      have y := (List.cons.inj z).2
      have := numL_inj (y.symm.trans numL_0.symm)
      omega
    · rw [st_tl_nn hn] at z
      exact numL_no45 q.num.natAbs (by rw [← z]; simp)
  · rw [txt_2 h] at z
    have := in_sl (st q.num) (st (q.den : Int))
    rw [← z] at this
    simp at this
theorem dd_03 : dd "0/3" = .non := dd_none fun q e => by
  have t : ("0/3" : Str) = "0" ++ "/" ++ "3" := by decide +kernel
  by_cases h : q.den = 1
  · rw [txt_1 h, t] at e
    exact st_no47 q.num (by rw [← e]; exact in_sl _ _)
  · rw [txt_2 h, t] at e
    have n0 : 47 ∉ tl ("0" : Str) := by rw [tl_0]; decide
    obtain ⟨a, b⟩ := part_inj n0 (st_no47 _) e
    have a' : st 0 = st q.num := a
    have b' : st 3 = st (q.den : Int) := b
    have a2 := st_inj a'
    have b2 := st_inj b'
    have r := q.reduced
    rw [← a2] at r
    have : q.den = 3 := by omega
    rw [this] at r
    exact absurd r (by decide)
end MM
namespace K03
open PySem PySem.Spec PyProof.Rows L2 MM TL PySem.NumText
noncomputable section
theorem wide_ (r : Int) (h0 : 0 ≤ r) (h1 : r < 4) : ∃ w : Int, 0 < w ∧ w ≤ 10 ^ 59 ∧ L2.atI [D.int 9, .int 60, .int (10 ^ 9 - 1), .int (10 ^ 59)] r = some (.int w) := by
  have : r = 0 ∨ r = 1 ∨ r = 2 ∨ r = 3 := by omega
  rcases this with rfl | rfl | rfl | rfl
  all_goals exact ⟨_, by decide, by decide, rfl⟩
structure Env7 (z : List Sl) : Prop where
  ex : ∃ z7 z8 z9 z10 z11 : Sl, z = [z7, z8, z9, z10, z11] ∧ (z7.nio = true ∧ z8.nio = true ∧ z9.nio = true ∧ z10.nio = true ∧ z11.nio = true)
theorem f2_l {x : Rat} (hx1 : x.num.natAbs < 10 ^ 60) (hx2 : x.den < 10 ^ 60) {ph : Str} (hp : Tx 130 ph) (s0 s1 s3 : Sl) : ∀ (l : List D) (b : D) (m : Int) (s6 : Sl) (z : List Sl), Box m b → m + 3 * l.length + 10 < 1000000 → s6.nio = true → Env7 z →
    ∃ b' z6 z', Env7 z' ∧ z6.nio = true ∧ loopF (mTgN 6) b_law_f2 l ([s0, s1, .ow b, s3, .sh (fr x), .sh (.str ph), s6] ++ z) = .ok .nx ([s0, s1, .ow b', s3, .sh (fr x), .sh (.str ph), z6] ++ z')
  | [], b, m, s6, z, hb, hm, h6, hz => ⟨b, s6, z, hz, h6, rfl⟩
  | d :: l, b, m, s6, z, hb, hm, h6, hz => by
    rw [List.length_cons] at hm
    obtain ⟨s7, s8, s9, s10, s11, rfl, h7, h8, h9, h10, h11⟩ := hz.ex
    obtain ⟨b', z7, z8, z9, z10, z11, bx, hn, e⟩ := f2_ hb (by omega) hx1 hx2 hp s0 s1 s3 (.sh d) h7 h8 h9 h10 h11
    obtain ⟨b2, z6, z', hz', h6', e2⟩ := f2_l hx1 hx2 hp s0 s1 s3 l b' (m + 3) (.sh d) [z7, z8, z9, z10, z11] bx (by omega) rfl ⟨_, _, _, _, _, rfl, hn⟩
    refine ⟨b2, z6, z', hz', h6', loopF_cons (e1 := [s0, s1, .ow b, s3, .sh (fr x), .sh (.str ph), .sh d, s7, s8, s9, s10, s11]) ?_ e e2⟩
    simp -implicitDefEqProofs only [mRet, mRetN, mCall, mA1, mA0, mAr, mArS, mOp2, mOp1, mNm, nmS, mC, mDrop, ↓R.to_bd, R.bd_ok, R.bd_er, R.bd_no, List.getElem?_cons_zero, List.getElem?_cons_succ, pop2, pk, Option.bind_some, Option.bind_none, Sl.pk, MM.dIx_lst, MM.dIx_frl, MM.dIx_tup, MM.atI0, MM.atI1, MM.atI2, Option.map_some, Option.map_none, MM.dAdd_int, MM.dSub_int, MM.dLt_int, MM.dGt_int, MM.dLe_int, MM.dGe_int, MM.dEq_int, MM.dEq_bl, MM.dNe_bl, MM.dNe_int, dNeg, MM.dAbs_int, MM.dInt_int, dIsi, chkS, callS, slsOf, slOf, pickL, Src.at, List.map_cons, List.map_nil, List.getD_cons_zero, List.getD_cons_succ, List.length_cons, List.length_nil, and_self, if_true, mvs, List.filterMap, Ar.ix, List.nodup_nil, List.map_nil, back, backS, mDefR, retT, outsOf, outS, List.head?_cons, List.tail_cons, mSeq, mSet, mNext, mIf, mTb, tkB, mNot, mNotV, mAndT, mOrT, mAnd, mOr, asg, asgT, frc, frcS, List.set_cons_zero, List.set_cons_succ, ↓to_cd, cd_t, cd_f, Bool.not_true, Bool.not_false, List.cons_append, List.nil_append, List.append_nil, List.replicate, mLst, mTup, dsOf, mPar, mMake, chkM, mkS, mkR, mFldSet, mutT, mutS, mProp, propR, arD, ownOp, ownNe, MM.ownBin_def, MM.nbOk_q, MM.nbOk_i, notR, mMeth, mNegO, mCB, Nat.zero_add, Nat.reduceAdd, Nat.reduceLeDiff, Nat.not_lt_zero, List.length_cons, List.length_nil, MM.nodup1, MM.fp1, MM.fp2, MM.fl1, MM.fl2, MM.rv1, MM.rv2, MM.rv3, MM.rv4, MM.rv5, MM.rv6, MM.rv7, MM.rv8, MM.rv9, MM.rv10, MM.in1, MM.in2, MM.ok1, MM.ok2, MM.gc1, MM.gc2, MM.gt1, MM.gt2, MM.gt3, MM.gt4, MM.ixf0, MM.ixf1, MM.fr_int, MM.dEq_fr, MM.dEq_fr2, beq_self_eq_true, List.isEmpty_nil, Option.isNone_none, Option.isNone_some, Bool.and_true, Bool.and_false, Bool.true_and, Bool.false_and, mPut, okU, mFor, mIt, MM.itD_lst, MM.itD_frl, MM.itD_tup, mTgN, aft, if_false, MM.dInt_int, mSM1, sm1K, MM.dS1, mSl, mPart, MM.dSl_s, MM.dEq_s, MM.dNe_s, MM.itD_s, mAsgT, mTgT, mTgs, asgS_nio, h6]
structure Envs (a : D) (k : Int) (e : En) : Prop where
  ex : ∃ s2 s3 s4 s5 s6 s7 s8 s9 s10 s11 : Sl, e = [.sh a, .sh (.int k), s2, s3, s4, s5, s6, s7, s8, s9, s10, s11] ∧ (s2.nio = true ∧ s3.nio = true ∧ s4.nio = true ∧ s5.nio = true ∧ s6.nio = true ∧ s7.nio = true ∧ s8.nio = true ∧ s9.nio = true ∧ s10.nio = true ∧ s11.nio = true)
theorem body (ns : List Int) (hl : ns.length ≤ 63) (k : Int) (hk : 0 ≤ k ∧ k < 64) {e : En} (he : Envs (.frl (ns.map .int)) k e) :
    ∃ e', Envs (.frl (ns.map .int)) k e' ∧ b_law_f3 e = .ok .nx e' := by
  obtain ⟨s2, s3, s4, s5, s6, s7, s8, s9, s10, s11, rfl, h2, h3, h4, h5, h6, h7, h8, h9, h10, h11⟩ := he.ex
  have B : ∀ x : Int, x.natAbs ≤ 10 ^ 59 * 2 + 1 → Bt 198 x := fun x hx => Nat.lt_of_le_of_lt hx (by decide +kernel)
  obtain ⟨b0, bx0, hbox⟩ := box_ ns hl k hk.1 hk.2
  obtain ⟨r1, b1, a1, a2, bx1, t1⟩ := take_ bx0 (by decide) (many := 4) (by decide) (Bt.mono (k := 3) (by unfold Bt; decide) (by decide))
  obtain ⟨w, w1, w2, ew⟩ := wide_ r1 a1 a2
  have m1 := dMul_bt (a := 2) (b := w) (k := 2) (m := 198) (by unfold Bt; decide) (B w (by omega))
  obtain ⟨r2, b2, c1, c2, bx2, t2⟩ := take_ bx1 (by decide) (many := 2 * w + 1) (by omega) ((B _ (by omega)).mono (by decide))
  obtain ⟨r3, b3, d1, d2, bx3, t3⟩ := take_ bx2 (by decide) (many := w) (by omega) ((B _ (by omega)).mono (by decide))
  obtain ⟨r4, b4, e1, e2, bx4, t4⟩ := take_ bx3 (by decide) (many := 2) (by decide) (Bt.mono (k := 3) (by unfold Bt; decide) (by decide))
  obtain ⟨dn, hdn, edn⟩ : ∃ s : Int, (s = 1 ∨ s = 1 + r3) ∧ L2.atI [D.int 1, .int (1 + r3)] r4 = some (.int s) := by
    have : r4 = 0 ∨ r4 = 1 := by omega
    rcases this with rfl | rfl
    · exact ⟨1, .inl rfl, rfl⟩
    · exact ⟨1 + r3, .inr rfl, rfl⟩
  have dn0 : dn ≠ 0 := by omega
  generalize hx : Rat.divInt (r2 - w) dn = x
  have frx := fr_of dn0 ((B dn (by omega)).mono (by decide)) hx
  have n1 := num_le (a := r2 - w) dn0
  have n2 := den_le (a := r2 - w) dn0
  rw [hx] at n1 n2
  have hx1 : x.num.natAbs < 10 ^ 60 := by omega
  have hx2 : x.den < 10 ^ 60 := by omega
  have big : (10 : Nat) ^ 60 ≤ 2 ^ 1900 := Nat.le_trans (pow10 60) (Nat.pow_le_pow_right (by decide) (by decide))
  have w1' := Tx.st (by decide) hx1
  have w2' := Tx.st (i := (x.den : Int)) (k := 60) (by decide) (by rw [Int.natAbs_natCast]; exact hx2)
  have s1' := dStr_b (Nat.lt_of_lt_of_le hx1 big)
  have s2' := dStr_b (i := (x.den : Int)) (by rw [Int.natAbs_natCast]; exact Nat.lt_of_lt_of_le hx2 big)
  have ap1 := dAdd_s (a := st x.num) (b := "/") (by have := w1'.l; have := Tx.slash.l; omega)
  have ap2 := dAdd_s (a := st x.num ++ "/") (b := st (x.den : Int)) (by have := (w1'.app Tx.slash).l; have := w2'.l; omega)
  have ph := txt_tx hx1 hx2
  have PH : ∀ x5 x6 x7 x8 x9 x10 x11, (mIfE (mTb (mOp2 (mOp2 (mNm 4) (mC (.int 1)) (pop2 dIx)) (mC (.int 1)) (pop2 dEq))) (mOp1 (mOp2 (mNm 4) (mC (.int 0)) (pop2 dIx)) dStr) (mOp2 (mOp2 (mOp1 (mOp2 (mNm 4) (mC (.int 0)) (pop2 dIx)) dStr) (mC (.str "/")) (pop2 dAdd)) (mOp1 (mOp2 (mNm 4) (mC (.int 1)) (pop2 dIx)) dStr) (pop2 dAdd)))
      [.sh (.frl (ns.map .int)), .sh (.int k), .ow b4, .sh (.int w), .sh (fr x), x5, x6, x7, x8, x9, x10, x11] = .ok (.val (.str (txt x))) [.sh (.frl (ns.map .int)), .sh (.int k), .ow b4, .sh (.int w), .sh (fr x), x5, x6, x7, x8, x9, x10, x11] := by
    intro x5 x6 x7 x8 x9 x10 x11
    by_cases hd : x.den = 1
    · have hd' : decide ((x.den : Int) = 1) = true := decide_eq_true (by omega)
      rw [txt_1 hd]
      simp -implicitDefEqProofs only [mRet, mRetN, mCall, mA1, mA0, mAr, mArS, mOp2, mOp1, mNm, nmS, mC, mDrop, ↓R.to_bd, R.bd_ok, R.bd_er, R.bd_no, List.getElem?_cons_zero, List.getElem?_cons_succ, pop2, pk, Option.bind_some, Option.bind_none, Sl.pk, MM.dIx_lst, MM.dIx_frl, MM.dIx_tup, MM.atI0, MM.atI1, MM.atI2, Option.map_some, Option.map_none, MM.dAdd_int, MM.dSub_int, MM.dLt_int, MM.dGt_int, MM.dLe_int, MM.dGe_int, MM.dEq_int, MM.dEq_bl, MM.dNe_bl, MM.dNe_int, dNeg, MM.dAbs_int, MM.dInt_int, dIsi, chkS, callS, slsOf, slOf, pickL, Src.at, List.map_cons, List.map_nil, List.getD_cons_zero, List.getD_cons_succ, List.length_cons, List.length_nil, and_self, if_true, mvs, List.filterMap, Ar.ix, List.nodup_nil, List.map_nil, back, backS, mDefR, retT, outsOf, outS, List.head?_cons, List.tail_cons, mSeq, mSet, mNext, mIf, mTb, tkB, mNot, mNotV, mIfE, mAndT, mOrT, mAnd, mOr, asg, asgS, asgT, frc, frcS, List.set_cons_zero, List.set_cons_succ, ↓to_cd, cd_t, cd_f, Bool.not_true, Bool.not_false, List.cons_append, List.nil_append, List.append_nil, List.replicate, mLst, mTup, dsOf, mPar, mMake, chkM, mkS, mkR, mFldSet, mutT, mutS, mProp, propR, arD, ownOp, ownNe, MM.ownBin_def, MM.nbOk_q, MM.nbOk_i, notR, mMeth, mNegO, mCB, Nat.zero_add, Nat.reduceAdd, Nat.reduceLeDiff, Nat.not_lt_zero, List.length_cons, List.length_nil, MM.nodup1, MM.fp1, MM.fp2, MM.fl1, MM.fl2, MM.rv1, MM.rv2, MM.rv3, MM.rv4, MM.rv5, MM.rv6, MM.rv7, MM.rv8, MM.rv9, MM.rv10, MM.in1, MM.in2, MM.ok1, MM.ok2, MM.gc1, MM.gc2, MM.gt1, MM.gt2, MM.gt3, MM.gt4, MM.ixf0, MM.ixf1, MM.fr_int, MM.dEq_fr, MM.dEq_fr2, beq_self_eq_true, List.isEmpty_nil, Option.isNone_none, Option.isNone_some, Bool.and_true, Bool.and_false, Bool.true_and, Bool.false_and, mPut, okU, mFor, mIt, MM.itD_lst, MM.itD_frl, MM.itD_tup, mTgN, aft, loopF, if_false, MM.dInt_int, mSM1, sm1K, MM.dS1, mSl, mPart, MM.dSl_s, MM.dEq_s, MM.dNe_s, MM.itD_s, mAsgT, mTgT, mTgs, hd', s1']
    · have hd' : decide ((x.den : Int) = 1) = false := decide_eq_false (by omega)
      rw [txt_2 hd]
      simp -implicitDefEqProofs only [mRet, mRetN, mCall, mA1, mA0, mAr, mArS, mOp2, mOp1, mNm, nmS, mC, mDrop, ↓R.to_bd, R.bd_ok, R.bd_er, R.bd_no, List.getElem?_cons_zero, List.getElem?_cons_succ, pop2, pk, Option.bind_some, Option.bind_none, Sl.pk, MM.dIx_lst, MM.dIx_frl, MM.dIx_tup, MM.atI0, MM.atI1, MM.atI2, Option.map_some, Option.map_none, MM.dAdd_int, MM.dSub_int, MM.dLt_int, MM.dGt_int, MM.dLe_int, MM.dGe_int, MM.dEq_int, MM.dEq_bl, MM.dNe_bl, MM.dNe_int, dNeg, MM.dAbs_int, MM.dInt_int, dIsi, chkS, callS, slsOf, slOf, pickL, Src.at, List.map_cons, List.map_nil, List.getD_cons_zero, List.getD_cons_succ, List.length_cons, List.length_nil, and_self, if_true, mvs, List.filterMap, Ar.ix, List.nodup_nil, List.map_nil, back, backS, mDefR, retT, outsOf, outS, List.head?_cons, List.tail_cons, mSeq, mSet, mNext, mIf, mTb, tkB, mNot, mNotV, mIfE, mAndT, mOrT, mAnd, mOr, asg, asgS, asgT, frc, frcS, List.set_cons_zero, List.set_cons_succ, ↓to_cd, cd_t, cd_f, Bool.not_true, Bool.not_false, List.cons_append, List.nil_append, List.append_nil, List.replicate, mLst, mTup, dsOf, mPar, mMake, chkM, mkS, mkR, mFldSet, mutT, mutS, mProp, propR, arD, ownOp, ownNe, MM.ownBin_def, MM.nbOk_q, MM.nbOk_i, notR, mMeth, mNegO, mCB, Nat.zero_add, Nat.reduceAdd, Nat.reduceLeDiff, Nat.not_lt_zero, List.length_cons, List.length_nil, MM.nodup1, MM.fp1, MM.fp2, MM.fl1, MM.fl2, MM.rv1, MM.rv2, MM.rv3, MM.rv4, MM.rv5, MM.rv6, MM.rv7, MM.rv8, MM.rv9, MM.rv10, MM.in1, MM.in2, MM.ok1, MM.ok2, MM.gc1, MM.gc2, MM.gt1, MM.gt2, MM.gt3, MM.gt4, MM.ixf0, MM.ixf1, MM.fr_int, MM.dEq_fr, MM.dEq_fr2, beq_self_eq_true, List.isEmpty_nil, Option.isNone_none, Option.isNone_some, Bool.and_true, Bool.and_false, Bool.true_and, Bool.false_and, mPut, okU, mFor, mIt, MM.itD_lst, MM.itD_frl, MM.itD_tup, mTgN, aft, loopF, if_false, MM.dInt_int, mSM1, sm1K, MM.dS1, mSl, mPart, MM.dSl_s, MM.dEq_s, MM.dNe_s, MM.itD_s, mAsgT, mTgT, mTgs, hd', s1', s2', ap1, ap2]
  have tx := text_ (q := x) (Nat.lt_of_lt_of_le hx1 big) (Nat.lt_of_lt_of_le hx2 big) (Nat.le_trans w1'.l (by decide)) (Nat.le_trans w2'.l (by decide))
  have inx := in_of (a := x.num) (b := (x.den : Int)) (q := x) (rat_dn x) (Bt.mono (k := 240) (by unfold Bt; rw [Int.natAbs_natCast]; exact Nat.lt_of_lt_of_le hx2 (pow10 60)) (by decide)) (Rat.num_divInt_den x)
  have lr := lread_ (s := txt x) (Nat.le_trans ph.l (by decide))
  have ld := due_ (s := txt x) (Nat.le_trans ph.l (by decide)) ph.k
  rw [dd_txt] at lr ld
  have nf := dNe_fr x x
  rw [decide_eq_true rfl] at nf
  obtain ⟨t, ht, rd⟩ := read_ok (s := txt x) (Nat.le_trans ph.l (by decide)) rfl
  have eqx := eq_q x x
  rw [decide_eq_true rfl] at eqx
  have rc : isRecv "Ratio" "text" (some (rt x)) = true := rfl
  obtain ⟨b5, z6, z', hz', h6', lf⟩ := f2_l hx1 hx2 ph (.sh (.frl (ns.map .int))) (.sh (.int k)) (.sh (.int w)) (rngD 0 6) b4 (0 + 1 + 1 + 1 + 1) s6 [s7, s8, s9, s10, s11] bx4 (by have : (rngD 0 6).length = 6 := rfl; rw [this]; decide) h6 ⟨_, _, _, _, _, rfl, h7, h8, h9, h10, h11⟩
  obtain ⟨z7, z8, z9, z10, z11, rfl, hn7, hn8, hn9, hn10, hn11⟩ := hz'.ex
  simp only [List.cons_append, List.nil_append] at lf
  have i6 : ∀ e : En, mItA dRng1 (mA1 false (mC (.int 6)) mA0) e = .ok (rngD 0 6) e := fun e => mItA_of (as := [.d (.int 6)]) (by simp -implicitDefEqProofs only [mRet, mRetN, mCall, mA1, mA0, mAr, mArS, mOp2, mOp1, mNm, nmS, mC, mDrop, ↓R.to_bd, R.bd_ok, R.bd_er, R.bd_no, List.getElem?_cons_zero, List.getElem?_cons_succ, pop2, pk, Option.bind_some, Option.bind_none, Sl.pk, MM.dIx_lst, MM.dIx_frl, MM.dIx_tup, MM.atI0, MM.atI1, MM.atI2, Option.map_some, Option.map_none, MM.dAdd_int, MM.dSub_int, MM.dLt_int, MM.dGt_int, MM.dLe_int, MM.dGe_int, MM.dEq_int, MM.dEq_bl, MM.dNe_bl, MM.dNe_int, dNeg, MM.dAbs_int, MM.dInt_int, dIsi, chkS, callS, slsOf, slOf, pickL, Src.at, List.map_cons, List.map_nil, List.getD_cons_zero, List.getD_cons_succ, List.length_cons, List.length_nil, and_self, if_true, mvs, List.filterMap, Ar.ix, List.nodup_nil, List.map_nil, back, backS, mDefR, retT, outsOf, outS, List.head?_cons, List.tail_cons, mSeq, mSet, mNext, mIf, mTb, tkB, mNot, mNotV, mIfE, mAndT, mOrT, mAnd, mOr, asg, asgS, asgT, frc, frcS, List.set_cons_zero, List.set_cons_succ, ↓to_cd, cd_t, cd_f, Bool.not_true, Bool.not_false, List.cons_append, List.nil_append, List.append_nil, List.replicate, mLst, mTup, dsOf, mPar, mMake, chkM, mkS, mkR, mFldSet, mutT, mutS, mProp, propR, arD, ownOp, ownNe, MM.ownBin_def, MM.nbOk_q, MM.nbOk_i, notR, mMeth, mNegO, mCB, Nat.zero_add, Nat.reduceAdd, Nat.reduceLeDiff, Nat.not_lt_zero, List.length_cons, List.length_nil, MM.nodup1, MM.fp1, MM.fp2, MM.fl1, MM.fl2, MM.rv1, MM.rv2, MM.rv3, MM.rv4, MM.rv5, MM.rv6, MM.rv7, MM.rv8, MM.rv9, MM.rv10, MM.in1, MM.in2, MM.ok1, MM.ok2, MM.gc1, MM.gc2, MM.gt1, MM.gt2, MM.gt3, MM.gt4, MM.ixf0, MM.ixf1, MM.fr_int, MM.dEq_fr, MM.dEq_fr2, beq_self_eq_true, List.isEmpty_nil, Option.isNone_none, Option.isNone_some, Bool.and_true, Bool.and_false, Bool.true_and, Bool.false_and, mPut, okU, mFor, mIt, MM.itD_lst, MM.itD_frl, MM.itD_tup, mTgN, aft, loopF, if_false, MM.dInt_int, mSM1, sm1K, MM.dS1, mSl, mPart, MM.dSl_s, MM.dEq_s, MM.dNe_s, MM.itD_s, mAsgT, mTgT, mTgs]) rfl (rng1 (by decide) (by decide))
  have fin : ∀ e', Envs (.frl (ns.map .int)) k e' → b_law_f3 [.sh (.frl (ns.map .int)), .sh (.int k), s2, s3, s4, s5, s6, s7, s8, s9, s10, s11] = .ok .nx e' → ∃ e', Envs (.frl (ns.map .int)) k e' ∧ b_law_f3 [.sh (.frl (ns.map .int)), .sh (.int k), s2, s3, s4, s5, s6, s7, s8, s9, s10, s11] = .ok .nx e' := fun e' h1 h2 => ⟨e', h1, h2⟩
  refine fin [.sh (.frl (ns.map .int)), .sh (.int k), .ow b5, .sh (.int w), .sh (fr x), .sh (.str (txt x)), z6, z7, z8, z9, z10, z11] ⟨_, _, _, _, _, _, _, _, _, _, rfl, rfl, rfl, rfl, rfl, h6', hn7, hn8, hn9, hn10, hn11⟩ ?_
  rcases ht with rfl | rfl <;> simp -implicitDefEqProofs only [mRet, mRetN, mCall, mA1, mA0, mAr, mArS, mOp2, mOp1, mNm, nmS, mC, mDrop, ↓R.to_bd, R.bd_ok, R.bd_er, R.bd_no, List.getElem?_cons_zero, List.getElem?_cons_succ, pop2, pk, Option.bind_some, Option.bind_none, Sl.pk, MM.dIx_lst, MM.dIx_frl, MM.dIx_tup, MM.atI0, MM.atI1, MM.atI2, Option.map_some, Option.map_none, MM.dAdd_int, MM.dSub_int, MM.dLt_int, MM.dGt_int, MM.dLe_int, MM.dGe_int, MM.dEq_int, MM.dEq_bl, MM.dNe_bl, MM.dNe_int, dNeg, MM.dAbs_int, MM.dInt_int, dIsi, chkS, callS, slsOf, slOf, pickL, Src.at, List.map_cons, List.map_nil, List.getD_cons_zero, List.getD_cons_succ, List.length_cons, List.length_nil, and_self, if_true, mvs, List.filterMap, Ar.ix, List.nodup_nil, List.map_nil, back, backS, mDefR, retT, outsOf, outS, List.head?_cons, List.tail_cons, mSeq, mSet, mNext, mIf, mTb, tkB, mNot, mNotV, mAndT, mOrT, mAnd, mOr, asg, asgT, frc, frcS, List.set_cons_zero, List.set_cons_succ, ↓to_cd, cd_t, cd_f, Bool.not_true, Bool.not_false, List.cons_append, List.nil_append, List.append_nil, List.replicate, mLst, mTup, dsOf, mPar, mMake, chkM, mkS, mkR, mFldSet, mutT, mutS, mProp, propR, arD, ownOp, ownNe, MM.ownBin_def, MM.nbOk_q, MM.nbOk_i, notR, mMeth, mNegO, mCB, Nat.zero_add, Nat.reduceAdd, Nat.reduceLeDiff, Nat.not_lt_zero, List.length_cons, List.length_nil, MM.nodup1, MM.fp1, MM.fp2, MM.fl1, MM.fl2, MM.rv1, MM.rv2, MM.rv3, MM.rv4, MM.rv5, MM.rv6, MM.rv7, MM.rv8, MM.rv9, MM.rv10, MM.in1, MM.in2, MM.ok1, MM.ok2, MM.gc1, MM.gc2, MM.gt1, MM.gt2, MM.gt3, MM.gt4, MM.ixf0, MM.ixf1, MM.fr_int, MM.dEq_fr, MM.dEq_fr2, beq_self_eq_true, List.isEmpty_nil, Option.isNone_none, Option.isNone_some, Bool.and_true, Bool.and_false, Bool.true_and, Bool.false_and, mPut, okU, mFor, mIt, MM.itD_lst, MM.itD_frl, MM.itD_tup, mTgN, aft, if_false, MM.dInt_int, mSM1, sm1K, MM.dS1, mSl, mPart, MM.dSl_s, MM.dEq_s, MM.dNe_s, MM.itD_s, mAsgT, mTgT, mTgs, b_law_f3, hbox, t1, ew, pw9, pw59, m1, t2, t3, t4, edn, frx, PH, inx, tx, rc, decide_true, lr, ld, nf, mCMeth, rd, eqx, i6, lf, asgS_nio, nio_no, nio_sh, nio_ow, h2, h3, h4, h5, h6, h7, h8, h9, h10, h11]
theorem loop_ (ns : List Int) (hl : ns.length ≤ 63) : ∀ (m : Nat) (i : Nat) (k : Int) (e : En), i + m ≤ 64 → Envs (.frl (ns.map .int)) k e → ∃ e' k', Envs (.frl (ns.map .int)) k' e' ∧ loopF (mTgN 1) b_law_f3 ((List.range' i m).map fun (j : Nat) => .int j) e = .ok .nx e'
  | 0, i, k, e, hi, he => ⟨e, k, he, rfl⟩
  | m + 1, i, k, e, hi, he => by
    obtain ⟨s2, s3, s4, s5, s6, s7, s8, s9, s10, s11, rfl, hh⟩ := he.ex
    obtain ⟨e2, g2, b2⟩ := body ns hl i ⟨by omega, by omega⟩ (e := [.sh (.frl (ns.map .int)), .sh (.int i), s2, s3, s4, s5, s6, s7, s8, s9, s10, s11]) ⟨_, _, _, _, _, _, _, _, _, _, rfl, hh⟩
    obtain ⟨e3, k3, g3, l3⟩ := loop_ ns hl m (i + 1) i e2 (by omega) g2
    rw [List.range'_succ, List.map_cons]
    exact ⟨e3, k3, g3, loopF_cons (by simp -implicitDefEqProofs only [mRet, mRetN, mCall, mA1, mA0, mAr, mArS, mOp2, mOp1, mNm, nmS, mC, mDrop, ↓R.to_bd, R.bd_ok, R.bd_er, R.bd_no, List.getElem?_cons_zero, List.getElem?_cons_succ, pop2, pk, Option.bind_some, Option.bind_none, Sl.pk, MM.dIx_lst, MM.dIx_frl, MM.dIx_tup, MM.atI0, MM.atI1, MM.atI2, Option.map_some, Option.map_none, MM.dAdd_int, MM.dSub_int, MM.dLt_int, MM.dGt_int, MM.dLe_int, MM.dGe_int, MM.dEq_int, MM.dEq_bl, MM.dNe_bl, MM.dNe_int, dNeg, MM.dAbs_int, MM.dInt_int, dIsi, chkS, callS, slsOf, slOf, pickL, Src.at, List.map_cons, List.map_nil, List.getD_cons_zero, List.getD_cons_succ, List.length_cons, List.length_nil, and_self, if_true, mvs, List.filterMap, Ar.ix, List.nodup_nil, List.map_nil, back, backS, mDefR, retT, outsOf, outS, List.head?_cons, List.tail_cons, mSeq, mSet, mNext, mIf, mTb, tkB, mNot, mNotV, mIfE, mAndT, mOrT, mAnd, mOr, asg, asgS, asgT, frc, frcS, List.set_cons_zero, List.set_cons_succ, ↓to_cd, cd_t, cd_f, Bool.not_true, Bool.not_false, List.cons_append, List.nil_append, List.append_nil, List.replicate, mLst, mTup, dsOf, mPar, mMake, chkM, mkS, mkR, mFldSet, mutT, mutS, mProp, propR, arD, ownOp, ownNe, MM.ownBin_def, MM.nbOk_q, MM.nbOk_i, notR, mMeth, mNegO, mCB, Nat.zero_add, Nat.reduceAdd, Nat.reduceLeDiff, Nat.not_lt_zero, List.length_cons, List.length_nil, MM.nodup1, MM.fp1, MM.fp2, MM.fl1, MM.fl2, MM.rv1, MM.rv2, MM.rv3, MM.rv4, MM.rv5, MM.rv6, MM.rv7, MM.rv8, MM.rv9, MM.rv10, MM.in1, MM.in2, MM.ok1, MM.ok2, MM.gc1, MM.gc2, MM.gt1, MM.gt2, MM.gt3, MM.gt4, MM.ixf0, MM.ixf1, MM.fr_int, MM.dEq_fr, MM.dEq_fr2, beq_self_eq_true, List.isEmpty_nil, Option.isNone_none, Option.isNone_some, Bool.and_true, Bool.and_false, Bool.true_and, Bool.false_and, mPut, okU, mFor, mIt, MM.itD_lst, MM.itD_frl, MM.itD_tup, mTgN, aft, loopF, if_false, MM.dInt_int, mSM1, sm1K, MM.dS1, mSl, mPart, MM.dSl_s, MM.dEq_s, MM.dNe_s, MM.itD_s, mAsgT, mTgT, mTgs]) b2 l3⟩
end
end K03

set_option Elab.async false
set_option linter.all false
set_option maxRecDepth 100000
set_option maxHeartbeats 4000000
set_option exponentiation.threshold 3000
namespace MM
open PySem
theorem rng_nat (n : Nat) : rngD 0 n = (List.range' 0 n).map fun (j : Nat) => D.int j := by
  unfold rngD
  rw [Int.sub_zero, Int.toNat_natCast, List.range_eq_range']
  simp only [Int.zero_add]
theorem isN_non : dIsN .non .non = some (.val (.bl true)) := rfl
theorem dMax_int (i j : Int) : dMax [.int i, .int j] = some (.val (.int (if j > i then j else i))) := rfl
theorem dMin_int (i j : Int) : dMin [.int i, .int j] = some (.val (.int (if j < i then j else i))) := rfl
end MM
namespace K03
open PySem PySem.Spec PyProof.Rows L2 MM TL PySem.NumText
noncomputable section
theorem law_ (ns : List Int) (hl : ns.length ≤ 63) : Holds1 m_law ns := by
  obtain ⟨mm, hmm, em⟩ : ∃ mm : Nat, mm ≤ 64 ∧ (if (if (ns.length : Int) < 3 then (ns.length : Int) else 3) > 1 then (if (ns.length : Int) < 3 then (ns.length : Int) else 3) else 1) = (mm : Int) := by
    refine ⟨(if (if (ns.length : Int) < 3 then (ns.length : Int) else 3) > 1 then (if (ns.length : Int) < 3 then (ns.length : Int) else 3) else 1).toNat, ?_, ?_⟩ <;> split <;> split <;> omega
  have el : dLen (.frl (ns.map .int)) = some (.val (.int ns.length)) := by
    show some (Tk.val (.int ((ns.map D.int).length : Nat))) = _
    rw [List.length_map]
  have hi : ∀ e : En, e[0]? = some (.sh (.frl (ns.map .int))) → mItA dRng1 (mA1 false (mCB (mA1 false (mC (.int 1)) (mA1 false (mCB (mA1 false (mC (.int 3)) (mA1 false (mOp1 (mNm 0) dLen) (mA0))) dMin) (mA0))) dMax) (mA0)) e = .ok (rngD 0 mm) e := fun e h => by
    refine mItA_of (as := [.d (.int mm)]) ?_ rfl (rng1 (by omega) (by omega))
    simp -implicitDefEqProofs only [mRet, mRetN, mCall, mA1, mA0, mAr, mArS, mOp2, mOp1, mNm, nmS, mC, mDrop, ↓R.to_bd, R.bd_ok, R.bd_er, R.bd_no, List.getElem?_cons_zero, List.getElem?_cons_succ, pop2, pk, Option.bind_some, Option.bind_none, Sl.pk, MM.dIx_lst, MM.dIx_frl, MM.dIx_tup, MM.atI0, MM.atI1, MM.atI2, Option.map_some, Option.map_none, MM.dAdd_int, MM.dSub_int, MM.dLt_int, MM.dGt_int, MM.dLe_int, MM.dGe_int, MM.dEq_int, MM.dEq_bl, MM.dNe_bl, MM.dNe_int, dNeg, MM.dAbs_int, MM.dInt_int, dIsi, chkS, callS, slsOf, slOf, pickL, Src.at, List.map_cons, List.map_nil, List.getD_cons_zero, List.getD_cons_succ, List.length_cons, List.length_nil, and_self, if_true, mvs, List.filterMap, Ar.ix, List.nodup_nil, List.map_nil, back, backS, mDefR, retT, outsOf, outS, List.head?_cons, List.tail_cons, mSeq, mSet, mNext, mIf, mTb, tkB, mNot, mNotV, mIfE, mAndT, mOrT, mAnd, mOr, asg, asgS, asgT, frc, frcS, List.set_cons_zero, List.set_cons_succ, ↓to_cd, cd_t, cd_f, Bool.not_true, Bool.not_false, List.cons_append, List.nil_append, List.append_nil, List.replicate, mLst, mTup, dsOf, mPar, mMake, chkM, mkS, mkR, mFldSet, mutT, mutS, mProp, propR, arD, ownOp, ownNe, MM.ownBin_def, MM.nbOk_q, MM.nbOk_i, notR, mMeth, mNegO, mCB, Nat.zero_add, Nat.reduceAdd, Nat.reduceLeDiff, Nat.not_lt_zero, List.length_cons, List.length_nil, MM.nodup1, MM.fp1, MM.fp2, MM.fl1, MM.fl2, MM.rv1, MM.rv2, MM.rv3, MM.rv4, MM.rv5, MM.rv6, MM.rv7, MM.rv8, MM.rv9, MM.rv10, MM.in1, MM.in2, MM.ok1, MM.ok2, MM.gc1, MM.gc2, MM.gt1, MM.gt2, MM.gt3, MM.gt4, MM.ixf0, MM.ixf1, MM.fr_int, MM.dEq_fr, MM.dEq_fr2, beq_self_eq_true, List.isEmpty_nil, Option.isNone_none, Option.isNone_some, Bool.and_true, Bool.and_false, Bool.true_and, Bool.false_and, mPut, okU, mFor, mIt, MM.itD_lst, MM.itD_frl, MM.itD_tup, mTgN, aft, loopF, if_false, MM.dInt_int, mSM1, sm1K, MM.dS1, mSl, mPart, MM.dSl_s, MM.dEq_s, MM.dNe_s, MM.itD_s, mAsgT, mTgT, mTgs, h, el, dMax_int, dMin_int, em]
  -- the first turn stores k; until then the slot is empty
  have L : ∃ e', (e' = [.sh (.frl (ns.map .int)), .no, .no, .no, .no, .no, .no, .no, .no, .no, .no, .no] ∨ ∃ k, Envs (.frl (ns.map .int)) k e') ∧ loopF (mTgN 1) b_law_f3 (rngD 0 mm) [.sh (.frl (ns.map .int)), .no, .no, .no, .no, .no, .no, .no, .no, .no, .no, .no] = .ok .nx e' := by
    rw [rng_nat]
    cases mm with
    | zero => exact ⟨_, .inl rfl, rfl⟩
    | succ m =>
      obtain ⟨e2, g2, b2⟩ := body ns hl 0 ⟨by decide, by decide⟩ (e := [.sh (.frl (ns.map .int)), .sh (.int 0), .no, .no, .no, .no, .no, .no, .no, .no, .no, .no]) ⟨_, _, _, _, _, _, _, _, _, _, rfl, rfl, rfl, rfl, rfl, rfl, rfl, rfl, rfl, rfl, rfl⟩
      obtain ⟨e3, k3, g3, l3⟩ := loop_ ns hl m 1 0 e2 (by omega) g2
      rw [List.range'_succ, List.map_cons]
      exact ⟨e3, .inr ⟨k3, g3⟩, loopF_cons (by simp -implicitDefEqProofs only [mRet, mRetN, mCall, mA1, mA0, mAr, mArS, mOp2, mOp1, mNm, nmS, mC, mDrop, ↓R.to_bd, R.bd_ok, R.bd_er, R.bd_no, List.getElem?_cons_zero, List.getElem?_cons_succ, pop2, pk, Option.bind_some, Option.bind_none, Sl.pk, MM.dIx_lst, MM.dIx_frl, MM.dIx_tup, MM.atI0, MM.atI1, MM.atI2, Option.map_some, Option.map_none, MM.dAdd_int, MM.dSub_int, MM.dLt_int, MM.dGt_int, MM.dLe_int, MM.dGe_int, MM.dEq_int, MM.dEq_bl, MM.dNe_bl, MM.dNe_int, dNeg, MM.dAbs_int, MM.dInt_int, dIsi, chkS, callS, slsOf, slOf, pickL, Src.at, List.map_cons, List.map_nil, List.getD_cons_zero, List.getD_cons_succ, List.length_cons, List.length_nil, and_self, if_true, mvs, List.filterMap, Ar.ix, List.nodup_nil, List.map_nil, back, backS, mDefR, retT, outsOf, outS, List.head?_cons, List.tail_cons, mSeq, mSet, mNext, mIf, mTb, tkB, mNot, mNotV, mIfE, mAndT, mOrT, mAnd, mOr, asg, asgS, asgT, frc, frcS, List.set_cons_zero, List.set_cons_succ, ↓to_cd, cd_t, cd_f, Bool.not_true, Bool.not_false, List.cons_append, List.nil_append, List.append_nil, List.replicate, mLst, mTup, dsOf, mPar, mMake, chkM, mkS, mkR, mFldSet, mutT, mutS, mProp, propR, arD, ownOp, ownNe, MM.ownBin_def, MM.nbOk_q, MM.nbOk_i, notR, mMeth, mNegO, mCB, Nat.zero_add, Nat.reduceAdd, Nat.reduceLeDiff, Nat.not_lt_zero, List.length_cons, List.length_nil, MM.nodup1, MM.fp1, MM.fp2, MM.fl1, MM.fl2, MM.rv1, MM.rv2, MM.rv3, MM.rv4, MM.rv5, MM.rv6, MM.rv7, MM.rv8, MM.rv9, MM.rv10, MM.in1, MM.in2, MM.ok1, MM.ok2, MM.gc1, MM.gc2, MM.gt1, MM.gt2, MM.gt3, MM.gt4, MM.ixf0, MM.ixf1, MM.fr_int, MM.dEq_fr, MM.dEq_fr2, beq_self_eq_true, List.isEmpty_nil, Option.isNone_none, Option.isNone_some, Bool.and_true, Bool.and_false, Bool.true_and, Bool.false_and, mPut, okU, mFor, mIt, MM.itD_lst, MM.itD_frl, MM.itD_tup, mTgN, aft, loopF, if_false, MM.dInt_int, mSM1, sm1K, MM.dS1, mSl, mPart, MM.dSl_s, MM.dEq_s, MM.dNe_s, MM.itD_s, mAsgT, mTgT, mTgs]; exact rfl) b2 l3⟩
  obtain ⟨e', ge, hf⟩ := L
  obtain ⟨s1, s2, s3, s4, s5, s6, s7, s8, s9, s10, s11, rfl⟩ : ∃ s1 s2 s3 s4 s5 s6 s7 s8 s9 s10 s11, e' = [.sh (.frl (ns.map .int)), s1, s2, s3, s4, s5, s6, s7, s8, s9, s10, s11] := by
    rcases ge with rfl | ⟨k, g⟩
    · exact ⟨_, _, _, _, _, _, _, _, _, _, _, rfl⟩
    · obtain ⟨s2, s3, s4, s5, s6, s7, s8, s9, s10, s11, rfl, _⟩ := g.ex
      exact ⟨_, _, _, _, _, _, _, _, _, _, _, rfl⟩
  have r1 := lread_ (s := "") (by decide +kernel)
  have r2 := lread_ (s := "-0") (by decide +kernel)
  have r3 := lread_ (s := "0/3") (by decide +kernel)
  rw [dd_e] at r1
  rw [dd_m0] at r2
  rw [dd_03] at r3
  have hi' := hi [.sh (.frl (ns.map .int)), .no, .no, .no, .no, .no, .no, .no, .no, .no, .no, .no] rfl
  refine ⟨[.no], ?_⟩
  show mDefR _ (b_law _) = _
  simp -implicitDefEqProofs only [mRet, mRetN, mCall, mA1, mA0, mAr, mArS, mOp2, mOp1, mNm, nmS, mC, mDrop, ↓R.to_bd, R.bd_ok, R.bd_er, R.bd_no, List.getElem?_cons_zero, List.getElem?_cons_succ, pop2, pk, Option.bind_some, Option.bind_none, Sl.pk, MM.dIx_lst, MM.dIx_frl, MM.dIx_tup, MM.atI0, MM.atI1, MM.atI2, Option.map_some, Option.map_none, MM.dAdd_int, MM.dSub_int, MM.dLt_int, MM.dGt_int, MM.dLe_int, MM.dGe_int, MM.dEq_int, MM.dEq_bl, MM.dNe_bl, MM.dNe_int, dNeg, MM.dAbs_int, MM.dInt_int, dIsi, chkS, callS, slsOf, slOf, pickL, Src.at, List.map_cons, List.map_nil, List.getD_cons_zero, List.getD_cons_succ, List.length_cons, List.length_nil, and_self, if_true, mvs, List.filterMap, Ar.ix, List.nodup_nil, List.map_nil, back, backS, mDefR, retT, outsOf, outS, List.head?_cons, List.tail_cons, mSeq, mSet, mNext, mIf, mTb, tkB, mNot, mNotV, mAndT, mOrT, mAnd, mOr, asg, asgT, frc, frcS, List.set_cons_zero, List.set_cons_succ, ↓to_cd, cd_t, cd_f, Bool.not_true, Bool.not_false, List.cons_append, List.nil_append, List.append_nil, List.replicate, mLst, mTup, dsOf, mPar, mMake, chkM, mkS, mkR, mFldSet, mutT, mutS, mProp, propR, arD, ownOp, ownNe, MM.ownBin_def, MM.nbOk_q, MM.nbOk_i, notR, mMeth, mNegO, mCB, Nat.zero_add, Nat.reduceAdd, Nat.reduceLeDiff, Nat.not_lt_zero, List.length_cons, List.length_nil, MM.nodup1, MM.fp1, MM.fp2, MM.fl1, MM.fl2, MM.rv1, MM.rv2, MM.rv3, MM.rv4, MM.rv5, MM.rv6, MM.rv7, MM.rv8, MM.rv9, MM.rv10, MM.in1, MM.in2, MM.ok1, MM.ok2, MM.gc1, MM.gc2, MM.gt1, MM.gt2, MM.gt3, MM.gt4, MM.ixf0, MM.ixf1, MM.fr_int, MM.dEq_fr, MM.dEq_fr2, beq_self_eq_true, List.isEmpty_nil, Option.isNone_none, Option.isNone_some, Bool.and_true, Bool.and_false, Bool.true_and, Bool.false_and, mPut, okU, mFor, mIt, MM.itD_lst, MM.itD_frl, MM.itD_tup, mTgN, aft, if_false, MM.dInt_int, mSM1, sm1K, MM.dS1, mSl, mPart, MM.dSl_s, MM.dEq_s, MM.dNe_s, MM.itD_s, mAsgT, mTgT, mTgs, b_law, hi', hf, r1, r2, r3, isN_non]
end
end K03
theorem PySem.Challenge.cw_finalblocks_k03_texts_of_ratios_holds : PySem.Challenge.rw_finalblocks_k03_texts_of_ratios.Holds := by
  exact K03.holds K03.law_

