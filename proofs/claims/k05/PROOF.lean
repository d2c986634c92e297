import PyProof.Rows.All
import Wide.All
import OpenK.AllK
import Wide.FinOn
import HandS.ForMost
import HandS.ExcOwn
import HandS.TryOnly
import HandS.WordsExc
import HandS.TupAny
import HandS.IsInst
import HandS.Zip
import HandS.Conv
import HandS.Walk
import HandS.Deep
import KE.GoesMore
import KE.KDictZip
import HandS.Text
import HandS.RaiseMore
import KE.KItemsList
import HandS.ListItems
import HandS.DictComp
import KE.KEqDict
import PyProof.ReprRoads
import PyProof.RowDictHeap
import HandS.Style
import PySem.Challenge.RW_wirebox_k05_matching
/-! ## DL0 -/
section
set_option Elab.async false
set_option linter.all false
set_option maxRecDepth 100000
/-! # Data by value: a computing reading of defs, over the hand layer -/
namespace DL
open PySem PySem.Spec PyProof.Rows L2
abbrev St := L2.St

/-- data: immutable things and frozen lists by value; `ref` a cell of the store; `glo` a def or class of the text -/
inductive D where
  | non | bl (b : Bool) | int (i : Int) | str (s : Str) | ty (n : String) | glo (n : String)
  | tup (l : List D) | lst (l : List D) | frz (l : List D) | ref (n : Nat)

/-- what a cell of the store holds -/
inductive Cell where
  | lst (l : List D)
  | dct (kvs : List (Key × D))
  | ins (c : String) (fs : List (Str × D))
  | shut (kvs : List (Key × D))

abbrev Store := List Cell
abbrev Env := List (Option D)

/-- how something comes out -/
inductive Out (α : Type) where
  | ok (a : α) (S : Store)
  | ex (c : String) (fs : List (Str × D)) (S : Store)
  | no

def Out.bind {α β : Type} (o : Out α) (f : α → Store → Out β) : Out β := match o with
  | .ok a S => f a S
  | .ex c fs S => .ex c fs S
  | .no => .no
@[simp] theorem Out.bind_ok {α β : Type} (a : α) (S : Store) (f : α → Store → Out β) : (Out.ok a S).bind f = f a S := rfl
@[simp] theorem Out.bind_ex {α β : Type} (c fs S) (f : α → Store → Out β) : (Out.ex c fs S : Out α).bind f = .ex c fs S := rfl
@[simp] theorem Out.bind_no {α β : Type} (f : α → Store → Out β) : (Out.no : Out α).bind f = .no := rfl

inductive Fl where
  | nx (ρ : Env) (S : Store)
  | rt (d : D) (S : Store)
  | bk (ρ : Env) (S : Store)
  | ct (ρ : Env) (S : Store)
  | ex (c : String) (fs : List (Str × D)) (ρ : Env) (S : Store)
  | no

abbrev M := Env → Store → Out D
abbrev MA := Env → Store → Out (List D)
abbrev MT := Env → Store → Out Bool
abbrev MS := Env → Store → Fl

/-! ### what stands for what -/
/-- the addresses of the cells, by their numbers, and of what no data stands on -/
structure Ad where
  c : List Addr
  x : List Addr := []
instance : Membership Addr Ad := ⟨fun ι a => a ∈ ι.c ∨ a ∈ ι.x⟩
def Ad.snoc (ι : Ad) (p : Addr) : Ad := ⟨ι.c ++ [p], ι.x⟩
def Ad.hid (ι : Ad) (p : Addr) : Ad := ⟨ι.c, p :: ι.x⟩
theorem Ad.mem_snoc {ι : Ad} {p a : Addr} : a ∈ ι.snoc p ↔ a ∈ ι ∨ a = p := by
  show (a ∈ ι.c ++ [p] ∨ a ∈ ι.x) ↔ (a ∈ ι.c ∨ a ∈ ι.x) ∨ a = p
  rw [List.mem_append, List.mem_singleton]
  constructor
  · rintro ((h | h) | h)
    · exact .inl (.inl h)
    · exact .inr h
    · exact .inl (.inr h)
  · rintro ((h | h) | h)
    · exact .inl (.inl h)
    · exact .inr h
    · exact .inl (.inr h)
theorem Ad.mem_hid {ι : Ad} {p a : Addr} : a ∈ ι.hid p ↔ a ∈ ι ∨ a = p := by
  show (a ∈ ι.c ∨ a ∈ p :: ι.x) ↔ (a ∈ ι.c ∨ a ∈ ι.x) ∨ a = p
  rw [List.mem_cons]
  constructor
  · rintro (h | h | h)
    · exact .inl (.inl h)
    · exact .inr h
    · exact .inl (.inr h)
  · rintro ((h | h) | h)
    · exact .inl h
    · exact .inr (.inr h)
    · exact .inr (.inl h)
theorem Ad.at_snoc (ι : Ad) (p : Addr) : (ι.snoc p).c[ι.c.length]? = some p := by
  show (ι.c ++ [p])[ι.c.length]? = some p
  simp
structure Pre (ι ι' : Ad) : Prop where
  c : ι.c <+: ι'.c
  x : ι.x = ι'.x
theorem Pre.refl (ι : Ad) : Pre ι ι := ⟨List.prefix_refl _, rfl⟩
theorem Pre.trans {ι ι1 ι2 : Ad} (a : Pre ι ι1) (b : Pre ι1 ι2) : Pre ι ι2 := ⟨a.c.trans b.c, a.x.trans b.x⟩
theorem Pre.snoc {ι ι1 : Ad} (a : Pre ι ι1) (p : Addr) : Pre ι (ι1.snoc p) := ⟨a.c.trans (List.prefix_append _ _), a.x⟩
section
variable (K : PySem.W.Frag) (G : String → Addr)

def WrL (a : Addr) (xs : List V) : Prop := ∃ (o : Obj) (its : Array Value) (n : Nat), K.lookup a = some o ∧ o.cls = .type "list" ∧ o.dict = none ∧ o.data = .seq its n ∧ its.size ≤ sizeLine ∧ Vals xs its.toList
def WrT (a : Addr) (xs : List V) : Prop := ∃ (o : Obj) (its : Array Value) (n : Nat), K.lookup a = some o ∧ o.cls = .type "tuple" ∧ o.data = .seq its n ∧ its.size ≤ sizeLine ∧ Vals xs its.toList
def FzL (ι : Ad) (H : Hp) (a : Addr) (xs : List V) : Prop := (Rd H a (.lst xs) ∧ a ∉ ι) ∨ WrL K a xs
def FzT (ι : Ad) (H : Hp) (a : Addr) (xs : List V) : Prop := (Rd H a (.tup xs) ∧ a ∉ ι) ∨ WrT K a xs
theorem FzL.sq {K : PySem.W.Frag} {ι : Ad} {H : Hp} {a : Addr} {xs : List V} (h : FzL K ι H a xs) : SqL K H a xs := by
  rcases h with h | h
  · exact .inl h.1
  · exact .inr h
theorem FzT.sq {K : PySem.W.Frag} {ι : Ad} {H : Hp} {a : Addr} {xs : List V} (h : FzT K ι H a xs) : SqT K H a xs := by
  rcases h with h | h
  · exact .inl h.1
  · exact .inr h

mutual
inductive Is (ι : Ad) (H : Hp) : D → V → Prop
  | non : Is ι H .non .non
  | bl (b : Bool) : Is ι H (.bl b) (.bl b)
  | int (i : Int) : Is ι H (.int i) (.int i)
  | str (s : Str) : Is ι H (.str s) (.str s)
  | ty (n : String) : Is ι H (.ty n) (.ty n)
  | glo (n : String) : Is ι H (.glo n) (.ref (G n))
  | ref {n : Nat} {a : Addr} : ι.c[n]? = some a → Is ι H (.ref n) (.ref a)
  | tup {l : List D} {a : Addr} {xs : List V} : FzT K ι H a xs → IsAll ι H l xs → Is ι H (.tup l) (.ref a)
  | lst {l : List D} {a : Addr} {xs : List V} : H a = some (.lst xs) → a ∉ ι → IsAll ι H l xs → Is ι H (.lst l) (.ref a)
  | frz {l : List D} {a : Addr} {xs : List V} : FzL K ι H a xs → IsAll ι H l xs → Is ι H (.frz l) (.ref a)
inductive IsAll (ι : Ad) (H : Hp) : List D → List V → Prop
  | nil : IsAll ι H [] []
  | cons {d : D} {l : List D} {v : V} {vs : List V} : Is ι H d v → IsAll ι H l vs → IsAll ι H (d :: l) (v :: vs)
end

def IsKV {κ : Type} (ι : Ad) (H : Hp) : List (κ × D) → List (κ × V) → Prop := Paired fun p q => p.1 = q.1 ∧ Is K G ι H p.2 q.2

def CellIs (ι : Ad) (H : Hp) (a : Addr) : Cell → Prop
  | .lst l => ∃ vs, H a = some (.lst vs) ∧ IsAll K G ι H l vs
  | .dct kvs => ∃ ws, H a = some (.dK ws) ∧ IsKV K G ι H kvs ws
  | .ins c fs => ∃ dx ws, H a = some (.ins (G c) dx ws) ∧ IsKV K G ι H fs ws
  | .shut kvs => ∃ o ws, H a = some (.frz o (.dK ws)) ∧ IsKV K G ι H kvs ws

structure Rep (ι : Ad) (S : Store) (H : Hp) : Prop where
  nd : ι.c.Nodup
  dis : ∀ a, a ∈ ι.x → a ∉ ι.c
  hid : ∀ a, a ∈ ι.x → ∃ o, H a = some o
  len : ι.c.length = S.length
  cell : ∀ (i : Nat) (a : Addr) (c : Cell), ι.c[i]? = some a → S[i]? = some c → CellIs K G ι H a c

structure EnvIs (ι : Ad) (H : Hp) (ρ : Env) (σ : St) : Prop where
  len : ρ.length = σ.length
  at_ : ∀ (i : Nat) (d : D), ρ[i]? = some (some d) → ∃ v, σ[i]? = some (some v) ∧ Is K G ι H d v
end

structure Ext (ι : Ad) (H : Hp) (ι' : Ad) (H' : Hp) : Prop where
  pre : Pre ι ι'
  keep : ∀ a o, a ∉ ι.c → H a = some o → H' a = some o
  new : ∀ a, a ∈ ι'.c → a ∈ ι.c ∨ H a = none
  frz : ∀ a o u, H a = some (.frz o u) → H' a = some (.frz o u)
theorem Ext.refl (ι : Ad) (H : Hp) : Ext ι H ι H := ⟨Pre.refl _, fun _ _ _ h => h, fun _ h => .inl h, fun _ _ _ h => h⟩
theorem Ext.trans {ι ι1 ι2 : Ad} {H H1 H2 : Hp} (x : Ext ι H ι1 H1) (y : Ext ι1 H1 ι2 H2) : Ext ι H ι2 H2 where
  pre := x.pre.trans y.pre
  frz a o u h := y.frz a o u (x.frz a o u h)
  keep a o h1 h2 := y.keep a o (fun h => (x.new a h).elim h1 fun z => by rw [h2] at z; cases z) (x.keep a o h1 h2)
  new a h := by
    rcases y.new a h with h | h
    · exact x.new a h
    · by_cases hι : a ∈ ι.c
      · exact .inl hι
      · right
        cases e : H a with
        | none => rfl
        | some o => rw [x.keep a o hι e] at h; cases h
/-- a new object that is no cell -/
theorem Ext.push {ι : Ad} {H : Hp} {p : Addr} {o : HO} (hp : H p = none) : Ext ι H ι (upd H p o) :=
  ⟨Pre.refl _, fun a u _ e => by rw [upd_ne (ne_of_none e hp)]; exact e, fun _ h => .inl h, fun a _ _ e => by rw [upd_ne (ne_of_none e hp)]; exact e⟩
/-- a new cell -/
theorem Ext.cell {ι : Ad} {H : Hp} {p : Addr} {o : HO} (hp : H p = none) : Ext ι H (ι.snoc p) (upd H p o) :=
  ⟨(Pre.refl _).snoc _, fun a u _ e => by rw [upd_ne (ne_of_none e hp)]; exact e, fun a h => by
    rcases List.mem_append.mp h with h | h
    · exact .inl h
    · rw [List.mem_singleton.mp h]; exact .inr hp, fun a _ _ e => by rw [upd_ne (ne_of_none e hp)]; exact e⟩
theorem ne_frz {H : Hp} {a : Addr} {v : HO} (h : H a = some v) (hv : ∀ o u, v ≠ .frz o u) : ∀ o u, H a ≠ some (.frz o u) := fun o u z => hv o u (Option.some.inj (h.symm.trans z))
/-- a cell is written -/
theorem Ext.write {ι : Ad} {H : Hp} {p : Addr} {o : HO} (hp : p ∈ ι.c) (hf : ∀ o' u, H p ≠ some (.frz o' u)) : Ext ι H ι (upd H p o) :=
  ⟨Pre.refl _, fun a u h e => by rw [upd_ne (fun z : a = p => h (by rw [z]; exact hp))]; exact e, fun _ h => .inl h, fun a o' u e => by rw [upd_ne (fun z : a = p => hf o' u (by rw [← z]; exact e))]; exact e⟩

section
variable {K : PySem.W.Frag} {G : String → Addr} {ι ι' : Ad} {H H' : Hp}
/-- what data needs to stand -/
def isDat : HO → Prop
  | .lst _ => True
  | .tup _ => True
  | .frz _ _ => True
  | _ => False
structure Stay (ι : Ad) (H : Hp) (ι' : Ad) (H' : Hp) : Prop where
  pre : ι.c <+: ι'.c
  keep : ∀ a o, a ∉ ι → H a = some o → isDat o → H' a = some o ∧ a ∉ ι'
theorem Ext.stay (e : Ext ι H ι' H') : Stay ι H ι' H' := ⟨e.pre.c, fun a o h1 h2 _ => ⟨e.keep a o (fun z => h1 (.inl z)) h2, fun z => z.elim (fun z => (e.new a z).elim (fun z => h1 (.inl z)) fun z => by rw [h2] at z; cases z) fun z => h1 (.inr (by rw [e.pre.x]; exact z))⟩⟩
/-- and what is frozen stays frozen -/
structure StayF (ι : Ad) (H : Hp) (ι' : Ad) (H' : Hp) : Prop extends Stay ι H ι' H' where
  frz : ∀ a o u, H a = some (.frz o u) → H' a = some (.frz o u)
theorem Ext.stayF (e : Ext ι H ι' H') : StayF ι H ι' H' := ⟨e.stay, e.frz⟩
theorem pre_get {α : Type} {l l' : List α} {n : Nat} {a : α} (h : l <+: l') (e : l[n]? = some a) : l'[n]? = some a := by
  obtain ⟨t, rfl⟩ := h
  obtain ⟨hl, rfl⟩ := List.getElem?_eq_some_iff.mp e
  rw [List.getElem?_append_left hl, List.getElem?_eq_getElem hl]
theorem FzL.stay {a : Addr} {xs : List V} (e : Stay ι H ι' H') (h : FzL K ι H a xs) : FzL K ι' H' a xs := by
  rcases h with ⟨h | ⟨o, h⟩, hn⟩ | h
  · obtain ⟨h1, h2⟩ := e.keep a _ hn h trivial
    exact .inl ⟨.inl h1, h2⟩
  · obtain ⟨h1, h2⟩ := e.keep a _ hn h trivial
    exact .inl ⟨.inr ⟨o, h1⟩, h2⟩
  · exact .inr h
theorem FzT.stay {a : Addr} {xs : List V} (e : Stay ι H ι' H') (h : FzT K ι H a xs) : FzT K ι' H' a xs := by
  rcases h with ⟨h | ⟨o, h⟩, hn⟩ | h
  · obtain ⟨h1, h2⟩ := e.keep a _ hn h trivial
    exact .inl ⟨.inl h1, h2⟩
  · obtain ⟨h1, h2⟩ := e.keep a _ hn h trivial
    exact .inl ⟨.inr ⟨o, h1⟩, h2⟩
  · exact .inr h
mutual
theorem Is.stay (e : Stay ι H ι' H') : ∀ {d : D} {v : V}, Is K G ι H d v → Is K G ι' H' d v
  | _, _, .non => .non
  | _, _, .bl b => .bl b
  | _, _, .int i => .int i
  | _, _, .str s => .str s
  | _, _, .ty n => .ty n
  | _, _, .glo n => .glo n
  | _, _, .ref h => .ref (pre_get e.pre h)
  | _, _, .tup h t => .tup (h.stay e) (IsAll.stay e t)
  | _, _, .lst h n t => .lst (e.keep _ _ n h trivial).1 (e.keep _ _ n h trivial).2 (IsAll.stay e t)
  | _, _, .frz h t => .frz (h.stay e) (IsAll.stay e t)
theorem IsAll.stay (e : Stay ι H ι' H') : ∀ {l : List D} {vs : List V}, IsAll K G ι H l vs → IsAll K G ι' H' l vs
  | _, _, .nil => .nil
  | _, _, .cons h t => .cons (Is.stay e h) (IsAll.stay e t)
end
theorem IsKV.stay {κ : Type} (e : Stay ι H ι' H') : ∀ {l : List (κ × D)} {vs : List (κ × V)}, IsKV K G ι H l vs → IsKV K G ι' H' l vs
  | _, _, .nil => .nil
  | _, _, .cons h t => .cons ⟨h.1, h.2.stay e⟩ (IsKV.stay e t)
theorem Is.ext (e : Ext ι H ι' H') {d : D} {v : V} (h : Is K G ι H d v) : Is K G ι' H' d v := h.stay e.stay
theorem IsAll.ext (e : Ext ι H ι' H') {d : List D} {v : List V} (h : IsAll K G ι H d v) : IsAll K G ι' H' d v := h.stay e.stay
theorem IsKV.ext {κ : Type} (e : Ext ι H ι' H') {l : List (κ × D)} {vs : List (κ × V)} (h : IsKV K G ι H l vs) : IsKV K G ι' H' l vs := IsKV.stay e.stay h
theorem FzT.ext {a : Addr} {xs : List V} (e : Ext ι H ι' H') (h : FzT K ι H a xs) : FzT K ι' H' a xs := h.stay e.stay
theorem FzL.ext {a : Addr} {xs : List V} (e : Ext ι H ι' H') (h : FzL K ι H a xs) : FzL K ι' H' a xs := h.stay e.stay
theorem EnvIs.ext {ρ : Env} {σ : St} (e : Ext ι H ι' H') (h : EnvIs K G ι H ρ σ) : EnvIs K G ι' H' ρ σ :=
  ⟨h.len, fun i d q => let ⟨v, a, b⟩ := h.at_ i d q; ⟨v, a, b.ext e⟩⟩
theorem EnvIs.set {ρ : Env} {σ : St} {d : D} {v : V} (h : EnvIs K G ι H ρ σ) (i : Nat) (r : Is K G ι H d v) : EnvIs K G ι H (ρ.set i (some d)) (σ.set i (some v)) where
  len := by rw [List.length_set, List.length_set]; exact h.len
  at_ j d' q := by
    by_cases hj : i = j
    · subst hj
      by_cases hl : i < ρ.length
      · rw [List.getElem?_set_self hl] at q
        cases q
        exact ⟨v, List.getElem?_set_self (h.len ▸ hl), r⟩
      · rw [List.getElem?_eq_none (by rw [List.length_set]; omega)] at q
        cases q
    · rw [List.getElem?_set_ne hj] at q
      obtain ⟨u, a, b⟩ := h.at_ j d' q
      exact ⟨u, by rw [List.getElem?_set_ne hj]; exact a, b⟩
theorem IsAll.len : ∀ {l : List D} {vs : List V}, IsAll K G ι H l vs → l.length = vs.length
  | _, _, .nil => rfl
  | _, _, .cons _ t => by rw [List.length_cons, List.length_cons, t.len]
theorem IsAll.get : ∀ {l : List D} {vs : List V} {i : Nat} {d : D}, IsAll K G ι H l vs → l[i]? = some d → ∃ v, vs[i]? = some v ∧ Is K G ι H d v
  | _, _, _, _, .nil, e => by simp at e
  | _, _, 0, _, .cons h _, e => by simp at e; subst e; exact ⟨_, rfl, h⟩
  | _, _, i + 1, _, .cons _ t, e => by
    obtain ⟨v, a, b⟩ := t.get (i := i) (by simpa using e)
    exact ⟨v, by simpa using a, b⟩
theorem IsAll.get' : ∀ {l : List D} {vs : List V} {i : Nat} {v : V}, IsAll K G ι H l vs → vs[i]? = some v → ∃ d, l[i]? = some d ∧ Is K G ι H d v
  | _, _, _, _, .nil, e => by simp at e
  | _, _, 0, _, .cons h _, e => by simp at e; subst e; exact ⟨_, rfl, h⟩
  | _, _, i + 1, _, .cons _ t, e => by
    obtain ⟨v, a, b⟩ := t.get' (i := i) (by simpa using e)
    exact ⟨v, by simpa using a, b⟩
theorem IsAll.append : ∀ {l l' : List D} {vs vs' : List V}, IsAll K G ι H l vs → IsAll K G ι H l' vs' → IsAll K G ι H (l ++ l') (vs ++ vs')
  | _, _, _, _, .nil, h => h
  | _, _, _, _, .cons a t, h => .cons a (t.append h)
theorem IsAll.take : ∀ {l : List D} {vs : List V} (n : Nat), IsAll K G ι H l vs → IsAll K G ι H (l.take n) (vs.take n)
  | _, _, 0, _ => by simp only [List.take_zero]; exact .nil
  | _, _, _ + 1, .nil => by simp only [List.take_nil]; exact .nil
  | _, _, n + 1, .cons a t => by simp only [List.take_succ_cons]; exact .cons a (t.take n)
theorem IsAll.drop : ∀ {l : List D} {vs : List V} (n : Nat), IsAll K G ι H l vs → IsAll K G ι H (l.drop n) (vs.drop n)
  | _, _, 0, h => h
  | _, _, _ + 1, .nil => by simp only [List.drop_nil]; exact .nil
  | _, _, n + 1, .cons a t => by simp only [List.drop_succ_cons]; exact t.drop n
theorem IsAll.snoc {l : List D} {vs : List V} {d : D} {v : V} (h : IsAll K G ι H l vs) (r : Is K G ι H d v) : IsAll K G ι H (l ++ [d]) (vs ++ [v]) := h.append (.cons r .nil)
theorem IsAll.set : ∀ {l : List D} {vs : List V} {d : D} {v : V} (i : Nat), IsAll K G ι H l vs → Is K G ι H d v → IsAll K G ι H (l.set i d) (vs.set i v)
  | _, _, _, _, _, .nil, _ => .nil
  | _, _, _, _, 0, .cons _ t, r => .cons r t
  | _, _, _, _, i + 1, .cons a t, r => .cons a (t.set i r)
theorem CellIs.stay {a : Addr} {c : Cell} (e : Stay ι H ι' H') (ha : H' a = H a) (h : CellIs K G ι H a c) : CellIs K G ι' H' a c := by
  cases c with
  | lst l => obtain ⟨vs, h1, h2⟩ := h; exact ⟨vs, ha.trans h1, h2.stay e⟩
  | dct l => obtain ⟨vs, h1, h2⟩ := h; exact ⟨vs, ha.trans h1, h2.stay e⟩
  | ins c l => obtain ⟨dx, vs, h1, h2⟩ := h; exact ⟨dx, vs, ha.trans h1, h2.stay e⟩
  | shut l => obtain ⟨dx, vs, h1, h2⟩ := h; exact ⟨dx, vs, ha.trans h1, h2.stay e⟩
theorem CellIs.ext {a : Addr} {c : Cell} (e : Ext ι H ι' H') (ha : H' a = H a) (h : CellIs K G ι H a c) : CellIs K G ι' H' a c := h.stay e.stay ha
theorem CellIs.some {a : Addr} {c : Cell} (h : CellIs K G ι H a c) : ∃ o, H a = some o := by
  cases c with
  | lst l => obtain ⟨vs, h1, h2⟩ := h; exact ⟨_, h1⟩
  | dct l => obtain ⟨vs, h1, h2⟩ := h; exact ⟨_, h1⟩
  | ins c l => obtain ⟨dx, vs, h1, h2⟩ := h; exact ⟨_, h1⟩
  | shut l => obtain ⟨dx, vs, h1, h2⟩ := h; exact ⟨_, h1⟩
theorem Rep.get {S : Store} (r : Rep K G ι S H) {i : Nat} {c : Cell} (h : S[i]? = some c) : ∃ a, ι.c[i]? = some a ∧ CellIs K G ι H a c := by
  have hl : i < ι.c.length := by rw [r.len]; exact (List.getElem?_eq_some_iff.mp h).1
  exact ⟨_, List.getElem?_eq_getElem hl, r.cell i _ c (List.getElem?_eq_getElem hl) h⟩
theorem Rep.there {S : Store} (r : Rep K G ι S H) {a : Addr} (h : a ∈ ι) : ∃ o, H a = some o := by
  rcases h with h | h
  · obtain ⟨i, hl, rfl⟩ := List.mem_iff_getElem.mp h
    have hs : i < S.length := r.len ▸ hl
    exact (r.cell i _ _ (List.getElem?_eq_getElem hl) (List.getElem?_eq_getElem hs)).some
  · exact r.hid a h
theorem Rep.out {S : Store} (r : Rep K G ι S H) {a : Addr} (h : H a = none) : a ∉ ι := fun z => by
  obtain ⟨o, e⟩ := r.there z
  rw [h] at e; cases e
theorem upd_some {H : Hp} {p a : Addr} {o : HO} (h : ∃ u, H a = some u) : ∃ u, upd H p o a = some u := by
  by_cases e : a = p
  · rw [e, upd_same]; exact ⟨_, rfl⟩
  · rw [upd_ne e]; exact h
/-- a new object that is no cell -/
theorem Rep.push {S : Store} (r : Rep K G ι S H) {p : Addr} {o : HO} (hp : H p = none) : Rep K G ι S (upd H p o) :=
  ⟨r.nd, r.dis, fun a h => upd_some (r.hid a h), r.len, fun i a c h1 h2 => by
    refine (r.cell i a c h1 h2).ext (Ext.push hp) (upd_ne fun z => r.out hp ?_)
    rw [← z]; exact .inl (List.mem_of_getElem? h1)⟩
/-- a new cell, of what no data stands on -/
theorem Stay.cell {p : Addr} {o : HO} (hp : ∀ u, H p = some u → ¬ isDat u) : Stay ι H (ι.snoc p) (upd H p o) :=
  ⟨List.prefix_append _ _, fun a u h1 h2 h3 => by
    have hne : a ≠ p := fun z => hp u (by rw [← z]; exact h2) h3
    refine ⟨by rw [upd_ne hne]; exact h2, fun z => ?_⟩
    rcases Ad.mem_snoc.mp z with z | z
    · exact h1 z
    · exact hne z⟩
theorem Rep.newCell {S : Store} (r : Rep K G ι S H) {p : Addr} {o : HO} {c : Cell} (hout : p ∉ ι) (hp : ∀ u, H p = some u → ¬ isDat u) (hc : CellIs K G (ι.snoc p) (upd H p o) p c) : Rep K G (ι.snoc p) (S ++ [c]) (upd H p o) := by
  refine ⟨?_, ?_, fun a h => upd_some (r.hid a h), ?_, ?_⟩
  · show (ι.c ++ [p]).Nodup
    rw [List.nodup_append]
    refine ⟨r.nd, by simp, fun a ha b hb => ?_⟩
    rw [List.mem_singleton] at hb
    intro z; subst z; subst hb; exact hout (.inl ha)
  · intro a h z
    rcases List.mem_append.mp z with z | z
    · exact r.dis a h z
    · rw [List.mem_singleton] at z; subst z; exact hout (.inr h)
  · show (ι.c ++ [p]).length = _
    rw [List.length_append, List.length_append, r.len]; rfl
  · intro i a c' h1 h2
    have h1 : (ι.c ++ [p])[i]? = some a := h1
    by_cases hi : i < ι.c.length
    · rw [List.getElem?_append_left hi] at h1
      rw [List.getElem?_append_left (r.len ▸ hi)] at h2
      refine (r.cell i a c' h1 h2).stay (Stay.cell hp) (upd_ne fun z => hout ?_)
      rw [← z]; exact .inl (List.mem_of_getElem? h1)
    · rw [List.getElem?_append_right (by omega)] at h1
      rw [List.getElem?_append_right (by rw [← r.len]; omega)] at h2
      have e0 : i - ι.c.length = 0 := by
        cases h : i - ι.c.length with
        | zero => rfl
        | succ n => rw [h] at h1; simp at h1
      rw [e0] at h1
      have e1 : i - S.length = 0 := by rw [← r.len]; exact e0
      rw [e1] at h2
      simp at h1 h2
      subst h1; subst h2
      exact hc
/-- a cell is written -/
theorem Rep.write {S : Store} (r : Rep K G ι S H) {n : Nat} {p : Addr} {o : HO} {c : Cell} (hp : ι.c[n]? = some p) (hc : CellIs K G ι (upd H p o) p c) : Rep K G ι (S.set n c) (upd H p o) := by
  have hm : p ∈ ι.c := List.mem_of_getElem? hp
  refine ⟨r.nd, r.dis, fun a h => upd_some (r.hid a h), by rw [List.length_set]; exact r.len, fun i a c' h1 h2 => ?_⟩
  have hi : i < ι.c.length := (List.getElem?_eq_some_iff.mp h1).1
  by_cases hn : n = i
  · subst hn
    rw [hp] at h1
    cases h1
    rw [List.getElem?_set_self (r.len ▸ hi)] at h2
    cases h2
    exact hc
  · rw [List.getElem?_set_ne hn] at h2
    refine (r.cell i a c' h1 h2).stay ⟨List.prefix_refl _, fun a u k1 k2 _ => ⟨by rw [upd_ne (fun z : a = p => k1 (.inl (by rw [z]; exact hm)))]; exact k2, k1⟩⟩ (upd_ne fun z => hn ?_)
    subst z
    exact (List.getElem?_inj (List.getElem?_eq_some_iff.mp hp).1 r.nd).mp (hp.trans h1.symm)
/-- what is hidden may change -/
theorem Stay.hidden {p : Addr} {o : HO} (hp : p ∈ ι.x) : Stay ι H ι (upd H p o) :=
  ⟨List.prefix_refl _, fun a u h1 h2 _ => ⟨by rw [upd_ne (fun z : a = p => h1 (.inr (by rw [z]; exact hp)))]; exact h2, h1⟩⟩
theorem Rep.hidden {S : Store} (r : Rep K G ι S H) {p : Addr} {o : HO} (hp : p ∈ ι.x) : Rep K G ι S (upd H p o) := by
  refine ⟨r.nd, r.dis, fun a h => upd_some (r.hid a h), r.len, fun i a c h1 h2 => ?_⟩
  refine (r.cell i a c h1 h2).stay (Stay.hidden hp) (upd_ne fun z => r.dis p hp ?_)
  rw [← z]; exact List.mem_of_getElem? h1
theorem Stay.hid {p : Addr} {o : HO} (hp : H p = none) : Stay ι H (ι.hid p) (upd H p o) :=
  ⟨List.prefix_refl _, fun a u h1 h2 _ => by
    have hne : a ≠ p := ne_of_none h2 hp
    refine ⟨by rw [upd_ne hne]; exact h2, fun z => ?_⟩
    rcases Ad.mem_hid.mp z with z | z
    · exact h1 z
    · exact hne z⟩
theorem Rep.hide {S : Store} (r : Rep K G ι S H) {p : Addr} {o : HO} (hp : H p = none) : Rep K G (ι.hid p) S (upd H p o) := by
  have hout := r.out hp
  refine ⟨r.nd, fun a h => ?_, fun a h => ?_, r.len, fun i a c h1 h2 => ?_⟩
  · rcases List.mem_cons.mp h with h | h
    · subst h; exact fun z => hout (.inl z)
    · exact r.dis a h
  · rcases List.mem_cons.mp h with h | h
    · subst h; exact ⟨_, upd_same⟩
    · exact upd_some (r.hid a h)
  · refine (r.cell i a c h1 h2).stay (Stay.hid hp) (upd_ne fun z => hout ?_)
    rw [← z]; exact .inl (List.mem_of_getElem? h1)
/-- back to what is not hidden -/
theorem Stay.unhid {y : List Addr} (hy : ∀ a, a ∈ y → a ∈ ι.x) : Stay ι H ⟨ι.c, y⟩ H :=
  ⟨List.prefix_refl _, fun a u h1 h2 _ => ⟨h2, fun z => h1 (z.elim .inl fun z => .inr (hy a z))⟩⟩
theorem Rep.unhide {S : Store} (r : Rep K G ι S H) {y : List Addr} (hy : ∀ a, a ∈ y → a ∈ ι.x) : Rep K G ⟨ι.c, y⟩ S H :=
  ⟨r.nd, fun a h => r.dis a (hy a h), fun a h => r.hid a (hy a h), r.len, fun i a c h1 h2 => (r.cell i a c h1 h2).stay (Stay.unhid hy) rfl⟩
theorem EnvIs.stay {ρ : Env} {σ : St} (e : Stay ι H ι' H') (h : EnvIs K G ι H ρ σ) : EnvIs K G ι' H' ρ σ :=
  ⟨h.len, fun i d q => let ⟨v, a, b⟩ := h.at_ i d q; ⟨v, a, b.stay e⟩⟩
end

/-! ### what is asked of an outcome -/
section
variable (K : PySem.W.Frag) (G : String → Addr) (W : WX)
def PostE (ι : Ad) (H : Hp) (σ : St) (o : Out D) (Q : VK) : Prop := match o with
  | .ok d S' => ∀ ι' H' v, Ext ι H ι' H' → Rep K G ι' S' H' → Is K G ι' H' d v → Q v H'
  | .ex c fs S' => ∀ ι' H' dd ws, Ext ι H ι' H' → Rep K G ι' S' H' → H' dd = some (.xd ws) → IsKV K G ι' H' fs ws → W (.ref (G c)) (some dd) σ H'
  | .no => False
def PostA (ι : Ad) (H : Hp) (σ : St) (o : Out (List D)) (Q : List V → Hp → Prop) : Prop := match o with
  | .ok d S' => ∀ ι' H' v, Ext ι H ι' H' → Rep K G ι' S' H' → IsAll K G ι' H' d v → Q v H'
  | .ex c fs S' => ∀ ι' H' dd ws, Ext ι H ι' H' → Rep K G ι' S' H' → H' dd = some (.xd ws) → IsKV K G ι' H' fs ws → W (.ref (G c)) (some dd) σ H'
  | .no => False
def PostT (ι : Ad) (H : Hp) (σ : St) (o : Out Bool) (Q : Bool → Hp → Prop) : Prop := match o with
  | .ok b S' => ∀ ι' H', Ext ι H ι' H' → Rep K G ι' S' H' → Q b H'
  | .ex c fs S' => ∀ ι' H' dd ws, Ext ι H ι' H' → Rep K G ι' S' H' → H' dd = some (.xd ws) → IsKV K G ι' H' fs ws → W (.ref (G c)) (some dd) σ H'
  | .no => False
def PostS (ι : Ad) (H : Hp) (o : Fl) (Dn : Ends) : Prop := match o with
  | .nx ρ S' => ∀ ι' H' σ', Ext ι H ι' H' → Rep K G ι' S' H' → EnvIs K G ι' H' ρ σ' → Dn.nx σ' H'
  | .rt d S' => ∀ ι' H' v, Ext ι H ι' H' → Rep K G ι' S' H' → Is K G ι' H' d v → Dn.rt v H'
  | .bk ρ S' => ∀ ι' H' σ', Ext ι H ι' H' → Rep K G ι' S' H' → EnvIs K G ι' H' ρ σ' → Dn.bk σ' H'
  | .ct ρ S' => ∀ ι' H' σ', Ext ι H ι' H' → Rep K G ι' S' H' → EnvIs K G ι' H' ρ σ' → Dn.ct σ' H'
  | .ex c fs ρ S' => ∀ ι' H' dd ws σ', Ext ι H ι' H' → Rep K G ι' S' H' → EnvIs K G ι' H' ρ σ' → H' dd = some (.xd ws) → IsKV K G ι' H' fs ws → W (.ref (G c)) (some dd) σ' H'
  | .no => False
/-- the state that a reading stands in -/
def At (ι : Ad) (ρ : Env) (S : Store) (σ : St) (H : Hp) : Prop := EnvIs K G ι H ρ σ ∧ Rep K G ι S H
def tE (m : M) : TE := fun σ H Q => ∃ ι ρ S, At K G ι ρ S σ H ∧ PostE K G W ι H σ (m ρ S) Q
def tA (m : MA) : TA := fun σ H Q => ∃ ι ρ S, At K G ι ρ S σ H ∧ PostA K G W ι H σ (m ρ S) Q
def tT (m : MT) : TT := fun σ H Q => ∃ ι ρ S, At K G ι ρ S σ H ∧ PostT K G W ι H σ (m ρ S) Q
def tS (m : MS) : TS := fun Dn σ H => ∃ ι ρ S, At K G ι ρ S σ H ∧ PostS K G W ι H (m ρ S) Dn
end

section
variable {K : PySem.W.Frag} {G : String → Addr} {W : WX} {ι ι' : Ad} {H H' : Hp} {σ : St}
theorem PostE.ext {o : Out D} {Q : VK} (e : Ext ι H ι' H') (h : PostE K G W ι H σ o Q) : PostE K G W ι' H' σ o Q := by
  cases o with
  | ok d S => exact fun ι2 H2 v x r i => h ι2 H2 v (e.trans x) r i
  | ex c fs S => exact fun ι2 H2 dd ws x r i j => h ι2 H2 dd ws (e.trans x) r i j
  | no => exact h.elim
theorem PostA.ext {o : Out (List D)} {Q : List V → Hp → Prop} (e : Ext ι H ι' H') (h : PostA K G W ι H σ o Q) : PostA K G W ι' H' σ o Q := by
  cases o with
  | ok d S => exact fun ι2 H2 v x r i => h ι2 H2 v (e.trans x) r i
  | ex c fs S => exact fun ι2 H2 dd ws x r i j => h ι2 H2 dd ws (e.trans x) r i j
  | no => exact h.elim
theorem PostT.ext {o : Out Bool} {Q : Bool → Hp → Prop} (e : Ext ι H ι' H') (h : PostT K G W ι H σ o Q) : PostT K G W ι' H' σ o Q := by
  cases o with
  | ok d S => exact fun ι2 H2 x r => h ι2 H2 (e.trans x) r
  | ex c fs S => exact fun ι2 H2 dd ws x r i j => h ι2 H2 dd ws (e.trans x) r i j
  | no => exact h.elim
theorem PostS.ext {o : Fl} {Dn : Ends} (e : Ext ι H ι' H') (h : PostS K G W ι H o Dn) : PostS K G W ι' H' o Dn := by
  cases o with
  | nx ρ S => exact fun ι2 H2 σ2 x r i => h ι2 H2 σ2 (e.trans x) r i
  | rt d S => exact fun ι2 H2 v x r i => h ι2 H2 v (e.trans x) r i
  | bk ρ S => exact fun ι2 H2 σ2 x r i => h ι2 H2 σ2 (e.trans x) r i
  | ct ρ S => exact fun ι2 H2 σ2 x r i => h ι2 H2 σ2 (e.trans x) r i
  | ex c fs ρ S => exact fun ι2 H2 dd ws σ2 x r i j k => h ι2 H2 dd ws σ2 (e.trans x) r i j k
  | no => exact h.elim
theorem PostE.imp {o : Out D} {Q Q' : VK} (h : PostE K G W ι H σ o Q) (hi : ∀ v H', Q v H' → Q' v H') : PostE K G W ι H σ o Q' := by
  cases o with
  | ok d S => exact fun ι2 H2 v x r i => hi _ _ (h ι2 H2 v x r i)
  | ex c fs S => exact h
  | no => exact h.elim
theorem PostA.imp {o : Out (List D)} {Q Q' : List V → Hp → Prop} (h : PostA K G W ι H σ o Q) (hi : ∀ v H', Q v H' → Q' v H') : PostA K G W ι H σ o Q' := by
  cases o with
  | ok d S => exact fun ι2 H2 v x r i => hi _ _ (h ι2 H2 v x r i)
  | ex c fs S => exact h
  | no => exact h.elim
theorem PostT.imp {o : Out Bool} {Q Q' : Bool → Hp → Prop} (h : PostT K G W ι H σ o Q) (hi : ∀ v H', Q v H' → Q' v H') : PostT K G W ι H σ o Q' := by
  cases o with
  | ok d S => exact fun ι2 H2 x r => hi _ _ (h ι2 H2 x r)
  | ex c fs S => exact h
  | no => exact h.elim
/-- one behind the other: the first outcome's wish -/
theorem PostE.bindE {o : Out D} {f : D → Store → Out D} {Q : VK} (h : PostE K G W ι H σ (o.bind f) Q) :
    PostE K G W ι H σ o (fun v H' => ∃ ι' d S', Ext ι H ι' H' ∧ Rep K G ι' S' H' ∧ Is K G ι' H' d v ∧ PostE K G W ι' H' σ (f d S') Q) := by
  cases o with
  | ok d S => exact fun ι2 H2 v x r i => ⟨ι2, d, S, x, r, i, PostE.ext x h⟩
  | ex c fs S => exact h
  | no => exact h.elim
theorem PostE.bindA {o : Out D} {f : D → Store → Out (List D)} {Q : List V → Hp → Prop} (h : PostA K G W ι H σ (o.bind f) Q) :
    PostE K G W ι H σ o (fun v H' => ∃ ι' d S', Ext ι H ι' H' ∧ Rep K G ι' S' H' ∧ Is K G ι' H' d v ∧ PostA K G W ι' H' σ (f d S') Q) := by
  cases o with
  | ok d S => exact fun ι2 H2 v x r i => ⟨ι2, d, S, x, r, i, PostA.ext x h⟩
  | ex c fs S => exact h
  | no => exact h.elim
theorem PostE.bindT {o : Out D} {f : D → Store → Out Bool} {Q : Bool → Hp → Prop} (h : PostT K G W ι H σ (o.bind f) Q) :
    PostE K G W ι H σ o (fun v H' => ∃ ι' d S', Ext ι H ι' H' ∧ Rep K G ι' S' H' ∧ Is K G ι' H' d v ∧ PostT K G W ι' H' σ (f d S') Q) := by
  cases o with
  | ok d S => exact fun ι2 H2 v x r i => ⟨ι2, d, S, x, r, i, PostT.ext x h⟩
  | ex c fs S => exact h
  | no => exact h.elim
theorem PostA.bindE {o : Out (List D)} {f : List D → Store → Out D} {Q : VK} (h : PostE K G W ι H σ (o.bind f) Q) :
    PostA K G W ι H σ o (fun v H' => ∃ ι' d S', Ext ι H ι' H' ∧ Rep K G ι' S' H' ∧ IsAll K G ι' H' d v ∧ PostE K G W ι' H' σ (f d S') Q) := by
  cases o with
  | ok d S => exact fun ι2 H2 v x r i => ⟨ι2, d, S, x, r, i, PostE.ext x h⟩
  | ex c fs S => exact h
  | no => exact h.elim
theorem PostA.bindA {o : Out (List D)} {f : List D → Store → Out (List D)} {Q : List V → Hp → Prop} (h : PostA K G W ι H σ (o.bind f) Q) :
    PostA K G W ι H σ o (fun v H' => ∃ ι' d S', Ext ι H ι' H' ∧ Rep K G ι' S' H' ∧ IsAll K G ι' H' d v ∧ PostA K G W ι' H' σ (f d S') Q) := by
  cases o with
  | ok d S => exact fun ι2 H2 v x r i => ⟨ι2, d, S, x, r, i, PostA.ext x h⟩
  | ex c fs S => exact h
  | no => exact h.elim
theorem PostT.bindE {o : Out Bool} {f : Bool → Store → Out D} {Q : VK} (h : PostE K G W ι H σ (o.bind f) Q) :
    PostT K G W ι H σ o (fun b H' => ∃ ι' S', Ext ι H ι' H' ∧ Rep K G ι' S' H' ∧ PostE K G W ι' H' σ (f b S') Q) := by
  cases o with
  | ok d S => exact fun ι2 H2 x r => ⟨ι2, S, x, r, PostE.ext x h⟩
  | ex c fs S => exact h
  | no => exact h.elim
theorem PostT.bindT {o : Out Bool} {f : Bool → Store → Out Bool} {Q : Bool → Hp → Prop} (h : PostT K G W ι H σ (o.bind f) Q) :
    PostT K G W ι H σ o (fun b H' => ∃ ι' S', Ext ι H ι' H' ∧ Rep K G ι' S' H' ∧ PostT K G W ι' H' σ (f b S') Q) := by
  cases o with
  | ok d S => exact fun ι2 H2 x r => ⟨ι2, S, x, r, PostT.ext x h⟩
  | ex c fs S => exact h
  | no => exact h.elim
end
end DL

end

/-! ## DL1 -/
section
set_option Elab.async false
set_option linter.all false
set_option maxRecDepth 100000
namespace DL
open PySem PySem.Spec PyProof.Rows L2

def big : Nat := 1000000
theorem big_line {n : Nat} (h : n ≤ big) : n ≤ sizeLine := Nat.le_trans h (by decide)
theorem big_lt {n : Nat} (h : n < big) : n < sizeLine := Nat.lt_of_lt_of_le h (by decide)

theorem pe_imp {X : Cx} {e : Expr} {t t' : TE} (h : PE X e t) (hi : ∀ σ H Q, t' σ H Q → t σ H Q) : PE X e t' := ⟨fun pins s σ H Q I hw => h.run pins s σ H Q I (hi σ H Q hw)⟩
theorem pa_imp {X : Cx} {e : List Expr} {t t' : TA} (h : PA X e t) (hi : ∀ σ H Q, t' σ H Q → t σ H Q) : PA X e t' := ⟨fun pos pins s σ H Q I hw => h.run pos pins s σ H Q I (hi σ H Q hw)⟩
theorem pt_imp {X : Cx} {e : Expr} {t t' : TT} (h : PT X e t) (hi : ∀ σ H Q, t' σ H Q → t σ H Q) : PT X e t' := ⟨fun pins s σ H Q I hw => h.run pins s σ H Q I (hi σ H Q hw)⟩
theorem pw_imp {X : Cx} {e : Expr} {t t' : TT} (h : PW X e t) (hi : ∀ σ H Q, t' σ H Q → t σ H Q) : PW X e t' := ⟨fun wh pins s σ H Q I hw => h.run wh pins s σ H Q I (hi σ H Q hw)⟩
theorem ps_imp {X : Cx} {e : Stmt} {t t' : TS} (h : PS X e t) (hi : ∀ D σ H, t' D σ H → t D σ H) : PS X e t' := ⟨fun pins s σ H D I hw => h.run pins s σ H D I (hi D σ H hw)⟩
theorem pss_imp {X : Cx} {e : List Stmt} {t t' : TS} (h : PSs X e t) (hi : ∀ D σ H, t' D σ H → t D σ H) : PSs X e t' := ⟨fun pins s σ H D I hw => h.run pins s σ H D I (hi D σ H hw)⟩

/-! ### leaves -/
def mVar (i : Nat) : M := fun ρ S => match ρ[i]? with
  | some (some d) => .ok d S
  | _ => .no
def mC (d : D) : M := fun _ S => .ok d S
def mNo : M := fun _ _ => .no

section
variable {X : Cx} {G : String → Addr} {W : WX} {K : PySem.W.Frag}
theorem PostE.ok {ι : Ad} {H : Hp} {σ : St} {d : D} {S : Store} {Q : VK} {v : V} (h : PostE K G W ι H σ (.ok d S) Q) (r : Rep K G ι S H) (i : Is K G ι H d v) : Q v H := h ι H v (Ext.refl _ _) r i
theorem PostE.okPush {ι : Ad} {H : Hp} {σ : St} {d : D} {S : Store} {Q : VK} (h : PostE K G W ι H σ (.ok d S) Q) (r : Rep K G ι S H) {p : Addr} {o : HO} (hp : H p = none) (i : Is K G ι (upd H p o) d (.ref p)) : Q (.ref p) (upd H p o) :=
  h ι _ _ (Ext.push hp) (r.push hp) i
theorem de_var {e : Expr} {i : Nat} (h : PE X e (tVar i)) : PE X e (tE X.K G W (mVar i)) := by
  refine pe_imp h fun σ H Q ⟨ι, ρ, S, ⟨he, hr⟩, q⟩ => ?_
  unfold mVar at q
  split at q
  · rename_i d hd
    obtain ⟨v, h1, h2⟩ := he.at_ i d hd
    exact ⟨v, h1, q.ok hr h2⟩
  · exact q.elim
theorem de_c {e : Expr} {v : V} {d : D} (h : PE X e (tC v)) (hd : ∀ ι H, Is X.K G ι H d v) : PE X e (tE X.K G W (mC d)) := by
  refine pe_imp h fun σ H Q ⟨ι, ρ, S, ⟨he, hr⟩, q⟩ => ?_
  exact PostE.ok q hr (hd ι H)
theorem de_int {i j pos} : PE X (.Constant (.int i) j pos) (tE X.K G W (mC (.int i))) := de_c pe_int fun _ _ => .int i
theorem de_str {x j pos} : PE X (.Constant (.str x) j pos) (tE X.K G W (mC (.str x))) := de_c pe_str fun _ _ => .str x
theorem de_bl {b j pos} : PE X (.Constant (.bool b) j pos) (tE X.K G W (mC (.bl b))) := de_c pe_bl fun _ _ => .bl b
theorem de_non {j pos} : PE X (.Constant .none j pos) (tE X.K G W (mC .non)) := de_c pe_non fun _ _ => .non
theorem de_gint {x : Str} {i : Int} {t : Tok} {pos : Pos} (hm : X.mg x = some (.int i t)) (hg : Gl X x) (hd : (x == ("__debug__" : Str)) = false := by decide) : PE X (.Name x pos) (tE X.K G W (mC (.int i))) := de_c (v := .int i) (pe_glob hg hm ⟨_, rfl⟩ hd) fun _ _ => .int i
theorem de_gstr {x : Str} {i : Str} {t : Tok} {pos : Pos} (hm : X.mg x = some (.str i t)) (hg : Gl X x) (hd : (x == ("__debug__" : Str)) = false := by decide) : PE X (.Name x pos) (tE X.K G W (mC (.str i))) := de_c (v := .str i) (pe_glob hg hm ⟨_, rfl⟩ hd) fun _ _ => .str i
theorem de_ty {x : Str} {n : String} {pos : Pos} (hm : X.mg x = none) (hv : bootBuiltins x = some (.type n)) (hg : Gl X x := by rfl) (hn : x ≠ "__name__" := by decide) (hd : (x == ("__debug__" : Str)) = false := by decide) : PE X (.Name x pos) (tE X.K G W (mC (.ty n))) := de_c (v := .ty n) (pe_bltn hg hm hv rfl hn hd) fun _ _ => .ty n
end

/-! ### two-place operations -/
def mB1 (a : M) (g : D → Store → Out D) : M := fun ρ S => (a ρ S).bind g
def mB2 (a b : M) (g : D → D → Store → Out D) : M := fun ρ S => (a ρ S).bind fun x S1 => (b ρ S1).bind fun y S2 => g x y S2

/-- the rule r does what g says -/
def R2Ok (K : PySem.W.Frag) (G : String → Addr) (r : R2) (g : D → D → Store → Out D) : Prop :=
  ∀ (W : WX) (ι : Ad) (H : Hp) (S : Store) (σ : St) (x y : V) (d e : D) (Q : VK), Rep K G ι S H → Is K G ι H d x → Is K G ι H e y → PostE K G W ι H σ (g d e S) Q → r x y H Q
def R1Ok (K : PySem.W.Frag) (G : String → Addr) (r : V → Hp → VK → Prop) (g : D → Store → Out D) : Prop :=
  ∀ (W : WX) (ι : Ad) (H : Hp) (S : Store) (σ : St) (x : V) (d : D) (Q : VK), Rep K G ι S H → Is K G ι H d x → PostE K G W ι H σ (g d S) Q → r x H Q
def RAOk (K : PySem.W.Frag) (G : String → Addr) (r : List V → Hp → VK → Prop) (g : List D → Store → Out D) : Prop :=
  ∀ (W : WX) (ι : Ad) (H : Hp) (S : Store) (σ : St) (xs : List V) (ds : List D) (Q : VK), Rep K G ι S H → IsAll K G ι H ds xs → PostE K G W ι H σ (g ds S) Q → r xs H Q
section
variable {K : PySem.W.Frag} {G : String → Addr} {W : WX}
theorem t2_of {r : R2} {g : D → D → Store → Out D} {ma mb : M} (hr : R2Ok K G r g) : ∀ σ H Q, tE K G W (mB2 ma mb g) σ H Q → tOp r (tE K G W ma) (tE K G W mb) σ H Q := by
  intro σ H Q ⟨ι, ρ, S, ⟨he, hrp⟩, h⟩
  refine ⟨ι, ρ, S, ⟨he, hrp⟩, (PostE.bindE h).imp fun v H1 ⟨ι1, d, S1, x1, r1, i1, h1⟩ => ?_⟩
  refine ⟨ι1, ρ, S1, ⟨he.ext x1, r1⟩, (PostE.bindE h1).imp fun u H2 ⟨ι2, e, S2, x2, r2, i2, h2⟩ => ?_⟩
  exact hr W ι2 H2 S2 σ v u d e Q r2 (i1.ext x2) i2 h2
theorem t1_of {r : V → Hp → VK → Prop} {g : D → Store → Out D} {ma : M} (hr : R1Ok K G r g) : ∀ σ H Q, tE K G W (mB1 ma g) σ H Q → tUn r (tE K G W ma) σ H Q := by
  intro σ H Q ⟨ι, ρ, S, ⟨he, hrp⟩, h⟩
  refine ⟨ι, ρ, S, ⟨he, hrp⟩, (PostE.bindE h).imp fun v H1 ⟨ι1, d, S1, x1, r1, i1, h1⟩ => ?_⟩
  exact hr W ι1 H1 S1 σ v d Q r1 i1 h1
end

/-! ### arguments -/
def aNil : MA := fun _ S => .ok [] S
def aCons (m : M) (r : MA) : MA := fun ρ S => (m ρ S).bind fun d S1 => (r ρ S1).bind fun ds S2 => .ok (d :: ds) S2
def mAll (a : MA) (g : List D → Store → Out D) : M := fun ρ S => (a ρ S).bind g
section
variable {X : Cx} {G : String → Addr} {W : WX} {K : PySem.W.Frag}
theorem PostA.ok {ι : Ad} {H : Hp} {σ : St} {d : List D} {S : Store} {Q : List V → Hp → Prop} {v : List V} (h : PostA K G W ι H σ (.ok d S) Q) (r : Rep K G ι S H) (i : IsAll K G ι H d v) : Q v H := h ι H v (Ext.refl _ _) r i
theorem da_nil : PA X [] (tA X.K G W aNil) := pa_imp pa_nil fun σ H Q ⟨ι, ρ, S, ⟨he, hr⟩, q⟩ => PostA.ok q hr .nil
theorem da_cons {e : Expr} {es : List Expr} {m : M} {r : MA} (ha : PE X e (tE X.K G W m)) (hr : PA X es (tA X.K G W r)) (hs : starEach (e :: es) X.env = (false, eval e X.env) :: starEach es X.env := by rfl) : PA X (e :: es) (tA X.K G W (aCons m r)) := by
  refine pa_imp (pa_cons ha hr hs) fun σ H Q ⟨ι, ρ, S, ⟨he, hrp⟩, h⟩ => ?_
  refine ⟨ι, ρ, S, ⟨he, hrp⟩, (PostE.bindA h).imp fun v H1 ⟨ι1, d, S1, x1, r1, i1, h1⟩ => ?_⟩
  refine ⟨ι1, ρ, S1, ⟨he.ext x1, r1⟩, (PostA.bindA h1).imp fun u H2 ⟨ι2, e, S2, x2, r2, i2, h2⟩ => ?_⟩
  exact PostA.ok h2 r2 (.cons (i1.ext x2) i2)
theorem tA_all {r : List V → Hp → VK → Prop} {g : List D → Store → Out D} {a : MA} (hr : RAOk K G r g) : ∀ σ H Q, tE K G W (mAll a g) σ H Q → tCB r (tA K G W a) σ H Q := by
  intro σ H Q ⟨ι, ρ, S, ⟨he, hrp⟩, h⟩
  refine ⟨ι, ρ, S, ⟨he, hrp⟩, (PostA.bindE h).imp fun v H1 ⟨ι1, d, S1, x1, r1, i1, h1⟩ => ?_⟩
  exact hr W ι1 H1 S1 σ v d Q r1 i1 h1
end

/-! ### data for the deep comparison -/
mutual
def D.py : D → Option PyData
  | .non => some .none
  | .bl b => some (.bool b)
  | .int i => some (.int i)
  | .str s => some (.str s)
  | .tup l => (D.pyAll l).map .tuple
  | .lst l => (D.pyAll l).map .list
  | .frz l => (D.pyAll l).map .list
  | .ty _ => none
  | .glo _ => none
  | .ref _ => none
def D.pyAll : List D → Option (List PyData)
  | [] => some []
  | d :: l => match D.py d, D.pyAll l with
    | some p, some ps => some (p :: ps)
    | _, _ => none
end
mutual
theorem Is.dp {K : PySem.W.Frag} {G : String → Addr} {ι : Ad} {H : Hp} : ∀ {d : D} {v : V} {p : PyData}, Is K G ι H d v → d.py = some p → Dp K H v p
  | _, _, _, .non, e => by simp only [D.py, Option.some.injEq] at e; subst e; exact .non
  | _, _, _, .bl b, e => by simp only [D.py, Option.some.injEq] at e; subst e; exact .bl b
  | _, _, _, .int b, e => by simp only [D.py, Option.some.injEq] at e; subst e; exact .int b
  | _, _, _, .str b, e => by simp only [D.py, Option.some.injEq] at e; subst e; exact .str b
  | _, _, _, .ty _, e => by simp [D.py] at e
  | _, _, _, .glo _, e => by simp [D.py] at e
  | _, _, _, .ref _, e => by simp [D.py] at e
  | _, _, _, .tup h t, e => by
    simp only [D.py, Option.map_eq_some_iff] at e
    obtain ⟨ps, e1, rfl⟩ := e
    exact .tup h.sq (IsAll.dp t e1)
  | _, _, _, .lst h _ t, e => by
    simp only [D.py, Option.map_eq_some_iff] at e
    obtain ⟨ps, e1, rfl⟩ := e
    exact .lst (SqL.of h) (IsAll.dp t e1)
  | _, _, _, .frz h t, e => by
    simp only [D.py, Option.map_eq_some_iff] at e
    obtain ⟨ps, e1, rfl⟩ := e
    exact .lst h.sq (IsAll.dp t e1)
theorem IsAll.dp {K : PySem.W.Frag} {G : String → Addr} {ι : Ad} {H : Hp} : ∀ {d : List D} {v : List V} {p : List PyData}, IsAll K G ι H d v → D.pyAll d = some p → DpAll K H v p
  | _, _, _, .nil, e => by simp only [D.pyAll, Option.some.injEq] at e; subst e; exact .nil
  | _, _, _, .cons h t, e => by
    simp only [D.pyAll] at e
    split at e
    · rename_i p ps e1 e2
      cases e
      exact .cons (Is.dp h e1) (IsAll.dp t e2)
    · cases e
end

/-! ### the operations on data -/
def gAdd : D → D → Store → Out D
  | .int i, .int j, S => .ok (.int (i + j)) S
  | .str a, .str b, S => if a.length + b.length ≤ big then .ok (.str (a ++ b)) S else .no
  | .tup a, .tup b, S => if a.length + b.length ≤ big then .ok (.tup (a ++ b)) S else .no
  | .lst a, .lst b, S => if a.length + b.length ≤ big then .ok (.lst (a ++ b)) S else .no
  | _, _, _ => .no
def gSub : D → D → Store → Out D
  | .int i, .int j, S => .ok (.int (i - j)) S
  | _, _, _ => .no
def mulOk (i j : Int) : Bool := (decide (-(2 ^ 64) < i) && decide (i < 2 ^ 64)) || (decide (-(2 ^ 64) < j) && decide (j < 2 ^ 64))
def gMul : D → D → Store → Out D
  | .int i, .int j, S => if mulOk i j = true then .ok (.int (i * j)) S else .no
  | _, _, _ => .no
def gDiv : D → D → Store → Out D
  | .int i, .int j, S => if 0 < j ∧ j < 1073741824 then .ok (.int (i / j)) S else .no
  | _, _, _ => .no
def gMod : D → D → Store → Out D
  | .int i, .int j, S => if 0 < j then .ok (.int (i % j)) S else .no
  | _, _, _ => .no
def gPow : D → D → Store → Out D
  | .int i, .int j, S => if 0 ≤ j ∧ j ≤ 1000000 ∧ i.natAbs < 2 ^ 64 then .ok (.int (i ^ j.toNat)) S else .no
  | _, _, _ => .no
def gNeg : D → Store → Out D
  | .int i, S => .ok (.int (-i)) S
  | _, _ => .no
def gLt : D → D → Store → Out D
  | .int i, .int j, S => .ok (.bl (decide (i < j))) S
  | _, _, _ => .no
def gLe : D → D → Store → Out D
  | .int i, .int j, S => .ok (.bl (decide (i ≤ j))) S
  | _, _, _ => .no
def gGt : D → D → Store → Out D
  | .int i, .int j, S => .ok (.bl (decide (j < i))) S
  | _, _, _ => .no
def gGe : D → D → Store → Out D
  | .int i, .int j, S => .ok (.bl (decide (j ≤ i))) S
  | _, _, _ => .no
def eqD (d e : D) : Option Bool := match d.py, e.py with
  | some p, some q => if SeqAt.shaped p = true ∧ SeqAt.shaped q = true then some (PyData.eqv p q) else none
  | _, _ => none
def gEq (d e : D) (S : Store) : Out D := match eqD d e with
  | some b => .ok (.bl b) S
  | none => .no
def gNe (d e : D) (S : Store) : Out D := match eqD d e with
  | some b => .ok (.bl (!b)) S
  | none => .no
def gIsN (d e : D) (S : Store) : Out D := match d, e with
  | .non, .non => .ok (.bl true) S
  | .bl _, .non | .int _, .non | .str _, .non | .tup _, .non | .lst _, .non | .frz _, .non | .ref _, .non | .ty _, .non | .glo _, .non => .ok (.bl false) S
  | _, _ => .no
def gNotN (d e : D) (S : Store) : Out D := match d, e with
  | .non, .non => .ok (.bl false) S
  | .bl _, .non | .int _, .non | .str _, .non | .tup _, .non | .lst _, .non | .frz _, .non | .ref _, .non | .ty _, .non | .glo _, .non => .ok (.bl true) S
  | _, _ => .no
/-- a text in a text -/
def inS (a b : Str) : Bool := !(Builtin.Str.occurrences b a 0 b.length 1).isEmpty
def gInS (d e : D) (S : Store) : Out D := match d, e with
  | .str a, .str b => .ok (.bl (inS a b)) S
  | _, _ => .no
def gNotInS (d e : D) (S : Store) : Out D := match d, e with
  | .str a, .str b => .ok (.bl (!inS a b)) S
  | _, _ => .no

section
variable {X : Cx} {G : String → Addr}
theorem R2Ok.or1 {K : PySem.W.Frag} {r r' : R2} {g : D → D → Store → Out D} (h : R2Ok K G r g) : R2Ok K G (fun x y H Q => r x y H Q ∨ r' x y H Q) g := fun W ι H S σ x y d e Q a b c k => .inl (h W ι H S σ x y d e Q a b c k)
def rAddD (K : PySem.W.Frag) : R2 := fun x y H Q => (((∃ i j, x = .int i ∧ y = .int j ∧ Q (.int (i + j)) H) ∨ (∃ i j, x = .str i ∧ y = .str j ∧ i.length + j.length ≤ sizeLine ∧ Q (.str (i ++ j)) H)) ∨ rCatA K x y H Q) ∨ rCat x y H Q
theorem op_addD : OpR X (binaryOp .Add) (rAddD X.K) := OpR.or (OpR.or (OpR.or op_add op_add_str) op_catA) op_cat
theorem ok_add : R2Ok X.K G (rAddD X.K) gAdd := by
  intro W ι H S σ x y d e Q r ix iy q
  cases ix <;> cases iy <;> simp only [gAdd] at q <;> try exact q.elim
  · exact .inl (.inl (.inl ⟨_, _, rfl, rfl, PostE.ok q r (.int _)⟩))
  · split at q
    · rename_i hl
      exact .inl (.inl (.inr ⟨_, _, rfl, rfl, big_line hl, PostE.ok q r (.str _)⟩))
    · exact q.elim
  · rename_i l a xs h1 t1 l' a' ys h2 t2
    split at q
    · rename_i hl
      refine .inl (.inr ⟨a, a', xs, ys, rfl, rfl, h1.sq, h2.sq, big_line (by rw [← t1.len, ← t2.len]; exact hl), fun e => ?_, fun ne e => ?_, fun ne ne' p hp => ?_⟩)
      · subst e
        cases t1
        exact PostE.ok q r (.tup h2 t2)
      · subst e
        cases t2
        rw [List.append_nil] at q
        exact PostE.ok q r (.tup h1 t1)
      · exact q.okPush r hp (.tup (.inl ⟨.inl upd_same, r.out hp⟩) ((t1.append t2).ext (Ext.push hp)))
    · exact q.elim
  · rename_i l a xs h1 n1 t1 l' a' ys h2 n2 t2
    split at q
    · rename_i hl
      refine .inr ⟨a, a', xs, ys, rfl, rfl, h1, h2, big_line (by rw [← t1.len, ← t2.len]; exact hl), fun p hp => ?_⟩
      exact q.okPush r hp (.lst upd_same (r.out hp) ((t1.append t2).ext (Ext.push hp)))
    · exact q.elim
theorem ok_I0 {g : Int → Int → V} {g' : D → D → Store → Out D} (hv : ∀ i j S, ∃ d, g' (.int i) (.int j) S = .ok d S ∧ ∀ ι H, Is X.K G ι H d (g i j)) (hn : ∀ d e S, (∀ i j, ¬ (d = .int i ∧ e = .int j)) → g' d e S = .no) : R2Ok X.K G (rI0 g) g' := by
  intro W ι H S σ x y d e Q r ix iy q
  by_cases h : ∃ i j, d = .int i ∧ e = .int j
  · obtain ⟨i, j, rfl, rfl⟩ := h
    cases ix; cases iy
    obtain ⟨d, h1, h2⟩ := hv i j S
    rw [h1] at q
    exact ⟨i, j, rfl, rfl, PostE.ok q r (h2 ι H)⟩
  · rw [hn d e S fun i j z => h ⟨i, j, z⟩] at q
    exact q.elim
theorem ok_sub : R2Ok X.K G (rI0 fun i j => .int (i - j)) gSub := ok_I0 (fun i j S => ⟨_, rfl, fun _ _ => .int _⟩) (fun d e S h => by cases d <;> cases e <;> first | rfl | exact absurd ⟨rfl, rfl⟩ (h _ _))
theorem ok_lt : R2Ok X.K G (rI0 fun i j => .bl (decide (i < j))) gLt := ok_I0 (fun i j S => ⟨_, rfl, fun _ _ => .bl _⟩) (fun d e S h => by cases d <;> cases e <;> first | rfl | exact absurd ⟨rfl, rfl⟩ (h _ _))
theorem ok_le : R2Ok X.K G (rI0 fun i j => .bl (decide (i ≤ j))) gLe := ok_I0 (fun i j S => ⟨_, rfl, fun _ _ => .bl _⟩) (fun d e S h => by cases d <;> cases e <;> first | rfl | exact absurd ⟨rfl, rfl⟩ (h _ _))
theorem ok_gt : R2Ok X.K G (rI0 fun i j => .bl (decide (j < i))) gGt := ok_I0 (fun i j S => ⟨_, rfl, fun _ _ => .bl _⟩) (fun d e S h => by cases d <;> cases e <;> first | rfl | exact absurd ⟨rfl, rfl⟩ (h _ _))
theorem ok_ge : R2Ok X.K G (rI0 fun i j => .bl (decide (j ≤ i))) gGe := ok_I0 (fun i j S => ⟨_, rfl, fun _ _ => .bl _⟩) (fun d e S h => by cases d <;> cases e <;> first | rfl | exact absurd ⟨rfl, rfl⟩ (h _ _))
theorem ok_I {C : Int → Int → Prop} {g : Int → Int → V} {g' : D → D → Store → Out D} (hv : ∀ i j S, g' (.int i) (.int j) S = .no ∨ (C i j ∧ ∃ d, g' (.int i) (.int j) S = .ok d S ∧ ∀ ι H, Is X.K G ι H d (g i j))) (hn : ∀ d e S, (∀ i j, ¬ (d = .int i ∧ e = .int j)) → g' d e S = .no) : R2Ok X.K G (rI C g) g' := by
  intro W ι H S σ x y d e Q r ix iy q
  by_cases h : ∃ i j, d = .int i ∧ e = .int j
  · obtain ⟨i, j, rfl, rfl⟩ := h
    cases ix; cases iy
    rcases hv i j S with h1 | ⟨hc, d, h1, h2⟩
    · rw [h1] at q; exact q.elim
    · rw [h1] at q
      exact ⟨i, j, rfl, rfl, hc, PostE.ok q r (h2 ι H)⟩
  · rw [hn d e S fun i j z => h ⟨i, j, z⟩] at q
    exact q.elim
theorem ok_mul : R2Ok X.K G (rI CMul fun i j => .int (i * j)) gMul := ok_I (fun i j S => by
  simp only [gMul]
  by_cases h : mulOk i j = true
  · rw [if_pos h]
    refine .inr ⟨?_, _, rfl, fun _ _ => .int _⟩
    simp only [mulOk, Bool.or_eq_true, Bool.and_eq_true, decide_eq_true_eq] at h
    exact h
  · rw [if_neg h]; exact .inl rfl) (fun d e S h => by cases d <;> cases e <;> first | rfl | exact absurd ⟨rfl, rfl⟩ (h _ _))
theorem ok_div : R2Ok X.K G (rI CDiv fun i j => .int (i / j)) gDiv := ok_I (fun i j S => by
  simp only [gDiv]
  by_cases h : 0 < j ∧ j < 1073741824
  · rw [if_pos h]; exact .inr ⟨h, _, rfl, fun _ _ => .int _⟩
  · rw [if_neg h]; exact .inl rfl) (fun d e S h => by cases d <;> cases e <;> first | rfl | exact absurd ⟨rfl, rfl⟩ (h _ _))
theorem ok_mod : R2Ok X.K G (rI (fun _ j => 0 < j) fun i j => .int (i % j)) gMod := ok_I (fun i j S => by
  simp only [gMod]
  by_cases h : 0 < j
  · rw [if_pos h]; exact .inr ⟨h, _, rfl, fun _ _ => .int _⟩
  · rw [if_neg h]; exact .inl rfl) (fun d e S h => by cases d <;> cases e <;> first | rfl | exact absurd ⟨rfl, rfl⟩ (h _ _))
theorem ok_pow : R2Ok X.K G (rI CPow fun i j => .int (i ^ j.toNat)) gPow := ok_I (fun i j S => by
  simp only [gPow]
  by_cases h : 0 ≤ j ∧ j ≤ 1000000 ∧ i.natAbs < 2 ^ 64
  · rw [if_pos h]; exact .inr ⟨h, _, rfl, fun _ _ => .int _⟩
  · rw [if_neg h]; exact .inl rfl) (fun d e S h => by cases d <;> cases e <;> first | rfl | exact absurd ⟨rfl, rfl⟩ (h _ _))
theorem ok_neg : R1Ok X.K G (rU fun i => .int (-i)) gNeg := by
  intro W ι H S σ x d Q r ix q
  cases ix <;> simp only [gNeg] at q <;> try exact q.elim
  exact ⟨_, rfl, PostE.ok q r (.int _)⟩
theorem ok_eq : R2Ok X.K G (rEqD X.K) gEq := by
  intro W ι H S σ x y d e Q r ix iy q
  unfold gEq eqD at q
  cases hd : d.py with
  | none => rw [hd] at q; exact q.elim
  | some p =>
    cases he : e.py with
    | none => rw [hd, he] at q; exact q.elim
    | some p' =>
      rw [hd, he] at q
      by_cases hs : SeqAt.shaped p = true ∧ SeqAt.shaped p' = true
      · simp only [if_pos hs] at q
        exact ⟨p, p', ix.dp hd, iy.dp he, hs.1, hs.2, PostE.ok q r (.bl _)⟩
      · simp only [if_neg hs] at q; exact q.elim
theorem ok_ne : R2Ok X.K G (rNeD X.K) gNe := by
  intro W ι H S σ x y d e Q r ix iy q
  unfold gNe eqD at q
  cases hd : d.py with
  | none => rw [hd] at q; exact q.elim
  | some p =>
    cases he : e.py with
    | none => rw [hd, he] at q; exact q.elim
    | some p' =>
      rw [hd, he] at q
      by_cases hs : SeqAt.shaped p = true ∧ SeqAt.shaped p' = true
      · simp only [if_pos hs] at q
        exact ⟨p, p', ix.dp hd, iy.dp he, hs.1, hs.2, PostE.ok q r (.bl _)⟩
      · simp only [if_neg hs] at q; exact q.elim
theorem ok_isN : R2Ok X.K G (fun x y H Q => y = .non ∧ Q (.bl (decide (x = .non))) H) gIsN := by
  intro W ι H S σ x y d e Q r ix iy q
  cases iy <;> cases ix <;> first | exact q.elim | exact ⟨rfl, PostE.ok q r (.bl _)⟩
theorem ok_notN : R2Ok X.K G (fun x y H Q => y = .non ∧ Q (.bl (!decide (x = .non))) H) gNotN := by
  intro W ι H S σ x y d e Q r ix iy q
  cases iy <;> cases ix <;> first | exact q.elim | exact ⟨rfl, PostE.ok q r (.bl _)⟩
theorem ok_inS : R2Ok X.K G (fun x y H Q => ∃ i j, x = .str i ∧ y = .str j ∧ Q (.bl (!(Builtin.Str.occurrences j i 0 j.length 1).isEmpty)) H) gInS := by
  intro W ι H S σ x y d e Q r ix iy q
  cases iy <;> cases ix <;> first | exact q.elim | exact ⟨_, _, rfl, rfl, PostE.ok q r (.bl _)⟩
theorem ok_notInS : R2Ok X.K G (fun x y H Q => ∃ i j, x = .str i ∧ y = .str j ∧ Q (.bl (!(!(Builtin.Str.occurrences j i 0 j.length 1).isEmpty))) H) gNotInS := by
  intro W ι H S σ x y d e Q r ix iy q
  cases iy <;> cases ix <;> first | exact q.elim | exact ⟨_, _, rfl, rfl, PostE.ok q r (.bl _)⟩
end

/-! ### the rules -/
section
variable {X : Cx} {G : String → Addr} {W : WX} {a b c : Expr} {ma mb mc : M} {pos : Pos}
theorem de_add (ha : PE X a (tE X.K G W ma)) (hb : PE X b (tE X.K G W mb)) : PE X (.BinOp a .Add b pos) (tE X.K G W (mB2 ma mb gAdd)) := pe_imp (pe_op op_addD ha hb) (t2_of ok_add)
theorem de_sub (ha : PE X a (tE X.K G W ma)) (hb : PE X b (tE X.K G W mb)) : PE X (.BinOp a .Sub b pos) (tE X.K G W (mB2 ma mb gSub)) := pe_imp (pe_op op_sub ha hb) (t2_of ok_sub)
theorem de_mul (ha : PE X a (tE X.K G W ma)) (hb : PE X b (tE X.K G W mb)) : PE X (.BinOp a .Mult b pos) (tE X.K G W (mB2 ma mb gMul)) := pe_imp (pe_op op_mul ha hb) (t2_of ok_mul)
theorem de_div (ha : PE X a (tE X.K G W ma)) (hb : PE X b (tE X.K G W mb)) : PE X (.BinOp a .FloorDiv b pos) (tE X.K G W (mB2 ma mb gDiv)) := pe_imp (pe_op op_fdiv ha hb) (t2_of ok_div)
theorem de_mod (ha : PE X a (tE X.K G W ma)) (hb : PE X b (tE X.K G W mb)) : PE X (.BinOp a .Mod b pos) (tE X.K G W (mB2 ma mb gMod)) := pe_imp (pe_op op_mod ha hb) (t2_of ok_mod)
theorem de_pow (ha : PE X a (tE X.K G W ma)) (hb : PE X b (tE X.K G W mb)) : PE X (.BinOp a .Pow b pos) (tE X.K G W (mB2 ma mb gPow)) := pe_imp (pe_op op_pow ha hb) (t2_of ok_pow)
theorem de_neg (ha : PE X a (tE X.K G W ma)) : PE X (.UnaryOp .USub a pos) (tE X.K G W (mB1 ma gNeg)) := pe_imp (pe_un un_neg ha) (t1_of ok_neg)
theorem de_lt (ha : PE X a (tE X.K G W ma)) (hb : PE X b (tE X.K G W mb)) : PE X (.Compare a [.Lt] [b] pos) (tE X.K G W (mB2 ma mb gLt)) := pe_imp (pe_cmpR op_lt ha hb (nomark _)) (t2_of ok_lt)
theorem de_le (ha : PE X a (tE X.K G W ma)) (hb : PE X b (tE X.K G W mb)) : PE X (.Compare a [.LtE] [b] pos) (tE X.K G W (mB2 ma mb gLe)) := pe_imp (pe_cmpR op_le ha hb (nomark _)) (t2_of ok_le)
theorem de_gt (ha : PE X a (tE X.K G W ma)) (hb : PE X b (tE X.K G W mb)) : PE X (.Compare a [.Gt] [b] pos) (tE X.K G W (mB2 ma mb gGt)) := pe_imp (pe_cmpR op_gt ha hb (nomark _)) (t2_of ok_gt)
theorem de_ge (ha : PE X a (tE X.K G W ma)) (hb : PE X b (tE X.K G W mb)) : PE X (.Compare a [.GtE] [b] pos) (tE X.K G W (mB2 ma mb gGe)) := pe_imp (pe_cmpR op_ge ha hb (nomark _)) (t2_of ok_ge)
theorem de_eq (hu : X.A.units + 64 < cLine) (ha : PE X a (tE X.K G W ma)) (hb : PE X b (tE X.K G W mb)) : PE X (.Compare a [.Eq] [b] pos) (tE X.K G W (mB2 ma mb gEq)) := pe_imp (pe_cmpR (op_eqD hu) ha hb (nomark _)) (t2_of ok_eq)
theorem de_ne (hu : X.A.units + 64 < cLine) (ha : PE X a (tE X.K G W ma)) (hb : PE X b (tE X.K G W mb)) : PE X (.Compare a [.NotEq] [b] pos) (tE X.K G W (mB2 ma mb gNe)) := pe_imp (pe_cmpR (op_neD hu) ha hb (nomark _)) (t2_of ok_ne)
theorem de_isN (ha : PE X a (tE X.K G W ma)) (hb : PE X b (tE X.K G W mb)) : PE X (.Compare a [.Is] [b] pos) (tE X.K G W (mB2 ma mb gIsN)) := pe_imp (pe_cmpR op_isN ha hb (nomark _)) (t2_of ok_isN)
theorem de_notN (ha : PE X a (tE X.K G W ma)) (hb : PE X b (tE X.K G W mb)) : PE X (.Compare a [.IsNot] [b] pos) (tE X.K G W (mB2 ma mb gNotN)) := pe_imp (pe_cmpR op_notN ha hb (nomark _)) (t2_of ok_notN)
theorem de_inS (ha : PE X a (tE X.K G W ma)) (hb : PE X b (tE X.K G W mb)) (hm : behindInMarks .In b = false := by rfl) : PE X (.Compare a [.In] [b] pos) (tE X.K G W (mB2 ma mb gInS)) := pe_imp (pe_cmpR op_in_str ha hb hm) (t2_of ok_inS)
theorem de_notInS (ha : PE X a (tE X.K G W ma)) (hb : PE X b (tE X.K G W mb)) (hm : behindInMarks .NotIn b = false := by rfl) : PE X (.Compare a [.NotIn] [b] pos) (tE X.K G W (mB2 ma mb gNotInS)) := pe_imp (pe_cmpR op_notin_str ha hb hm) (t2_of ok_notInS)

/-! and, or, not, if -/
def mAnd (a b : M) : M := fun ρ S => (a ρ S).bind fun d S1 => match d with
  | .bl true => b ρ S1
  | .bl false => .ok (.bl false) S1
  | _ => .no
def mOr (a b : M) : M := fun ρ S => (a ρ S).bind fun d S1 => match d with
  | .bl false => b ρ S1
  | .bl true => .ok (.bl true) S1
  | _ => .no
def gNot : D → Store → Out D
  | .bl b, S => .ok (.bl (!b)) S
  | _, _ => .no
theorem de_one {op} {m : M} (h : PE X a (tE X.K G W m)) : PE X (.BoolOp op [a] pos) (tE X.K G W m) := pe_one h
theorem de_and {rest : List Expr} (ha : PE X a (tE X.K G W ma)) (hb : PE X (.BoolOp .And (b :: rest) pos) (tE X.K G W mb)) : PE X (.BoolOp .And (a :: b :: rest) pos) (tE X.K G W (mAnd ma mb)) := by
  refine pe_imp (pe_and ha hb) fun σ H Q ⟨ι, ρ, S, ⟨he, hrp⟩, h⟩ => ?_
  refine ⟨ι, ρ, S, ⟨he, hrp⟩, (PostE.bindE h).imp fun v H1 ⟨ι1, d, S1, x1, r1, i1, h1⟩ => ?_⟩
  cases i1 with
  | bl k =>
    refine ⟨k, rfl, ?_⟩
    cases k with
    | true => exact ⟨ι1, ρ, S1, ⟨he.ext x1, r1⟩, h1⟩
    | false => exact PostE.ok h1 r1 (.bl _)
  | _ => exact h1.elim
theorem de_or {rest : List Expr} (ha : PE X a (tE X.K G W ma)) (hb : PE X (.BoolOp .Or (b :: rest) pos) (tE X.K G W mb)) : PE X (.BoolOp .Or (a :: b :: rest) pos) (tE X.K G W (mOr ma mb)) := by
  refine pe_imp (pe_or ha hb) fun σ H Q ⟨ι, ρ, S, ⟨he, hrp⟩, h⟩ => ?_
  refine ⟨ι, ρ, S, ⟨he, hrp⟩, (PostE.bindE h).imp fun v H1 ⟨ι1, d, S1, x1, r1, i1, h1⟩ => ?_⟩
  cases i1 with
  | bl k =>
    refine ⟨k, rfl, ?_⟩
    cases k with
    | false => exact ⟨ι1, ρ, S1, ⟨he.ext x1, r1⟩, h1⟩
    | true => exact PostE.ok h1 r1 (.bl _)
  | _ => exact h1.elim
theorem de_not (ha : PE X a (tE X.K G W ma)) : PE X (.UnaryOp .Not a pos) (tE X.K G W (mB1 ma gNot)) := by
  refine pe_imp (pe_not ha) fun σ H Q ⟨ι, ρ, S, ⟨he, hrp⟩, h⟩ => ?_
  refine ⟨ι, ρ, S, ⟨he, hrp⟩, (PostE.bindE h).imp fun v H1 ⟨ι1, d, S1, x1, r1, i1, h1⟩ => ?_⟩
  cases i1 with
  | bl k => exact ⟨k, rfl, PostE.ok h1 r1 (.bl _)⟩
  | _ => exact h1.elim

/-! tests -/
/-- a test that is a bool -/
def tOfB (m : M) : MT := fun ρ S => (m ρ S).bind fun d S1 => match d with
  | .bl b => .ok b S1
  | _ => .no
def tAndM (a b : MT) : MT := fun ρ S => (a ρ S).bind fun k S1 => if k = true then b ρ S1 else .ok false S1
def tOrM (a b : MT) : MT := fun ρ S => (a ρ S).bind fun k S1 => if k = true then .ok true S1 else b ρ S1
def tNotM (a : MT) : MT := fun ρ S => (a ρ S).bind fun k S1 => .ok (!k) S1
theorem PostT.ok {K : PySem.W.Frag} {ι : Ad} {H : Hp} {σ : St} {d : Bool} {S : Store} {Q : Bool → Hp → Prop} (h : PostT K G W ι H σ (.ok d S) Q) (r : Rep K G ι S H) : Q d H := h ι H (Ext.refl _ _) r
theorem dt_val {e : Expr} {m : M} (h : PE X e (tE X.K G W m)) (he : ∀ whole, isTrue e X.env whole = (do let v ← whole; standAt e.pos; holding [v] (truthy v)) := by intro _; rfl) : PT X e (tT X.K G W (tOfB m)) := by
  refine pt_imp (pt_val h he) fun σ H Q ⟨ι, ρ, S, ⟨he, hrp⟩, h⟩ => ?_
  refine ⟨ι, ρ, S, ⟨he, hrp⟩, (PostE.bindT h).imp fun v H1 ⟨ι1, d, S1, x1, r1, i1, h1⟩ => ?_⟩
  cases i1 with
  | bl k => exact ⟨k, rfl, PostT.ok h1 r1⟩
  | _ => exact h1.elim
theorem tT_test {ma : M} : ∀ σ H Q, tT X.K G W (tOfB ma) σ H Q → tTest (tE X.K G W ma) σ H Q := by
  intro σ H Q ⟨ι, ρ, S, ⟨he, hrp⟩, h⟩
  refine ⟨ι, ρ, S, ⟨he, hrp⟩, (PostE.bindT h).imp fun v H1 ⟨ι1, d, S1, x1, r1, i1, h1⟩ => ?_⟩
  cases i1 with
  | bl k => exact ⟨k, rfl, PostT.ok h1 r1⟩
  | _ => exact h1.elim
theorem tTest_imp {t t' : TE} (h : ∀ σ H Q, t' σ H Q → t σ H Q) : ∀ σ H Q, tTest t' σ H Q → tTest t σ H Q := fun σ H Q q => h _ _ _ q
/-- a comparison as a test -/
theorem dt_cmp {op : CmpOp} {r : R2} {g : D → D → Store → Out D} (ho : OpR X (compareOp op) r) (ok : R2Ok X.K G r g) (ha : PE X a (tE X.K G W ma)) (hb : PE X b (tE X.K G W mb)) (hm : behindInMarks op b = false) : PT X (.Compare a [op] [b] pos) (tT X.K G W (tOfB (mB2 ma mb g))) :=
  pt_imp (pt_cmpR ho ha hb hm) fun σ H Q q => tTest_imp (t2_of ok) σ H Q (tT_test σ H Q q)
variable {ta tb : MT}
theorem dw_and1 (ha : PT X a (tT X.K G W ta)) : PW X (.BoolOp .And [a] pos) (tT X.K G W ta) := pw_and1 ha
theorem dw_or1 (ha : PT X a (tT X.K G W ta)) : PW X (.BoolOp .Or [a] pos) (tT X.K G W ta) := pw_or1 ha
theorem dw_and {rest : List Expr} (ha : PT X a (tT X.K G W ta)) (hb : PW X (.BoolOp .And (b :: rest) pos) (tT X.K G W tb)) : PW X (.BoolOp .And (a :: b :: rest) pos) (tT X.K G W (tAndM ta tb)) := by
  refine pw_imp (pw_and ha hb) fun σ H Q ⟨ι, ρ, S, ⟨he, hrp⟩, h⟩ => ?_
  refine ⟨ι, ρ, S, ⟨he, hrp⟩, (PostT.bindT h).imp fun k H1 ⟨ι1, S1, x1, r1, h1⟩ => ?_⟩
  cases k with
  | true => exact ⟨ι1, ρ, S1, ⟨he.ext x1, r1⟩, h1⟩
  | false => exact PostT.ok h1 r1
theorem dw_or {rest : List Expr} (ha : PT X a (tT X.K G W ta)) (hb : PW X (.BoolOp .Or (b :: rest) pos) (tT X.K G W tb)) : PW X (.BoolOp .Or (a :: b :: rest) pos) (tT X.K G W (tOrM ta tb)) := by
  refine pw_imp (pw_or ha hb) fun σ H Q ⟨ι, ρ, S, ⟨he, hrp⟩, h⟩ => ?_
  refine ⟨ι, ρ, S, ⟨he, hrp⟩, (PostT.bindT h).imp fun k H1 ⟨ι1, S1, x1, r1, h1⟩ => ?_⟩
  cases k with
  | false => exact ⟨ι1, ρ, S1, ⟨he.ext x1, r1⟩, h1⟩
  | true => exact PostT.ok h1 r1
theorem dt_not (ha : PT X a (tT X.K G W ta)) : PT X (.UnaryOp .Not a pos) (tT X.K G W (tNotM ta)) := by
  refine pt_imp (pt_not ha) fun σ H Q ⟨ι, ρ, S, ⟨he, hrp⟩, h⟩ => ?_
  refine ⟨ι, ρ, S, ⟨he, hrp⟩, (PostT.bindT h).imp fun k H1 ⟨ι1, S1, x1, r1, h1⟩ => ?_⟩
  exact PostT.ok h1 r1
def mIf (t : MT) (a b : M) : M := fun ρ S => (t ρ S).bind fun k S1 => if k = true then a ρ S1 else b ρ S1
theorem de_if (hc : PT X c (tT X.K G W ta)) (ha : PE X a (tE X.K G W ma)) (hb : PE X b (tE X.K G W mb)) : PE X (.IfExp c a b pos) (tE X.K G W (mIf ta ma mb)) := by
  refine pe_imp (pe_ifExp hc ha hb) fun σ H Q ⟨ι, ρ, S, ⟨he, hrp⟩, h⟩ => ?_
  refine ⟨ι, ρ, S, ⟨he, hrp⟩, (PostT.bindE h).imp fun k H1 ⟨ι1, S1, x1, r1, h1⟩ => ?_⟩
  cases k with
  | true => exact ⟨ι1, ρ, S1, ⟨he.ext x1, r1⟩, h1⟩
  | false => exact ⟨ι1, ρ, S1, ⟨he.ext x1, r1⟩, h1⟩
end
end DL

end

/-! ## DL2 -/
section
set_option Elab.async false
set_option linter.all false
set_option maxRecDepth 100000
namespace DL
open PySem PySem.Spec PyProof.Rows L2

/-! ### calls of the text's own defs -/
/-- a def of n parameters -/
def callN (n : Nat) (F : List D → Store → Out D) (ds : List D) (S : Store) : Out D := if ds.length = n then F ds S else .no
abbrev WF (E : XK) : WX := fun c d _ H => E c d H
def spF (K : PySem.W.Frag) (G : String → Addr) (n : Nat) (F : List D → Store → Out D) : Sp := fun vs H Q E => ∃ ι S ds, Rep K G ι S H ∧ IsAll K G ι H ds vs ∧ PostE K G (WF E) ι H [] (callN n F ds S) Q
theorem spF.len {K : PySem.W.Frag} {G : String → Addr} {n : Nat} {F : List D → Store → Out D} {vs : List V} {H : Hp} {Q : VK} {E : XK} (h : spF K G n F vs H Q E) : vs.length = n := by
  obtain ⟨ι, S, ds, r, i, q⟩ := h
  unfold callN at q
  split at q
  · rename_i e; rw [← i.len]; exact e
  · exact q.elim
theorem PostE.wish {K : PySem.W.Frag} {G : String → Addr} {W : WX} {ι : Ad} {H : Hp} {σ : St} {o : Out D} {Q : VK} (h : PostE K G W ι H σ o Q) : PostE K G (WF fun c d H => W c d σ H) ι H [] o Q := by
  cases o with
  | ok d S => exact h
  | ex c fs S => exact h
  | no => exact h.elim
/-- what a body gives out -/
def Fl.out : Fl → Out D
  | .nx _ S' => .ok .non S'
  | .rt d S' => .ok d S'
  | .ex c fs _ S' => .ex c fs S'
  | _ => .no
def runB (n : Nat) (b : MS) (ds : List D) (S : Store) : Out D := (b (ds.map some ++ List.replicate (n - ds.length) none) S).out
section
variable {K : PySem.W.Frag} {G : String → Addr}
theorem IsAll.env {ι : Ad} {H : Hp} {ds : List D} {vs : List V} (h : IsAll K G ι H ds vs) (N : List Str) : EnvIs K G ι H (ds.map some ++ List.replicate (N.length - ds.length) none) (L2.start N vs) := by
  have e := h.len
  refine ⟨by unfold L2.start; simp only [List.length_append, List.length_map, List.length_replicate, e], fun i d q => ?_⟩
  unfold L2.start
  by_cases hi : i < ds.length
  · rw [List.getElem?_append_left (by rw [List.length_map]; exact hi), List.getElem?_map, Option.map_eq_some_iff] at q
    obtain ⟨d', q, ed⟩ := q
    cases ed
    obtain ⟨v, q2, r⟩ := h.get q
    refine ⟨v, ?_, r⟩
    rw [List.getElem?_append_left (by rw [List.length_map, ← e]; exact hi), List.getElem?_map, q2]; rfl
  · rw [List.getElem?_append_right (by rw [List.length_map]; omega), List.getElem?_replicate] at q
    split at q <;> cases q
theorem PostS.out {E : XK} {ι : Ad} {H : Hp} {o : Fl} {Q : VK} (h : PostE K G (WF E) ι H [] o.out Q) : PostS K G (WF E) ι H o { nx := fun _ H' => Q .non H', rt := Q } := by
  cases o with
  | nx ρ S => exact fun ι' H' σ' x r i => h ι' H' _ x r .non
  | rt d S => exact h
  | bk ρ S => exact h.elim
  | ct ρ S => exact h.elim
  | ex c fs ρ S => exact fun ι' H' dd ws σ' x r _ a b => h ι' H' dd ws x r a b
  | no => exact h.elim
variable {P : Program} {w : World} {mg : Str → Option Value} {base : Heap}
/-- a def by its body -/
theorem fn_sem {x qual : Str} {st : Stmt} {f : Addr} {fd : FuncData} {N ps : List Str} {k : Nat} {b : MS} (F : Fun K x qual st f fd) (Sc : FnScope N ps (defScope st))
    (hb : ∀ (cdv : Value) (A : Around) (outer : List PySem.Env) (s : Shared) (H : Hp) (E : XK), Room k (A.deeper (envOfC qual (defScope st) s.heap.objs.size f cdv)) →
      PSs (cxOf (L2.CX P w) P w K mg base N qual (defScope st) f cdv A outer s H E) (defBody st) (tS K G (WF E) b)) :
    FnOk P w K mg base (L2.CX P w) (k + 1) f fd ps (spF K G ps.length (runB N.length b)) := by
  refine F.okX Sc (fun vs H Q E h => h.len) fun cdv A outer s H vs Q E hr h => ⟨_, hb cdv A outer s H E hr, ?_⟩
  obtain ⟨ι, S, ds, r, i, q⟩ := h
  unfold callN at q
  split at q
  · exact ⟨ι, _, S, ⟨i.env N, r⟩, PostS.out q⟩
  · exact q.elim
end
section
variable {X : Cx} {G : String → Addr} {W : WX} {k n : Nat} {f : Addr} {fd : FuncData} {ps : List Str} {Fn : List D → Store → Out D} {x : Str} {p pos : Pos} {e : Expr} {es : List Expr} {m : MA}
theorem de_call (F : FnOk X.prog X.w X.K X.mg X.base (L2.CX X.prog X.w) k f fd ps (spF X.K G n Fn)) (hr : Room k X.A) (hm : X.mg x = some (.ref f)) (hk : PySem.W.keepIn X.K (.ref f) = true) (hb : Binds X.K fd ps []) (tk : Takes X W)
    (ha : PA X (e :: es) (tA X.K G W m)) (hg : Gl X x := by rfl) (hdb : (x == ("__debug__" : Str)) = false := by decide) (he : starEach (e :: es) X.env = (false, eval e X.env) :: starEach es X.env := by rfl) (hpl : (backTo pos (starEach es X.env)).any (·.1) = false := by rfl) :
    PE X (.Call (.Name x p) (e :: es) [] pos) (tE X.K G W (mAll m (callN n Fn))) := by
  refine pe_imp (pe_callS F hr hg hm hk hb (E := WE W) (passAt tk) ha hdb he hpl) fun σ H Q ⟨ι, ρ, S, ⟨he, hrp⟩, h⟩ => ?_
  refine ⟨ι, ρ, S, ⟨he, hrp⟩, (PostA.bindE h).imp fun v H1 ⟨ι1, d, S1, x1, r1, i1, h1⟩ => ?_⟩
  exact ⟨ι1, S1, d, r1, i1, h1.wish⟩
end

/-! ### built-in functions -/
def seqOf (S : Store) : D → Option (List D)
  | .tup l => some l
  | .lst l => some l
  | .frz l => some l
  | .ref n => match S[n]? with
    | some (.lst l) => some l
    | _ => none
  | _ => none
def g1 (g : D → Store → Out D) : List D → Store → Out D
  | [d], S => g d S
  | _, _ => .no
def g2 (g : D → D → Store → Out D) : List D → Store → Out D
  | [d, e], S => g d e S
  | _, _ => .no
def gLen (d : D) (S : Store) : Out D := match d with
  | .str a => if a.length ≤ big then .ok (.int a.length) S else .no
  | d => match seqOf S d with
    | some l => .ok (.int l.length) S
    | none => .no
def gInt : D → Store → Out D
  | .int i, S => .ok (.int i) S
  | _, _ => .no
def gMin : D → D → Store → Out D
  | .int i, .int j, S => .ok (.int (if j < i then j else i)) S
  | _, _, _ => .no
def tyN (S : Store) : D → Option String
  | .non => some "NoneType"
  | .bl _ => some "bool"
  | .int _ => some "int"
  | .str _ => some "str"
  | .tup _ => some "tuple"
  | .lst _ => some "list"
  | .frz _ => some "list"
  | .ref n => match S[n]? with
    | some (.lst _) => some "list"
    | some (.dct _) => some "dict"
    | _ => none
  | _ => none
def gIsi (d c : D) (S : Store) : Out D := match c with
  | .ty n => match tyN S d with
    | some a => match kitB a n with
      | some b => .ok (.bl b) S
      | none => .no
    | none => .no
  | _ => .no
def intsOf : List D → Option (List Int)
  | [] => some []
  | .int i :: l => (intsOf l).map (i :: ·)
  | _ :: _ => none
def blsOf : List D → Option (List Bool)
  | [] => some []
  | .bl i :: l => (blsOf l).map (i :: ·)
  | _ :: _ => none
def lstOf (S : Store) : D → Option (List D)
  | .lst l => some l
  | .frz l => some l
  | .ref n => match S[n]? with
    | some (.lst l) => some l
    | _ => none
  | _ => none
def gSum (d : D) (S : Store) : Out D := match lstOf S d with
  | some l => match intsOf l with
    | some ns => .ok (.int ns.sum) S
    | none => .no
  | none => .no
def gAllB (d : D) (S : Store) : Out D := match lstOf S d with
  | some l => match blsOf l with
    | some ns => .ok (.bl (ns.all id)) S
    | none => .no
  | none => .no
def gAnyB (d : D) (S : Store) : Out D := match lstOf S d with
  | some l => match blsOf l with
    | some ns => .ok (.bl (ns.any id)) S
    | none => .no
  | none => .no
def gTuple (d : D) (S : Store) : Out D := match d with
  | .tup l => .ok (.tup l) S
  | d => match lstOf S d with
    | some l => .ok (.tup l) S
    | none => .no
def gList (d : D) (S : Store) : Out D := match seqOf S d with
  | some l => .ok (.lst l) S
  | none => .no
def gTup (ds : List D) (S : Store) : Out D := if ds.length ≤ big then .ok (.tup ds) S else .no
def gLst (ds : List D) (S : Store) : Out D := if ds.length ≤ big then .ok (.lst ds) S else .no
/-- a list that will be changed: a new cell -/
def gNewL (ds : List D) (S : Store) : Out D := if ds.length ≤ big then .ok (.ref S.length) (S ++ [.lst ds]) else .no

section
variable {X : Cx} {G : String → Addr} {K : PySem.W.Frag}
theorem IsAll.one {ι : Ad} {H : Hp} {ds : List D} {v : V} (h : IsAll K G ι H ds [v]) : ∃ d, ds = [d] ∧ Is K G ι H d v := by
  cases h with
  | cons a t => cases t; exact ⟨_, rfl, a⟩
theorem Rep.lst {ι : Ad} {S : Store} {H : Hp} (r : Rep K G ι S H) {n : Nat} {l : List D} {a : Addr} (h : S[n]? = some (.lst l)) (e : ι.c[n]? = some a) : ∃ vs, H a = some (.lst vs) ∧ IsAll K G ι H l vs := r.cell n a _ e h
theorem lst_sq {ι : Ad} {S : Store} {H : Hp} {d : D} {v : V} {l : List D} (r : Rep K G ι S H) (i : Is K G ι H d v) (h : lstOf S d = some l) : ∃ a xs, v = .ref a ∧ SqL K H a xs ∧ IsAll K G ι H l xs := by
  cases i with
  | lst h1 n1 t1 => simp only [lstOf, Option.some.injEq] at h; subst h; exact ⟨_, _, rfl, SqL.of h1, t1⟩
  | frz h1 t1 => simp only [lstOf, Option.some.injEq] at h; subst h; exact ⟨_, _, rfl, h1.sq, t1⟩
  | ref e =>
    simp only [lstOf] at h
    split at h
    · rename_i l' hs
      cases h
      obtain ⟨vs, h1, h2⟩ := r.lst hs e
      exact ⟨_, vs, rfl, SqL.of h1, h2⟩
    · cases h
  | _ => simp [lstOf] at h
theorem seq_sq {ι : Ad} {S : Store} {H : Hp} {d : D} {v : V} {l : List D} (r : Rep K G ι S H) (i : Is K G ι H d v) (h : seqOf S d = some l) : ∃ a xs, v = .ref a ∧ (SqL K H a xs ∨ SqT K H a xs) ∧ IsAll K G ι H l xs := by
  by_cases ht : ∃ l', d = .tup l'
  · obtain ⟨l', rfl⟩ := ht
    cases i with
    | tup h1 t1 => simp only [seqOf, Option.some.injEq] at h; subst h; exact ⟨_, _, rfl, .inr h1.sq, t1⟩
  · have e : lstOf S d = some l := by
      cases d <;> first | exact h | exact absurd ⟨_, rfl⟩ ht
    obtain ⟨a, xs, e1, e2, e3⟩ := lst_sq r i e
    exact ⟨a, xs, e1, .inl e2, e3⟩
theorem IsAll.ints {ι : Ad} {H : Hp} : ∀ {l : List D} {vs : List V} {ns : List Int}, IsAll K G ι H l vs → intsOf l = some ns → vs = ns.map V.int
  | _, _, _, .nil, e => by simp only [intsOf, Option.some.injEq] at e; subst e; rfl
  | _, _, _, .cons h t, e => by
    cases h with
    | int i =>
      simp only [intsOf, Option.map_eq_some_iff] at e
      obtain ⟨ns, e, rfl⟩ := e
      rw [t.ints e, List.map_cons]
    | _ => simp [intsOf] at e
theorem IsAll.bls {ι : Ad} {H : Hp} : ∀ {l : List D} {vs : List V} {ns : List Bool}, IsAll K G ι H l vs → blsOf l = some ns → vs = ns.map V.bl
  | _, _, _, .nil, e => by simp only [blsOf, Option.some.injEq] at e; subst e; rfl
  | _, _, _, .cons h t, e => by
    cases h with
    | bl i =>
      simp only [blsOf, Option.map_eq_some_iff] at e
      obtain ⟨ns, e, rfl⟩ := e
      rw [t.bls e, List.map_cons]
    | _ => simp [blsOf] at e
theorem ok_len : RAOk X.K G (fun xs H Q => ∃ x n, xs = [x] ∧ LenV X.K x H n ∧ Q (.int n) H) (g1 gLen) := by
  intro W ι H S σ xs ds Q r i q
  cases i with
  | nil => exact q.elim
  | cons a t =>
    cases t with
    | cons _ _ => exact q.elim
    | nil =>
      rename_i d v
      by_cases hs : ∃ s, d = .str s
      · obtain ⟨s, rfl⟩ := hs
        cases a
        simp only [g1, gLen] at q
        split at q
        · rename_i hl
          exact ⟨_, s.length, rfl, ⟨big_line hl, rfl⟩, PostE.ok q r (.int _)⟩
        · exact q.elim
      · have e : g1 gLen [d] S = match seqOf S d with
          | some l => .ok (.int l.length) S
          | none => .no := by cases d <;> first | rfl | exact absurd ⟨_, rfl⟩ hs
        rw [e] at q
        split at q
        · rename_i l hl
          obtain ⟨p, xs, rfl, h1, h2⟩ := seq_sq r a hl
          refine ⟨_, xs.length, rfl, ?_, by have := PostE.ok q r (.int _); rw [← h2.len]; exact this⟩
          rcases h1 with h1 | h1
          · exact .inl ⟨xs, h1, rfl⟩
          · exact .inr ⟨xs, h1, rfl⟩
        · exact q.elim
theorem ok_int : RAOk X.K G (fun xs H Q => (∃ i, xs = [.int i] ∧ Q (.int i) H) ∨ ∃ k, xs = [.bl k] ∧ Q (.int (if k then 1 else 0)) H) (g1 gInt) := by
  intro W ι H S σ xs ds Q r i q
  cases i with
  | nil => exact q.elim
  | cons a t =>
    cases t with
    | cons _ _ => exact q.elim
    | nil => cases a <;> first | exact q.elim | exact .inl ⟨_, rfl, PostE.ok q r (.int _)⟩
theorem ok_min : RAOk X.K G (fun xs H Q => ∃ i j, xs = [.int i, .int j] ∧ Q (.int (if j < i then j else i)) H) (g2 gMin) := by
  intro W ι H S σ xs ds Q r i q
  cases i with
  | nil => exact q.elim
  | cons a t =>
    cases t with
    | nil => exact q.elim
    | cons b t =>
      cases t with
      | cons _ _ => exact q.elim
      | nil => cases a <;> cases b <;> first | exact q.elim | exact ⟨_, _, rfl, PostE.ok q r (.int _)⟩
theorem ty_is {ι : Ad} {S : Store} {H : Hp} {d : D} {v : V} {n : String} (r : Rep K G ι S H) (i : Is K G ι H d v) (h : tyN S d = some n) : TyX K H v (.type n) := by
  cases i with
  | non => cases h; exact .base .non
  | bl b => cases h; exact .base (.bl b)
  | int b => cases h; exact .base (.int b)
  | str b => cases h; exact .base (.str b)
  | tup h1 t1 =>
    cases h
    rcases h1 with ⟨h1 | ⟨o, h1⟩, _⟩ | ⟨o, its, n, h1, h2, _⟩
    · exact .base (.tup h1)
    · exact .fTuple h1
    · exact .kTuple h1 h2
  | lst h1 n1 t1 => cases h; exact .base (.lst h1)
  | frz h1 t1 =>
    cases h
    rcases h1 with ⟨h1 | ⟨o, h1⟩, _⟩ | ⟨o, its, n, h1, h2, _⟩
    · exact .base (.lst h1)
    · exact .base (.frz h1)
    · exact .kList h1 h2
  | ref e =>
    simp only [tyN] at h
    split at h
    · rename_i l hs
      cases h
      obtain ⟨vs, h1, _⟩ := r.cell _ _ _ e hs
      exact .base (.lst h1)
    · rename_i l hs
      cases h
      obtain ⟨vs, h1, _⟩ := r.cell _ _ _ e hs
      exact .base (.dK h1)
    · cases h
  | _ => cases h
theorem ok_isi : RAOk X.K G (rIsi X.K) (g2 gIsi) := by
  intro W ι H S σ xs ds Q r i q
  cases i with
  | nil => exact q.elim
  | cons a t =>
    cases t with
    | nil => exact q.elim
    | cons b t =>
      cases t with
      | cons _ _ => exact q.elim
      | nil =>
        cases b with
        | ty n =>
          simp only [g2, gIsi] at q
          split at q
          · rename_i an ha
            split at q
            · rename_i k hk
              exact ⟨_, _, _, _, _, rfl, .ty n, ty_is r a ha, kit_ty hk, PostE.ok q r (.bl _)⟩
            · exact q.elim
          · exact q.elim
        | _ => exact q.elim
theorem ok_sum : RAOk X.K G (rSum X.K) (g1 gSum) := by
  intro W ι H S σ xs ds Q r i q
  cases i with
  | nil => exact q.elim
  | cons a t =>
    cases t with
    | cons _ _ => exact q.elim
    | nil =>
      simp only [g1, gSum] at q
      split at q
      · rename_i l hl
        split at q
        · rename_i ns hn
          obtain ⟨p, xs, rfl, h1, h2⟩ := lst_sq r a hl
          exact ⟨p, ns, rfl, (h2.ints hn) ▸ h1, PostE.ok q r (.int _)⟩
        · exact q.elim
      · exact q.elim
theorem ok_allB : RAOk X.K G (rAll X.K) (g1 gAllB) := by
  intro W ι H S σ xs ds Q r i q
  cases i with
  | nil => exact q.elim
  | cons a t =>
    cases t with
    | cons _ _ => exact q.elim
    | nil =>
      simp only [g1, gAllB] at q
      split at q
      · rename_i l hl
        split at q
        · rename_i ns hn
          obtain ⟨p, xs, rfl, h1, h2⟩ := lst_sq r a hl
          exact ⟨p, ns, rfl, (h2.bls hn) ▸ h1, PostE.ok q r (.bl _)⟩
        · exact q.elim
      · exact q.elim
theorem ok_anyB : RAOk X.K G (rAny X.K) (g1 gAnyB) := by
  intro W ι H S σ xs ds Q r i q
  cases i with
  | nil => exact q.elim
  | cons a t =>
    cases t with
    | cons _ _ => exact q.elim
    | nil =>
      simp only [g1, gAnyB] at q
      split at q
      · rename_i l hl
        split at q
        · rename_i ns hn
          obtain ⟨p, xs, rfl, h1, h2⟩ := lst_sq r a hl
          exact ⟨p, ns, rfl, (h2.bls hn) ▸ h1, PostE.ok q r (.bl _)⟩
        · exact q.elim
      · exact q.elim
theorem ok_tuple : RAOk X.K G (fun xs H Q => ∃ p ys, xs = [.ref p] ∧ ((SqL X.K H p ys ∧ ∀ l, H l = none → Q (.ref l) (upd H l (.tup ys))) ∨ (SqT X.K H p ys ∧ Q (.ref p) H))) (g1 gTuple) := by
  intro W ι H S σ xs ds Q r i q
  cases i with
  | nil => exact q.elim
  | cons a t =>
    cases t with
    | cons _ _ => exact q.elim
    | nil =>
      rename_i d v
      by_cases hs : ∃ s, d = .tup s
      · obtain ⟨s, rfl⟩ := hs
        cases a with
        | tup h1 t1 => exact ⟨_, _, rfl, .inr ⟨h1.sq, PostE.ok q r (.tup h1 t1)⟩⟩
      · have e : g1 gTuple [d] S = match lstOf S d with
          | some l => .ok (.tup l) S
          | none => .no := by cases d <;> first | rfl | exact absurd ⟨_, rfl⟩ hs
        rw [e] at q
        split at q
        · rename_i l hl
          obtain ⟨p, xs, rfl, h1, h2⟩ := lst_sq r a hl
          exact ⟨p, xs, rfl, .inl ⟨h1, fun l hl => q.okPush r hl (.tup (.inl ⟨.inl upd_same, r.out hl⟩) (h2.ext (Ext.push hl)))⟩⟩
        · exact q.elim
theorem ok_list : RAOk X.K G (fun xs H Q => ∃ p ys, xs = [.ref p] ∧ (SqL X.K H p ys ∨ SqT X.K H p ys) ∧ ∀ l, H l = none → Q (.ref l) (upd H l (.lst ys))) (g1 gList) := by
  intro W ι H S σ xs ds Q r i q
  cases i with
  | nil => exact q.elim
  | cons a t =>
    cases t with
    | cons _ _ => exact q.elim
    | nil =>
      simp only [g1, gList] at q
      split at q
      · rename_i l hl
        obtain ⟨p, xs, rfl, h1, h2⟩ := seq_sq r a hl
        exact ⟨p, xs, rfl, h1, fun l hl => q.okPush r hl (.lst upd_same (r.out hl) (h2.ext (Ext.push hl)))⟩
      · exact q.elim
end

/-! rules of calls of built-ins: x the name, e :: es its arguments -/
section
variable {X : Cx} {G : String → Addr} {W : WX} {x : Str} {p pos : Pos} {e : Expr} {es : List Expr} {m : MA} {id T : String} {r : List V → Hp → VK → Prop} {g : List D → Store → Out D}
theorem de_bi (hc : CallR X (.builtin id) r) (ok : RAOk X.K G r g) (hm : X.mg x = none) (hv : bootBuiltins x = some (.builtin id)) (ha : PA X (e :: es) (tA X.K G W m)) (hg : Gl X x := by rfl) (hn : x ≠ "__name__" := by decide) (hdb : (x == ("__debug__" : Str)) = false := by decide)
    (he : starEach (e :: es) X.env = (false, eval e X.env) :: starEach es X.env := by rfl) (hpl : (backTo pos (starEach es X.env)).any (·.1) = false := by rfl) : PE X (.Call (.Name x p) (e :: es) [] pos) (tE X.K G W (mAll m g)) := pe_imp (pe_callB hc hg hm hv ha hn hdb he hpl) (tA_all ok)
theorem de_bt (hc : CallR X (.type T) r) (ok : RAOk X.K G r g) (hm : X.mg x = none) (hv : bootBuiltins x = some (.type T)) (ha : PA X (e :: es) (tA X.K G W m)) (hg : Gl X x := by rfl) (hn : x ≠ "__name__" := by decide) (hdb : (x == ("__debug__" : Str)) = false := by decide)
    (he : starEach (e :: es) X.env = (false, eval e X.env) :: starEach es X.env := by rfl) (hpl : (backTo pos (starEach es X.env)).any (·.1) = false := by rfl) : PE X (.Call (.Name x p) (e :: es) [] pos) (tE X.K G W (mAll m g)) := pe_imp (pe_callTy hc hg hm hv ha hn hdb he hpl) (tA_all ok)
/-! displays -/
theorem de_tup {x1} (ha : PA X es (tA X.K G W m)) : PE X (.Tuple es x1 pos) (tE X.K G W (mAll m gTup)) := by
  refine pe_imp (pe_tup ha) fun σ H Q ⟨ι, ρ, S, ⟨he, hrp⟩, h⟩ => ?_
  refine ⟨ι, ρ, S, ⟨he, hrp⟩, (PostA.bindE h).imp fun v H1 ⟨ι1, d, S1, x1, r1, i1, h1⟩ => ?_⟩
  unfold gTup at h1
  split at h1
  · rename_i hl
    exact ⟨big_line (by rw [← i1.len]; exact hl), fun p hp => h1.okPush r1 hp (.tup (.inl ⟨.inl upd_same, r1.out hp⟩) (i1.ext (Ext.push hp)))⟩
  · exact h1.elim
theorem de_lst (ha : PA X es (tA X.K G W m)) : PE X (.List es pos) (tE X.K G W (mAll m gLst)) := by
  refine pe_imp (pe_lst ha) fun σ H Q ⟨ι, ρ, S, ⟨he, hrp⟩, h⟩ => ?_
  refine ⟨ι, ρ, S, ⟨he, hrp⟩, (PostA.bindE h).imp fun v H1 ⟨ι1, d, S1, x1, r1, i1, h1⟩ => ?_⟩
  unfold gLst at h1
  split at h1
  · rename_i hl
    exact ⟨big_line (by rw [← i1.len]; exact hl), fun p hp => h1.okPush r1 hp (.lst upd_same (r1.out hp) (i1.ext (Ext.push hp)))⟩
  · exact h1.elim
theorem PostE.okCell {K : PySem.W.Frag} {ι : Ad} {H : Hp} {σ : St} {S : Store} {c : Cell} {Q : VK} (h : PostE K G W ι H σ (.ok (.ref S.length) (S ++ [c])) Q) (r : Rep K G ι S H) {p : Addr} {o : HO} (hp : H p = none) (i : CellIs K G (ι.snoc p) (upd H p o) p c) : Q (.ref p) (upd H p o) :=
  h _ _ _ (Ext.cell hp) (r.newCell (r.out hp) (fun u z => by rw [hp] at z; cases z) i) (.ref (by rw [← r.len]; exact Ad.at_snoc _ _))
theorem de_newL (ha : PA X es (tA X.K G W m)) : PE X (.List es pos) (tE X.K G W (mAll m gNewL)) := by
  refine pe_imp (pe_lst ha) fun σ H Q ⟨ι, ρ, S, ⟨he, hrp⟩, h⟩ => ?_
  refine ⟨ι, ρ, S, ⟨he, hrp⟩, (PostA.bindE h).imp fun v H1 ⟨ι1, d, S1, x1, r1, i1, h1⟩ => ?_⟩
  unfold gNewL at h1
  split at h1
  · rename_i hl
    exact ⟨big_line (by rw [← i1.len]; exact hl), fun p hp => h1.okCell r1 hp ⟨_, upd_same, i1.ext (Ext.cell hp)⟩⟩
  · exact h1.elim
end
end DL

end

/-! ## DL3 -/
section
set_option Elab.async false
set_option linter.all false
set_option maxRecDepth 100000
namespace DL
open PySem PySem.Spec PyProof.Rows L2

/-! ### dicts -/
def keyOf : D → Option Key
  | .int i => some (.inl i)
  | .str s => some (.inr s)
  | _ => none
section
variable {κ : Type} [DecidableEq κ]
def getD (kvs : List (κ × D)) (k : κ) : Option D := (kvs.find? fun kv => decide (kv.1 = k)).map (·.2)
def putD (kvs : List (κ × D)) (k : κ) (v : D) : List (κ × D) :=
  if (kvs.any fun kv => decide (kv.1 = k)) = true then kvs.map (fun kv => if kv.1 = k then (kv.1, v) else kv) else kvs ++ [(k, v)]
variable {K : PySem.W.Frag} {G : String → Addr} {ι : Ad} {H : Hp}
theorem IsKV.len {κ : Type} : ∀ {l : List (κ × D)} {vs : List (κ × V)}, IsKV K G ι H l vs → l.length = vs.length
  | _, _, .nil => rfl
  | _, _, .cons _ t => by rw [List.length_cons, List.length_cons, IsKV.len t]
theorem IsKV.get : ∀ {l : List (κ × D)} {vs : List (κ × V)} (k : κ), IsKV K G ι H l vs → (getD l k = none ∧ valV vs k = none) ∨ ∃ d v, getD l k = some d ∧ valV vs k = some v ∧ Is K G ι H d v
  | _, _, _, .nil => .inl ⟨rfl, rfl⟩
  | p :: l, q :: vs, k, .cons h t => by
    by_cases e : p.1 = k
    · have e' : q.1 = k := h.1 ▸ e
      refine .inr ⟨p.2, q.2, ?_, valV_pos e', h.2⟩
      unfold getD; rw [List.find?_cons, decide_eq_true e]; rfl
    · have e' : ¬ q.1 = k := h.1 ▸ e
      rw [valV_neg e']
      have : getD (p :: l) k = getD l k := by unfold getD; rw [List.find?_cons, decide_eq_false e]
      rw [this]
      exact IsKV.get k t
theorem IsKV.append {κ : Type} : ∀ {l l' : List (κ × D)} {vs vs' : List (κ × V)}, IsKV K G ι H l vs → IsKV K G ι H l' vs' → IsKV K G ι H (l ++ l') (vs ++ vs')
  | _, _, _, _, .nil, h => h
  | _, _, _, _, .cons a t, h => .cons a (IsKV.append t h)
theorem IsKV.anyEq : ∀ {l : List (κ × D)} {vs : List (κ × V)} (k : κ), IsKV K G ι H l vs → (l.any fun kv => decide (kv.1 = k)) = vs.any fun kv => decide (kv.1 = k)
  | _, _, _, .nil => rfl
  | _, _, k, .cons h t => by rw [List.any_cons, List.any_cons, h.1, IsKV.anyEq k t]
theorem IsKV.repl : ∀ {l : List (κ × D)} {vs : List (κ × V)} (k : κ) {d : D} {v : V}, IsKV K G ι H l vs → Is K G ι H d v → IsKV K G ι H (l.map fun kv => if kv.1 = k then (kv.1, d) else kv) (vs.map fun kv => if kv.1 = k then (kv.1, v) else kv)
  | _, _, _, _, _, .nil, _ => .nil
  | _, _, k, d, v, .cons (a := p) (b := q) h t, r => by
    rw [List.map_cons, List.map_cons]
    refine .cons ?_ (IsKV.repl k t r)
    by_cases e : p.1 = k
    · rw [if_pos e, if_pos (h.1 ▸ e)]; exact ⟨h.1, r⟩
    · rw [if_neg e, if_neg (h.1 ▸ e)]; exact h
theorem IsKV.put {l : List (κ × D)} {vs : List (κ × V)} (k : κ) {d : D} {v : V} (h : IsKV K G ι H l vs) (r : Is K G ι H d v) : IsKV K G ι H (putD l k d) (putK vs k v) := by
  unfold putD putK
  rw [h.anyEq k]
  by_cases e : (vs.any fun kv => decide (kv.1 = k)) = true
  · rw [if_pos e, if_pos e]; exact h.repl k r
  · rw [if_neg e, if_neg e]; exact h.append (.cons ⟨rfl, r⟩ .nil)
theorem keyOf_is {d : D} {k : Key} {v : V} (h : keyOf d = some k) (i : Is K G ι H d v) : v = kV k := by
  cases i <;> simp [keyOf] at h <;> subst h <;> rfl
end

/-! ### subscripts -/
section
variable {X : Cx} {G : String → Addr}
theorem ix_dict (hu : X.A.units + 1 < cLine) : IxR X (fun x y H Q => ∃ a v, x = .ref a ∧ DGet H a y (some v) ∧ Q v H) := by
  intro value slice pins s σ H x y v u Q I rx ry h hs
  obtain ⟨a, w, rfl, g, q⟩ := h
  obtain rfl : v = Value.ref a := rx
  have hT := dict_typeIs I g
  unfold subscriptTail
  refine wpAny_bind ?_
  rw [getitemInPython_of_ne hT.not_modules]
  refine wpAny_bind (wpAny_specialOf hT PySem.F.slot_dict_getitem.lookup ?_)
  have fin : wpAny (model X.prog X.w) X.A (subscripted slice false (.ref a) u) (fun r s₃ => wpAny (model X.prog X.w) X.A (letTemporaryGo value (.ref a) r >>= fun _ => pure r) (EP X pins σ Q) X.xe s₃) X.xe s := by
    rw [hs]
    exact wpAny_operating (wpAny_mono (d_getItem hu I g ry fun w' s3 I3 rw' => (⟨w, H, I3, rw', q⟩ : EP X pins σ Q w' s3)) (fun r s₃ h₃ => wpAny_bind (wpAny_letTemporaryGo (wpAny_pure h₃))) fun _ _ x => x)
  first
    | exact wpAny_pure (wpAny_bind fin)
    | exact wpAny_bind (wpAny_pure (wpAny_bind fin))
    | exact wpAny_bind fin
def rIxA (K : PySem.W.Frag) : R2 := fun x y H Q => rIx K x y H Q ∨ ∃ a v, x = .ref a ∧ DGet H a y (some v) ∧ Q v H
theorem ix_any (hu : X.A.units + 1 < cLine) : IxR X (rIxA X.K) := IxR.or ix_seq (ix_dict hu)
end
def gIx (d e : D) (S : Store) : Out D := match d, e with
  | .str s, .int i => match atI s.cps.toList i with
    | some c => if s.length ≤ big then .ok (.str ⟨#[c]⟩) S else .no
    | none => .no
  | .ref n, e => match S[n]? with
    | some (.lst l) => match e with
      | .int i => match atI l i with
        | some v => .ok v S
        | none => .no
      | _ => .no
    | some (.dct kvs) => match keyOf e with
      | some k => match getD kvs k with
        | some v => .ok v S
        | none => .no
      | none => .no
    | _ => .no
  | .tup l, .int i => match atI l i with
    | some v => .ok v S
    | none => .no
  | .lst l, .int i => match atI l i with
    | some v => .ok v S
    | none => .no
  | .frz l, .int i => match atI l i with
    | some v => .ok v S
    | none => .no
  | _, _ => .no
section
variable {X : Cx} {G : String → Addr} {K : PySem.W.Frag} {ι : Ad} {H : Hp}
theorem IsAll.atI {l : List D} {vs : List V} {i : Int} {d : D} (h : IsAll K G ι H l vs) (e : atI l i = some d) : ∃ v, atI vs i = some v ∧ Is K G ι H d v := by
  unfold L2.atI at e ⊢
  rw [← h.len]
  cases hj : ixN l.length i with
  | none => rw [hj] at e; cases e
  | some j =>
    rw [hj] at e
    obtain ⟨v, a, b⟩ := h.get (i := j) e
    exact ⟨v, a, b⟩
theorem ok_ix : R2Ok X.K G (rIxA X.K) gIx := by
  intro W ι H S σ x y d e Q r ix iy q
  cases ix with
  | str s =>
    cases iy with
    | int i =>
      simp only [gIx] at q
      split at q
      · rename_i c hc
        split at q
        · rename_i hl
          exact .inl (.inr (.inr ⟨s, i, c, rfl, rfl, big_line hl, hc, PostE.ok q r (.str _)⟩))
        · exact q.elim
      · exact q.elim
    | _ => exact q.elim
  | tup h t =>
    cases iy with
    | int i =>
      simp only [gIx] at q
      split at q
      · rename_i c hc
        obtain ⟨v, a, b⟩ := t.atI hc
        exact .inl (.inr (.inl ⟨_, _, i, v, rfl, rfl, h.sq, a, PostE.ok q r b⟩))
      · exact q.elim
    | _ => exact q.elim
  | lst h n t =>
    cases iy with
    | int i =>
      simp only [gIx] at q
      split at q
      · rename_i c hc
        obtain ⟨v, a, b⟩ := t.atI hc
        exact .inl (.inl ⟨_, _, i, v, rfl, rfl, SqL.of h, a, PostE.ok q r b⟩)
      · exact q.elim
    | _ => exact q.elim
  | frz h t =>
    cases iy with
    | int i =>
      simp only [gIx] at q
      split at q
      · rename_i c hc
        obtain ⟨v, a, b⟩ := t.atI hc
        exact .inl (.inl ⟨_, _, i, v, rfl, rfl, h.sq, a, PostE.ok q r b⟩)
      · exact q.elim
    | _ => exact q.elim
  | ref en =>
    simp only [gIx] at q
    split at q
    · rename_i l hl
      obtain ⟨vs, h1, h2⟩ := r.lst hl en
      cases iy with
      | int i =>
        simp only at q
        split at q
        · rename_i c hc
          obtain ⟨v, a, b⟩ := h2.atI hc
          exact .inl (.inl ⟨_, _, i, v, rfl, rfl, SqL.of h1, a, PostE.ok q r b⟩)
        · exact q.elim
      | _ => exact q.elim
    · rename_i kvs hl
      obtain ⟨ws, h1, h2⟩ := r.cell _ _ _ en hl
      split at q
      · rename_i k hk
        split at q
        · rename_i v hv
          have ey := keyOf_is hk iy
          subst ey
          rcases h2.get k with ⟨e1, _⟩ | ⟨d, v', e1, e2, e3⟩
          · rw [e1] at hv; cases hv
          · rw [e1] at hv; cases hv
            have g := DGet.k (k := k) h1
            rw [e2] at g
            exact .inr ⟨_, v', rfl, g, PostE.ok q r e3⟩
        · exact q.elim
      · exact q.elim
    · exact q.elim
  | _ => exact q.elim
end
section
variable {X : Cx} {G : String → Addr} {W : WX} {a b : Expr} {ma mb : M} {pos : Pos}
theorem de_ix (hu : X.A.units + 1 < cLine) (ha : PE X a (tE X.K G W ma)) (hb : PE X b (tE X.K G W mb)) (hs : PlainIx b := by intro _ _; rfl) : PE X (.Subscript a b pos) (tE X.K G W (mB2 ma mb gIx)) := pe_imp (pe_ix (ix_any hu) ha hb hs) (t2_of ok_ix)
end

/-! ### slices -/
def cutD (l : List D) (lo hi : Option Int) : List D := (l.drop (HT.sIx l.length 0 lo)).take (HT.sIx l.length l.length hi - HT.sIx l.length 0 lo)
abbrev MO := Env → Store → Out (Option Int)
def oNo : MO := fun _ S => .ok none S
def oOf (m : M) : MO := fun ρ S => (m ρ S).bind fun d S1 => match d with
  | .int i => .ok (some i) S1
  | _ => .no
def gSl (d : D) (lo hi : Option Int) (S : Store) : Out D := match d with
  | .tup l => .ok (.tup (cutD l lo hi)) S
  | d => match lstOf S d with
    | some l => .ok (.lst (cutD l lo hi)) S
    | none => .no
def mSl (m : M) (lo hi : MO) : M := fun ρ S => (m ρ S).bind fun d S1 => (lo ρ S1).bind fun l S2 => (hi ρ S2).bind fun h S3 => gSl d l h S3
section
variable {X : Cx} {G : String → Addr} {W : WX} {K : PySem.W.Frag} {e : Expr} {m : M} {lo hi : Option Expr} {ml mh : MO} {pos p2 : Pos}
def PostO (K : PySem.W.Frag) (G : String → Addr) (W : WX) (ι : Ad) (H : Hp) (σ : St) (o : Out (Option Int)) (Q : Option Int → Hp → Prop) : Prop := match o with
  | .ok b S' => ∀ ι' H', Ext ι H ι' H' → Rep K G ι' S' H' → Q b H'
  | .ex c fs S' => ∀ ι' H' dd ws, Ext ι H ι' H' → Rep K G ι' S' H' → H' dd = some (.xd ws) → IsKV K G ι' H' fs ws → W (.ref (G c)) (some dd) σ H'
  | .no => False
def tO (K : PySem.W.Frag) (G : String → Addr) (W : WX) (m : MO) : TO := fun σ H Q => ∃ ι ρ S, At K G ι ρ S σ H ∧ PostO K G W ι H σ (m ρ S) Q
theorem po_imp {e : Option Expr} {t t' : TO} (h : PO X e t) (hi : ∀ σ H Q, t' σ H Q → t σ H Q) : PO X e t' := ⟨fun pins s σ H Q I hw => h.run pins s σ H Q I (hi σ H Q hw)⟩
theorem PostO.ext {ι ι' : Ad} {H H' : Hp} {σ : St} {o : Out (Option Int)} {Q : Option Int → Hp → Prop} (e : Ext ι H ι' H') (h : PostO K G W ι H σ o Q) : PostO K G W ι' H' σ o Q := by
  cases o with
  | ok d S => exact fun ι2 H2 x r => h ι2 H2 (e.trans x) r
  | ex c fs S => exact fun ι2 H2 dd ws x r i j => h ι2 H2 dd ws (e.trans x) r i j
  | no => exact h.elim
theorem PostE.bindO {ι : Ad} {H : Hp} {σ : St} {o : Out D} {f : D → Store → Out (Option Int)} {Q : Option Int → Hp → Prop} (h : PostO K G W ι H σ (o.bind f) Q) :
    PostE K G W ι H σ o (fun v H' => ∃ ι' d S', Ext ι H ι' H' ∧ Rep K G ι' S' H' ∧ Is K G ι' H' d v ∧ PostO K G W ι' H' σ (f d S') Q) := by
  cases o with
  | ok d S => exact fun ι2 H2 v x r i => ⟨ι2, d, S, x, r, i, PostO.ext x h⟩
  | ex c fs S => exact h
  | no => exact h.elim
theorem PostO.bindE {ι : Ad} {H : Hp} {σ : St} {o : Out (Option Int)} {f : Option Int → Store → Out D} {Q : VK} (h : PostE K G W ι H σ (o.bind f) Q) :
    PostO K G W ι H σ o (fun b H' => ∃ ι' S', Ext ι H ι' H' ∧ Rep K G ι' S' H' ∧ PostE K G W ι' H' σ (f b S') Q) := by
  cases o with
  | ok d S => exact fun ι2 H2 x r => ⟨ι2, S, x, r, PostE.ext x h⟩
  | ex c fs S => exact h
  | no => exact h.elim
theorem do_no : PO X none (tO X.K G W oNo) := po_imp po_none fun σ H Q ⟨ι, ρ, S, ⟨he, hr⟩, q⟩ => q ι H (Ext.refl _ _) hr
theorem do_some (h : PE X e (tE X.K G W m)) : PO X (some e) (tO X.K G W (oOf m)) := by
  refine po_imp (po_some h) fun σ H Q ⟨ι, ρ, S, ⟨he, hrp⟩, h⟩ => ?_
  refine ⟨ι, ρ, S, ⟨he, hrp⟩, (PostE.bindO h).imp fun v H1 ⟨ι1, d, S1, x1, r1, i1, h1⟩ => ?_⟩
  cases i1 with
  | int i => exact ⟨i, rfl, h1 ι1 H1 (Ext.refl _ _) r1⟩
  | _ => exact h1.elim
theorem IsAll.cut {ι : Ad} {H : Hp} {l : List D} {vs : List V} (h : IsAll K G ι H l vs) (lo hi : Option Int) : IsAll K G ι H (cutD l lo hi) (cutV vs lo hi) := by
  unfold cutD cutV
  rw [h.len]
  exact (h.drop _).take _
theorem PostO.imp {ι : Ad} {H : Hp} {σ : St} {o : Out (Option Int)} {Q Q' : Option Int → Hp → Prop} (h : PostO K G W ι H σ o Q) (hi : ∀ v H', Q v H' → Q' v H') : PostO K G W ι H σ o Q' := by
  cases o with
  | ok d S => exact fun ι2 H2 x r => hi _ _ (h ι2 H2 x r)
  | ex c fs S => exact h
  | no => exact h.elim
theorem de_sl (he : PE X e (tE X.K G W m)) (hl : PO X lo (tO X.K G W ml)) (hu : PO X hi (tO X.K G W mh)) : PE X (.Subscript e (.Slice lo hi none p2) pos) (tE X.K G W (mSl m ml mh)) := by
  refine pe_imp (pe_slice (SlR.or sl_tupA sl_list) he hl hu) fun σ H Q ⟨ι, ρ, S, ⟨he, hrp⟩, h⟩ => ?_
  refine ⟨ι, ρ, S, ⟨he, hrp⟩, (PostE.bindE h).imp fun v H1 ⟨ι1, d, S1, x1, r1, i1, h1⟩ => ?_⟩
  refine ⟨ι1, ρ, S1, ⟨he.ext x1, r1⟩, (PostO.bindE h1).imp fun l H2 ⟨ι2, S2, x2, r2, h2⟩ => ?_⟩
  refine ⟨ι2, ρ, S2, ⟨he.ext (x1.trans x2), r2⟩, (PostO.bindE h2).imp fun u H3 ⟨ι3, S3, x3, r3, h3⟩ => ?_⟩
  have i3 := i1.ext (x2.trans x3)
  by_cases ht : ∃ l', d = .tup l'
  · obtain ⟨l', rfl⟩ := ht
    cases i3 with
    | tup a t =>
      simp only [gSl] at h3
      refine .inl ⟨_, _, rfl, a.sq, fun hw => ?_, fun hw p hp => ?_⟩
      · refine PostE.ok h3 r3 (.tup a ?_)
        have hc : cutD l' l u = l' := by
          unfold cutD
          rw [t.len, hw.1, hw.2, List.drop_zero, Nat.sub_zero, ← t.len, List.take_length]
        rw [hc]; exact t
      · exact h3.okPush r3 hp (.tup (.inl ⟨.inl upd_same, r3.out hp⟩) ((t.cut l u).ext (Ext.push hp)))
  · have e : gSl d l u S3 = match lstOf S3 d with
      | some x => .ok (.lst (cutD x l u)) S3
      | none => .no := by cases d <;> first | rfl | exact absurd ⟨_, rfl⟩ ht
    rw [e] at h3
    split at h3
    · rename_i x hx
      obtain ⟨a, xs, rfl, h4, h5⟩ := lst_sq r3 i3 hx
      exact .inr ⟨a, xs, rfl, h4, fun p hp => h3.okPush r3 hp (.lst upd_same (r3.out hp) ((h5.cut l u).ext (Ext.push hp)))⟩
    · exact h3.elim
end
end DL

end

/-! ## DL4 -/
section
set_option Elab.async false
set_option linter.all false
set_option maxRecDepth 100000
namespace DL
open PySem PySem.Spec PyProof.Rows L2

/-! ### in, not in -/
def flatD : D → Bool
  | .non => true | .bl _ => true | .int _ => true | .str _ => true | _ => false
def eqF : D → D → Bool
  | .non, .non => true
  | .bl a, .bl b => a == b
  | .bl a, .int b => (if a then 1 else 0) == b
  | .int a, .bl b => a == (if b then 1 else 0)
  | .int a, .int b => a == b
  | .str a, .str b => a == b
  | _, _ => false
def inF (d : D) (l : List D) : Bool := l.any fun y => eqF y d
def inV1 (d : D) (l : List D) : Option Bool := if flatD d = true ∧ l.all flatD = true then some (inF d l) else none
/-- in a list, deeply -/
def inDeep (d : D) (l : List D) : Option Bool := match d.py, D.pyAll l with
  | some p, some ps => if SeqAt.shaped p = true ∧ SeqAt.shaped (.list ps) = true then some (ps.any fun z => PyData.eqv z p) else none
  | _, _ => none
def inOf (d e : D) (S : Store) : Option Bool := match e with
  | .str b => match d with
    | .str a => some (inS a b)
    | _ => none
  | .tup l => inV1 d l
  | .ref n => match S[n]? with
    | some (.dct kvs) => match keyOf d with
      | some k => some (getD kvs k).isSome
      | none => none
    | some (.lst l) => inDeep d l
    | _ => none
  | .lst l => inDeep d l
  | .frz l => inDeep d l
  | _ => none
def gIn (d e : D) (S : Store) : Out D := match inOf d e S with
  | some b => .ok (.bl b) S
  | none => .no
def gNotIn (d e : D) (S : Store) : Out D := match inOf d e S with
  | some b => .ok (.bl (!b)) S
  | none => .no
section
variable {X : Cx} {G : String → Addr} {K : PySem.W.Frag} {ι : Ad} {H : Hp}
theorem op_inDk (hu : X.A.units + 1 < cLine) : OpR X (compareOp .In) (fun x y H Q => ∃ a o, y = .ref a ∧ DGet H a x o ∧ Q (.bl o.isSome) H) := by
  intro pins s σ H x y v u Q I rx ry h
  obtain ⟨a, o, rfl, g, q⟩ := h
  obtain rfl : u = Value.ref a := ry
  exact d_in hu I g rx fun s3 I3 => ⟨.bl o.isSome, H, I3, rfl, q⟩
theorem op_notInDk (hu : X.A.units + 1 < cLine) : OpR X (compareOp .NotIn) (fun x y H Q => ∃ a o, y = .ref a ∧ DGet H a x o ∧ Q (.bl (!o.isSome)) H) := by
  intro pins s σ H x y v u Q I rx ry h
  obtain ⟨a, o, rfl, g, q⟩ := h
  obtain rfl : u = Value.ref a := ry
  exact d_notIn hu I g rx fun s3 I3 => ⟨.bl (!o.isSome), H, I3, rfl, q⟩
def rInA (K : PySem.W.Frag) : R2 := fun x y H Q => ((∃ i j, x = .str i ∧ y = .str j ∧ Q (.bl (!(Builtin.Str.occurrences j i 0 j.length 1).isEmpty)) H) ∨ rIn K false x y H Q) ∨ rInD K x y H Q ∨ (∃ a o, y = .ref a ∧ DGet H a x o ∧ Q (.bl o.isSome) H)
def rNotInA (K : PySem.W.Frag) : R2 := fun x y H Q => ((∃ i j, x = .str i ∧ y = .str j ∧ Q (.bl (!(!(Builtin.Str.occurrences j i 0 j.length 1).isEmpty))) H) ∨ rIn K true x y H Q) ∨ rNotInD K x y H Q ∨ (∃ a o, y = .ref a ∧ DGet H a x o ∧ Q (.bl (!o.isSome)) H)
theorem op_inA (hu : X.A.units + 65 < cLine) : OpR X (compareOp .In) (rInA X.K) := OpR.or (OpR.or op_in_str op_in_seq) (OpR.or (op_inD hu) (op_inDk (by omega)))
theorem op_notInA (hu : X.A.units + 65 < cLine) : OpR X (compareOp .NotIn) (rNotInA X.K) := OpR.or (OpR.or op_notin_str op_notIn_seq) (OpR.or (op_notInD hu) (op_notInDk (by omega)))
theorem flat_is {d : D} {v : V} (i : Is K G ι H d v) (h : flatD d = true) : flatV v = true := by cases i <;> first | rfl | cases h
theorem eq_is {d e : D} {v u : V} (i : Is K G ι H d v) (j : Is K G ι H e u) (h : flatD d = true) (h2 : flatD e = true) : eqV v u = eqF d e := by
  cases i <;> cases j <;> first | rfl | cases h | cases h2
theorem flat_all : ∀ {l : List D} {vs : List V}, IsAll K G ι H l vs → l.all flatD = true → vs.all flatV = true
  | _, _, .nil, _ => rfl
  | _, _, .cons a t, h => by
    rw [List.all_cons, Bool.and_eq_true] at h
    rw [List.all_cons, flat_is a h.1, flat_all t h.2]; rfl
theorem in_is {d : D} {v : V} (i : Is K G ι H d v) (hd : flatD d = true) : ∀ {l : List D} {vs : List V}, IsAll K G ι H l vs → l.all flatD = true → inV v vs = inF d l
  | _, _, .nil, _ => rfl
  | _, _, .cons a t, h => by
    rw [List.all_cons, Bool.and_eq_true] at h
    have ih := in_is i hd t h.2
    unfold inV inF at ih ⊢
    rw [List.any_cons, List.any_cons, eq_is a i h.1 hd, ih]
theorem in_tup {d : D} {l : List D} {v : V} {a : Addr} {xs : List V} {b : Bool} (i : Is K G ι H d v) (h : FzT K ι H a xs) (t : IsAll K G ι H l xs) (e : inV1 d l = some b) : flatV v = true ∧ xs.all flatV = true ∧ inV v xs = b := by
  unfold inV1 at e
  split at e
  · rename_i hf
    cases e
    exact ⟨flat_is i hf.1, flat_all t hf.2, in_is i hf.1 t hf.2⟩
  · cases e
theorem in_deep {d : D} {l : List D} {v : V} {a : Addr} {xs : List V} {b : Bool} (i : Is K G ι H d v) (h : SqL K H a xs) (t : IsAll K G ι H l xs) (e : inDeep d l = some b) :
    ∃ p ps, Dp K H v p ∧ Dp K H (.ref a) (.list ps) ∧ SeqAt.shaped p = true ∧ SeqAt.shaped (.list ps) = true ∧ (ps.any fun z => PyData.eqv z p) = b := by
  unfold inDeep at e
  split at e
  · rename_i p ps hp hps
    split at e
    · rename_i hs
      cases e
      exact ⟨p, ps, i.dp hp, .lst h (t.dp hps), hs.1, hs.2, rfl⟩
    · cases e
  · cases e
theorem in_all {x y : V} {d e : D} {S : Store} {b : Bool} (r : Rep K G ι S H) (ix : Is K G ι H d x) (iy : Is K G ι H e y) (h : inOf d e S = some b) :
    (∃ i j, x = .str i ∧ y = .str j ∧ inS i j = b) ∨ (∃ p xs, y = .ref p ∧ (SqL K H p xs ∨ SqT K H p xs) ∧ flatV x = true ∧ xs.all flatV = true ∧ inV x xs = b) ∨
      (∃ p ps, Dp K H x p ∧ Dp K H y (.list ps) ∧ SeqAt.shaped p = true ∧ SeqAt.shaped (.list ps) = true ∧ (ps.any fun z => PyData.eqv z p) = b) ∨ ∃ a o, y = .ref a ∧ DGet H a x o ∧ o.isSome = b := by
  cases iy with
  | str s =>
    cases ix with
    | str z => cases h; exact .inl ⟨z, s, rfl, rfl, rfl⟩
    | _ => cases h
  | tup hz t =>
    obtain ⟨h1, h2, h3⟩ := in_tup ix hz t h
    exact .inr (.inl ⟨_, _, rfl, .inr hz.sq, h1, h2, h3⟩)
  | lst hz n t => exact .inr (.inr (.inl (in_deep ix (SqL.of hz) t h)))
  | frz hz t => exact .inr (.inr (.inl (in_deep ix hz.sq t h)))
  | ref en =>
    simp only [inOf] at h
    split at h
    · rename_i kvs hk
      split at h
      · rename_i k hk2
        cases h
        obtain ⟨ws, h1, h2⟩ := r.cell _ _ _ en hk
        have ex := keyOf_is hk2 ix
        subst ex
        refine .inr (.inr (.inr ⟨_, _, rfl, DGet.k (k := k) h1, ?_⟩))
        rcases h2.get k with ⟨e1, e2⟩ | ⟨d, v', e1, e2, e3⟩ <;> rw [e1, e2] <;> rfl
      · cases h
    · rename_i l hl
      obtain ⟨vs, h1, h2⟩ := r.lst hl en
      exact .inr (.inr (.inl (in_deep ix (SqL.of h1) h2 h)))
    · cases h
  | _ => cases h
theorem ok_in : R2Ok X.K G (rInA X.K) gIn := by
  intro W ι H S σ x y d e Q r ix iy q
  unfold gIn at q
  split at q
  · rename_i b hb
    have q' := PostE.ok q r (.bl b)
    rcases in_all r ix iy hb with ⟨i, j, rfl, rfl, h⟩ | ⟨p, xs, rfl, h1, h2, h3, h4⟩ | ⟨p, ps, h1, h2, h3, h4, h5⟩ | ⟨a, o, rfl, g, h⟩
    · exact .inl (.inl ⟨i, j, rfl, rfl, by subst h; exact q'⟩)
    · exact .inl (.inr ⟨p, xs, rfl, h1, h2, h3, by subst h4; exact q'⟩)
    · exact .inr (.inl ⟨p, ps, h1, h2, h3, h4, by subst h5; exact q'⟩)
    · exact .inr (.inr ⟨a, o, rfl, g, by subst h; exact q'⟩)
  · exact q.elim
theorem ok_notIn : R2Ok X.K G (rNotInA X.K) gNotIn := by
  intro W ι H S σ x y d e Q r ix iy q
  unfold gNotIn at q
  split at q
  · rename_i b hb
    have q' := PostE.ok q r (.bl (!b))
    rcases in_all r ix iy hb with ⟨i, j, rfl, rfl, h⟩ | ⟨p, xs, rfl, h1, h2, h3, h4⟩ | ⟨p, ps, h1, h2, h3, h4, h5⟩ | ⟨a, o, rfl, g, h⟩
    · exact .inl (.inl ⟨i, j, rfl, rfl, by subst h; exact q'⟩)
    · exact .inl (.inr ⟨p, xs, rfl, h1, h2, h3, by subst h4; exact q'⟩)
    · exact .inr (.inl ⟨p, ps, h1, h2, h3, h4, by subst h5; exact q'⟩)
    · exact .inr (.inr ⟨a, o, rfl, g, by subst h; exact q'⟩)
  · exact q.elim
end
section
variable {X : Cx} {G : String → Addr} {W : WX} {a b : Expr} {ma mb : M} {pos : Pos}
theorem de_in (hu : X.A.units + 65 < cLine) (ha : PE X a (tE X.K G W ma)) (hb : PE X b (tE X.K G W mb)) (hm : behindInMarks .In b = false := by rfl) : PE X (.Compare a [.In] [b] pos) (tE X.K G W (mB2 ma mb gIn)) := pe_imp (pe_cmpR (op_inA hu) ha hb hm) (t2_of ok_in)
theorem de_notIn (hu : X.A.units + 65 < cLine) (ha : PE X a (tE X.K G W ma)) (hb : PE X b (tE X.K G W mb)) (hm : behindInMarks .NotIn b = false := by rfl) : PE X (.Compare a [.NotIn] [b] pos) (tE X.K G W (mB2 ma mb gNotIn)) := pe_imp (pe_cmpR (op_notInA hu) ha hb hm) (t2_of ok_notIn)
end

/-! ### dicts: made, asked; lists changed -/
def gNewD0 (S : Store) : Out D := .ok (.ref S.length) (S ++ [.dct []])
abbrev MP := Env → Store → Out (List (Key × D))
def pNil : MP := fun _ S => .ok [] S
def pCons (k : Key) (m : M) (r : MP) : MP := fun ρ S => (m ρ S).bind fun d S1 => (r ρ S1).bind fun l S2 => .ok ((k, d) :: l) S2
def mNewD (p : MP) : M := fun ρ S => (p ρ S).bind fun l S1 => if l.length ≤ 15 then .ok (.ref S1.length) (S1 ++ [.dct (l.foldl (fun acc kv => putD acc kv.1 kv.2) [])]) else .no
section
variable {X : Cx} {G : String → Addr} {W : WX} {K : PySem.W.Frag} {pos : Pos}
theorem de_newD0 : PE X (.Dict [] [] pos) (tE X.K G W (fun _ S => gNewD0 S)) := by
  refine pe_imp pe_dnewK fun σ H Q ⟨ι, ρ, S, ⟨he, hr⟩, q⟩ p hp => ?_
  exact PostE.okCell q hr hp ⟨[], upd_same, .nil⟩
theorem IsKV.merge {ι : Ad} {H : Hp} : ∀ {more : List (Key × D)} {rs : List (Key × V)} {kvs : List (Key × D)} {vs : List (Key × V)}, IsKV K G ι H more rs → IsKV K G ι H kvs vs → IsKV K G ι H (more.foldl (fun acc kv => putD acc kv.1 kv.2) kvs) (mergeK vs rs)
  | _, _, _, _, .nil, h => h
  | p :: l, q :: r, kvs, vs, .cons a t, h => by
    unfold mergeK
    rw [List.foldl_cons, List.foldl_cons, ← a.1]
    exact IsKV.merge t (h.put p.1 a.2)
def PostP (K : PySem.W.Frag) (G : String → Addr) (W : WX) (ι : Ad) (H : Hp) (σ : St) (o : Out (List (Key × D))) (Q : List (Key × V) → Hp → Prop) : Prop := match o with
  | .ok b S' => ∀ ι' H' vs, Ext ι H ι' H' → Rep K G ι' S' H' → IsKV K G ι' H' b vs → Q vs H'
  | .ex c fs S' => ∀ ι' H' dd ws, Ext ι H ι' H' → Rep K G ι' S' H' → H' dd = some (.xd ws) → IsKV K G ι' H' fs ws → W (.ref (G c)) (some dd) σ H'
  | .no => False
theorem PostP.ext {ι ι' : Ad} {H H' : Hp} {σ : St} {o : Out (List (Key × D))} {Q : List (Key × V) → Hp → Prop} (e : Ext ι H ι' H') (h : PostP K G W ι H σ o Q) : PostP K G W ι' H' σ o Q := by
  cases o with
  | ok d S => exact fun ι2 H2 v x r i => h ι2 H2 v (e.trans x) r i
  | ex c fs S => exact fun ι2 H2 dd ws x r i j => h ι2 H2 dd ws (e.trans x) r i j
  | no => exact h.elim
theorem PostE.bindP {ι : Ad} {H : Hp} {σ : St} {o : Out D} {f : D → Store → Out (List (Key × D))} {Q : List (Key × V) → Hp → Prop} (h : PostP K G W ι H σ (o.bind f) Q) :
    PostE K G W ι H σ o (fun v H' => ∃ ι' d S', Ext ι H ι' H' ∧ Rep K G ι' S' H' ∧ Is K G ι' H' d v ∧ PostP K G W ι' H' σ (f d S') Q) := by
  cases o with
  | ok d S => exact fun ι2 H2 v x r i => ⟨ι2, d, S, x, r, i, PostP.ext x h⟩
  | ex c fs S => exact h
  | no => exact h.elim
theorem PostP.bindP {ι : Ad} {H : Hp} {σ : St} {o : Out (List (Key × D))} {f : List (Key × D) → Store → Out (List (Key × D))} {Q : List (Key × V) → Hp → Prop} (h : PostP K G W ι H σ (o.bind f) Q) :
    PostP K G W ι H σ o (fun v H' => ∃ ι' d S', Ext ι H ι' H' ∧ Rep K G ι' S' H' ∧ IsKV K G ι' H' d v ∧ PostP K G W ι' H' σ (f d S') Q) := by
  cases o with
  | ok d S => exact fun ι2 H2 v x r i => ⟨ι2, d, S, x, r, i, PostP.ext x h⟩
  | ex c fs S => exact h
  | no => exact h.elim
theorem PostP.bindE {ι : Ad} {H : Hp} {σ : St} {o : Out (List (Key × D))} {f : List (Key × D) → Store → Out D} {Q : VK} (h : PostE K G W ι H σ (o.bind f) Q) :
    PostP K G W ι H σ o (fun v H' => ∃ ι' d S', Ext ι H ι' H' ∧ Rep K G ι' S' H' ∧ IsKV K G ι' H' d v ∧ PostE K G W ι' H' σ (f d S') Q) := by
  cases o with
  | ok d S => exact fun ι2 H2 v x r i => ⟨ι2, d, S, x, r, i, PostE.ext x h⟩
  | ex c fs S => exact h
  | no => exact h.elim
theorem PostP.imp {ι : Ad} {H : Hp} {σ : St} {o : Out (List (Key × D))} {Q Q' : List (Key × V) → Hp → Prop} (h : PostP K G W ι H σ o Q) (hi : ∀ v H', Q v H' → Q' v H') : PostP K G W ι H σ o Q' := by
  cases o with
  | ok d S => exact fun ι2 H2 v x r i => hi _ _ (h ι2 H2 v x r i)
  | ex c fs S => exact h
  | no => exact h.elim
/-- the pairs of a dict display with written keys -/
structure DPs (X : Cx) (G : String → Addr) (W : WX) (pos : Pos) (keys : List (Option Expr)) (values : List Expr) (m : MP) : Prop where
  ex : ∃ trs, PPs X pos keys values trs ∧ ∀ (σ : St) (H : Hp) (Q : List (V × V) → Hp → Prop), (∃ ι ρ S, At X.K G ι ρ S σ H ∧ PostP X.K G W ι H σ (m ρ S) fun vs H' => Q (vs.map fun kv => (kV kv.1, kv.2)) H') → tPairs trs σ H Q
theorem dps_nil : DPs X G W pos [] [] pNil := ⟨[], pps_nil, fun σ H Q ⟨ι, ρ, S, ⟨he, hr⟩, q⟩ => q ι H [] (Ext.refl _ _) hr .nil⟩
theorem dps_cons {k : Key} {ke v : Expr} {ks : List (Option Expr)} {vs : List Expr} {m : M} {r : MP} (hk : PE X ke (tC (kV k))) (hv : PE X v (tE X.K G W m)) (hr : DPs X G W pos ks vs r) : DPs X G W pos (some ke :: ks) (v :: vs) (pCons k m r) := by
  obtain ⟨trs, h1, h2⟩ := hr.ex
  refine ⟨_, pps_cons hk hv h1, fun σ H Q ⟨ι, ρ, S, ⟨he, hrp⟩, h⟩ => ?_⟩
  refine ⟨ι, ρ, S, ⟨he, hrp⟩, (PostE.bindP h).imp fun v H1 ⟨ι1, d, S1, x1, r1, i1, h1⟩ => h2 _ _ _ ?_⟩
  refine ⟨ι1, ρ, S1, ⟨he.ext x1, r1⟩, (PostP.bindP h1).imp fun l H2 ⟨ι2, d2, S2, x2, r2, i2, h2⟩ => ?_⟩
  exact h2 ι2 H2 ((k, v) :: l) (Ext.refl _ _) r2 (.cons ⟨rfl, i1.ext x2⟩ i2)
theorem de_newD {keys : List (Option Expr)} {values : List Expr} {m : MP} (h : DPs X G W pos keys values m) (hall : keys.all (·.isSome) = true := by rfl) (hl : keys.length = values.length := by rfl) (h0 : keys ≠ [] := by exact List.cons_ne_nil _ _) (h15 : keys.length ≤ 15 := by decide) : PE X (.Dict keys values pos) (tE X.K G W (mNewD m)) := by
  obtain ⟨trs, h1, h2⟩ := h.ex
  refine pe_imp (pe_disp h1 hall hl h0 h15) fun σ H Q ⟨ι, ρ, S, ⟨he, hr⟩, q⟩ p hp => h2 _ _ _ ?_
  have x0 : Ext ι H ι (upd H p (.dK [])) := Ext.push hp
  refine ⟨ι, ρ, S, ⟨he.ext x0, hr.push hp⟩, ?_⟩
  have hout : p ∉ ι := hr.out hp
  unfold mNewD at q
  cases hm : m ρ S with
  | ok l S1 =>
    rw [hm, Out.bind_ok] at q
    split at q
    · rename_i hl15
      intro ι' H' vs x r i
      have hp' : H' p = some (.dK []) := x.keep p _ (fun z => hout (.inl z)) upd_same
      have hout' : p ∉ ι' := fun z => by
        rcases z with z | z
        · rcases x.new p z with z | z
          · exact hout (.inl z)
          · rw [upd_same] at z; cases z
        · exact hout (.inr (by rw [x.pre.x]; exact z))
      refine ⟨hp', vs, rfl, by rw [← i.len]; exact hl15, ?_⟩
      have nd : ∀ u, H' p = some u → ¬ isDat u := fun u z => by
        rw [hp'] at z; cases z; exact fun w => w
      have st : Stay ι' H' (ι'.snoc p) (upd H' p (.dK (mergeK [] vs))) := Stay.cell nd
      have xn : Ext ι H (ι'.snoc p) (upd H' p (.dK (mergeK [] vs))) := by
        have xx := x0.trans x
        refine ⟨xx.pre.snoc _, fun a o h1 h2 => ?_, fun a h => ?_, fun a o u h => by rw [upd_ne (ne_of_none h hp)]; exact xx.frz a o u h⟩
        · rw [upd_ne (ne_of_none h2 hp)]; exact xx.keep a o h1 h2
        · rcases List.mem_append.mp h with h | h
          · exact xx.new a h
          · rw [List.mem_singleton.mp h]; exact .inr hp
      refine q _ _ _ xn (r.newCell hout' nd ⟨_, upd_same, ?_⟩) (.ref (by rw [← r.len]; exact Ad.at_snoc _ _))
      exact IsKV.merge (i.stay st) .nil
    · exact q.elim
  | ex c fs S1 =>
    rw [hm, Out.bind_ex] at q
    exact fun ι' H' dd ws x r a b => q ι' H' dd ws (x0.trans x) r a b
  | no => rw [hm] at q; exact q.elim
end
end DL

end

/-! ## DL5 -/
section
set_option Elab.async false
set_option linter.all false
set_option maxRecDepth 100000
namespace DL
open PySem PySem.Spec PyProof.Rows L2

/-! ### methods of lists and dicts -/
def gApp (o d : D) (S : Store) : Out D := match o with
  | .ref n => match S[n]? with
    | some (.lst l) => if l.length < big then .ok .non (S.set n (.lst (l ++ [d]))) else .no
    | _ => .no
  | _ => .no
def isL (S : Store) (o : D) : Bool := match o with
  | .ref n => match S[n]? with
    | some (.lst _) => true
    | _ => false
  | _ => false
def isDc (S : Store) (o : D) : Bool := match o with
  | .ref n => match S[n]? with
    | some (.dct _) => true
    | _ => false
  | _ => false
def mApp (mo m : M) : M := fun ρ S => (mo ρ S).bind fun o S1 => if isL S1 o = true then (m ρ S1).bind fun d S2 => gApp o d S2 else .no
def gPop (o : D) (S : Store) : Out D := match o with
  | .ref n => match S[n]? with
    | some (.lst l) => match l[l.length - 1]? with
      | some d => .ok d (S.set n (.lst l.dropLast))
      | none => .no
    | _ => .no
  | _ => .no
def gGet (o k z : D) (S : Store) : Out D := match o with
  | .ref n => match S[n]? with
    | some (.dct kvs) => match keyOf k with
      | some k => .ok ((getD kvs k).getD z) S
      | none => .no
    | _ => .no
  | _ => .no
def mGet2 (mo mk md : M) : M := fun ρ S => (mo ρ S).bind fun o S1 => if isDc S1 o = true then (mk ρ S1).bind fun k S2 => (md ρ S2).bind fun z S3 => gGet o k z S3 else .no
section
variable {X : Cx} {G : String → Addr} {W : WX} {K : PySem.W.Frag} {ι : Ad} {H : Hp} {S : Store} {o e f : Expr} {mo m mk md : M} {apos cpos : Pos}
theorem isL_at {x : D} {v : V} (r : Rep K G ι S H) (i : Is K G ι H x v) (h : isL S x = true) : ∃ n a l vs, x = .ref n ∧ ι.c[n]? = some a ∧ v = .ref a ∧ S[n]? = some (.lst l) ∧ H a = some (.lst vs) ∧ IsAll K G ι H l vs := by
  cases i with
  | ref en =>
    simp only [isL] at h
    split at h
    · rename_i l hl
      obtain ⟨vs, h1, h2⟩ := r.lst hl en
      exact ⟨_, _, l, vs, rfl, en, rfl, hl, h1, h2⟩
    · cases h
  | _ => cases h
theorem isDc_at {x : D} {v : V} (r : Rep K G ι S H) (i : Is K G ι H x v) (h : isDc S x = true) : ∃ n a l vs, x = .ref n ∧ ι.c[n]? = some a ∧ v = .ref a ∧ S[n]? = some (.dct l) ∧ H a = some (.dK vs) ∧ IsKV K G ι H l vs := by
  cases i with
  | ref en =>
    simp only [isDc] at h
    split at h
    · rename_i l hl
      obtain ⟨vs, h1, h2⟩ := r.cell _ _ _ en hl
      exact ⟨_, _, l, vs, rfl, en, rfl, hl, h1, h2⟩
    · cases h
  | _ => cases h
theorem PostE.okWrite {σ : St} {d : D} {n : Nat} {c : Cell} {a : Addr} {ho : HO} {v : V} {Q : VK} (h : PostE K G W ι H σ (.ok d (S.set n c)) Q) (r : Rep K G ι S H) (en : ι.c[n]? = some a) (hf : ∀ o' u, H a ≠ some (.frz o' u)) (hc : CellIs K G ι (upd H a ho) a c) (i : Is K G ι (upd H a ho) d v) : Q v (upd H a ho) :=
  h _ _ _ (Ext.write (List.mem_of_getElem? en) hf) (r.write en hc) i
theorem de_app (ho : PE X o (tE X.K G W mo)) (ha : PE X e (tE X.K G W m))
    (hbase : attributeBase o "append" X.env (eval o X.env) = eval o X.env := by rfl)
    (hfew : ((backTo cpos (starEach [e] X.env)).all (fun x => !x.1) && (backToKw cpos (keywordEach [] X.env)).all (fun x => x.1.isSome)
      && decide ([e].length + ([] : List Keyword).length + (if ([] : List Keyword).isEmpty then 0 else 1) < 30)) = true := by rfl)
    (hline : (apos.endLine == cpos.line) = true := by rfl) (hs : starEach [e] X.env = (false, eval e X.env) :: starEach [] X.env := by rfl) (hplain : (backTo cpos (starEach [] X.env)).any (·.1) = false := by rfl) :
    PE X (.Call (.Attribute o "append" apos) [e] [] cpos) (tE X.K G W (mApp mo m)) := by
  refine pe_imp (pe_bm PySem.F.plainAttrs_list PySem.F.slot_list_append PySem.F.type_list_append mt_append ho (pa_cons ha pa_nil hs) hbase hfew hline hs hplain) fun σ H Q ⟨ι, ρ, S, ⟨he, hrp⟩, h⟩ => ?_
  refine ⟨ι, ρ, S, ⟨he, hrp⟩, (PostE.bindE h).imp fun v H1 ⟨ι1, d, S1, x1, r1, i1, h1⟩ => ?_⟩
  split at h1
  · rename_i hl
    obtain ⟨n, a, l, vs, rfl, en, rfl, hS, hH, hA⟩ := isL_at r1 i1 hl
    refine ⟨.inl ⟨rfl, vs, SqL.of hH⟩, ι1, ρ, S1, ⟨he.ext x1, r1⟩, (PostE.bindE h1).imp fun u H2 ⟨ι2, d2, S2, x2, r2, i2, h2⟩ => ?_⟩
    simp only [gApp] at h2
    split at h2
    · rename_i l2 hl2
      split at h2
      · rename_i hb
        have en2 := pre_get x2.pre.1 en
        obtain ⟨vs2, k1, k2⟩ := r2.lst hl2 en2
        refine ⟨a, vs2, u, rfl, rfl, k1, big_lt (by rw [← k2.len]; exact hb), ?_⟩
        have xw : Ext ι2 H2 ι2 (upd H2 a (.lst (vs2 ++ [u]))) := Ext.write (List.mem_of_getElem? en2) (ne_frz k1 (fun _ _ z => nomatch z))
        exact h2.okWrite r2 en2 (ne_frz k1 (fun _ _ z => nomatch z)) ⟨_, upd_same, (k2.snoc i2).ext xw⟩ .non
      · exact h2.elim
    · exact h2.elim
  · exact h1.elim
theorem IsAll.dropLast : ∀ {l : List D} {vs : List V}, IsAll K G ι H l vs → IsAll K G ι H l.dropLast vs.dropLast := fun {l vs} h => by
  rw [List.dropLast_eq_take, List.dropLast_eq_take, h.len]; exact h.take _
theorem de_pop (ho : PE X o (tE X.K G W mo)) (hbase : attributeBase o "pop" X.env (eval o X.env) = eval o X.env := by rfl) (hline : (apos.endLine == cpos.line) = true := by rfl) :
    PE X (.Call (.Attribute o "pop" apos) [] [] cpos) (tE X.K G W (mB1 mo gPop)) := by
  refine pe_imp (pe_bm0 PySem.F.plainAttrs_list PySem.F.slot_list_pop PySem.F.type_list_pop mt_pop ho hbase hline) fun σ H Q ⟨ι, ρ, S, ⟨he, hrp⟩, h⟩ => ?_
  refine ⟨ι, ρ, S, ⟨he, hrp⟩, (PostE.bindE h).imp fun v H1 ⟨ι1, d, S1, x1, r1, i1, h1⟩ => ?_⟩
  have hl : isL S1 d = true := by
    unfold gPop at h1
    unfold isL
    split at h1
    · split at h1
      · rename_i hS; simp only [hS]
      · exact h1.elim
    · exact h1.elim
  obtain ⟨n, a, l, vs, rfl, en, rfl, hS, hH, hA⟩ := isL_at r1 i1 hl
  simp only [gPop, hS] at h1
  split at h1
  · rename_i dd hd
    obtain ⟨u, k1, k2⟩ := hA.get hd
    have xw : Ext ι1 H1 ι1 (upd H1 a (.lst vs.dropLast)) := Ext.write (List.mem_of_getElem? en) (ne_frz hH (fun _ _ z => nomatch z))
    exact ⟨.inl ⟨rfl, vs, SqL.of hH⟩, a, vs, u, rfl, rfl, hH, by rw [← hA.len]; exact k1, h1.okWrite r1 en (ne_frz hH (fun _ _ z => nomatch z)) ⟨_, upd_same, hA.dropLast.ext xw⟩ (k2.ext xw)⟩
  · exact h1.elim
theorem de_get2 (hu : X.A.units + 1 < cLine) (ho : PE X o (tE X.K G W mo)) (hk : PE X e (tE X.K G W mk)) (hd : PE X f (tE X.K G W md)) (m2 : M2 X o "get" apos e f cpos := by exact ⟨rfl, rfl, rfl, rfl⟩) :
    PE X (.Call (.Attribute o "get" apos) [e, f] [] cpos) (tE X.K G W (mGet2 mo mk md)) := by
  refine pe_imp (pe_dget2 hu ho hk hd m2) fun σ H Q ⟨ι, ρ, S, ⟨he, hrp⟩, h⟩ => ?_
  refine ⟨ι, ρ, S, ⟨he, hrp⟩, (PostE.bindE h).imp fun v H1 ⟨ι1, d, S1, x1, r1, i1, h1⟩ => ?_⟩
  split at h1
  · rename_i hl
    obtain ⟨n, a, l, vs, rfl, en, rfl, hS, hH, hA⟩ := isDc_at r1 i1 hl
    refine ⟨a, rfl, .inl ⟨vs, .inl hH⟩, ι1, ρ, S1, ⟨he.ext x1, r1⟩, (PostE.bindE h1).imp fun u H2 ⟨ι2, d2, S2, x2, r2, i2, h2⟩ => ?_⟩
    refine ⟨ι2, ρ, S2, ⟨he.ext (x1.trans x2), r2⟩, (PostE.bindE h2).imp fun z H3 ⟨ι3, d3, S3, x3, r3, i3, h3⟩ => ?_⟩
    simp only [gGet] at h3
    split at h3
    · rename_i kvs hkv
      split at h3
      · rename_i k hk2
        have ex := keyOf_is hk2 i2
        subst ex
        obtain ⟨ws, k1, k2⟩ := r3.cell _ _ _ (pre_get (x2.trans x3).pre.1 en) hkv
        refine ⟨_, DGet.k (k := k) k1, ?_⟩
        rcases k2.get k with ⟨e1, e2⟩ | ⟨d, v', e1, e2, e3⟩
        · rw [e1] at h3; rw [e2]; exact PostE.ok h3 r3 i3
        · rw [e1] at h3; rw [e2]; exact PostE.ok h3 r3 e3
      · exact h3.elim
    · exact h3.elim
  · exact h1.elim
end

/-! ### targets -/
abbrev MG := D → Env → Store → Out Env
def gNm (i : Nat) : MG := fun d ρ S => .ok (ρ.set i (some d)) S
abbrev MGs := List D → Env → Store → Out Env
def gsNil : MGs := fun ds ρ S => match ds with
  | [] => .ok ρ S
  | _ => .no
def gsCons (g : MG) (r : MGs) : MGs := fun ds ρ S => match ds with
  | d :: ds => (g d ρ S).bind fun ρ' S' => r ds ρ' S'
  | _ => .no
def gTupT (n : Nat) (g : MGs) : MG := fun d ρ S => match d with
  | .tup l => if l.length = n then g l ρ S else .no
  | _ => .no
def gPut (o k d : D) (S : Store) : Out Unit := match o with
  | .ref n => match S[n]? with
    | some (.dct kvs) => match keyOf k with
      | some k => if kvs.length < big then .ok () (S.set n (.dct (putD kvs k d))) else .no
      | none => .no
    | some (.lst l) => match k with
      | .int i => match ixN l.length i with
        | some j => .ok () (S.set n (.lst (l.set j d)))
        | none => .no
      | _ => .no
    | _ => .no
  | _ => .no
def gSubT (mo mk : M) : MG := fun d ρ S => (mo ρ S).bind fun o S1 => (mk ρ S1).bind fun k S2 => (gPut o k d S2).bind fun _ S3 => .ok ρ S3
section
variable (K : PySem.W.Frag) (G : String → Addr)
def PostG (ι : Ad) (H : Hp) (o : Out Env) (Q : St → Hp → Prop) : Prop := match o with
  | .ok ρ S' => ∀ ι' H' σ', Ext ι H ι' H' → Rep K G ι' S' H' → EnvIs K G ι' H' ρ σ' → Q σ' H'
  | _ => False
def tG (g : MG) : TG := fun v σ H Q => ∃ ι ρ S d, At K G ι ρ S σ H ∧ Is K G ι H d v ∧ PostG K G ι H (g d ρ S) Q
def tGs (g : MGs) : TGs := fun v σ H Q => ∃ ι ρ S d, At K G ι ρ S σ H ∧ IsAll K G ι H d v ∧ PostG K G ι H (g d ρ S) Q
end
section
variable {X : Cx} {G : String → Addr} {W : WX} {K : PySem.W.Frag} {ι ι' : Ad} {H H' : Hp} {σ : St}
theorem pg_imp {e : Expr} {t t' : TG} (h : PG X e t) (hi : ∀ v σ H Q, t' v σ H Q → t v σ H Q) : PG X e t' := ⟨fun pins s σ H v u Q I r hw => h.run pins s σ H v u Q I r (hi v σ H Q hw)⟩
theorem pgs_imp {e : List Expr} {t t' : TGs} (h : PGs X e t) (hi : ∀ v σ H Q, t' v σ H Q → t v σ H Q) : PGs X e t' := ⟨fun pins s σ H v u Q I r hw => h.run pins s σ H v u Q I r (hi v σ H Q hw)⟩
theorem PostG.ext {o : Out Env} {Q : St → Hp → Prop} (e : Ext ι H ι' H') (h : PostG K G ι H o Q) : PostG K G ι' H' o Q := by
  cases o with
  | ok d S => exact fun ι2 H2 v x r i => h ι2 H2 v (e.trans x) r i
  | ex c fs S => exact h.elim
  | no => exact h.elim
theorem dg_name {i : Nat} {x : Str} {pos : Pos} (hN : X.N.Nodup) (hi : X.N[i]? = some x := by rfl) (hx : Loc X.env.scope x := by first | exact Or.inl rfl | exact Or.inr rfl) (hf : X.fn x = true ∨ X.env.scope.names.lookup x = some .local := by first | exact .inl rfl | exact .inr rfl) : PG X (.Name x pos) (tG X.K G (gNm i)) :=
  pg_imp (pg_name hN hi hx hf) fun v σ H Q ⟨ι, ρ, S, d, ⟨he, hr⟩, i1, q⟩ => q ι H _ (Ext.refl _ _) hr (he.set _ i1)
theorem dgs_nil : PGs X [] (tGs X.K G gsNil) := pgs_imp pgs_nil fun v σ H Q ⟨ι, ρ, S, d, ⟨he, hr⟩, i1, q⟩ => by
  cases i1 with
  | nil => exact ⟨rfl, q ι H σ (Ext.refl _ _) hr he⟩
  | cons _ _ => exact q.elim
theorem dgs_cons {e : Expr} {es : List Expr} {g : MG} {r : MGs} (h1 : PG X e (tG X.K G g)) (h2 : PGs X es (tGs X.K G r)) (hs : (assignEach (e :: es) X.env).map (·.2) = assign e X.env :: (assignEach es X.env).map (·.2) := by rfl) : PGs X (e :: es) (tGs X.K G (gsCons g r)) := by
  refine pgs_imp (pgs_cons h1 h2 hs) fun v σ H Q ⟨ι, ρ, S, d, ⟨he, hr⟩, i1, q⟩ => ?_
  cases i1 with
  | nil => exact q.elim
  | @cons d0 l0 v0 vs0 a t =>
    refine ⟨_, _, rfl, ι, ρ, S, _, ⟨he, hr⟩, a, ?_⟩
    simp only [gsCons] at q
    cases hg : g d0 ρ S with
    | ok ρ' S' =>
      rw [hg, Out.bind_ok] at q
      exact fun ι2 H2 σ2 x r2 e2 => ⟨ι2, ρ', S', _, ⟨e2, r2⟩, t.ext x, q.ext x⟩
    | ex c fs S' => rw [hg] at q; exact q.elim
    | no => rw [hg] at q; exact q.elim
theorem dg_tup {es : List Expr} {k n : Nat} {g : MGs} {pos : Pos} (hc : X.calm = true) (h : PGs X es (tGs X.K G g)) (hn : (assignEach es X.env).length = n := by rfl) (hst : (assignEach es X.env).findIdx? (·.1) = none := by rfl) : PG X (.Tuple es k pos) (tG X.K G (gTupT n g)) := by
  refine pg_imp (pg_tup hc h hn hst) fun v σ H Q ⟨ι, ρ, S, d, ⟨he, hr⟩, i1, q⟩ => ?_
  cases i1 with
  | tup hz t =>
    simp only [gTupT] at q
    split at q
    · rename_i hl
      exact ⟨_, _, rfl, hz.sq, by rw [← t.len]; exact hl, ι, ρ, S, _, ⟨he, hr⟩, t, q⟩
    · exact q.elim
  | _ => exact q.elim
theorem set_dk (hu : X.A.units + 1 < cLine) : PSet X (fun o i v H Q => ∃ a H4, o = .ref a ∧ DPut H a i v H4 ∧ Q H4) := by
  intro pins s σ H o i v ov iv u Q I ro ri rv h
  obtain ⟨a, H4, rfl, g, q⟩ := h
  obtain rfl : ov = Value.ref a := ro
  exact d_setItem hu I g ri rv fun s' I' => ⟨H4, I', q⟩
theorem PSet.or {t t' : TSet} (h : PSet X t) (h' : PSet X t') : PSet X (fun o i v H Q => t o i v H Q ∨ t' o i v H Q) := fun pins s σ H o i v ov iv u Q I ro ri rv q => q.elim (h pins s σ H o i v ov iv u Q I ro ri rv) (h' pins s σ H o i v ov iv u Q I ro ri rv)
theorem PostG.bindE {o : Out D} {f : D → Store → Out Env} {Q : St → Hp → Prop} (h : PostG K G ι H (o.bind f) Q) :
    PostE K G W ι H σ o (fun v H' => ∃ ι' d S', Ext ι H ι' H' ∧ Rep K G ι' S' H' ∧ Is K G ι' H' d v ∧ PostG K G ι' H' (f d S') Q) := by
  cases o with
  | ok d S => exact fun ι2 H2 v x r i => ⟨ι2, d, S, x, r, i, PostG.ext x h⟩
  | ex c fs S => exact h.elim
  | no => exact h.elim
theorem dg_sub {o i : Expr} {mo mk : M} {pos : Pos} (hu : X.A.units + 1 < cLine) (ho : PE X o (tE X.K G W mo)) (hi : PE X i (tE X.K G W mk))
    (ha : ∀ v, assign (.Subscript o i pos) X.env v = (do let ov ← holding [v] (eval o X.env); let iv ← holding [v, ov] (eval i X.env); standAt pos; holding [v, ov, iv] (setItem ov iv v); release [v, ov, iv] []) := by intro _; rfl) : PG X (.Subscript o i pos) (tG X.K G (gSubT mo mk)) := by
  refine pg_imp (pg_sub ho hi (PSet.or (set_dk hu) set_list) ha) fun v σ H Q ⟨ι, ρ, S, d, ⟨he, hr⟩, i1, q⟩ => ?_
  refine ⟨ι, ρ, S, ⟨he, hr⟩, (PostG.bindE q).imp fun vo H1 ⟨ι1, o1, S1, x1, r1, j1, h1⟩ => ?_⟩
  refine ⟨ι1, ρ, S1, ⟨he.ext x1, r1⟩, (PostG.bindE h1).imp fun vk H2 ⟨ι2, k2, S2, x2, r2, j2, h2⟩ => ?_⟩
  have jo := j1.ext x2
  have jd := i1.ext (x1.trans x2)
  cases jo with
  | ref en =>
    simp only [gPut] at h2
    split at h2
    · rename_i kvs hkv
      split at h2
      · rename_i k hk
        split at h2
        · rename_i hb
          have ek := keyOf_is hk j2
          subst ek
          obtain ⟨ws, c1, c2⟩ := r2.cell _ _ _ en hkv
          refine .inl ⟨_, _, rfl, DPut.k (k := k) c1 (big_lt (by rw [← c2.len]; exact hb)), ?_⟩
          have xw := Ext.write (H := H2) (o := .dK (putK ws k v)) (List.mem_of_getElem? en) (ne_frz c1 (fun _ _ z => nomatch z))
          exact h2 _ _ σ xw (r2.write en ⟨_, upd_same, (c2.put k jd).ext xw⟩) (he.ext ((x1.trans x2).trans xw))
        · exact h2.elim
      · exact h2.elim
    · rename_i l hl
      split at h2
      · split at h2
        · rename_i j hj
          cases j2
          obtain ⟨vs, c1, c2⟩ := r2.lst hl en
          refine .inr ⟨_, vs, _, j, rfl, rfl, c1, by rw [← c2.len]; exact hj, ?_⟩
          have xw := Ext.write (H := H2) (o := .lst (vs.set j v)) (List.mem_of_getElem? en) (ne_frz c1 (fun _ _ z => nomatch z))
          exact h2 _ _ σ xw (r2.write en ⟨_, upd_same, (c2.set j jd).ext xw⟩) (he.ext ((x1.trans x2).trans xw))
        · exact h2.elim
      · exact h2.elim
    · exact h2.elim
  | _ => exact h2.elim
end
end DL

end

/-! ## DL6 -/
section
set_option Elab.async false
set_option linter.all false
set_option maxRecDepth 100000
namespace DL
open PySem PySem.Spec PyProof.Rows L2

/-! ### statements -/
def sNil : MS := fun ρ S => .nx ρ S
def Fl.seq (o : Fl) (b : MS) : Fl := match o with
  | .nx ρ' S' => b ρ' S'
  | o => o
def sSeq (a b : MS) : MS := fun ρ S => (a ρ S).seq b
def Out.fl {α : Type} (o : Out α) (ρ : Env) (f : α → Store → Fl) : Fl := match o with
  | .ok a S => f a S
  | .ex c fs S => .ex c fs ρ S
  | .no => .no
def sRet (m : M) : MS := fun ρ S => (m ρ S).fl ρ fun d S' => .rt d S'
def sRetN : MS := fun _ S => .rt .non S
def sDrop (m : M) : MS := fun ρ S => (m ρ S).fl ρ fun _ S' => .nx ρ S'
def sIf (t : MT) (a b : MS) : MS := fun ρ S => (t ρ S).fl ρ fun k S' => if k = true then a ρ S' else b ρ S'
def sAsg (m : M) (g : MG) : MS := fun ρ S => (m ρ S).fl ρ fun d S' => match g d ρ S' with
  | .ok ρ' S'' => .nx ρ' S''
  | _ => .no
def sBrk : MS := fun ρ S => .bk ρ S
def sCnt : MS := fun ρ S => .ct ρ S
def sNo : MS := fun _ _ => .no
@[simp] theorem Fl.seq_nx (ρ S b) : (Fl.nx ρ S).seq b = b ρ S := rfl
@[simp] theorem Fl.seq_rt (d S b) : (Fl.rt d S).seq b = .rt d S := rfl
@[simp] theorem Fl.seq_bk (ρ S b) : (Fl.bk ρ S).seq b = .bk ρ S := rfl
@[simp] theorem Fl.seq_ct (ρ S b) : (Fl.ct ρ S).seq b = .ct ρ S := rfl
@[simp] theorem Fl.seq_ex (c fs ρ S b) : (Fl.ex c fs ρ S).seq b = .ex c fs ρ S := rfl
@[simp] theorem Fl.seq_no (b) : Fl.no.seq b = .no := rfl
@[simp] theorem Out.fl_ok {α : Type} (a : α) (S ρ) (f : α → Store → Fl) : (Out.ok a S).fl ρ f = f a S := rfl
@[simp] theorem Out.fl_ex {α : Type} (c fs S ρ) (f : α → Store → Fl) : (Out.ex c fs S : Out α).fl ρ f = .ex c fs ρ S := rfl
@[simp] theorem Out.fl_no {α : Type} (ρ) (f : α → Store → Fl) : (Out.no : Out α).fl ρ f = .no := rfl
section
variable {X : Cx} {G : String → Addr} {W : WX} {K : PySem.W.Frag} {ι ι' : Ad} {H H' : Hp} {σ : St} {ρ : Env} {D : Ends}
theorem PostS.seq {o : Fl} {b : MS} (h : PostS K G W ι H (o.seq b) D) : PostS K G W ι H o { D with nx := tS K G W b D } := by
  cases o with
  | nx ρ S => exact fun ι' H' σ' x r e => ⟨ι', ρ, S, ⟨e, r⟩, PostS.ext x h⟩
  | rt d S => exact h
  | bk ρ S => exact h
  | ct ρ S => exact h
  | ex c fs ρ S => exact h
  | no => exact h.elim
/-- an expression's outcome, then a statement's -/
theorem PostE.fl {f : DL.D → Store → Fl} {o : Out DL.D} (he : EnvIs K G ι H ρ σ) (h : PostS K G W ι H (o.fl ρ f) D) :
    PostE K G W ι H σ o (fun v H' => ∃ ι' d S', Ext ι H ι' H' ∧ Rep K G ι' S' H' ∧ Is K G ι' H' d v ∧ PostS K G W ι' H' (f d S') D) := by
  cases o with
  | ok d S => exact fun ι2 H2 v x r i => ⟨ι2, d, S, x, r, i, PostS.ext x h⟩
  | ex c fs S => exact fun ι2 H2 dd ws x r i j => h ι2 H2 dd ws σ x r (he.ext x) i j
  | no => exact h.elim
theorem PostT.fl {f : Bool → Store → Fl} {o : Out Bool} (he : EnvIs K G ι H ρ σ) (h : PostS K G W ι H (o.fl ρ f) D) :
    PostT K G W ι H σ o (fun b H' => ∃ ι' S', Ext ι H ι' H' ∧ Rep K G ι' S' H' ∧ PostS K G W ι' H' (f b S') D) := by
  cases o with
  | ok d S => exact fun ι2 H2 x r => ⟨ι2, S, x, r, PostS.ext x h⟩
  | ex c fs S => exact fun ι2 H2 dd ws x r i j => h ι2 H2 dd ws σ x r (he.ext x) i j
  | no => exact h.elim
variable {st : Stmt} {rest : List Stmt} {a b : MS} {e c : Expr} {m : M} {t : MT} {g : MG} {pos : Pos} {la lb : List Stmt} {tg : Expr}
theorem ds_nil : PSs X [] (tS X.K G W sNil) := pss_imp pss_nil fun D σ H ⟨ι, ρ, S, ⟨he, hr⟩, q⟩ => q ι H σ (Ext.refl _ _) hr he
theorem ds_cons (h1 : PS X st (tS X.K G W a)) (h2 : PSs X rest (tS X.K G W b)) : PSs X (st :: rest) (tS X.K G W (sSeq a b)) :=
  pss_imp (pss_cons h1 h2) fun D σ H ⟨ι, ρ, S, hat, q⟩ => ⟨ι, ρ, S, hat, PostS.seq q⟩
theorem ds_one (h1 : PS X st (tS X.K G W a)) : PSs X [st] (tS X.K G W a) := pss_one h1
theorem ds_never : PS X st (tS X.K G W sNo) := ps_imp ps_never fun D σ H ⟨_, _, _, _, q⟩ => q.elim
theorem ds_pass : PS X (.Pass pos) (tS X.K G W sNil) := ps_imp ps_pass fun D σ H ⟨ι, ρ, S, ⟨he, hr⟩, q⟩ => q ι H σ (Ext.refl _ _) hr he
theorem ds_brk : PS X (.Break pos) (tS X.K G W sBrk) := ps_imp ps_break fun D σ H ⟨ι, ρ, S, ⟨he, hr⟩, q⟩ => q ι H σ (Ext.refl _ _) hr he
theorem ds_cnt : PS X (.Continue pos) (tS X.K G W sCnt) := ps_imp ps_continue fun D σ H ⟨ι, ρ, S, ⟨he, hr⟩, q⟩ => q ι H σ (Ext.refl _ _) hr he
theorem ds_ret (he : PE X e (tE X.K G W m)) : PS X (.Return (some e) pos) (tS X.K G W (sRet m)) := ps_imp (ps_ret he) fun D σ H ⟨ι, ρ, S, ⟨he, hr⟩, q⟩ =>
  ⟨ι, ρ, S, ⟨he, hr⟩, (PostE.fl (o := m ρ S) he q).imp fun v H1 ⟨ι1, d, S1, x1, r1, i1, h1⟩ => h1 ι1 H1 v (Ext.refl _ _) r1 i1⟩
theorem ds_retN : PS X (.Return none pos) (tS X.K G W sRetN) := ps_imp ps_retN fun D σ H ⟨ι, ρ, S, ⟨he, hr⟩, q⟩ => q ι H .non (Ext.refl _ _) hr .non
theorem ds_drop (he : PE X e (tE X.K G W m)) (hs : swapsWith e none pos.line X.env = pure false := by rfl) : PS X (.Expr e pos) (tS X.K G W (sDrop m)) := ps_imp (ps_expr he hs) fun D σ H ⟨ι, ρ, S, ⟨he, hr⟩, q⟩ =>
  ⟨ι, ρ, S, ⟨he, hr⟩, (PostE.fl (o := m ρ S) he q).imp fun v H1 ⟨ι1, d, S1, x1, r1, i1, h1⟩ => h1 ι1 H1 σ (Ext.refl _ _) r1 (he.ext x1)⟩
theorem ds_if (hc : PT X c (tT X.K G W t)) (ha : PSs X la (tS X.K G W a)) (hb : PSs X lb (tS X.K G W b)) : PS X (.If c la lb pos) (tS X.K G W (sIf t a b)) := ps_imp (ps_if hc ha hb) fun D σ H ⟨ι, ρ, S, ⟨he, hr⟩, q⟩ =>
  ⟨ι, ρ, S, ⟨he, hr⟩, (PostT.fl (o := t ρ S) he q).imp fun k H1 ⟨ι1, S1, x1, r1, h1⟩ => by
    cases k with
    | true => exact ⟨ι1, ρ, S1, ⟨he.ext x1, r1⟩, h1⟩
    | false => exact ⟨ι1, ρ, S1, ⟨he.ext x1, r1⟩, h1⟩⟩
theorem ds_asg (he : PE X e (tE X.K G W m)) (hg : PG X tg (tG X.K G g)) (hs : swapsWithSole [tg] e pos.line X.env = pure false := by rfl) (hw : swappedStores [tg] e X.env = pure none := by rfl) (h1 : (assignEach [tg] X.env).map (·.2) = [assign tg X.env] := by rfl) : PS X (.Assign [tg] e pos) (tS X.K G W (sAsg m g)) :=
  ps_imp (ps_asg he hg hs hw h1) fun D σ H ⟨ι, ρ, S, ⟨he, hr⟩, q⟩ =>
    ⟨ι, ρ, S, ⟨he, hr⟩, (PostE.fl (o := m ρ S) he q).imp fun v H1 ⟨ι1, d, S1, x1, r1, i1, h1⟩ => ⟨ι1, ρ, S1, d, ⟨he.ext x1, r1⟩, i1, by
      split at h1
      · rename_i ρ' S'' hg'
        rw [hg']
        exact fun ι2 H2 σ2 x r e => h1 ι2 H2 σ2 x r e
      · exact h1.elim⟩⟩

/-! ### while -/
def whileGo (t : MT) (b : MS) : Nat → Env → Store → Fl
  | 0, _, _ => .no
  | n + 1, ρ, S => (t ρ S).fl ρ fun k S1 => if k = true then
      (match b ρ S1 with
        | .nx ρ' S' => whileGo t b n ρ' S'
        | .ct ρ' S' => whileGo t b n ρ' S'
        | .bk ρ' S' => .nx ρ' S'
        | o => o) else .nx ρ S1
def fuel : Nat := 1000000000
def sWhile (t : MT) (b : MS) : MS := fun ρ S => whileGo t b fuel ρ S
theorem ds_while (hp : PassesOwn (model X.prog X.w) X.A X.env X.xe) (hc : PT X c (tT X.K G W t)) (hb : PSs X la (tS X.K G W b)) : PS X (.While c la [] pos) (tS X.K G W (sWhile t b)) :=
  ps_imp (ps_while hp hc hb) fun D σ H ⟨ι, ρ, S, ⟨he, hr⟩, q⟩ => by
    refine ⟨fun m σ H => ∃ ι ρ S, At X.K G ι ρ S σ H ∧ PostS X.K G W ι H (whileGo t b m ρ S) D, ⟨fuel, ι, ρ, S, ⟨he, hr⟩, q⟩, ?_⟩
    intro m σ H ⟨ι, ρ, S, ⟨he, hr⟩, q⟩
    cases m with
    | zero => exact q.elim
    | succ m =>
      refine ⟨ι, ρ, S, ⟨he, hr⟩, (PostT.fl (o := t ρ S) he q).imp fun k H1 ⟨ι1, S1, x1, r1, h1⟩ => ?_⟩
      cases k with
      | false => exact h1 ι1 H1 σ (Ext.refl _ _) r1 (he.ext x1)
      | true =>
        refine ⟨fun σ' H' => ∃ ι ρ S, At X.K G ι ρ S σ' H' ∧ PostS X.K G W ι H' (whileGo t b m ρ S) D, fun σ' H' h => ⟨m, Nat.lt_succ_self m, h⟩, ι1, ρ, S1, ⟨he.ext x1, r1⟩, ?_⟩
        cases hb' : b ρ S1 with
        | nx ρ' S' => simp only [hb', if_true] at h1; exact fun ι2 H2 σ2 x r e => ⟨ι2, ρ', S', ⟨e, r⟩, h1.ext x⟩
        | ct ρ' S' => simp only [hb', if_true] at h1; exact fun ι2 H2 σ2 x r e => ⟨ι2, ρ', S', ⟨e, r⟩, h1.ext x⟩
        | bk ρ' S' => simp only [hb', if_true] at h1; exact fun ι2 H2 σ2 x r e => h1 ι2 H2 σ2 x r e
        | rt d S' => simp only [hb', if_true] at h1; exact h1
        | ex c fs ρ' S' => simp only [hb', if_true] at h1; exact h1
        | no => simp only [hb', if_true] at h1; exact h1.elim

/-! ### what is walked -/
abbrev MI := Env → Store → Out (List DL.D × List Nat)
def okG (gs : List Nat) (S0 S : Store) : Prop := ∀ n ∈ gs, S[n]? = S0[n]?
structure Goes (K : PySem.W.Frag) (G : String → Addr) (ι : Ad) (H : Hp) (J : It) (its : List DL.D) (gs : List Nat) (S0 : Store) : Prop where
  go : ∀ (i : Nat) ι' H' S', StayF ι H ι' H' → Rep K G ι' S' H' → okG gs S0 S' → i < its.length → J.go i H' ∧ ∀ x H2, J.yld i H' x H2 → ∃ d, its[i]? = some d ∧ Ext ι' H' ι' H2 ∧ Rep K G ι' S' H2 ∧ Is K G ι' H2 d x
  stop : ∀ ι' H' S', StayF ι H ι' H' → Rep K G ι' S' H' → okG gs S0 S' → J.stop its.length H'
def PostI (K : PySem.W.Frag) (G : String → Addr) (W : WX) (ι : Ad) (H : Hp) (σ : St) (o : Out (List DL.D × List Nat)) (R : It → Hp → Prop) : Prop := match o with
  | .ok p S1 => ∀ ι1 H1 J, Ext ι H ι1 H1 → Rep K G ι1 S1 H1 → Goes K G ι1 H1 J p.1 p.2 S1 → R J H1
  | .ex c fs S' => ∀ ι' H' dd ws, Ext ι H ι' H' → Rep K G ι' S' H' → H' dd = some (.xd ws) → IsKV K G ι' H' fs ws → W (.ref (G c)) (some dd) σ H'
  | .no => False
def tI (K : PySem.W.Frag) (G : String → Addr) (W : WX) (m : MI) : TI := fun σ H R => ∃ ι ρ S, At K G ι ρ S σ H ∧ PostI K G W ι H σ (m ρ S) R
theorem pi_imp {tg e : Expr} {t t' : TI} (h : PI X tg e t) (hi : ∀ σ H Q, t' σ H Q → t σ H Q) : PI X tg e t' := ⟨fun pins s σ H Q I hw => h.run pins s σ H Q I (hi σ H Q hw)⟩
open Classical in
noncomputable def forGo (gs : List Nat) (S0 : Store) (g : MG) (b : MS) : List DL.D → Env → Store → Fl
  | [], ρ, S => if okG gs S0 S then .nx ρ S else .no
  | d :: ds, ρ, S => if okG gs S0 S then
      (match g d ρ S with
        | .ok ρ1 S1 => (match b ρ1 S1 with
          | .nx ρ' S' => forGo gs S0 g b ds ρ' S'
          | .ct ρ' S' => forGo gs S0 g b ds ρ' S'
          | .bk ρ' S' => .nx ρ' S'
          | o => o)
        | _ => .no) else .no
noncomputable def sFor (mi : MI) (g : MG) (b : MS) : MS := fun ρ S => (mi ρ S).fl ρ fun p S1 => forGo p.2 S1 g b p.1 ρ S1
theorem PostI.fl {f : List DL.D × List Nat → Store → Fl} {o : Out (List DL.D × List Nat)} {R : It → Hp → Prop} (he : EnvIs K G ι H ρ σ) (h : PostS K G W ι H (o.fl ρ f) D)
    (hR : ∀ p S1 ι1 H1 J, Ext ι H ι1 H1 → Rep K G ι1 S1 H1 → Goes K G ι1 H1 J p.1 p.2 S1 → PostS K G W ι1 H1 (f p S1) D → R J H1) : PostI K G W ι H σ o R := by
  cases o with
  | ok p S1 => exact fun ι1 H1 J x r w => hR p S1 ι1 H1 J x r w (PostS.ext x h)
  | ex c fs S => exact fun ι2 H2 dd ws x r i j => h ι2 H2 dd ws σ x r (he.ext x) i j
  | no => exact h.elim
theorem ds_for {iter : Expr} {mi : MI} (hp : PassesOwn (model X.prog X.w) X.A X.env X.xe) (hc : X.calm = true) (hi : PI X tg iter (tI X.K G W mi)) (hg : PG X tg (tG X.K G g)) (hb : PSs X la (tS X.K G W b)) (hs : ∀ x, foldedSetIterable iter X.env x = pure x := by intro _; rfl) :
    PS X (.For tg iter la [] pos) (tS X.K G W (sFor mi g b)) := ps_imp (ps_for hp hc hi hg hb hs) fun D σ H ⟨ι, ρ, S, ⟨he, hr⟩, q⟩ => by
  refine ⟨ι, ρ, S, ⟨he, hr⟩, PostI.fl he q fun p S1 ι1 H1 J x1 r1 w h1 => ?_⟩
  refine ⟨fun i m σ' H' => i + m = p.1.length ∧ ∃ ι' ρ' S', Ext ι1 H1 ι' H' ∧ At X.K G ι' ρ' S' σ' H' ∧ PostS X.K G W ι' H' (forGo p.2 S1 g b (p.1.drop i) ρ' S') D, ⟨p.1.length, by omega, ι1, ρ, S1, Ext.refl _ _, ⟨he.ext x1, r1⟩, h1⟩, ?_⟩
  intro i m σ' H' ⟨hm, ι', ρ', S', x, ⟨he', hr'⟩, q'⟩
  by_cases hi : i < p.1.length
  · right
    rw [List.drop_eq_getElem_cons hi] at q'
    unfold forGo at q'
    split at q'
    · rename_i hok
      obtain ⟨g1, g2⟩ := w.go i ι' H' S' x.stayF hr' hok hi
      refine ⟨g1, fun σ2 H2 => ∃ ι2 ρ2 S2, Ext ι1 H1 ι2 H2 ∧ At X.K G ι2 ρ2 S2 σ2 H2 ∧ PostS X.K G W ι2 H2 (forGo p.2 S1 g b (p.1.drop (i + 1)) ρ2 S2) D, fun σ2 H2 h => ⟨m - 1, by omega, by omega, h⟩, fun v H2 hy => ?_⟩
      obtain ⟨d, ed, x2, r2, i2⟩ := g2 v H2 hy
      have ed' : p.1[i] = d := by rw [List.getElem?_eq_getElem hi] at ed; exact Option.some.inj ed
      rw [ed'] at q'
      refine ⟨ι', ρ', S', d, ⟨he'.ext x2, r2⟩, i2, ?_⟩
      cases hgd : g d ρ' S' with
      | ok ρ1 Sa =>
        simp only [hgd] at q'
        refine fun ι3 H3 σ3 x3 r3 e3 => ⟨ι3, ρ1, Sa, ⟨e3, r3⟩, ?_⟩
        have xx := x2.trans x3
        cases hbd : b ρ1 Sa with
        | nx ρ4 S4 => simp only [hbd] at q'; exact fun ι5 H5 σ5 x5 r5 e5 => ⟨ι5, ρ4, S4, x.trans (xx.trans x5), ⟨e5, r5⟩, q'.ext (xx.trans x5)⟩
        | ct ρ4 S4 => simp only [hbd] at q'; exact fun ι5 H5 σ5 x5 r5 e5 => ⟨ι5, ρ4, S4, x.trans (xx.trans x5), ⟨e5, r5⟩, q'.ext (xx.trans x5)⟩
        | bk ρ4 S4 => simp only [hbd] at q'; exact fun ι5 H5 σ5 x5 r5 e5 => q' ι5 H5 σ5 (xx.trans x5) r5 e5
        | rt d4 S4 => simp only [hbd] at q'; exact PostS.ext (o := .rt d4 S4) xx q'
        | ex c fs ρ4 S4 => simp only [hbd] at q'; exact PostS.ext (o := .ex c fs ρ4 S4) xx q'
        | no => simp only [hbd] at q'; exact q'.elim
      | ex c fs S2 => simp only [hgd] at q'; exact q'.elim
      | no => simp only [hgd] at q'; exact q'.elim
    · exact q'.elim
  · left
    have ei : i = p.1.length := by omega
    subst ei
    rw [List.drop_length] at q'
    unfold forGo at q'
    split at q'
    · rename_i hok
      exact ⟨w.stop ι' H' S' x.stayF hr' hok, q' ι' H' σ' (Ext.refl _ _) hr' he'⟩
    · exact q'.elim
end
end DL

end

/-! ## DL7 -/
section
set_option Elab.async false
set_option linter.all false
set_option maxRecDepth 100000
namespace DL
open PySem PySem.Spec PyProof.Rows L2

/-! ### what is walked: sequences, ranges, enumerate, zip -/
def signsD (s : Str) : List D := s.cps.toList.map fun c => .str ⟨#[c]⟩
def seqI (S : Store) (d : D) : Option (List D × List Nat) := match d with
  | .tup l => some (l, [])
  | .lst l => some (l, [])
  | .frz l => some (l, [])
  | .str s => some (signsD s, [])
  | .ref n => match S[n]? with
    | some (.lst l) => some (l, [n])
    | _ => none
  | _ => none
def iSeq (m : M) : MI := fun ρ S => (m ρ S).bind fun d S1 => match seqI S1 d with
  | some p => .ok p S1
  | none => .no
def rngD (lo : Int) (n : Nat) : List D := (List.range n).map fun (i : Nat) => D.int (lo + (i : Int))
def rOk (i : Int) : Bool := decide (-(2 ^ 62) ≤ i) && decide (i < 2 ^ 62)
def iR1 (m : M) : MI := fun ρ S => (m ρ S).bind fun d S1 => match d with
  | .int j => if rOk j = true then .ok (rngD 0 j.toNat, []) S1 else .no
  | _ => .no
def iR2 (m m' : M) : MI := fun ρ S => (m ρ S).bind fun d S1 => (m' ρ S1).bind fun e S2 => match d, e with
  | .int i, .int j => if rOk i = true ∧ rOk j = true then .ok (rngD i (j - i).toNat, []) S2 else .no
  | _, _ => .no
def lstI (S : Store) (d : D) : Option (List D × List Nat) := match d with
  | .lst l => some (l, [])
  | .frz l => some (l, [])
  | .ref n => match S[n]? with
    | some (.lst l) => some (l, [n])
    | _ => none
  | _ => none
def enumD : List D → Nat → List D
  | [], _ => []
  | d :: l, k => .tup [.int (k : Int), d] :: enumD l (k + 1)
def iEnm (m : M) : MI := fun ρ S => (m ρ S).bind fun d S1 => match lstI S1 d with
  | some p => .ok (enumD p.1 0, p.2) S1
  | none => .no
def zipD : List D → List D → List D
  | a :: l, b :: r => .tup [a, b] :: zipD l r
  | _, _ => []
def zipI (S : Store) (d e : D) : Option (List D × List Nat) := match d, e with
  | .tup l, .tup r => some (zipD l r, [])
  | d, e => match lstI S d, lstI S e with
    | some p, some q => some (zipD p.1 q.1, p.2 ++ q.2)
    | _, _ => none
def iZp (m m' : M) : MI := fun ρ S => (m ρ S).bind fun d S1 => (m' ρ S1).bind fun e S2 => match zipI S2 d e with
  | some p => .ok p S2
  | none => .no

section
variable {X : Cx} {G : String → Addr} {W : WX} {K : PySem.W.Frag} {ι ι' : Ad} {H H' : Hp} {σ : St} {ρ : Env}
theorem PostI.ext {o : Out (List D × List Nat)} {R : It → Hp → Prop} (e : Ext ι H ι' H') (h : PostI K G W ι H σ o R) : PostI K G W ι' H' σ o R := by
  cases o with
  | ok d S => exact fun ι2 H2 J x r w => h ι2 H2 J (e.trans x) r w
  | ex c fs S => exact fun ι2 H2 dd ws x r i j => h ι2 H2 dd ws (e.trans x) r i j
  | no => exact h.elim
theorem PostI.bindE {o : Out D} {f : D → Store → Out (List D × List Nat)} {R : It → Hp → Prop} (h : PostI K G W ι H σ (o.bind f) R) :
    PostE K G W ι H σ o (fun v H' => ∃ ι' d S', Ext ι H ι' H' ∧ Rep K G ι' S' H' ∧ Is K G ι' H' d v ∧ PostI K G W ι' H' σ (f d S') R) := by
  cases o with
  | ok d S => exact fun ι2 H2 v x r i => ⟨ι2, d, S, x, r, i, PostI.ext x h⟩
  | ex c fs S => exact h
  | no => exact h.elim
theorem PostI.ok {p : List D × List Nat} {S : Store} {R : It → Hp → Prop} {J : It} (h : PostI K G W ι H σ (.ok p S) R) (r : Rep K G ι S H) (w : Goes K G ι H J p.1 p.2 S) : R J H := h ι H J (Ext.refl _ _) r w
theorem goes_l {a : Addr} {l : List D} {gs : List Nat} {S0 : Store} (h : ∀ ι' H' S', Stay ι H ι' H' → Rep K G ι' S' H' → okG gs S0 S' → ∃ xs, SqL K H' a xs ∧ IsAll K G ι' H' l xs) : Goes K G ι H (Itl K a) l gs S0 where
  go i ι' H' S' x r ok hi := by
    obtain ⟨xs, h1, h2⟩ := h ι' H' S' x.toStay r ok
    obtain ⟨v, h3, h4⟩ := h2.get (List.getElem?_eq_getElem hi)
    refine ⟨⟨xs, v, h1, h3⟩, fun y H2 hy => ?_⟩
    obtain ⟨rfl, hf⟩ := hy
    have e := hf xs h1
    rw [h3] at e
    cases e
    exact ⟨_, List.getElem?_eq_getElem hi, Ext.refl _ _, r, h4⟩
  stop ι' H' S' x r ok := by
    obtain ⟨xs, h1, h2⟩ := h ι' H' S' x.toStay r ok
    exact ⟨xs, h1, by rw [h2.len]; exact Nat.le_refl _⟩
theorem goes_t {a : Addr} {l : List D} {gs : List Nat} {S0 : Store} (h : ∀ ι' H' S', Stay ι H ι' H' → Rep K G ι' S' H' → okG gs S0 S' → ∃ xs, SqT K H' a xs ∧ IsAll K G ι' H' l xs) : Goes K G ι H (Itt K a) l gs S0 where
  go i ι' H' S' x r ok hi := by
    obtain ⟨xs, h1, h2⟩ := h ι' H' S' x.toStay r ok
    obtain ⟨v, h3, h4⟩ := h2.get (List.getElem?_eq_getElem hi)
    refine ⟨⟨xs, v, h1, h3⟩, fun y H2 hy => ?_⟩
    obtain ⟨rfl, hf⟩ := hy
    have e := hf xs h1
    rw [h3] at e
    cases e
    exact ⟨_, List.getElem?_eq_getElem hi, Ext.refl _ _, r, h4⟩
  stop ι' H' S' x r ok := by
    obtain ⟨xs, h1, h2⟩ := h ι' H' S' x.toStay r ok
    exact ⟨xs, h1, by rw [h2.len]; exact Nat.le_refl _⟩
theorem lstI_at {d : D} {v : V} {p : List D × List Nat} {S : Store} (r : Rep K G ι S H) (i : Is K G ι H d v) (h : lstI S d = some p) :
    ∃ a, v = .ref a ∧ ∀ ι' H' S', Stay ι H ι' H' → Rep K G ι' S' H' → okG p.2 S S' → ∃ xs, SqL K H' a xs ∧ IsAll K G ι' H' p.1 xs := by
  cases i with
  | lst h1 n t =>
    cases h
    refine ⟨_, rfl, fun ι' H' S' x r' ok => ?_⟩
    exact ⟨_, SqL.of (x.keep _ _ n h1 trivial).1, t.stay x⟩
  | frz h1 t =>
    cases h
    exact ⟨_, rfl, fun ι' H' S' x r' ok => ⟨_, (h1.stay x).sq, t.stay x⟩⟩
  | ref en =>
    simp only [lstI] at h
    split at h
    · rename_i l hl
      cases h
      refine ⟨_, rfl, fun ι' H' S' x r' ok => ?_⟩
      have e2 := ok _ (List.mem_singleton.mpr rfl)
      rw [hl] at e2
      obtain ⟨vs, k1, k2⟩ := r'.lst e2 (pre_get x.pre en)
      exact ⟨vs, SqL.of k1, k2⟩
    · cases h
  | _ => cases h
theorem di_seq {tg e : Expr} {m : M} (he : PE X e (tE X.K G W m)) : PI X tg e (tI X.K G W (iSeq m)) := by
  refine ⟨fun pins s σ H R I ⟨ι, ρ, S, ⟨hen, hr⟩, h⟩ => ?_⟩
  refine thn (he.run pins s σ H _ I ⟨ι, ρ, S, ⟨hen, hr⟩, PostI.bindE h⟩) fun v s1 ⟨x, H1, I1, r1, ι1, d, S1, x1, rp1, i1, q⟩ => ?_
  by_cases hd : ∃ l, d = .tup l
  · obtain ⟨l, rfl⟩ := hd
    cases i1 with
    | @tup _ a xs hz t =>
      have w : Goes X.K G ι1 H1 (Itt X.K a) l [] S1 := goes_t fun ι' H' S' x r ok => ⟨_, (hz.stay x).sq, t.stay x⟩
      have qq := PostI.ok q rp1 w
      cases r1
      obtain ⟨its, rv, p, hz'⟩ := I1.tuple hz.sq
      refine wpAny_pyIter_tuple (show s1.heap.IsTuple a its.toArray from p) ?_
      refine ⟨s1.heap.objs.size, [s1.heap.objs.size], _, _, H1, rfl, I1.kept (t' := s1.toks) fun b o e => Heap.get?_push_of_some _ e, turn_tuple a _, ⟨_, Heap.get?_push_size _ rfl, rfl, rfl⟩, fun b hb => ?_, qq⟩
      have e : b = s1.heap.objs.size := by simpa using hb
      subst e
      exact I1.fpOk (Nat.le_refl _) (I1.hok.fresh (Nat.le_refl _))
  · by_cases hs : ∃ z, d = .str z
    · obtain ⟨z, rfl⟩ := hs
      cases i1
      have w : Goes X.K G ι1 H1 (Its z) (signsD z) [] S1 := by
        have el : (signsD z).length = z.cps.size := by unfold signsD; simp
        refine ⟨fun i ι' H' S' x r ok hi => ⟨by rw [el] at hi; exact hi, fun y H2 hy => ?_⟩, fun ι' H' S' x r ok => by rw [el]; exact Nat.le_refl _⟩
        obtain ⟨rfl, c, hc, rfl⟩ := hy
        refine ⟨.str ⟨#[c]⟩, ?_, Ext.refl _ _, r, .str _⟩
        unfold signsD
        rw [List.getElem?_map, Array.getElem?_toList, hc]; rfl
      have qq := PostI.ok q rp1 w
      obtain ⟨t, rfl⟩ := r1
      cases ha : z.cps.all (· < 128)
      · exact wpAny_pyIter_wide ha (pi_one (tk := s1.toks) I1 _ (turn_str _ z t "str_iterator" (.inr rfl)) ⟨_, Heap.get?_push_size _ rfl, rfl, rfl⟩ qq)
      · exact wpAny_pyIter_ascii ha (pi_one (tk := s1.toks) I1 _ (turn_str _ z t "str_ascii_iterator" (.inl rfl)) ⟨_, Heap.get?_push_size _ rfl, rfl, rfl⟩ qq)
    · have es : seqI S1 d = lstI S1 d := by
        cases d <;> first | rfl | exact absurd ⟨_, rfl⟩ hd | exact absurd ⟨_, rfl⟩ hs
      simp only [es] at q
      cases hp : lstI S1 d with
      | none => rw [hp] at q; exact q.elim
      | some p =>
        rw [hp] at q
        obtain ⟨a, rfl, hw⟩ := lstI_at rp1 i1 hp
        have qq := PostI.ok q rp1 (goes_l hw)
        obtain ⟨xs, hq, _⟩ := hw ι1 H1 S1 (Ext.refl _ _).stay rp1 (fun _ _ => rfl)
        cases r1
        obtain ⟨its, rv, p', hz⟩ := I1.list hq
        refine wpAny_pyIter_list p'.isList ?_
        refine ⟨s1.heap.objs.size, [s1.heap.objs.size], _, _, H1, rfl, I1.kept (t' := s1.toks) fun b o e => Heap.get?_push_of_some _ e, turn_list a _, ⟨_, Heap.get?_push_size _ rfl, rfl, rfl⟩, fun b hb => ?_, qq⟩
        have e : b = s1.heap.objs.size := by simpa using hb
        subst e
        exact I1.fpOk (Nat.le_refl _) (I1.hok.fresh (Nat.le_refl _))
theorem rOk_of {i : Int} (h : rOk i = true) : -(2 ^ 62) ≤ i ∧ i < 2 ^ 62 := by
  simp only [rOk, Bool.and_eq_true, decide_eq_true_eq] at h; exact h
theorem goes_r {lo : Int} {n : Nat} {S0 : Store} : Goes K G ι H (Itr lo n) (rngD lo n) [] S0 := by
  have el : (rngD lo n).length = n := by unfold rngD; simp
  refine ⟨fun i ι' H' S' x r ok hi => ⟨by rw [el] at hi; exact hi, fun y H2 hy => ?_⟩, fun ι' H' S' x r ok => by rw [el]; exact Nat.le_refl _⟩
  obtain ⟨rfl, rfl⟩ := hy
  refine ⟨.int (lo + i), ?_, Ext.refl _ _, r, .int _⟩
  unfold rngD
  rw [el] at hi
  rw [List.getElem?_map, List.getElem?_range hi]; rfl
theorem di_r1 {tg a : Expr} {m : M} {p pos : Pos} (hm : X.mg "range" = none) (ha : PE X a (tE X.K G W m)) (hg : Gl X "range" := by rfl) (hs : starEach [a] X.env = [(false, eval a X.env)] := by rfl) : PI X tg (.Call (.Name "range" p) [a] [] pos) (tI X.K G W (iR1 m)) := by
  refine pi_imp (pi_range1 hg hm (pa_cons ha pa_nil hs) hs) fun σ H R ⟨ι, ρ, S, ⟨he, hr⟩, h⟩ => ?_
  refine ⟨ι, ρ, S, ⟨he, hr⟩, (PostI.bindE h).imp fun v H1 ⟨ι1, d, S1, x1, r1, i1, h1⟩ => ?_⟩
  cases i1 with
  | int j =>
    simp only at h1
    split at h1
    · rename_i hj
      exact ⟨j, rfl, (rOk_of hj).1, (rOk_of hj).2, PostI.ok h1 r1 goes_r⟩
    · exact h1.elim
  | _ => exact h1.elim
theorem di_r2 {tg a b : Expr} {m m' : M} {p pos : Pos} (hm : X.mg "range" = none) (ha : PE X a (tE X.K G W m)) (hb : PE X b (tE X.K G W m')) (hg : Gl X "range" := by rfl) (hs : starEach [a, b] X.env = [(false, eval a X.env), (false, eval b X.env)] := by rfl) (hs2 : starEach [b] X.env = [(false, eval b X.env)] := by rfl) : PI X tg (.Call (.Name "range" p) [a, b] [] pos) (tI X.K G W (iR2 m m')) := by
  refine pi_imp (pi_range2 hg hm (pa_cons ha (pa_cons hb pa_nil hs2) (by rw [hs, hs2])) hs hs2) fun σ H R ⟨ι, ρ, S, ⟨he, hr⟩, h⟩ => ?_
  refine ⟨ι, ρ, S, ⟨he, hr⟩, (PostI.bindE h).imp fun v H1 ⟨ι1, d, S1, x1, r1, i1, h1⟩ => ?_⟩
  refine ⟨ι1, ρ, S1, ⟨he.ext x1, r1⟩, (PostI.bindE h1).imp fun u H2 ⟨ι2, d2, S2, x2, r2, i2, h2⟩ => ?_⟩
  have i1' := i1.ext x2
  cases i1' with
  | int i =>
    cases i2 with
    | int j =>
      simp only at h2
      split at h2
      · rename_i hj
        exact ⟨i, j, rfl, ⟨(rOk_of hj.1).1, (rOk_of hj.1).2, (rOk_of hj.2).1, (rOk_of hj.2).2⟩, PostI.ok h2 r2 goes_r⟩
      · exact h2.elim
    | _ => exact h2.elim
  | _ => exact h2.elim
theorem enum_len : ∀ (l : List D) (k : Nat), (enumD l k).length = l.length
  | [], _ => rfl
  | _ :: l, k => by simp only [enumD, List.length_cons, enum_len l]
theorem enum_get : ∀ (l : List D) (k i : Nat), (enumD l k)[i]? = l[i]?.map fun d => D.tup [.int ((k + i : Nat) : Int), d]
  | [], _, _ => rfl
  | _ :: l, k, 0 => rfl
  | _ :: l, k, i + 1 => by
    simp only [enumD, List.getElem?_cons_succ]
    rw [enum_get l (k + 1) i, show k + 1 + i = k + (i + 1) by omega]
theorem di_enum {elts : List Expr} {kk : Nat} {tpos : Pos} {a : Expr} {m : M} {p pos : Pos} (hm : X.mg "enumerate" = none) (ha : PE X a (tE X.K G W m)) (hg : Gl X "enumerate" := by rfl) (hs : starEach [a] X.env = [(false, eval a X.env)] := by rfl) : PI X (.Tuple elts kk tpos) (.Call (.Name "enumerate" p) [a] [] pos) (tI X.K G W (iEnm m)) := by
  refine pi_imp (pi_enum hg hm (pa_cons ha pa_nil hs) hs) fun σ H R ⟨ι, ρ, S, ⟨he, hr⟩, h⟩ => ?_
  refine ⟨ι, ρ, S, ⟨he, hr⟩, (PostI.bindE h).imp fun v H1 ⟨ι1, d, S1, x1, r1, i1, h1⟩ => ?_⟩
  cases hp : lstI S1 d with
  | none => rw [hp] at h1; exact h1.elim
  | some q =>
    rw [hp] at h1
    obtain ⟨b, rfl, hw⟩ := lstI_at r1 i1 hp
    obtain ⟨xs, hq, _⟩ := hw ι1 H1 S1 (Ext.refl _ _).stay r1 (fun _ _ => rfl)
    refine ⟨b, xs, rfl, hq, PostI.ok h1 r1 ⟨fun i ι' H' S' x r ok hi => ?_, fun ι' H' S' x r ok => ?_⟩⟩
    · obtain ⟨ys, k1, k2⟩ := hw ι' H' S' x.toStay r ok
      rw [enum_len] at hi
      obtain ⟨u, k3, k4⟩ := k2.get (List.getElem?_eq_getElem hi)
      refine ⟨⟨ys, u, k1, k3⟩, fun y H2 hy => ?_⟩
      obtain ⟨T, z, rfl, hT, rfl, hf⟩ := hy
      have e := hf ys k1
      rw [k3] at e; cases e
      refine ⟨_, ?_, Ext.push hT, r.push hT, .tup (.inl ⟨.inl upd_same, r.out hT⟩) (.cons (.int _) (.cons (k4.ext (Ext.push hT)) .nil))⟩
      rw [enum_get, List.getElem?_eq_getElem hi, Nat.zero_add]; rfl
    · obtain ⟨ys, k1, k2⟩ := hw ι' H' S' x.toStay r ok
      exact ⟨ys, k1, by rw [enum_len, k2.len]; exact Nat.le_refl _⟩
theorem zip_len : ∀ (l r : List D), (zipD l r).length = min l.length r.length
  | [], r => by simp [zipD]
  | _ :: _, [] => by simp [zipD]
  | a :: l, b :: r => by simp only [zipD, List.length_cons, zip_len l r]; omega
theorem zip_get : ∀ (l r : List D) (i : Nat) (a b : D), l[i]? = some a → r[i]? = some b → (zipD l r)[i]? = some (.tup [a, b])
  | [], _, _, _, _, h, _ => by simp at h
  | _ :: _, [], _, _, _, _, h => by simp at h
  | x :: l, y :: r, 0, a, b, h, h' => by simp at h h'; subst h; subst h'; rfl
  | x :: l, y :: r, i + 1, a, b, h, h' => by simp only [zipD, List.getElem?_cons_succ]; exact zip_get l r i a b (by simpa using h) (by simpa using h')
theorem di_zip {elts : List Expr} {kk : Nat} {tpos : Pos} {a b : Expr} {m m' : M} {p pos : Pos} (hm : X.mg "zip" = none) (ha : PE X a (tE X.K G W m)) (hb : PE X b (tE X.K G W m')) (hg : Gl X "zip" := by rfl) (hs : starEach [a, b] X.env = (false, eval a X.env) :: starEach [b] X.env := by rfl) (hs2 : starEach [b] X.env = (false, eval b X.env) :: starEach [] X.env := by rfl) (hpl : (backTo pos (starEach [b] X.env)).any (·.1) = false := by rfl) : PI X (.Tuple elts kk tpos) (.Call (.Name "zip" p) [a, b] [] pos) (tI X.K G W (iZp m m')) := by
  refine pi_imp (RZ.pi_zipA hg hm (pa_cons ha (pa_cons hb pa_nil hs2) hs) hs hpl) fun σ H R ⟨ι, ρ, S, ⟨he, hr⟩, h⟩ => ?_
  refine ⟨ι, ρ, S, ⟨he, hr⟩, (PostI.bindE h).imp fun v H1 ⟨ι1, d, S1, x1, r1, i1, h1⟩ => ?_⟩
  refine ⟨ι1, ρ, S1, ⟨he.ext x1, r1⟩, (PostI.bindE h1).imp fun u H2 ⟨ι2, d2, S2, x2, r2, i2, h2⟩ => ?_⟩
  have i1' := i1.ext x2
  by_cases ht : ∃ l r, d = .tup l ∧ d2 = .tup r
  · obtain ⟨l, r, rfl, rfl⟩ := ht
    cases i1' with
    | @tup _ ad xs hz t =>
      cases i2 with
      | @tup _ ae ys hz2 t2 =>
        refine ⟨ad, ae, xs, ys, rfl, .inr ⟨hz.sq, hz2.sq, PostI.ok h2 r2 ⟨fun i ι' H' S' x r ok hi => ?_, fun ι' H' S' x r ok => ?_⟩⟩⟩
        · rw [zip_len] at hi
          obtain ⟨u, k3, k4⟩ := (t.stay x.toStay).get (List.getElem?_eq_getElem (show i < l.length by omega))
          obtain ⟨u', k3', k4'⟩ := (t2.stay x.toStay).get (List.getElem?_eq_getElem (show i < _ by omega))
          refine ⟨⟨xs, ys, u, u', (hz.stay x.toStay).sq, (hz2.stay x.toStay).sq, k3, k3'⟩, fun y Hy hy => ?_⟩
          obtain ⟨T, z, z', rfl, hT, rfl, hf, hf'⟩ := hy
          have e := hf xs (hz.stay x.toStay).sq
          have e' := hf' ys (hz2.stay x.toStay).sq
          rw [k3] at e; cases e
          rw [k3'] at e'; cases e'
          exact ⟨_, zip_get _ _ _ _ _ (List.getElem?_eq_getElem _) (List.getElem?_eq_getElem _), Ext.push hT, r.push hT, .tup (.inl ⟨.inl upd_same, r.out hT⟩) (.cons (k4.ext (Ext.push hT)) (.cons (k4'.ext (Ext.push hT)) .nil))⟩
        · refine ⟨xs, ys, (hz.stay x.toStay).sq, (hz2.stay x.toStay).sq, ?_⟩
          rw [zip_len, ← t.len, ← t2.len]; omega
  · have es : zipI S2 d d2 = match lstI S2 d, lstI S2 d2 with
      | some p, some q => some (zipD p.1 q.1, p.2 ++ q.2)
      | _, _ => none := by
      cases d <;> cases d2 <;> first | rfl | exact absurd ⟨_, _, rfl, rfl⟩ ht
    simp only [es] at h2
    cases hp : lstI S2 d with
    | none => simp only [hp] at h2; exact h2.elim
    | some q =>
      cases hp2 : lstI S2 d2 with
      | none => simp only [hp, hp2] at h2; exact h2.elim
      | some q2 =>
        simp only [hp, hp2] at h2
        obtain ⟨ad, rfl, hw⟩ := lstI_at r2 i1' hp
        obtain ⟨ae, rfl, hw2⟩ := lstI_at r2 i2 hp2
        obtain ⟨xs, hq, _⟩ := hw ι2 H2 S2 (Ext.refl _ _).stay r2 (fun _ _ => rfl)
        obtain ⟨ys, hq2, _⟩ := hw2 ι2 H2 S2 (Ext.refl _ _).stay r2 (fun _ _ => rfl)
        refine ⟨ad, ae, xs, ys, rfl, .inl ⟨hq, hq2, PostI.ok h2 r2 ⟨fun i ι' H' S' x r ok hi => ?_, fun ι' H' S' x r ok => ?_⟩⟩⟩
        · obtain ⟨xs', k1, k2⟩ := hw ι' H' S' x.toStay r fun n hn => ok n (List.mem_append_left _ hn)
          obtain ⟨ys', l1, l2⟩ := hw2 ι' H' S' x.toStay r fun n hn => ok n (List.mem_append_right _ hn)
          rw [zip_len] at hi
          obtain ⟨u, k3, k4⟩ := k2.get (List.getElem?_eq_getElem (show i < q.1.length by omega))
          obtain ⟨u', k3', k4'⟩ := l2.get (List.getElem?_eq_getElem (show i < q2.1.length by omega))
          refine ⟨⟨xs', ys', u, u', k1, l1, k3, k3'⟩, fun y Hy hy => ?_⟩
          obtain ⟨T, z, z', rfl, hT, rfl, hf, hf'⟩ := hy
          have e := hf xs' k1
          have e' := hf' ys' l1
          rw [k3] at e; cases e
          rw [k3'] at e'; cases e'
          exact ⟨_, zip_get _ _ _ _ _ (List.getElem?_eq_getElem _) (List.getElem?_eq_getElem _), Ext.push hT, r.push hT, .tup (.inl ⟨.inl upd_same, r.out hT⟩) (.cons (k4.ext (Ext.push hT)) (.cons (k4'.ext (Ext.push hT)) .nil))⟩
        · obtain ⟨xs', k1, k2⟩ := hw ι' H' S' x.toStay r fun n hn => ok n (List.mem_append_left _ hn)
          obtain ⟨ys', l1, l2⟩ := hw2 ι' H' S' x.toStay r fun n hn => ok n (List.mem_append_right _ hn)
          refine ⟨xs', ys', k1, l1, ?_⟩
          rw [zip_len, ← k2.len, ← l2.len]; omega
end
end DL

end

/-! ## DL8 -/
section
set_option Elab.async false
set_option linter.all false
set_option maxRecDepth 100000
namespace DL
open PySem PySem.Spec PyProof.Rows L2

/-! ### list comprehensions -/
def wipeE (ρ : Env) : List Nat → Env
  | [] => ρ
  | v :: vs => (wipeE ρ vs).set v none
/-- targets by slots: one name, or a tuple of names -/
inductive Tgt where
  | one (i : Nat)
  | two (i j : Nat)
  | three (i j k : Nat)
def Tgt.put (t : Tgt) (d : D) (ρ : Env) : Option Env := match t, d with
  | .one i, d => some (ρ.set i (some d))
  | .two i j, .tup [a, b] => some ((ρ.set i (some a)).set j (some b))
  | .three i j k, .tup [a, b, c] => some (((ρ.set i (some a)).set j (some b)).set k (some c))
  | _, _ => none
def Tgt.slots : Tgt → List Nat
  | .one i => [i]
  | .two i j => [i, j]
  | .three i j k => [i, j, k]
open Classical in
noncomputable def lcGo (gs : List Nat) (S0 : Store) (g : Tgt) (t : MT) (e : M) (ρ : Env) : List D → Store → Out (List D)
  | [], S => if okG gs S0 S then .ok [] S else .no
  | d :: ds, S => if okG gs S0 S then
      (match g.put d ρ with
        | some ρ1 => (match t ρ1 S with
          | .ok k S1 => if k = true then
              (match e ρ1 S1 with
                | .ok y S2 => (match lcGo gs S0 g t e ρ ds S2 with
                  | .ok l S3 => .ok (y :: l) S3
                  | _ => .no)
                | _ => .no)
            else lcGo gs S0 g t e ρ ds S1
          | _ => .no)
        | none => .no) else .no
noncomputable def mLc (mi : MI) (g : Tgt) (t : MT) (e : M) (vs : List Nat) : M := fun ρ S => (mi ρ S).bind fun p S1 =>
  if p.1.length ≤ big then (match lcGo p.2 S1 g t e (wipeE ρ vs) p.1 S1 with
    | .ok l S2 => .ok (.lst l) S2
    | _ => .no) else .no
def tTru : MT := fun _ S => .ok true S
abbrev WN : WX := fun _ _ _ _ => False

section
variable {X : Cx} {G : String → Addr} {W : WX} {K : PySem.W.Frag} {ι ι' : Ad} {H H' : Hp} {σ : St} {ρ : Env}
theorem EnvIs.unset (h : EnvIs K G ι H ρ σ) (i : Nat) : EnvIs K G ι H (ρ.set i none) (σ.set i none) where
  len := by rw [List.length_set, List.length_set]; exact h.len
  at_ j d q := by
    by_cases hj : i = j
    · subst hj
      by_cases hl : i < ρ.length
      · rw [List.getElem?_set_self hl] at q; cases q
      · rw [List.getElem?_eq_none (by rw [List.length_set]; omega)] at q; cases q
    · rw [List.getElem?_set_ne hj] at q
      obtain ⟨u, a, b⟩ := h.at_ j d q
      exact ⟨u, by rw [List.getElem?_set_ne hj]; exact a, b⟩
theorem EnvIs.wipe (h : EnvIs K G ι H ρ σ) : ∀ vs, EnvIs K G ι H (wipeE ρ vs) (wipe σ vs)
  | [] => h
  | v :: vs => (h.wipe vs).unset v
theorem wipe_get (σ : St) : ∀ (vs : List Nat) (i : Nat), (wipe σ vs)[i]? = if i ∈ vs ∧ i < σ.length then some none else σ[i]?
  | [], i => by simp [wipe]
  | v :: vs, i => by
    unfold wipe
    rw [List.getElem?_set, wipe_length, wipe_get σ vs i]
    by_cases h : v = i
    · subst h
      by_cases hl : v < σ.length
      · simp [hl]
      · simp [hl]
    · have h' : ¬ i = v := fun z => h z.symm
      simp [h, h']
theorem wipe_set {σ : St} {vs : List Nat} {j : Nat} {x : Option V} (h : j ∈ vs) : wipe ((wipe σ vs).set j x) vs = wipe σ vs := by
  apply List.ext_getElem?
  intro i
  rw [wipe_get, wipe_get, List.length_set, wipe_length, List.getElem?_set, wipe_length, wipe_get]
  by_cases hi : i ∈ vs ∧ i < σ.length
  · rw [if_pos hi, if_pos hi]
  · rw [if_neg hi, if_neg hi]
    by_cases e : j = i
    · subst e
      rw [if_pos rfl]
      by_cases hl : j < σ.length
      · exact absurd ⟨h, hl⟩ hi
      · rw [if_neg hl, List.getElem?_eq_none (by omega)]
    · rw [if_neg e]
theorem wipe_set2 {σ : St} {vs : List Nat} {j k : Nat} {x y : Option V} (h : j ∈ vs) (h' : k ∈ vs) : wipe (((wipe σ vs).set j x).set k y) vs = wipe σ vs := by
  apply List.ext_getElem?
  intro i
  rw [wipe_get, wipe_get, List.length_set, List.length_set, wipe_length, List.getElem?_set, List.length_set, wipe_length, List.getElem?_set, wipe_length, wipe_get]
  by_cases hi : i ∈ vs ∧ i < σ.length
  · rw [if_pos hi, if_pos hi]
  · rw [if_neg hi, if_neg hi]
    by_cases e : k = i
    · subst e
      rw [if_pos rfl]
      by_cases hl : k < σ.length
      · exact absurd ⟨h', hl⟩ hi
      · rw [if_neg hl, List.getElem?_eq_none (by omega)]
    · rw [if_neg e]
      by_cases e : j = i
      · subst e
        rw [if_pos rfl]
        by_cases hl : j < σ.length
        · exact absurd ⟨h, hl⟩ hi
        · rw [if_neg hl, List.getElem?_eq_none (by omega)]
      · rw [if_neg e]
/-- the target's rule and what it does -/
def TgOk (K : PySem.W.Frag) (G : String → Addr) (t : TG) (g : Tgt) (vs : List Nat) : Prop := ∀ (ι : Ad) (H : Hp) (S : Store) (σ : St) (ρ ρ1 : Env) (d : D) (v : V) (Q : St → Hp → Prop), Rep K G ι S H → EnvIs K G ι H (wipeE ρ vs) (wipe σ vs) → Is K G ι H d v → g.put d (wipeE ρ vs) = some ρ1 →
  (∀ σ1, wipe σ1 vs = wipe σ vs → EnvIs K G ι H ρ1 σ1 → Q σ1 H) → t v (wipe σ vs) H Q
theorem tg_one {i : Nat} {vs : List Nat} (h : i ∈ vs) : TgOk K G (gName i) (.one i) vs := by
  intro ι H S σ ρ ρ1 d v Q r e i1 hp k
  cases hp
  exact k _ (wipe_set h) (e.set _ i1)
theorem tg_two {i j : Nat} {vs : List Nat} (h : i ∈ vs) (h' : j ∈ vs) : TgOk K G (L2.gTup K 2 (gCons (gName i) (gCons (gName j) gNil))) (.two i j) vs := by
  intro ι H S σ ρ ρ1 d v Q r e i1 hp k
  cases i1 with
  | tup hz t =>
    cases t with
    | nil => cases hp
    | cons t1 t =>
      cases t with
      | nil => cases hp
      | cons t2 t =>
        cases t with
        | nil =>
          cases hp
          exact ⟨_, _, rfl, hz.sq, rfl, _, _, rfl, _, _, rfl, rfl, k _ (wipe_set2 h h') ((e.set _ t1).set _ t2)⟩
        | cons _ _ => cases hp
  | _ => cases hp
/-- the comprehension's rule -/
theorem lc_of {wi : TI} {g : TG} {tt : TT} {te : TE} {mi : MI} {tg : Tgt} {mt : MT} {me : M} {vs : List Nat} (hi : ∀ σ H R, tI K G W mi σ H R → wi σ H R) (hg : TgOk K G g tg vs) (ht : ∀ σ H Q, tT K G WN mt σ H Q → tt σ H Q) (he : ∀ σ H Q, tE K G WN me σ H Q → te σ H Q) :
    ∀ σ H Q, tE K G W (mLc mi tg mt me vs) σ H Q → tLc wi g tt te vs σ H Q := by
  intro σ H Q ⟨ι, ρ, S, ⟨hen, hrp⟩, h⟩
  refine hi _ _ _ ⟨ι, ρ, S, ⟨hen, hrp⟩, ?_⟩
  unfold mLc at h
  cases hm : mi ρ S with
  | no => rw [hm] at h; exact h.elim
  | ex c fs S1 => rw [hm] at h; exact h
  | ok p S1 =>
    rw [hm, Out.bind_ok] at h
    by_cases hb : p.1.length ≤ big
    · rw [if_pos hb] at h
      intro ι1 H1 J x1 r1 w D hD
      cases hl : lcGo p.2 S1 tg mt me (wipeE ρ vs) p.1 S1 with
      | no => rw [hl] at h; exact h.elim
      | ex c fs S2 => rw [hl] at h; exact h.elim
      | ok l S2 =>
        rw [hl] at h
        have out1 : D ∉ ι1 := r1.out hD
        -- at turn i: what is made so far, and what is left
        have h00 : Ext ι1 H1 ⟨(ι1.hid D).c, ι1.x⟩ (upd H1 D (.lst [])) := Ext.push hD
        refine ⟨fun i m H' => i + m = p.1.length ∧ ∃ ι' S' acc acc' rest, ι'.x = D :: ι1.x ∧ Ext ι1 H1 ⟨ι'.c, ι1.x⟩ H' ∧ Rep K G ι' S' H' ∧ H' D = some (.lst acc') ∧ IsAll K G ι' H' acc acc' ∧ acc.length ≤ i ∧
          lcGo p.2 S1 tg mt me (wipeE ρ vs) (p.1.drop i) S' = .ok rest S2 ∧ acc ++ rest = l, ⟨p.1.length, by omega, ι1.hid D, S1, [], [], l, rfl, h00, r1.hide hD, upd_same, .nil, Nat.le_refl _, hl, rfl⟩, ?_⟩
        intro i m H' ⟨hm', ι', S', acc, acc', rest, px, xu, r, hDl, hac, hal, hgo, hacc⟩
        have ru : Rep K G ⟨ι'.c, ι1.x⟩ S' H' := r.unhide fun a ha => by rw [px]; exact List.mem_cons_of_mem _ ha
        have DL2m : D ∈ ι'.x := by rw [px]; exact List.mem_cons_self
        have xs : Stay ι1 H1 ι' H' := by
          refine ⟨xu.pre.c, fun a o h1 h2 _ => ⟨xu.keep a o (fun z => h1 (.inl z)) h2, fun z => ?_⟩⟩
          rcases z with z | z
          · exact (xu.new a z).elim (fun z => h1 (.inl z)) fun z => by rw [h2] at z; cases z
          · rw [px] at z
            rcases List.mem_cons.mp z with z | z
            · rw [z, hD] at h2; cases h2
            · exact h1 (.inr z)
        -- an evaluation from here on
        have go_on : ∀ {ι3 H3}, Ext ι' H' ι3 H3 → ι3.x = D :: ι1.x ∧ Ext ι1 H1 ⟨ι3.c, ι1.x⟩ H3 ∧ H3 D = some (.lst acc') := by
          intro ι3 H3 x
          refine ⟨x.pre.x.symm.trans px, xu.trans ⟨⟨x.pre.c, rfl⟩, x.keep, x.new, x.frz⟩, x.keep D _ (r.dis D DL2m) hDl⟩
        by_cases hlt : i < p.1.length
        · right
          rw [List.drop_eq_getElem_cons hlt] at hgo
          unfold lcGo at hgo
          split at hgo
          · rename_i hok
            obtain ⟨g1, g2⟩ := w.go i ι' H' S' ⟨xs, xu.frz⟩ r hok hlt
            refine ⟨g1, fun H2 => ∃ ι2 S2' acc2 acc2' rest2, ι2.x = D :: ι1.x ∧ Ext ι1 H1 ⟨ι2.c, ι1.x⟩ H2 ∧ Rep K G ι2 S2' H2 ∧ H2 D = some (.lst acc2') ∧ IsAll K G ι2 H2 acc2 acc2' ∧ acc2.length ≤ i + 1 ∧
              lcGo p.2 S1 tg mt me (wipeE ρ vs) (p.1.drop (i + 1)) S2' = .ok rest2 S2 ∧ acc2 ++ rest2 = l, fun H2 hh => ⟨m - 1, by omega, by omega, hh⟩, fun v H2 hy => ?_⟩
            obtain ⟨d, ed, x2, r2, i2⟩ := g2 v H2 hy
            have ed' : p.1[i] = d := by rw [List.getElem?_eq_getElem hlt] at ed; exact Option.some.inj ed
            rw [ed'] at hgo
            split at hgo
            · rename_i ρ1 hput
              have eE : EnvIs K G ι' H2 (wipeE ρ vs) (wipe σ vs) := by
                have e1 : EnvIs K G ι1 H1 (wipeE ρ vs) (wipe σ vs) := (hen.ext x1).wipe vs
                exact (e1.stay xs).ext x2
              refine hg ι' H2 S' σ ρ ρ1 d v _ r2 eE i2 hput fun σ1 hw1 he1 => ⟨hw1, ht _ _ _ ⟨ι', ρ1, S', ⟨he1, r2⟩, ?_⟩⟩
              cases htt : mt ρ1 S' with
              | no => rw [htt] at hgo; cases hgo
              | ex c fs S3 => rw [htt] at hgo; cases hgo
              | ok k S3 =>
                rw [htt] at hgo
                simp only at hgo
                intro ι3 H3 x3 r3
                cases k with
                | false =>
                  obtain ⟨z1, z2, z3⟩ := go_on (x2.trans x3)
                  exact ⟨ι3, S3, acc, acc', rest, z1, z2, r3, z3, hac.ext (x2.trans x3), by omega, by simpa using hgo, hacc⟩
                | true =>
                  simp only [if_true] at hgo
                  refine he _ _ _ ⟨ι3, ρ1, S3, ⟨he1.ext x3, r3⟩, ?_⟩
                  cases hme : me ρ1 S3 with
                  | no => rw [hme] at hgo; cases hgo
                  | ex c fs S4 => rw [hme] at hgo; cases hgo
                  | ok y S4 =>
                    rw [hme] at hgo
                    simp only at hgo
                    intro ι4 H4 u x4 r4 i4
                    have x24 := (x2.trans x3).trans x4
                    obtain ⟨z1, z2, z3⟩ := go_on x24
                    cases hrest : lcGo p.2 S1 tg mt me (wipeE ρ vs) (p.1.drop (i + 1)) S4 with
                    | no => rw [hrest] at hgo; cases hgo
                    | ex c fs S5 => rw [hrest] at hgo; cases hgo
                    | ok l5 S5 =>
                      rw [hrest] at hgo
                      cases hgo
                      have hac4 := hac.ext x24
                      have D4 : D ∈ ι4.x := by rw [z1]; exact List.mem_cons_self
                      have sw : Stay ι4 H4 ι4 (upd H4 D (.lst (acc' ++ [u]))) := Stay.hidden D4
                      refine ⟨acc', z3, big_lt (by rw [← hac.len]; omega), ι4, S4, acc ++ [y], acc' ++ [u], l5, z1, ?_, r4.hidden D4, upd_same, (hac4.snoc i4).stay sw, by rw [List.length_append, List.length_singleton]; omega, hrest, by rw [List.append_assoc]; exact hacc⟩
                      refine ⟨z2.pre, fun a o h1 h2 => ?_, z2.new, fun a o u h => by rw [upd_ne (ne_of_none h hD)]; exact z2.frz a o u h⟩
                      rw [upd_ne (ne_of_none h2 hD)]
                      exact z2.keep a o h1 h2
            · cases hgo
          · cases hgo
        · left
          have ei : i = p.1.length := by omega
          subst ei
          rw [List.drop_length] at hgo
          unfold lcGo at hgo
          split at hgo
          · rename_i hok
            cases hgo
            refine ⟨w.stop ι' H' _ ⟨xs, xu.frz⟩ r hok, ?_⟩
            rw [List.append_nil] at hacc
            subst hacc
            refine h _ _ _ (x1.trans xu) ru (.lst hDl ?_ (hac.stay (Stay.unhid (y := ι1.x) fun a ha => by rw [px]; exact List.mem_cons_of_mem _ ha)))
            intro z
            rcases z with z | z
            · exact r.dis D (by rw [px]; exact List.mem_cons_self) z
            · exact out1 (.inr z)
          · cases hgo
    · rw [if_neg hb] at h; exact h.elim
end
end DL

end

/-! ## DL9 -/
section
set_option Elab.async false
set_option linter.all false
set_option maxRecDepth 100000
namespace DL
open PySem PySem.Spec PyProof.Rows L2

section
variable {X : Cx} {G : String → Addr} {W : WX}
/-- a comprehension of one clause -/
theorem de_lc {elt tg iter : Expr} {ifs : List Expr} {scope : Scope} {own : List (Str × Nat)} {pos : Pos} {mi : MI} {g : TG} {tgt : Tgt} {mt : MT} {me : M} (hc : X.calm = true) (hN : X.N.Nodup) (hi : PI X tg iter (tI X.K G W mi)) (ok : BlkOk X.N X.env.scope scope own)
    (hg : ∀ (s : Shared) (H : Hp) (C : Addr) (cl : List (Str × Addr)) (fp : List Addr), PG (X.blk s H scope (compEnvC scope cl C X.env) fp) tg g) (hk : TgOk X.K G g tgt (own.map (·.2)))
    (ht : ∀ (s : Shared) (H : Hp) (C : Addr) (cl : List (Str × Addr)) (fp : List Addr), PTs (X.blk s H scope (compEnvC scope cl C X.env) fp) ifs (tT X.K G WN mt))
    (he : ∀ (s : Shared) (H : Hp) (C : Addr) (cl : List (Str × Addr)) (fp : List Addr), PE (X.blk s H scope (compEnvC scope cl C X.env) fp) elt (tE X.K G WN me)) (hs : ∀ x, foldedSetIterable iter X.env x = pure x := by intro _; rfl) :
    PE X (.ListComp elt [⟨tg, iter, ifs, 0⟩] scope pos) (tE X.K G W (mLc mi tgt mt me (own.map (·.2)))) :=
  pe_imp (pe_lc hc hN hi ok hg ht he hs) (lc_of (fun _ _ _ h => h) hk (fun _ _ _ h => h) fun _ _ _ h => h)
theorem dts_nil : PTs X [] (tT X.K G W tTru) := ⟨fun pins s σ H Q I ⟨ι, ρ, S, ⟨he, hr⟩, q⟩ => pts_nil.run pins s σ H Q I (q ι H (Ext.refl _ _) hr)⟩
theorem dts_one {c : Expr} {t : MT} (h : PT X c (tT X.K G W t)) : PTs X [c] (tT X.K G W t) := pts_one h
variable {a b c : Expr} {ma mb mc : M} {pos : Pos}
theorem dt_lt (ha : PE X a (tE X.K G W ma)) (hb : PE X b (tE X.K G W mb)) : PT X (.Compare a [.Lt] [b] pos) (tT X.K G W (tOfB (mB2 ma mb gLt))) := dt_cmp op_lt ok_lt ha hb (nomark _)
theorem dt_le (ha : PE X a (tE X.K G W ma)) (hb : PE X b (tE X.K G W mb)) : PT X (.Compare a [.LtE] [b] pos) (tT X.K G W (tOfB (mB2 ma mb gLe))) := dt_cmp op_le ok_le ha hb (nomark _)
theorem dt_gt (ha : PE X a (tE X.K G W ma)) (hb : PE X b (tE X.K G W mb)) : PT X (.Compare a [.Gt] [b] pos) (tT X.K G W (tOfB (mB2 ma mb gGt))) := dt_cmp op_gt ok_gt ha hb (nomark _)
theorem dt_ge (ha : PE X a (tE X.K G W ma)) (hb : PE X b (tE X.K G W mb)) : PT X (.Compare a [.GtE] [b] pos) (tT X.K G W (tOfB (mB2 ma mb gGe))) := dt_cmp op_ge ok_ge ha hb (nomark _)
theorem dt_eq (hu : X.A.units + 64 < cLine) (ha : PE X a (tE X.K G W ma)) (hb : PE X b (tE X.K G W mb)) : PT X (.Compare a [.Eq] [b] pos) (tT X.K G W (tOfB (mB2 ma mb gEq))) := dt_cmp (op_eqD hu) ok_eq ha hb (nomark _)
theorem dt_ne (hu : X.A.units + 64 < cLine) (ha : PE X a (tE X.K G W ma)) (hb : PE X b (tE X.K G W mb)) : PT X (.Compare a [.NotEq] [b] pos) (tT X.K G W (tOfB (mB2 ma mb gNe))) := dt_cmp (op_neD hu) ok_ne ha hb (nomark _)
theorem dt_isN (ha : PE X a (tE X.K G W ma)) (hb : PE X b (tE X.K G W mb)) : PT X (.Compare a [.Is] [b] pos) (tT X.K G W (tOfB (mB2 ma mb gIsN))) := dt_cmp op_isN ok_isN ha hb (nomark _)
theorem dt_notN (ha : PE X a (tE X.K G W ma)) (hb : PE X b (tE X.K G W mb)) : PT X (.Compare a [.IsNot] [b] pos) (tT X.K G W (tOfB (mB2 ma mb gNotN))) := dt_cmp op_notN ok_notN ha hb (nomark _)
theorem dt_in (hu : X.A.units + 65 < cLine) (ha : PE X a (tE X.K G W ma)) (hb : PE X b (tE X.K G W mb)) (hm : behindInMarks .In b = false := by rfl) : PT X (.Compare a [.In] [b] pos) (tT X.K G W (tOfB (mB2 ma mb gIn))) := dt_cmp (op_inA hu) ok_in ha hb hm
theorem dt_notIn (hu : X.A.units + 65 < cLine) (ha : PE X a (tE X.K G W ma)) (hb : PE X b (tE X.K G W mb)) (hm : behindInMarks .NotIn b = false := by rfl) : PT X (.Compare a [.NotIn] [b] pos) (tT X.K G W (tOfB (mB2 ma mb gNotIn))) := dt_cmp (op_notInA hu) ok_notIn ha hb hm
theorem de_gi {x : Str} {i : Int} {pos : Pos} (hm : ∃ t, X.mg x = some (.int i t)) (hg : Gl X x := by rfl) (hd : (x == ("__debug__" : Str)) = false := by decide) : PE X (.Name x pos) (tE X.K G W (mC (.int i))) := by
  obtain ⟨t, hm⟩ := hm
  exact de_gint hm hg hd
theorem de_gs {x : Str} {i : Str} {pos : Pos} (hm : ∃ t, X.mg x = some (.str i t)) (hg : Gl X x := by rfl) (hd : (x == ("__debug__" : Str)) = false := by decide) : PE X (.Name x pos) (tE X.K G W (mC (.str i))) := by
  obtain ⟨t, hm⟩ := hm
  exact de_gstr hm hg hd

/-- a, b = x, y -/
def sPar (i j : Nat) (ma mb : M) : MS := fun ρ S => (ma ρ S).fl ρ fun d S1 => (mb ρ S1).fl ρ fun e S2 => .nx ((ρ.set i (some d)).set j (some e)) S2
theorem PostA.flA {K : PySem.W.Frag} {ι : Ad} {H : Hp} {σ : St} {ρ : Env} {Dn : Ends} {o : Out D} {ma : MA} : True := trivial
theorem ds_par {i j : Nat} {x y : Str} {px py pt : Pos} {kt k2 : Nat} {pt2 : Pos} (hc : X.calm = true) (hN : X.N.Nodup) (hi : X.N[i]? = some x) (hj : X.N[j]? = some y) (hij : i ≠ j) (hx : X.env.scope.names.lookup x = some .local) (hy : X.env.scope.names.lookup y = some .local)
    (ha : PE X a (tE X.K G W ma)) (hb : PE X b (tE X.K G W mb)) (hw : swappedStores [.Tuple [.Name x px, .Name y py] kt pt] (.Tuple [a, b] k2 pt2) X.env = pure (some [x, y])) (hs : swapsWithSole [.Tuple [.Name x px, .Name y py] kt pt] (.Tuple [a, b] k2 pt2) pos.line X.env = pure false := by rfl)
    (h1 : starEach [a, b] X.env = (false, eval a X.env) :: starEach [b] X.env := by rfl) (h2 : starEach [b] X.env = (false, eval b X.env) :: starEach [] X.env := by rfl) :
    PS X (.Assign [.Tuple [.Name x px, .Name y py] kt pt] (.Tuple [a, b] k2 pt2) pos) (tS X.K G W (sPar i j ma mb)) := by
  refine ps_imp (ps_par hc hN hi hj hij hx hy (pa_cons ha (pa_cons hb pa_nil h2) h1) hw hs) fun Dn σ H ⟨ι, ρ, S, ⟨he, hr⟩, q⟩ => ?_
  refine ⟨ι, ρ, S, ⟨he, hr⟩, (PostE.fl (o := ma ρ S) he q).imp fun v H1 ⟨ι1, d, S1, x1, r1, i1, q1⟩ => ?_⟩
  refine ⟨ι1, ρ, S1, ⟨he.ext x1, r1⟩, (PostE.fl (o := mb ρ S1) (he.ext x1) q1).imp fun u H2 ⟨ι2, e, S2, x2, r2, i2, q2⟩ => ?_⟩
  exact ⟨v, u, rfl, q2 ι2 H2 _ (Ext.refl _ _) r2 (((he.ext (x1.trans x2)).set i (i1.ext x2)).set j i2)⟩
end

/-! ### defs as they are called, where no repr is under way -/
structure FnG (P : Program) (w : World) (K : PySem.W.Frag) (mg : Str → Option Value) (base : Heap) (k : Nat) (f : Addr) (fd : FuncData) (ps : List Str) (sp : Sp) : Prop where
  size : ∀ (xs : List V) (h : Hp) (q : VK) (e : XK), sp xs h q e → xs.length = ps.length
  runs : ∀ (A : Around) (up : List PySem.Env) (st : Shared) (h : Hp) (ar : Args) (ys : List Value) (xs : List V) (q : VK) (e : XK), Room k A → A.guards = some [] → Env0 P w K mg base A up st h →
    BindsTo st fd ar (ps.zip ys) → Vals xs ys → sp xs h q e → codeAny (model P w) A (.call (.ref f) ar) (CR (L2.CX P w) up P w h st q e) st
theorem FnG.mono {P : Program} {w : World} {K : PySem.W.Frag} {mg : Str → Option Value} {base : Heap} {j k : Nat} {f : Addr} {fd : FuncData} {ps : List Str} {sp : Sp} (c : FnG P w K mg base j f fd ps sp) (h : j ≤ k) : FnG P w K mg base k f fd ps sp :=
  ⟨c.size, fun A up st hp ar ys xs q e rm => c.runs A up st hp ar ys xs q e (rm.mono h)⟩
theorem FnG.imp {P : Program} {w : World} {K : PySem.W.Frag} {mg : Str → Option Value} {base : Heap} {k : Nat} {f : Addr} {fd : FuncData} {ps : List Str} {sp sp' : Sp} (c : FnG P w K mg base k f fd ps sp) (h : ∀ vs H Q E, sp' vs H Q E → sp vs H Q E) : FnG P w K mg base k f fd ps sp' :=
  ⟨fun xs hp q e z => c.size xs hp q e (h _ _ _ _ z), fun A up st hp ar ys xs q e rm gd e0 bd vl z => c.runs A up st hp ar ys xs q e rm gd e0 bd vl (h _ _ _ _ z)⟩
/-- a def by its body -/
theorem fn_semG {P : Program} {w : World} {K : PySem.W.Frag} {mg : Str → Option Value} {base : Heap} {G : String → Addr} {x qual : Str} {st : Stmt} {f : Addr} {fd : FuncData} {N ps : List Str} {k : Nat} {b : MS} (F : Fun K x qual st f fd) (Sc : FnScope N ps (defScope st))
    (hb : ∀ (cdv : Value) (A : Around) (outer : List PySem.Env) (s : Shared) (H : Hp) (E : XK), Room k (A.deeper (envOfC qual (defScope st) s.heap.objs.size f cdv)) → (A.deeper (envOfC qual (defScope st) s.heap.objs.size f cdv)).guards = some [] →
      PSs (cxOf (L2.CX P w) P w K mg base N qual (defScope st) f cdv A outer s H E) (defBody st) (tS K G (WF E) b)) :
    FnG P w K mg base (k + 1) f fd ps (spF K G ps.length (runB N.length b)) := by
  obtain ⟨_, _, _, _, _, _, code, _, _, rfl, there, hcode⟩ := F.ex
  refine ⟨fun _ _ _ _ z => spF.len z, ?_⟩
  intro A up st0 hp ar ys xs q e rm gd e0 bd vl z
  have inK : K.In st0.heap := e0.mod.kin.keeps fun a o z => (e0.bs a o z).1
  have noLim : st0.heap.NoLimit := e0.mod.nolimit.keeps fun a o z => (e0.bs a o z).1
  refine codeAny_call_function rm.depth (inK _ _ there) rfl Sc.co Sc.gen rfl (PySem.W.codeRec_of inK hcode) (bd _ _ _ _ ?_)
  refine wpAny_newFunctionEnv_cells Sc.kind ?_ ?_
  · rintro ⟨nm, _⟩ hy
    exact (Sc.par nm (List.of_mem_zip hy).1).imp id fun z => ⟨z, PySem.W.cellsFrom_some _ _ _ (Or.inl z)⟩
  · rintro env rfl s1 ic
    refine ⟨noLim.keeps ic.toInCall.keep, codeAny_func ?_⟩
    have I := inv_start (CX := L2.CX P w) (N := N) (E := e) (mg := mg) Sc rm.hd e0 (spF.len z) vl ic
    obtain ⟨ι, S, ds, r, i, hq⟩ := z
    have body := hb code A up st0 hp e (rm.deeper _) gd
    unfold callN at hq
    split at hq
    · have post : tS K G (WF e) b { nx := fun _ H' => q .non H', rt := q } (L2.start N xs) hp := ⟨ι, _, S, ⟨i.env N, r⟩, PostS.out hq⟩
      refine wpAny_mono (body.run [] s1 _ hp _ I post) ?_ (fun _ _ z => z)
      intro fl s2 z
      cases fl with
      | next =>
        obtain ⟨_, H2, J, z⟩ := z
        exact ⟨.non, H2, J.os, J.bare, J.base, J.hok, rfl, z⟩
      | ret u =>
        obtain ⟨v, _, H2, J, rv, z⟩ := z
        exact ⟨v, H2, J.os, J.bare, J.base, J.hok, rv, z⟩
      | brk => obtain ⟨_, _, _, z⟩ := z; exact z.elim
      | cont => obtain ⟨_, _, _, z⟩ := z; exact z.elim
    · exact hq.elim
section
variable {X : Cx} {W : WX} {k : Nat} {f : Addr} {fd : FuncData} {ps : List Str} {sp : Sp}
theorem run_G {pins : List (Addr × Obj)} {σ : St} {H : Hp} {s : Shared} {Q : VK} {ys : List Value} {xs : List V} (c : FnG X.prog X.w X.K X.mg X.base k f fd ps sp) (rm : Room k X.A) (gd : X.A.guards = some []) (bd : Binds X.K fd ps []) (tk : Takes X W)
    (I : Inv X pins σ H s) (vl : Vals xs ys) (z : sp xs H Q (WE W σ)) : wpAny (model X.prog X.w) X.A (call (.ref f) ys) (EP X pins σ Q) X.xe s := by
  have e1 : ys ++ ([] : List Value) = ys := List.append_nil ys
  have e2 : (ys ++ ([] : List Value)).length = ps.length := by rw [e1, ← vl.length]; exact c.size _ _ _ _ z
  have bb := bd s ys I.kIn e2
  rw [e1] at bb
  refine wpAny_call (codeAny_mono (c.runs X.A X.stack s H ⟨ys, []⟩ ys xs Q _ rm gd I.env0 bb vl z) ?_)
  intro rs s2 h
  cases rs with
  | error er => exact passAt tk σ pins H s er s2 I h
  | ok fl =>
    cases fl with
    | ret u => exact I.after h
    | next => exact h.elim
    | brk => exact h.elim
    | cont => exact h.elim
end
structure Cal (P : Program) (w : World) (K : PySem.W.Frag) (mg : Str → Option Value) (base : Heap) (G : String → Addr) (k : Nat) (x : Str) (n : Nat) (F : List D → Store → Out D) : Prop where
  ex : ∃ (f : Addr) (fd : FuncData) (ps : List Str), FnG P w K mg base k f fd ps (spF K G n F) ∧ mg x = some (.ref f) ∧ PySem.W.keepIn K (.ref f) = true ∧ Binds K fd ps []
theorem Cal.mono {P : Program} {w : World} {K : PySem.W.Frag} {mg : Str → Option Value} {base : Heap} {G : String → Addr} {j k : Nat} {x : Str} {n : Nat} {F : List D → Store → Out D} (c : Cal P w K mg base G j x n F) (h : j ≤ k) : Cal P w K mg base G k x n F := by
  obtain ⟨f, fd, ps, a, b⟩ := c.ex
  exact ⟨f, fd, ps, a.mono h, b⟩
theorem de_cal {X : Cx} {G : String → Addr} {W : WX} {k n : Nat} {Fn : List D → Store → Out D} {x : Str} {p pos : Pos} {e : Expr} {es : List Expr} {m : MA} (C : Cal X.prog X.w X.K X.mg X.base G k x n Fn) (hr : Room k X.A) (gd : X.A.guards = some []) (tk : Takes X W)
    (ha : PA X (e :: es) (tA X.K G W m)) (hg : Gl X x := by rfl) (hdb : (x == ("__debug__" : Str)) = false := by decide) (he : starEach (e :: es) X.env = (false, eval e X.env) :: starEach es X.env := by rfl) (hpl : (backTo pos (starEach es X.env)).any (·.1) = false := by rfl) :
    PE X (.Call (.Name x p) (e :: es) [] pos) (tE X.K G W (mAll m (callN n Fn))) := by
  obtain ⟨f, fd, ps, a, b, c, d⟩ := C.ex
  refine ⟨fun pins s σ H Q I ⟨ι, ρ, S, ⟨hen, hrp⟩, h⟩ => ?_⟩
  refine wpAny_Call_Name_kw (ld_glob I hg b ?_ hdb)
  refine PySem.W.callWith_K (h₀ := X.base) I.ok.mod.kin c ?_ he hpl
  refine thn (ha.run pos pins s σ H _ I ⟨ι, ρ, S, ⟨hen, hrp⟩, PostA.bindE h⟩) ?_
  rintro us s1 ⟨vs, H1, I1, r, ι1, ds, S1, x1, r1, i1, h1⟩
  exact ⟨I1.kIn, run_G a hr gd d tk I1 r ⟨ι1, S1, ds, r1, i1, h1.wish⟩⟩
theorem de_cal0 {X : Cx} {G : String → Addr} {W : WX} {k n : Nat} {Fn : List D → Store → Out D} {x : Str} {p pos : Pos} (C : Cal X.prog X.w X.K X.mg X.base G k x n Fn) (hr : Room k X.A) (gd : X.A.guards = some []) (tk : Takes X W) (hg : Gl X x := by rfl) (hdb : (x == ("__debug__" : Str)) = false := by decide) :
    PE X (.Call (.Name x p) [] [] pos) (tE X.K G W (fun _ S => callN n Fn [] S)) := by
  obtain ⟨f, fd, ps, a, b, c, d⟩ := C.ex
  refine ⟨fun pins s σ H Q I ⟨ι, ρ, S, ⟨hen, hrp⟩, h⟩ => ?_⟩
  refine wpAny_Call_Name_kw (ld_glob I hg b ?_ hdb)
  exact PySem.W.callWith_K0 I.kIn c (run_G (ys := []) (xs := []) a hr gd d tk I .nil ⟨ι, S, [], hrp, .nil, PostE.wish h⟩)
theorem de_never {X : Cx} {G : String → Addr} {W : WX} {e : Expr} : PE X e (tE X.K G W mNo) := ⟨fun _ _ _ _ _ _ ⟨_, _, _, _, q⟩ => q.elim⟩
/-- a def that can't be called -/
theorem FnG.never {P : Program} {w : World} {K : PySem.W.Frag} {mg : Str → Option Value} {base : Heap} {G : String → Addr} {k n : Nat} {f : Addr} {fd : FuncData} {ps : List Str} (hl : ps.length = n) : FnG P w K mg base k f fd ps (spF K G n fun _ _ => .no) where
  size vs H Q E h := by rw [hl]; exact h.len
  runs _ _ _ _ _ _ _ _ _ _ _ _ _ _ h := by
    obtain ⟨ι, S, ds, r, i, q⟩ := h
    unfold callN at q
    split at q <;> exact q.elim

/-! ### the end: the law's own call -/
theorem CX_false {P : Program} {w : World} {H : Hp} {s : Shared} {e : Value} {s' : Shared} (h : L2.CX P w [] H s (fun _ _ _ => False) e s') : False := by
  obtain ⟨_, _, _, _, _, _, _, _, _, _, _, _, z⟩ := h
  exact z
theorem ints_is {K : PySem.W.Frag} {G : String → Addr} {ι : Ad} {H : Hp} : ∀ ns : List Int, IsAll K G ι H (ns.map D.int) (ns.map V.int)
  | [] => .nil
  | n :: ns => .cons (.int n) (ints_is ns)
theorem law_sp {K : PySem.W.Frag} {G : String → Addr} {F : List D → Store → Out D} {ns : List Int} {H : Hp} {a : Addr} (h : ∃ S, F [.frz (ns.map D.int)] [] = .ok (.bl true) S) (hS : SqL K H a (ns.map V.int)) : spF K G 1 F [.ref a] H (fun v _ => v = .bl true) (fun _ _ _ => False) := by
  obtain ⟨S, h⟩ := h
  have hz : FzL K ⟨[], []⟩ H a (ns.map V.int) := hS.imp (fun z => ⟨z, fun m => by rcases m with m | m <;> cases m⟩) id
  refine ⟨⟨[], []⟩, [], [.frz (ns.map D.int)], ⟨List.nodup_nil, fun _ m => (by cases m), fun _ m => (by cases m), rfl, fun i x c m => by simp at m⟩, .cons (.frz hz (ints_is ns)) .nil, ?_⟩
  unfold callN
  rw [if_pos (show [D.frz (List.map D.int ns)].length = 1 from rfl), h]
  intro ι' H' v _ _ i
  cases i
  rfl
/-- as the hand layer's end of a law row, for a def that asks that no repr is under way -/
theorem lawG {P : Program} {w : World} {K : PySem.W.Frag} {mg mb : Str → Option Value} {k : Nat} {fa a : Addr} {fd : FuncData} {x : Str} {sp : Sp} {s0 : Shared} {vs : List Value} {ns : List Int} (inK : K.In s0.heap) (gl : s0.heap.Ns mainGlobals mg) (bl : s0.heap.Ns builtinsNs mb)
    (bt : ∀ y : Str, y ≠ "__name__" → mb y = bootBuiltins y) (nl : s0.heap.NoLimit) (gens : s0.gens = #[]) (at_ : s0.heap.get? a = some { cls := .type "list", data := .seq vs.toArray }) (areInts : IntsAre vs ns) (len : ns.length ≤ sizeLine) (rm : Room k callerA)
    (F : ∀ base : Heap, K.In base → base.Ns mainGlobals mg → FnG P w K mg base k fa fd [x] sp) (bind : ∀ (s : Shared) (u : Value), BindsTo s fd ⟨[u], []⟩ [(x, u)])
    (hsp : ∀ H : Hp, SqL K H a (ns.map V.int) → sp [.ref a] H (fun v _ => v = .bl true) fun _ _ _ => False) :
    codeAny (model P w) callerA (.call (.ref fa) ⟨[.ref a], []⟩) (fun r s' => r = .ok (.ret (.bool true)) ∧ OldK s0.heap s'.heap ∧ s'.os = s0.os ∧ AllBare s'.gens) s0 := by
  have rel := vals_ints areInts
  -- an abstract heap in which the script alone may stand
  obtain ⟨H, one, sq, good, own⟩ : ∃ H : Hp, (∀ c, H c = none ∨ (c = a ∧ K.lookup c = none ∧ ∃ o xs, H c = some (.frz o (.lst xs)))) ∧ SqL K H a (ns.map V.int) ∧ HOk P w H s0.heap ∧ True := by
    cases look : K.lookup a with
    | some o =>
      have same := inK a o look
      rw [at_] at same
      cases same
      refine ⟨fun _ => none, fun _ => .inl rfl, .inr ⟨_, vs.toArray, _, look, rfl, rfl, rfl, ?_, ?_⟩, fun c u z => (by cases (show (none : Option HO) = some u from z)), trivial⟩
      · rw [List.size_toArray, areInts.length]; exact len
      · simpa using rel
    | none =>
      refine ⟨fun c => if c = a then some (.frz ⟨.type "list", none, .seq vs.toArray 0, #[]⟩ (.lst (ns.map V.int))) else none, fun c => ?_, .inl (.inr ⟨_, if_pos rfl⟩), fun c u z => ?_, trivial⟩
      · by_cases hc : c = a
        · exact .inr ⟨hc, by rw [hc]; exact look, _, _, if_pos hc⟩
        · exact .inl (if_neg hc)
      · by_cases hc : c = a
        · have z' := (if_pos hc).symm.trans z
          cases z'
          rw [hc]
          exact ⟨at_, by rw [List.length_map]; exact len, vs, _, rel, at_⟩
        · cases (if_neg hc).symm.trans z
  have under : ∀ {c : Addr} {o : Obj}, s0.heap.get? c = some o → H c = none → (hidT s0.heap H).get? c = some o := fun p q => hidT_get p q
  have noDict : ∀ {c : Addr} {o : Obj} {es : Array DictEntry} {ep : Nat}, s0.heap.get? c = some o → o.data = .dict es ep → H c = none := by
    intro c o es ep p q
    rcases one c with z | ⟨rfl, _, _⟩
    · exact z
    · rw [at_] at p
      cases p
      cases (show Data.seq vs.toArray _ = Data.dict es ep from q)
  have names : ∀ {c : Addr} {m : Str → Option Value}, s0.heap.Ns c m → (hidT s0.heap H).Ns c m := fun ⟨o, es, ep, p, q, r⟩ => ⟨o, es, ep, under p (noDict p q), q, r⟩
  have inBase : K.In (hidT s0.heap H) := by
    intro c o look
    refine under (inK c o look) ?_
    rcases one c with z | ⟨_, no, _⟩
    · exact z
    · rw [look] at no; cases no
  have md : Mod K mg (hidT s0.heap H) := by
    obtain ⟨mc, l1, l2⟩ := nl
    exact ⟨inBase, names gl, ⟨mb, names bl, bt⟩, ⟨mc, names l1, l2⟩⟩
  have e0 : Env0 P w K mg (hidT s0.heap H) callerA [] s0 H := by
    refine ⟨rfl, md, fun _ _ z => of_hidT z, Nat.le_of_eq (hidT_size _ _), trivial, ?_, good, .of_eq gens⟩
    intro c hc
    cases (show c ∈ ([] : List Addr) from hc)
  refine codeAny_mono ((F _ inBase (names gl)).runs callerA [] s0 H ⟨[.ref a], []⟩ [.ref a] [.ref a] _ _ rm rfl e0 (bind s0 (.ref a)) (.cons rfl .nil) (hsp H sq)) ?_
  intro rs s2 h
  cases rs with
  | error er => exact (CX_false h).elim
  | ok fl =>
    cases fl with
    | next => exact h.elim
    | brk => exact h.elim
    | cont => exact h.elim
    | ret u =>
      obtain ⟨v, H2, os, bare, un, ok2, rv, rfl⟩ := h
      cases rv
      refine ⟨rfl, OldK.of_keep ?_, os, bare⟩
      intro c o p
      rcases one c with z | ⟨_, _, ob, xs, z⟩
      · exact un.keep c o p z (fun m => by cases (show c ∈ ([] : List Addr) from m)) (fun m => by cases m)
      · obtain ⟨e1, _⟩ := good c _ z
        obtain ⟨e2, _⟩ := ok2 c _ (un.frzs c ob _ z)
        rw [p] at e1
        cases e1
        exact e2
theorem walkG {l : PySem.W.OpenLaw} {n k : Nat} {q : Program} {loose : List Str} {XP : (Str → Option Value) → Heap → Prop} {YP : World → Heap → Prop} {d : DefRec} {K : Params → PySem.W.Frag} {sp : World → Sp} {x : Str} (most : l.most = some n) (line : n ≤ sizeLine) (plain : d.params.defaults = []) (rm : Room k callerA)
    (inY : ∀ (w : World) (h : Heap), YP w h → (K w.params).In h)
    (F : ∀ (w : World) (mg : Str → Option Value) (fa : Addr) (h : Heap), (K w.params).In h → h.Ns mainGlobals mg → mg d.name = some (.ref fa) → ∃ fd : FuncData, (∀ (s : Shared) (u : Value), BindsTo s fd ⟨[u], []⟩ [(x, u)]) ∧ ∀ base : Heap, (K w.params).In base → base.Ns mainGlobals mg → FnG l.prog w (K w.params) mg base k fa fd [x] (sp w))
    (hsp : ∀ (w : World) (H : Hp) (a : Addr) (ns : List Int), ns.length ≤ n → SqL (K w.params) H a (ns.map V.int) → sp w [.ref a] H (fun v _ => v = .bl true) fun _ _ _ => False) : PySem.W.WalkO q loose XP YP l.row.toRowW d [] (fun f vs => PySem.call f vs) := by
  refine Att.attach_call most plain ?_
  intro w s0 s1 mg mb fa o pm cd doc a vs ns G Y h1 h2 h3 hmg at_ areInts len gens
  obtain ⟨fd, bd, hF⟩ := F w mg fa _ (inY w _ Y) G.T.g hmg
  exact lawG (inY w _ Y) G.T.g G.T.b G.T.builtins G.T.nolimit gens at_ areInts (Nat.le_trans len line) rm hF bd fun H sq => hsp w H a ns len sq

/-! ### what leaves no trace in the store -/
mutual
def D.pure : D → Bool
  | .ref _ => false
  | .tup l => D.pureAll l
  | .lst l => D.pureAll l
  | .frz l => D.pureAll l
  | _ => true
def D.pureAll : List D → Bool
  | [] => true
  | d :: l => D.pure d && D.pureAll l
end
open Classical in
noncomputable def pureF (F : List D → Store → Out D) (ds : List D) (S : Store) : Out D := match F ds S with
  | .ok d S1 => if D.pure d = true ∧ S1.take S.length = S then .ok d S else .no
  | .ex c fs S1 => if D.pureAll (fs.map (·.2)) = true ∧ S1.take S.length = S then .ex c fs S else .no
  | .no => .no
section
variable {K : PySem.W.Frag} {G : String → Addr} {ι ι' : Ad} {H H' : Hp}
theorem FzT.back (hp : Pre ι ι') {a : Addr} {xs : List V} (h : FzT K ι' H' a xs) : FzT K ι H' a xs := by
  rcases h with ⟨h, hn⟩ | h
  · refine .inl ⟨h, fun z => hn ?_⟩
    rcases z with z | z
    · exact .inl (hp.c.subset z)
    · exact .inr (by rw [← hp.x]; exact z)
  · exact .inr h
theorem FzL.back (hp : Pre ι ι') {a : Addr} {xs : List V} (h : FzL K ι' H' a xs) : FzL K ι H' a xs := by
  rcases h with ⟨h, hn⟩ | h
  · refine .inl ⟨h, fun z => hn ?_⟩
    rcases z with z | z
    · exact .inl (hp.c.subset z)
    · exact .inr (by rw [← hp.x]; exact z)
  · exact .inr h
theorem Pre.out (hp : Pre ι ι') {a : Addr} (hn : a ∉ ι') : a ∉ ι := fun z => hn (by
  rcases z with z | z
  · exact .inl (hp.c.subset z)
  · exact .inr (by rw [← hp.x]; exact z))
mutual
theorem Is.pureBack (hp : Pre ι ι') : ∀ {d : D} {v : V}, Is K G ι' H' d v → D.pure d = true → Is K G ι H' d v
  | _, _, .non, _ => .non
  | _, _, .bl b, _ => .bl b
  | _, _, .int i, _ => .int i
  | _, _, .str s, _ => .str s
  | _, _, .ty n, _ => .ty n
  | _, _, .glo n, _ => .glo n
  | _, _, .ref h, e => by simp [D.pure] at e
  | _, _, .tup h t, e => .tup (h.back hp) (IsAll.pureBack hp t (by simpa [D.pure] using e))
  | _, _, .lst h n t, e => .lst h (hp.out n) (IsAll.pureBack hp t (by simpa [D.pure] using e))
  | _, _, .frz h t, e => .frz (h.back hp) (IsAll.pureBack hp t (by simpa [D.pure] using e))
theorem IsAll.pureBack (hp : Pre ι ι') : ∀ {l : List D} {vs : List V}, IsAll K G ι' H' l vs → D.pureAll l = true → IsAll K G ι H' l vs
  | _, _, .nil, _ => .nil
  | _, _, .cons h t, e => by
    simp only [D.pureAll, Bool.and_eq_true] at e
    exact .cons (Is.pureBack hp h e.1) (IsAll.pureBack hp t e.2)
end
mutual
/-- what stood before still stands, whatever cells have come -/
theorem Is.back (hp : Pre ι ι') : ∀ {d : D} {v v0 : V}, Is K G ι' H' d v → Is K G ι H d v0 → Is K G ι H' d v
  | _, _, _, .non, _ => .non
  | _, _, _, .bl b, _ => .bl b
  | _, _, _, .int i, _ => .int i
  | _, _, _, .str s, _ => .str s
  | _, _, _, .ty n, _ => .ty n
  | _, _, _, .glo n, _ => .glo n
  | _, _, _, .ref h, .ref h0 => by
    have := pre_get hp.c h0
    rw [h] at this
    cases this
    exact .ref h0
  | _, _, _, .tup h t, .tup _ t0 => .tup (h.back hp) (IsAll.back hp t t0)
  | _, _, _, .lst h n t, .lst _ _ t0 => .lst h (hp.out n) (IsAll.back hp t t0)
  | _, _, _, .frz h t, .frz _ t0 => .frz (h.back hp) (IsAll.back hp t t0)
theorem IsAll.back (hp : Pre ι ι') : ∀ {l : List D} {vs vs0 : List V}, IsAll K G ι' H' l vs → IsAll K G ι H l vs0 → IsAll K G ι H' l vs
  | _, _, _, .nil, _ => .nil
  | _, _, _, .cons h t, .cons h0 t0 => .cons (Is.back hp h h0) (IsAll.back hp t t0)
end
theorem IsKV.back {κ : Type} (hp : Pre ι ι') : ∀ {l : List (κ × D)} {vs vs0 : List (κ × V)}, IsKV K G ι' H' l vs → IsKV K G ι H l vs0 → IsKV K G ι H' l vs
  | _, _, _, .nil, _ => .nil
  | _, _, _, .cons h t, .cons h0 t0 => .cons ⟨h.1, h.2.back hp h0.2⟩ (IsKV.back hp t t0)
theorem IsKV.pureBack {κ : Type} (hp : Pre ι ι') : ∀ {l : List (κ × D)} {vs : List (κ × V)}, IsKV K G ι' H' l vs → D.pureAll (l.map (·.2)) = true → IsKV K G ι H' l vs
  | _, _, .nil, _ => .nil
  | _, _, .cons h t, e => by
    rw [List.map_cons] at e
    simp only [D.pureAll, Bool.and_eq_true] at e
    exact .cons ⟨h.1, Is.pureBack hp h.2 e.1⟩ (IsKV.pureBack hp t e.2)
theorem CellIs.back (hp : Pre ι ι') {a a0 : Addr} {c : Cell} (h : CellIs K G ι' H' a c) (h0 : CellIs K G ι H a0 c) : CellIs K G ι H' a c := by
  cases c with
  | lst l => obtain ⟨vs, h1, h2⟩ := h; obtain ⟨_, _, h4⟩ := h0; exact ⟨vs, h1, h2.back hp h4⟩
  | dct l => obtain ⟨vs, h1, h2⟩ := h; obtain ⟨_, _, h4⟩ := h0; exact ⟨vs, h1, h2.back hp h4⟩
  | ins c l => obtain ⟨dx, vs, h1, h2⟩ := h; obtain ⟨_, _, _, h4⟩ := h0; exact ⟨dx, vs, h1, h2.back hp h4⟩
  | shut l => obtain ⟨dx, vs, h1, h2⟩ := h; obtain ⟨_, _, _, h4⟩ := h0; exact ⟨dx, vs, h1, h2.back hp h4⟩
theorem Rep.back {S S1 : Store} (r : Rep K G ι S H) (x : Ext ι H ι' H') (r1 : Rep K G ι' S1 H') (e : S1.take S.length = S) : Rep K G ι S H' := by
  refine ⟨r.nd, r.dis, fun a h => r1.hid a (by rw [← x.pre.x]; exact h), r.len, fun i a c h1 h2 => ?_⟩
  have hi : i < S.length := (List.getElem?_eq_some_iff.mp h2).1
  have h3 : S1[i]? = some c := by
    rw [← e, List.getElem?_take, if_pos hi] at h2
    exact h2
  exact (r1.cell i a c (pre_get x.pre.c h1) h3).back x.pre (r.cell i a c h1 h2)
theorem pure_ok {P : Program} {w : World} {mg : Str → Option Value} {base : Heap} {k n : Nat} {f : Addr} {fd : FuncData} {ps : List Str} {F : List D → Store → Out D} (h : FnG P w K mg base k f fd ps (spF K G n F)) : FnG P w K mg base k f fd ps (spF K G n (pureF F)) := by
  refine h.imp fun vs H Q E ⟨ι, S, ds, r, i, q⟩ => ⟨ι, S, ds, r, i, ?_⟩
  unfold callN at q ⊢
  split at q
  · rename_i hl
    rw [if_pos hl]
    unfold pureF at q
    cases hF : F ds S with
    | no => rw [hF] at q; exact q.elim
    | ok d S1 =>
      rw [hF] at q
      simp only at q
      split at q
      · rename_i hp
        intro ι' H' v x r1 i1
        exact q ι H' v ⟨Pre.refl _, x.keep, fun _ h => .inl h, x.frz⟩ (r.back x r1 hp.2) (i1.pureBack x.pre hp.1)
      · exact q.elim
    | ex c fs S1 =>
      rw [hF] at q
      simp only at q
      split at q
      · rename_i hp
        intro ι' H' dd ws x r1 hd i1
        exact q ι H' dd ws ⟨Pre.refl _, x.keep, fun _ h => .inl h, x.frz⟩ (r.back x r1 hp.2) hd (IsKV.pureBack x.pre i1 hp.1)
      · exact q.elim
  · exact q.elim
end
end DL

end

/-! ## DZ -/
section
set_option Elab.async false
set_option linter.all false
set_option maxRecDepth 100000
namespace DZ
open PySem PySem.Spec PyProof.Rows L2

/-! ### what an iterator over a tuple, a list, a text gives, as values that are told by V -/
def Gives (xs : List V) (i : Nat) (u : Value) : Prop := ∃ x, xs[i]? = some x ∧ RelV x u
structure Sce (P : Program) (w : World) (v : Value) (o : Obj) (ok : Heap → Prop) (rd : List Addr) (xs : List V) (St : Addr → Nat → Heap → Prop) : Prop where
  beg : Begins v o ok
  drw : ∀ (A : Around), A.handled = none → ∀ it, it ∉ rd → Draws P w A it (it :: rd) xs.length (Gives xs) (St it)
  frm : ∀ it i h h', St it i h → (∀ b ∈ it :: rd, ∀ ob, h.get? b = some ob → h'.get? b = some ob) → St it i h'
  zero : ∀ h it, ok h → h.get? it = some o → St it 0 h
  live : ∀ h it i, St it i h → ∀ b ∈ it :: rd, ∃ ob, h.get? b = some ob
  there : ∀ h, ok h → ∀ b ∈ rd, ∃ ob, h.get? b = some ob
theorem draws_imp {P : Program} {w : World} {A : Around} {it : Addr} {fp : List Addr} {n m : Nat} {R R' : Nat → Value → Prop} {St : Nat → Heap → Prop} (d : Draws P w A it fp n R St) (hn : n = m) (hr : ∀ i u, R i u → R' i u) : Draws P w A it fp m R' St := by
  subst hn
  exact ⟨d.live, d.frame, fun i s Q E hi st hQ => d.item i s Q E hi st fun x h' tk r => hQ x h' tk (hr i x r), d.done⟩
theorem gives_arr {xs : List V} {its : Array Value} (r : Vals xs its.toList) {i : Nat} {u : Value} (h : its[i]? = some u) : Gives xs i u := by
  have h' : its.toList[i]? = some u := by rw [Array.getElem?_toList]; exact h
  have hl := r.length
  have hi : i < xs.length := by
    have := (List.getElem?_eq_some_iff.mp h').1
    omega
  obtain ⟨u2, e2, r2⟩ := r.get (List.getElem?_eq_getElem hi)
  rw [h'] at e2
  cases e2
  exact ⟨_, List.getElem?_eq_getElem hi, r2⟩
theorem sce_tuple {P : Program} {w : World} {t : Addr} {its : Array Value} {xs : List V} (r : Vals xs its.toList) :
    Sce P w (.ref t) { cls := .type "tuple_iterator", data := .fields #[.ref t, .int 0 0] } (fun h => h.IsTuple t its) [t] xs (fun it i h => h.IsTupleIter it t i ∧ h.IsTuple t its) where
  beg := begins_tuple t its
  drw A hh it hn := draws_imp (Draws.tuple hh it t (fun e => hn (by simp [e])) its) (by have := r.length; simpa using this.symm) fun i u h => gives_arr r h
  frm it i h h' st k := ⟨st.1.at fun o e => k it (by simp) o e, st.2.at fun o e => k t (by simp) o e⟩
  zero h it a b := ⟨⟨_, b, rfl, rfl⟩, a⟩
  live h it i st b hb := by
    obtain ⟨⟨o1, h1, _⟩, ⟨o2, h2, _⟩⟩ := st
    rcases List.mem_cons.mp hb with e | hb
    · exact ⟨o1, by rw [e]; exact h1⟩
    · rw [List.mem_singleton.mp hb]; exact ⟨o2, h2⟩
  there h a b hb := by
    obtain ⟨o2, h2, _⟩ := a
    rw [List.mem_singleton.mp hb]; exact ⟨o2, h2⟩
theorem sce_list {P : Program} {w : World} {t : Addr} {its : Array Value} {xs : List V} (r : Vals xs its.toList) :
    Sce P w (.ref t) { cls := .type "list_iterator", data := .fields #[.ref t, .int 0 0] } (fun h => h.IsList t its) [t] xs (fun it i h => h.IsListIter it t i ∧ h.IsList t its) where
  beg := begins_list t its
  drw A hh it hn := draws_imp (Draws.list hh it t (fun e => hn (by simp [e])) its) (by have := r.length; simpa using this.symm) fun i u h => gives_arr r h
  frm it i h h' st k := ⟨st.1.at fun o e => k it (by simp) o e, st.2.at fun o e => k t (by simp) o e⟩
  zero h it a b := ⟨⟨_, b, rfl, rfl⟩, a⟩
  live h it i st b hb := by
    obtain ⟨⟨o1, h1, _⟩, ⟨o2, h2, _⟩⟩ := st
    rcases List.mem_cons.mp hb with e | hb
    · exact ⟨o1, by rw [e]; exact h1⟩
    · rw [List.mem_singleton.mp hb]; exact ⟨o2, h2⟩
  there h a b hb := by
    obtain ⟨o2, h2, _⟩ := a
    rw [List.mem_singleton.mp hb]; exact ⟨o2, h2⟩
def signsV (x : Str) : List V := x.cps.toList.map fun c => V.str ⟨#[c]⟩
theorem sce_text {P : Program} {w : World} {x : Str} {t : Tok} :
    Sce P w (.str x t) { cls := .type (strIterType x), data := .fields #[.str x t, .int 0 0] } (fun _ => True) [] (signsV x) (fun it i h => h.IsStrIter it (strIterType x) x t i) where
  beg := begins_text x t
  drw A hh it _ := draws_imp (Draws.text hh it x t) (by simp [signsV]) fun i u ⟨c, k, h, e⟩ => by
    subst e
    exact ⟨.str ⟨#[c]⟩, by simp [signsV, h], ⟨k, rfl⟩⟩
  frm it i h h' st k := let ⟨o, e, r⟩ := st; ⟨o, k it (by simp) o e, r⟩
  zero h it _ b := ⟨_, b, rfl, rfl⟩
  live h it i st b hb := by
    obtain ⟨o1, h1, _⟩ := st
    rw [List.mem_singleton.mp hb]; exact ⟨o1, h1⟩
  there h a b hb := by cases hb

/-! ### a zip whose last pair is still in use -/
section
variable {P : Program} {w : World} {A : Around} {E : Value → Shared → Prop} {s : Shared} {z TI TO T i1 i2 : Addr} {fp1 fp2 : List Addr} {n1 n2 i : Nat} {P1 P2 : Nat → Value → Prop} {St1 St2 : Nat → Heap → Prop} {f : Bool} {oT : Obj}
theorem held_item {Q : Value → Shared → Prop} (Z : ZipSep2 z TI TO i1 i2 fp1 fp2) (D1 : Draws P w A i1 fp1 n1 P1 St1) (D2 : Draws P w A i2 fp2 n2 P2 St2) (hz : IsZipHeld s.heap z TI TO T f) (hT : s.heap.get? T = some oT) (hp : IsTupOf2 s.heap TI (.ref i1) (.ref i2))
    (st1 : St1 i s.heap) (st2 : St2 i s.heap) (l1 : i < n1) (l2 : i < n2)
    (go : ∀ x y h' tk, P1 i x → P2 i y → IsZipHeld h' z TI TO T true → St1 (i + 1) h' → St2 (i + 1) h' → IsTupOf2 h' s.heap.objs.size x y → (∀ c o, c ≠ z → c ≠ i1 → c ≠ i2 → s.heap.get? c = some o → h'.get? c = some o) → Q (.ref s.heap.objs.size) { s with heap := h', toks := tk }) :
    wpAny (model P w) A (Builtin.«zip.__next__» ⟨[.ref z], []⟩) (fun r s' => ∃ v, r = .done (.ret v) ∧ Q v s') E s := by
  obtain ⟨hp0, gs, dd, t0, os⟩ := s
  show wpAny _ _ (field (.ref z) 2 >>= _) _ _ _
  refine wpAny_bind (wpAny_field hz rfl (x := .bool false) rfl ?_)
  show wpAny _ _ (field (.ref z) 3 >>= _) _ _ _
  refine wpAny_bind (wpAny_field hz rfl (x := .ref TI) rfl ?_)
  refine wpAny_bind (wpAny_seqItems hp rfl ?_)
  show wpAny _ _ (Builtin.SmallTypes.ownedTupleIsFree (.ref z) >>= _) _ _ _
  refine wpAny_bind (wpAny_tupleHeld_zip hz hT fun ha hza hsa => ?_)
  replace hsa : Heap.SameBut z hp0 ha := hsa
  simp only [Bool.false_eq_true, if_false]
  refine wpAny_bind ?_
  rw [← Array.forIn_toList]
  simp only [List.forIn_cons, List.forIn_nil]
  refine wpAny_bind (wpAny_bind (wpAny_holding ?_))
  show wpAny _ _ (Builtin.SmallTypes.nextOf (.ref i1) >>= _) _ _ ⟨ha, gs, dd, t0, os⟩
  refine wpAny_bind (D1.item i _ _ _ l1 (D1.over st1 hsa Z.zf1) fun x hb tb px sb hsb => wpAny_pure (wpAny_pure ?_))
  replace hsb : Heap.SameBut i1 ha hb := hsb
  refine wpAny_bind (wpAny_bind (wpAny_holding ?_))
  show wpAny _ _ (Builtin.SmallTypes.nextOf (.ref i2) >>= _) _ _ ⟨hb, gs, dd, tb, os⟩
  refine wpAny_bind (D2.item i _ _ _ l2 (D2.over (D2.over st2 hsa Z.zf2) hsb Z.sep1_2) fun y hc tc py sc hsc => wpAny_pure (wpAny_pure (wpAny_pure ?_)))
  replace hsc : Heap.SameBut i2 hb hc := hsc
  show wpAny _ _ (newTuple [x, y] >>= _) _ _ ⟨hc, gs, dd, tc, os⟩
  refine wpAny_bind (wpAny_newTuple (wpAny_pure ⟨_, rfl, ?_⟩))
  have es : hc.objs.size = hp0.objs.size := by rw [hsc.1, hsb.1, hsa.1]
  have hzc : IsZipHeld hc z TI TO T true := hsc.extBut _ _ Z.zi2 (hsb.extBut _ _ Z.zi1 hza)
  have k : ∀ c o, c ≠ z → c ≠ i1 → c ≠ i2 → hp0.get? c = some o → hc.get? c = some o := fun c o q1 q2 q3 e => hsc.extBut _ _ q3 (hsb.extBut _ _ q2 (hsa.extBut _ _ q1 e))
  have s1 : St1 (i + 1) hc := D1.over sb hsc Z.sep2_1
  have up : ∀ c o, hc.get? c = some o → (hc.push { cls := .type "tuple", data := .seq #[x, y] }).get? c = some o := fun c o e => Heap.get?_push_of_some _ e
  have new : IsTupOf2 (hc.push { cls := .type "tuple", data := .seq #[x, y] }) hc.objs.size x y := Heap.get?_push_size _ rfl
  show Q (.ref hc.objs.size) ⟨hc.push { cls := .type "tuple", data := .seq #[x, y] }, gs, dd, tc, os⟩
  rw [es] at new ⊢
  exact go x y _ tc px py (up _ _ hzc) (D1.frame _ _ _ s1 fun b _ o e => up b o e) (D2.frame _ _ _ sc fun b _ o e => up b o e) new fun c o q1 q2 q3 e => up c o (k c o q1 q2 q3 e)
theorem held_end {Q : Fin → Shared → Prop} (Z : ZipSep2 z TI TO i1 i2 fp1 fp2) (D1 : Draws P w A i1 fp1 n1 P1 St1) (D2 : Draws P w A i2 fp2 n2 P2 St2) (hz : IsZipHeld s.heap z TI TO T f) (hT : s.heap.get? T = some oT) (hp : IsTupOf2 s.heap TI (.ref i1) (.ref i2))
    (st1 : St1 i s.heap) (st2 : St2 i s.heap) (l1 : i ≤ n1) (l2 : i ≤ n2) (fin : i = n1 ∨ i = n2)
    (go : ∀ h' tk e, (∀ c o, c ≠ z → c ≠ i1 → c ≠ i2 → s.heap.get? c = some o → h'.get? c = some o) → (∃ o, h'.get? e = some o ∧ o.cls = .type "StopIteration") → E (.ref e) { s with heap := h', toks := tk }) :
    wpAny (model P w) A (Builtin.«zip.__next__» ⟨[.ref z], []⟩) Q E s := by
  obtain ⟨hp0, gs, dd, t0, os⟩ := s
  show wpAny _ _ (field (.ref z) 2 >>= _) _ _ _
  refine wpAny_bind (wpAny_field hz rfl (x := .bool false) rfl ?_)
  show wpAny _ _ (field (.ref z) 3 >>= _) _ _ _
  refine wpAny_bind (wpAny_field hz rfl (x := .ref TI) rfl ?_)
  refine wpAny_bind (wpAny_seqItems hp rfl ?_)
  show wpAny _ _ (Builtin.SmallTypes.ownedTupleIsFree (.ref z) >>= _) _ _ _
  refine wpAny_bind (wpAny_tupleHeld_zip hz hT fun ha hza hsa => ?_)
  replace hsa : Heap.SameBut z hp0 ha := hsa
  simp only [Bool.false_eq_true, if_false]
  refine wpAny_bind ?_
  rw [← Array.forIn_toList]
  simp only [List.forIn_cons, List.forIn_nil]
  refine wpAny_bind (wpAny_bind (wpAny_holding ?_))
  show wpAny _ _ (Builtin.SmallTypes.nextOf (.ref i1) >>= _) _ _ ⟨ha, gs, dd, t0, os⟩
  by_cases h1 : i < n1
  · refine wpAny_bind (D1.item i _ _ _ h1 (D1.over st1 hsa Z.zf1) fun x hb tb px sb hsb => wpAny_pure (wpAny_pure ?_))
    replace hsb : Heap.SameBut i1 ha hb := hsb
    have e2 : i = n2 := by omega
    refine wpAny_bind (wpAny_bind (wpAny_holding ?_))
    show wpAny _ _ (Builtin.SmallTypes.nextOf (.ref i2) >>= _) _ _ ⟨hb, gs, dd, tb, os⟩
    refine wpAny_bind (D2.done ⟨hb, gs, dd, tb, os⟩ _ _ (by rw [← e2]; exact D2.over (D2.over st2 hsa Z.zf2) hsb Z.sep1_2) fun q e hq he => ?_)
    replace hq : Heap.ExtBut i2 hb q := hq
    exact go q tb e (fun c o q1 q2 q3 x => hq _ _ q3 (hsb.extBut _ _ q2 (hsa.extBut _ _ q1 x))) he
  · have e1 : i = n1 := by omega
    refine wpAny_bind (D1.done ⟨ha, gs, dd, t0, os⟩ _ _ (by rw [← e1]; exact D1.over st1 hsa Z.zf1) fun q e hq he => ?_)
    replace hq : Heap.ExtBut i1 ha q := hq
    exact go q t0 e (fun c o q1 q2 q3 x => hq _ _ q2 (hsa.extBut _ _ q1 x)) he
theorem next_held {Q : Option Value → Shared → Prop} (Z : ZipSep2 z TI TO i1 i2 fp1 fp2) (D1 : Draws P w A.in1 i1 fp1 n1 P1 St1) (D2 : Draws P w A.in1 i2 fp2 n2 P2 St2) (hz : IsZipHeld s.heap z TI TO T f) (hT : s.heap.get? T = some oT) (hp : IsTupOf2 s.heap TI (.ref i1) (.ref i2))
    (st1 : St1 i s.heap) (st2 : St2 i s.heap) (l1 : i < n1) (l2 : i < n2)
    (go : ∀ x y h' tk, P1 i x → P2 i y → IsZipHeld h' z TI TO T true → St1 (i + 1) h' → St2 (i + 1) h' → IsTupOf2 h' s.heap.objs.size x y → (∀ c o, c ≠ z → c ≠ i1 → c ≠ i2 → s.heap.get? c = some o → h'.get? c = some o) → Q (some (.ref s.heap.objs.size)) { s with heap := h', toks := tk }) :
    wpAny (model P w) A (pyNext (.ref z)) Q E s := by
  have ty : s.TypeIs (.ref z) "zip" := ⟨_, hz, rfl⟩
  unfold pyNext
  exact wpAny_bind (wpAny_attempt (wpAny_callSpecial?_slot (name := Str.ofString "__next__") ty F.slot_zip_next
    (wpAny_call_entry F.slot_zip_next ty F.entry_zip_next (held_item Z D1 D2 hz hT hp st1 st2 l1 l2 fun x y h' tk a b c d e f' g => wpAny_pure (go x y h' tk a b c d e f' g)) (F.args_zip_next_1 _))))
theorem stop_held {Q : Option Value → Shared → Prop} (Z : ZipSep2 z TI TO i1 i2 fp1 fp2) (D1 : Draws P w A.in1 i1 fp1 n1 P1 St1) (D2 : Draws P w A.in1 i2 fp2 n2 P2 St2) (hz : IsZipHeld s.heap z TI TO T f) (hT : s.heap.get? T = some oT) (hp : IsTupOf2 s.heap TI (.ref i1) (.ref i2))
    (st1 : St1 i s.heap) (st2 : St2 i s.heap) (l1 : i ≤ n1) (l2 : i ≤ n2) (fin : i = n1 ∨ i = n2)
    (go : ∀ h' tk, (∀ c o, c ≠ z → c ≠ i1 → c ≠ i2 → s.heap.get? c = some o → h'.get? c = some o) → Q none { s with heap := h', toks := tk }) : wpAny (model P w) A (pyNext (.ref z)) Q E s := by
  have ty : s.TypeIs (.ref z) "zip" := ⟨_, hz, rfl⟩
  unfold pyNext
  refine wpAny_bind (wpAny_attempt (wpAny_callSpecial?_slot (name := Str.ofString "__next__") ty F.slot_zip_next
    (wpAny_call_entry F.slot_zip_next ty F.entry_zip_next (held_end Z D1 D2 hz hT hp st1 st2 l1 l2 fin fun h' tk e hk he => ?_) (F.args_zip_next_1 _))))
  obtain ⟨o, ho, hc⟩ := he
  exact wpAny_bind (wpAny_isInstance (T := "StopIteration") (b := true) ⟨o, ho, hc⟩ isSubtype_stop (wpAny_pure (go _ _ hk)))
end
end DZ

end

/-! ## DZ1 -/
section
set_option Elab.async false
set_option linter.all false
set_option maxRecDepth 100000
namespace DZ
open PySem PySem.Spec PyProof.Rows L2

/-- a zip of two sources as what dict(..) takes -/
theorem pairs_zip {P : Program} {w : World} {v1 v2 : Value} {o1 o2 : Obj} {ok1 ok2 : Heap → Prop} {rd1 rd2 : List Addr} {xs ys : List V} {St1 St2 : Addr → Nat → Heap → Prop} {z TI TO i1 i2 : Addr}
    (S1 : Sce P w v1 o1 ok1 rd1 xs St1) (S2 : Sce P w v2 o2 ok2 rd2 ys St2) (Z : ZipSep2 z TI TO i1 i2 (i1 :: rd1) (i2 :: rd2)) (m1 : i1 ∉ rd1) (m2 : i2 ∉ rd2) :
    PairArg P w "zip" z (z :: TI :: TO :: ((i1 :: rd1) ++ (i2 :: rd2))) [z, TO, i1, i2] (min xs.length ys.length) (fun i k v => Gives xs i k ∧ Gives ys i v)
      (fun h => IsZip h z TI TO .none ∧ IsTupOf2 h TI (.ref i1) (.ref i2) ∧ (∃ a b, IsTupOf2 h TO a b) ∧ St1 i1 0 h ∧ St2 i2 0 h) where
  type s a := ⟨_, a.1, rfl⟩
  notDict := by decide
  keep h h' a k := by
    obtain ⟨hz, hp, ⟨x, y, ho⟩, s1, s2⟩ := a
    exact ⟨k _ _ hz, k _ _ hp, ⟨x, y, k _ _ ho⟩, S1.frm _ _ _ _ s1 fun b _ o e => k b o e, S2.frm _ _ _ _ s2 fun b _ o e => k b o e⟩
  there h a b hb := by
    obtain ⟨hz, hp, ⟨x, y, ho⟩, s1, s2⟩ := a
    rcases List.mem_cons.mp hb with e | hb
    · exact ⟨_, by rw [e]; exact hz⟩
    rcases List.mem_cons.mp hb with e | hb
    · exact ⟨_, by rw [e]; exact hp⟩
    rcases List.mem_cons.mp hb with e | hb
    · exact ⟨_, by rw [e]; exact ho⟩
    rcases List.mem_append.mp hb with hb | hb
    · exact S1.live h i1 0 s1 b hb
    · exact S2.live h i2 0 s2 b hb
  sub b hb := by
    simp only [List.mem_cons, List.not_mem_nil, or_false, List.mem_append] at hb ⊢
    rcases hb with e | e | e | e <;> simp [e]
  noKeys A s Q E hA a h := getAttrOr_miss_zip a.1 rfl rfl rfl zip_no_keys (by decide +kernel) hA h
  iter A s d Q E hA a hd hdf h := by
    obtain ⟨hz, hp, ⟨x, y, ho⟩, s1, s2⟩ := a
    have dz : d ≠ z := fun e => hdf (by simp [e])
    have dI : d ≠ TI := fun e => hdf (by simp [e])
    have dO : d ≠ TO := fun e => hdf (by simp [e])
    have d1 : ∀ b ∈ i1 :: rd1, b ≠ d := fun b hb e => hdf (by rw [← e]; exact List.mem_cons_of_mem _ (List.mem_cons_of_mem _ (List.mem_cons_of_mem _ (List.mem_append_left _ hb))))
    have d2 : ∀ b ∈ i2 :: rd2, b ≠ d := fun b hb e => hdf (by rw [← e]; exact List.mem_cons_of_mem _ (List.mem_cons_of_mem _ (List.mem_cons_of_mem _ (List.mem_append_right _ hb))))
    have W1 := S1.drw A.in1 hA i1 m1
    have W2 := S2.drw A.in1 hA i2 m2
    refine wpAny_pyIter_zip hz (h z [z, TO, i1, i2] (fun i h => IsTupOf2 h TI (.ref i1) (.ref i2) ∧ St1 i1 i h ∧ St2 i2 i h ∧
      ((IsZip h z TI TO .none ∧ ∃ a b, IsTupOf2 h TO a b) ∨ ∃ T f oT, IsZipHeld h z TI TO T f ∧ h.get? T = some oT ∧ T ≠ z ∧ T ≠ i1 ∧ T ≠ i2 ∧ T ≠ d)) s.heap s.toks ?_
      ⟨hp, s1, s2, .inl ⟨hz, x, y, ho⟩⟩ (fun _ _ e => e) fun b hb => .inl hb)
    exact {
      off := fun hm => by
        simp only [List.mem_cons, List.not_mem_nil, or_false] at hm
        rcases hm with e | e | e | e
        · exact dz e
        · exact dO e
        · exact d1 i1 (by simp) e.symm
        · exact d2 i2 (by simp) e.symm
      frame := fun i h1 h2 st hk => by
        obtain ⟨p, a1, a2, q⟩ := st
        refine ⟨hk _ _ dI.symm p, S1.frm _ _ _ _ a1 fun b hb o e => hk b o (d1 b hb) e, S2.frm _ _ _ _ a2 fun b hb o e => hk b o (d2 b hb) e, ?_⟩
        rcases q with ⟨hz, a, b, hTO⟩ | ⟨T, f, oT, hz, hT, r1, r2, r3, r4⟩
        · exact .inl ⟨hk _ _ dz.symm hz, a, b, hk _ _ dO.symm hTO⟩
        · exact .inr ⟨T, f, oT, hk _ _ dz.symm hz, hk _ _ r4 hT, r1, r2, r3, r4⟩
      item := fun i s' Q' E' hi st hds hQ => by
        obtain ⟨p, a1, a2, q⟩ := st
        have l1 : i < xs.length := by omega
        have l2 : i < ys.length := by omega
        have lt : ∀ {c ob}, s'.heap.get? c = some ob → s'.heap.objs.size ≠ c := fun e => Nat.ne_of_gt (Heap.lt_size e)
        have e1 : s'.heap.objs.size ≠ i1 := let ⟨_, e⟩ := S1.live _ _ _ a1 i1 (by simp); lt e
        have e2 : s'.heap.objs.size ≠ i2 := let ⟨_, e⟩ := S2.live _ _ _ a2 i2 (by simp); lt e
        rcases q with ⟨hz, a, b, hTO⟩ | ⟨T, f, oT, hz, hT, r1, r2, r3, r4⟩
        · refine wpAny_pyNext_zipD2_item Z W1 W2 hz p hTO a1 a2 l1 l2 fun x1 x2 h' tk g1 g2 b1 b2 t1 t2 b5 b6 hk => ?_
          refine hQ s'.heap.objs.size _ _ h' tk ⟨g1, g2⟩ (.inl ⟨_, b5, rfl, _, rfl⟩) ⟨hk _ _ Z.TIz Z.TITO Z.TIi1 Z.TIi2 p, t1, t2, .inr ⟨s'.heap.objs.size, false, _, b1, b5, lt hz, e1, e2, Nat.ne_of_gt hds⟩⟩ ?_
          exact fun c o hc e => hk c o (fun x => hc (by simp [x])) (fun x => hc (by simp [x])) (fun x => hc (by simp [x])) (fun x => hc (by simp [x])) e
        · refine next_held Z W1 W2 hz hT p a1 a2 l1 l2 fun x1 x2 h' tk g1 g2 b1 t1 t2 b5 hk => ?_
          refine hQ s'.heap.objs.size _ _ h' tk ⟨g1, g2⟩ (.inl ⟨_, b5, rfl, _, rfl⟩) ⟨hk _ _ Z.TIz Z.TIi1 Z.TIi2 p, t1, t2, .inr ⟨T, true, oT, b1, hk _ _ r1 r2 r3 hT, r1, r2, r3, r4⟩⟩ ?_
          exact fun c o hc e => hk c o (fun x => hc (by simp [x])) (fun x => hc (by simp [x])) (fun x => hc (by simp [x])) e
      done := fun s' Q' E' st hQ => by
        obtain ⟨p, a1, a2, q⟩ := st
        have l1 : min xs.length ys.length ≤ xs.length := Nat.min_le_left ..
        have l2 : min xs.length ys.length ≤ ys.length := Nat.min_le_right ..
        have fin : min xs.length ys.length = xs.length ∨ min xs.length ys.length = ys.length := by omega
        rcases q with ⟨hz, a, b, hTO⟩ | ⟨T, f, oT, hz, hT, r1, r2, r3, r4⟩
        · exact wpAny_pyNext_zipD2_end Z W1 W2 hz p hTO a1 a2 l1 l2 fin fun h' tk hk => hQ h' tk fun c o hc e => hk c o (fun x => hc (by simp [x])) (fun x => hc (by simp [x])) (fun x => hc (by simp [x])) (fun x => hc (by simp [x])) e
        · exact stop_held Z W1 W2 hz hT p a1 a2 l1 l2 fin fun h' tk hk => hQ h' tk fun c o hc e => hk c o (fun x => hc (by simp [x])) (fun x => hc (by simp [x])) (fun x => hc (by simp [x])) e }
end DZ

end

/-! ## DZ2 -/
section
set_option Elab.async false
set_option linter.all false
set_option maxRecDepth 100000
namespace DZ
open PySem PySem.Spec PyProof.Rows L2
theorem mergeK_succ (kvs : List (Key × V)) {i : Nat} {p : Key × V} (h : kvs[i]? = some p) : mergeK [] (kvs.take (i + 1)) = putK (mergeK [] (kvs.take i)) p.1 p.2 := by
  unfold mergeK
  rw [List.take_add_one, h, List.foldl_append]
  rfl
theorem call_dictZ {P : Program} {w : World} {A : Around} {E : Value → Shared → Prop} {s : Shared} {v1 v2 : Value} {o1 o2 : Obj} {ok1 ok2 : Heap → Prop} {rd1 rd2 : List Addr} {ks : List Key} {ys : List V} {St1 St2 : Addr → Nat → Heap → Prop} {z TI TO i1 i2 : Addr} {Q : Value → Shared → Prop}
    (S1 : Sce P w v1 o1 ok1 rd1 (ks.map kV) St1) (S2 : Sce P w v2 o2 ok2 rd2 ys St2) (Z : ZipSep2 z TI TO i1 i2 (i1 :: rd1) (i2 :: rd2)) (m1 : i1 ∉ rd1) (m2 : i2 ∉ rd2) (hh : A.handled = none) (hl : ks.length ≤ sizeLine)
    (ok : IsZip s.heap z TI TO .none ∧ IsTupOf2 s.heap TI (.ref i1) (.ref i2) ∧ (∃ a b, IsTupOf2 s.heap TO a b) ∧ St1 i1 0 s.heap ∧ St2 i2 0 s.heap)
    (h : ∀ h' tk acc, KV (mergeK [] (ks.zip ys)) acc → h'.DictOf (mixKind P w) s.heap.objs.size acc → (∀ b o, b ∉ [z, TO, i1, i2] → s.heap.get? b = some o → h'.get? b = some o) → Q (.ref s.heap.objs.size) { s with heap := h', toks := tk }) :
    wpAny (model P w) A (call (.type "dict") [.ref z]) Q E s := by
  have PZ := pairs_zip S1 S2 Z m1 m2
  have nl : (ks.zip ys).length = min (ks.map kV).length ys.length := by rw [List.length_zip, List.length_map]
  refine call_dict_arg PZ ok fun s1 hs1 hdf ok1 => ?_
  subst hs1
  refine updateFrom_arg (A := A.in1) (Tab := fun i h => ∃ acc, KV (mergeK [] ((ks.zip ys).take i)) acc ∧ h.DictOf (mixKind P w) s.heap.objs.size acc) PZ .none hh ok1 hdf ⟨[], .nil, Heap.DictOf.new s.heap⟩ (fun _ _ ⟨_, _, t⟩ => t.lt_size) (fun i h h' wr' hd _ ⟨acc, r, t⟩ hk => ⟨acc, r, t.at' fun o e => hk _ o hd e⟩) ?_ ?_
  · intro i k v s' Q' E' hi hr tb _ hQ
    obtain ⟨acc, r, t⟩ := tb
    obtain ⟨⟨x, ex, rx⟩, ⟨y, ey, ry⟩⟩ := hr
    rw [List.getElem?_map] at ex
    cases hk : ks[i]? with
    | none => rw [hk] at ex; cases ex
    | some key =>
      rw [hk] at ex
      cases ex
      have hz : (ks.zip ys)[i]? = some (key, y) := by rw [List.getElem?_zip_eq_some]; exact ⟨hk, ey⟩
      refine wpAny_dictSet_pairs (knd := mixKind P w) (kV_is rx) t (fun h' t' hs => hQ h' _ ⟨_, ?_, t'⟩ hs) ?_
      · rw [mergeK_succ _ hz]
        exact r.put key ry
      · rw [← r.length]
        refine Nat.le_trans (length_mergeK _ _) ?_
        rw [List.length_nil, Nat.zero_add, List.length_take]
        have : i < ks.length := (List.getElem?_eq_some_iff.mp hk).1
        omega
  · intro h' tk ⟨acc, r, t⟩ hk
    rw [← nl, List.take_length] at r
    exact ⟨rfl, h h' tk acc r t fun b o hw e => hk b o (Nat.ne_of_lt (Heap.lt_size e)) hw (Heap.get?_push_of_some _ e)⟩

theorem adNe {a b : Nat} (h : a ≠ b) : @Ne Addr a b := h
theorem adOut {n k : Nat} {rd : List Addr} (h : ∀ b ∈ rd, b < n) (hk : n ≤ k) : (k : Addr) ∉ rd := fun m => Nat.lt_irrefl _ (Nat.lt_of_lt_of_le (h k m) hk)
theorem adOut' {n k j : Nat} {rd : List Addr} (h : ∀ b ∈ rd, b < n) (hk : n ≤ k) (hj : k ≠ j) : (k : Addr) ∉ (j : Addr) :: rd := fun m => by
  rcases List.mem_cons.mp m with e | m
  · exact hj e
  · exact adOut h hk m
theorem zip_apart {n : Nat} {rd1 rd2 : List Addr} (h1 : ∀ b ∈ rd1, b < n) (h2 : ∀ b ∈ rd2, b < n) : ZipSep2 (n + 4) (n + 2) (n + 3) n (n + 1) (n :: rd1) ((n + 1) :: rd2) where
  TIz := adNe (by omega)
  TOz := adNe (by omega)
  TITO := adNe (by omega)
  TIi1 := adNe (by omega)
  mem1 := by simp
  zf1 := adOut' h1 (by omega) (by omega)
  Tf1 := adOut' h1 (by omega) (by omega)
  TIi2 := adNe (by omega)
  mem2 := by simp
  zf2 := adOut' h2 (by omega) (by omega)
  Tf2 := adOut' h2 (by omega) (by omega)
  sep1_2 := adOut' h2 (by omega) (by omega)
  sep2_1 := adOut' h1 (by omega) (by omega)

/-! ### sources as the abstract heap tells them -/
def SrcV (K : PySem.W.Frag) (H : Hp) (v : V) (xs : List V) : Prop := (∃ a, v = .ref a ∧ (SqT K H a xs ∨ SqL K H a xs)) ∨ ∃ x, v = .str x ∧ xs = signsV x
theorem src_of {X : Cx} {pins : List (Addr × Obj)} {σ : L2.St} {H : Hp} {s : Shared} {v : V} {u : Value} {xs : List V} (I : Inv X pins σ H s) (r : RelV v u) (h : SrcV X.K H v xs) :
    ∃ (o : Obj) (ok : Heap → Prop) (rd : List Addr) (st : Addr → Nat → Heap → Prop), Sce X.prog X.w u o ok rd xs st ∧ ok s.heap ∧ (∀ b ∈ rd, b < s.heap.objs.size) := by
  rcases h with ⟨a, rfl, h | h⟩ | ⟨x, rfl, rfl⟩
  · cases r
    obtain ⟨its, rv, p, _⟩ := I.tuple h
    have p' : s.heap.IsTuple a its.toArray := p
    refine ⟨_, _, _, _, sce_tuple (its := its.toArray) (by simpa using rv), p', fun b hb => ?_⟩
    rw [List.mem_singleton.mp hb]
    obtain ⟨_, e, _⟩ := p'
    exact Heap.lt_size e
  · cases r
    obtain ⟨its, rv, p, _⟩ := I.list h
    have p' : s.heap.IsList a its.toArray := p.isList
    refine ⟨_, _, _, _, sce_list (its := its.toArray) (by simpa using rv), p', fun b hb => ?_⟩
    rw [List.mem_singleton.mp hb]
    obtain ⟨_, e, _⟩ := p'
    exact Heap.lt_size e
  · obtain ⟨t, rfl⟩ := r
    exact ⟨_, _, _, _, sce_text, trivial, fun b hb => by cases hb⟩
/-- the cells of a new zip -/
theorem call_zipS {X : Cx} {pins : List (Addr × Obj)} {σ : L2.St} {H : Hp} {s : Shared} {v1 v2 : V} {u1 u2 : Value} {xs ys : List V} {Q : Value → Shared → Prop} {E : Value → Shared → Prop} (I : Inv X pins σ H s) (r1 : RelV v1 u1) (r2 : RelV v2 u2) (h1 : SrcV X.K H v1 xs) (h2 : SrcV X.K H v2 ys)
    (go : ∀ (z TI TO i1 i2 : Addr) (o1 o2 : Obj) (ok1 ok2 : Heap → Prop) (rd1 rd2 : List Addr) (St1 St2 : Addr → Nat → Heap → Prop) (h' : Heap), Sce X.prog X.w u1 o1 ok1 rd1 xs St1 → Sce X.prog X.w u2 o2 ok2 rd2 ys St2 → ZipSep2 z TI TO i1 i2 (i1 :: rd1) (i2 :: rd2) → i1 ∉ rd1 → i2 ∉ rd2 →
      (IsZip h' z TI TO .none ∧ IsTupOf2 h' TI (.ref i1) (.ref i2) ∧ (∃ a b, IsTupOf2 h' TO a b) ∧ St1 i1 0 h' ∧ St2 i2 0 h') → (∀ b ∈ [z, TO, i1, i2], s.heap.objs.size ≤ b) → (∀ c o, s.heap.get? c = some o → h'.get? c = some o) → Q (.ref z) { s with heap := h' }) :
    wpAny (model X.prog X.w) X.A (call (.type "zip") [u1, u2]) Q E s := by
  obtain ⟨o1, ok1, rd1, St1, S1, k1, b1⟩ := src_of I r1 h1
  obtain ⟨o2, ok2, rd2, St2, S2, k2, b2⟩ := src_of I r2 h2
  refine zip_begins2 S1.beg S2.beg k1 k2 fun h' hz hTI hTO g1 g2 hs hk => ?_
  refine go _ _ _ _ _ o1 o2 ok1 ok2 rd1 rd2 St1 St2 h' S1 S2 (zip_apart b1 b2) (adOut b1 (Nat.le_refl _)) (adOut b2 (Nat.le_succ _))
    ⟨hz, hTI, ⟨_, _, hTO⟩, S1.zero _ _ (S1.beg.keeps _ _ k1 hk) g1, S2.zero _ _ (S2.beg.keeps _ _ k2 hk) g2⟩ (fun b hb => ?_) hk
  simp only [List.mem_cons, List.not_mem_nil, or_false] at hb
  rcases hb with e | e | e | e <;> rw [e]
  · exact Nat.le_add_right _ _
  · exact Nat.le_add_right _ _
  · exact Nat.le_refl _
  · exact Nat.le_add_right _ _
end DZ

end

/-! ## DZ3 -/
section
set_option Elab.async false
set_option linter.all false
set_option maxRecDepth 100000
namespace DZ
open PySem PySem.Spec PyProof.Rows L2
/-- dict(zip(a, b)): as the abstract heap tells it -/
def tDictZ (K : PySem.W.Frag) (ta : TA) : TE := fun σ H Q => ta σ H fun vs H1 => ∃ (a : Addr) (v2 : V) (ks : List Key) (ys : List V), vs = [.ref a, v2] ∧ (SqT K H1 a (ks.map kV) ∨ SqL K H1 a (ks.map kV)) ∧ SrcV K H1 v2 ys ∧ ∀ p, H1 p = none → Q (.ref p) (upd H1 p (.dK (mergeK [] (ks.zip ys))))
theorem boot_dictT : bootBuiltins "dict" = some (.type "dict") := by decide +kernel
theorem pe_dictZ {X : Cx} {a b : Expr} {ta : TA} {p p2 pos pos2 : Pos} (hc : X.calm = true) (hg : Gl X "dict") (hm : X.mg "dict" = none) (hg2 : Gl X "zip") (hm2 : X.mg "zip" = none) (ha : PA X [a, b] ta)
    (hs : starEach [a, b] X.env = (false, eval a X.env) :: starEach [b] X.env := by rfl) (hpl : (backTo pos2 (starEach [b] X.env)).any (·.1) = false := by rfl)
    (hs2 : starEach [Expr.Call (.Name "zip" p2) [a, b] [] pos2] X.env = (false, eval (Expr.Call (.Name "zip" p2) [a, b] [] pos2) X.env) :: starEach [] X.env := by rfl) (hpl2 : (backTo pos (starEach [] X.env)).any (·.1) = false := by rfl) :
    PE X (.Call (.Name "dict" p) [.Call (.Name "zip" p2) [a, b] [] pos2] [] pos) (tDictZ X.K ta) := by
  refine ⟨fun pins s σ H Q I h => ?_⟩
  refine Call_ (ld_blt I hg hm boot_dictT (PyProof.Rows.callWith_type1 ?_ hs2 hpl2))
  rw [hs2]
  show wpAny _ _ (spliced ((false, eval (Expr.Call (.Name "zip" p2) [a, b] [] pos2) X.env) :: backTo pos (starEach [] X.env))) _ _ s
  refine Calls.spliced_cons (Call_ (ld_blt I hg2 hm2 PyProof.Rows.boot_zip (PyProof.Rows.callWith_type1 (thn (ha.run pos2 pins s σ H _ I h) fun us s1 ⟨vs, H1, I1, r1, q1⟩ => ?_) hs hpl)))
  obtain ⟨t, v2, ks, ys, rfl, hq, hy, q⟩ := q1
  cases r1 with
  | cons ra rr =>
    cases rr with
    | cons rb rr =>
      cases rr
      have sz : ks.length ≤ sizeLine := by
        rcases hq with hq | hq
        · obtain ⟨_, _, _, z⟩ := I1.tuple hq; simpa using z
        · obtain ⟨_, _, _, z⟩ := I1.list hq; simpa using z
      refine call_zipS I1 ra rb (.inl ⟨t, rfl, hq⟩) hy fun z TI TO i1 i2 o1 o2 ok1 ok2 rd1 rd2 St1 St2 h' S1 S2 Z m1 m2 ok new hk => ?_
      have I2 : Inv X pins σ H1 { s1 with heap := h' } := I1.kept (t' := s1.toks) hk
      refine Calls.spliced_nil ?_
      refine call_dictZ (s := { s1 with heap := h' }) S1 S2 Z m1 m2 (I1.ok.hd hc) sz ok fun h2 tk acc kv dd k2 => ?_
      have hsz : s1.heap.objs.size ≤ h'.objs.size := by
        rcases Nat.lt_or_ge h'.objs.size s1.heap.objs.size with c | c
        · exfalso
          have zz := ok.1
          exact Nat.lt_irrefl _ (Nat.lt_of_lt_of_le (Nat.lt_trans (Heap.lt_size zz) c) (new z (by simp)))
        · exact c
      have k3 : ∀ c o, s1.heap.get? c = some o → h2.get? c = some o := fun c o e => k2 c o (fun m => by have n4 := new c m; exact absurd (Heap.lt_size e) (Nat.not_lt.mpr n4)) (hk c o e)
      have hm3 : (h'.objs.size == sysModules) = false := beq_eq_false_iff_ne.mpr (Nat.ne_of_gt (Nat.lt_of_lt_of_le I1.big hsz))
      have hlen : (mergeK [] (ks.zip ys)).length ≤ sizeLine := by
        refine Nat.le_trans (length_mergeK _ []) ?_
        rw [List.length_nil, Nat.zero_add, List.length_zip]
        exact Nat.le_trans (Nat.min_le_left _ _) sz
      exact ⟨.ref h'.objs.size, upd H1 h'.objs.size (.dK (mergeK [] (ks.zip ys))), I1.laid (t' := tk) k3 hsz (show ObjOk X.prog X.w _ _ _ (.dK (mergeK [] (ks.zip ys))) from ⟨hlen, hm3, acc, kv, dd⟩), rfl, q _ (I1.hok.fresh hsz)⟩
end DZ

namespace DL
open PySem PySem.Spec PyProof.Rows L2 DZ
def keysOf : List D → Option (List Key)
  | [] => some []
  | d :: l => match keyOf d, keysOf l with
    | some k, some ks => some (k :: ks)
    | _, _ => none
def seqR (S : Store) (d : D) : Option (List D) := match d with
  | .str _ => none
  | d => (seqI S d).map (·.1)
def mDictZ (m : MA) : M := fun ρ S => (m ρ S).bind fun ds S1 => match ds with
  | [d, e] => match seqR S1 d, seqI S1 e with
    | some l, some r => match keysOf l with
      | some ks => .ok (.ref S1.length) (S1 ++ [.dct ((ks.zip r.1).foldl (fun acc kv => putD acc kv.1 kv.2) [])])
      | none => .no
    | _, _ => .no
  | _ => .no
section
variable {X : Cx} {G : String → Addr} {W : WX} {K : PySem.W.Frag} {ι : Ad} {H : Hp} {S : Store}
theorem signs_is : ∀ (l : List Nat), IsAll K G ι H (l.map fun c => D.str ⟨#[c]⟩) (l.map fun c => V.str ⟨#[c]⟩)
  | [] => .nil
  | c :: l => .cons (.str _) (signs_is l)
theorem src_is {d : D} {v : V} {p : List D × List Nat} (r : Rep K G ι S H) (i : Is K G ι H d v) (h : seqI S d = some p) : ∃ xs, SrcV K H v xs ∧ IsAll K G ι H p.1 xs := by
  cases i with
  | tup hz t => cases h; exact ⟨_, .inl ⟨_, rfl, .inl hz.sq⟩, t⟩
  | lst hz n t => cases h; exact ⟨_, .inl ⟨_, rfl, .inr (SqL.of hz)⟩, t⟩
  | frz hz t => cases h; exact ⟨_, .inl ⟨_, rfl, .inr hz.sq⟩, t⟩
  | str s => cases h; exact ⟨_, .inr ⟨s, rfl, rfl⟩, signs_is _⟩
  | ref en =>
    simp only [seqI] at h
    split at h
    · rename_i l hl
      cases h
      obtain ⟨vs, h1, h2⟩ := r.lst hl en
      exact ⟨vs, .inl ⟨_, rfl, .inr (SqL.of h1)⟩, h2⟩
    · cases h
  | _ => cases h
theorem src_ref {d : D} {v : V} {l : List D} (r : Rep K G ι S H) (i : Is K G ι H d v) (h : seqR S d = some l) : ∃ a xs, v = .ref a ∧ (SqT K H a xs ∨ SqL K H a xs) ∧ IsAll K G ι H l xs := by
  have hn : ∀ x, d ≠ .str x := fun x e => by subst e; cases h
  have h' : ∃ p, seqI S d = some p ∧ p.1 = l := by
    cases d with
    | str x => exact absurd rfl (hn x)
    | _ =>
      simp only [seqR, Option.map_eq_some_iff] at h
      exact h
  obtain ⟨p, hp, rfl⟩ := h'
  obtain ⟨xs, hs, ha⟩ := src_is r i hp
  rcases hs with ⟨a, e, hq⟩ | ⟨x, e, _⟩
  · exact ⟨a, xs, e, hq, ha⟩
  · subst e
    cases i
    exact absurd rfl (hn _)
theorem keys_is : ∀ {l : List D} {xs : List V} {ks : List Key}, IsAll K G ι H l xs → keysOf l = some ks → xs = ks.map kV
  | _, _, _, .nil, h => by cases h; rfl
  | _, _, ks, .cons a t, h => by
    unfold keysOf at h
    split at h
    · rename_i k ks' h1 h2
      cases h
      rw [List.map_cons, keyOf_is h1 a, keys_is t h2]
    · cases h
theorem zip_is : ∀ {ks : List Key} {r : List D} {ys : List V}, IsAll K G ι H r ys → IsKV K G ι H (ks.zip r) (ks.zip ys)
  | [], _, _, _ => .nil
  | _ :: _, _, _, .nil => .nil
  | k :: ks, _, _, .cons a t => .cons ⟨rfl, a⟩ (zip_is t)
theorem de_dictZ {a b : Expr} {m : MA} {p p2 pos pos2 : Pos} (hc : X.calm = true) (hm : X.mg "dict" = none) (hm2 : X.mg "zip" = none) (ha : PA X [a, b] (tA X.K G W m)) (hg : Gl X "dict" := by rfl) (hg2 : Gl X "zip" := by rfl)
    (hs : starEach [a, b] X.env = (false, eval a X.env) :: starEach [b] X.env := by rfl) (hpl : (backTo pos2 (starEach [b] X.env)).any (·.1) = false := by rfl)
    (hs2 : starEach [Expr.Call (.Name "zip" p2) [a, b] [] pos2] X.env = (false, eval (Expr.Call (.Name "zip" p2) [a, b] [] pos2) X.env) :: starEach [] X.env := by rfl) (hpl2 : (backTo pos (starEach [] X.env)).any (·.1) = false := by rfl) :
    PE X (.Call (.Name "dict" p) [.Call (.Name "zip" p2) [a, b] [] pos2] [] pos) (tE X.K G W (mDictZ m)) := by
  refine pe_imp (pe_dictZ hc hg hm hg2 hm2 ha hs hpl hs2 hpl2) fun σ H Q ⟨ι, ρ, S, ⟨he, hr⟩, h⟩ => ?_
  refine ⟨ι, ρ, S, ⟨he, hr⟩, (PostA.bindE h).imp fun v H1 ⟨ι1, ds, S1, x1, r1, i1, h1⟩ => ?_⟩
  cases i1 with
  | nil => exact h1.elim
  | cons ia it =>
    cases it with
    | nil => exact h1.elim
    | cons ib it =>
      cases it with
      | cons _ _ => exact h1.elim
      | nil =>
        simp only at h1
        split at h1
        · rename_i l r hl hr2
          split at h1
          · rename_i ks hk
            obtain ⟨q, xs, rfl, hq, hx⟩ := src_ref r1 ia hl
            obtain ⟨ys, hy, hi⟩ := src_is r1 ib hr2
            have ex := keys_is hx hk
            subst ex
            refine ⟨q, _, ks, ys, rfl, hq, hy, fun p hp => h1.okCell r1 hp ⟨_, upd_same, ?_⟩⟩
            exact IsKV.merge (zip_is (hi.ext (Ext.cell hp))) .nil
          · exact h1.elim
        · exact h1.elim
/-! a dict display with any keys -/
def pConsE (mk m : M) (r : MP) : MP := fun ρ S => (mk ρ S).bind fun kd S1 => (m ρ S1).bind fun d S2 => (r ρ S2).bind fun l S3 => match keyOf kd with
  | some k => .ok ((k, d) :: l) S3
  | none => .no
theorem dps_consE {pos : Pos} {ke v : Expr} {ks : List (Option Expr)} {vs : List Expr} {mk m : M} {r : MP} (hk : PE X ke (tE X.K G W mk)) (hv : PE X v (tE X.K G W m)) (hr : DPs X G W pos ks vs r) : DPs X G W pos (some ke :: ks) (v :: vs) (pConsE mk m r) := by
  obtain ⟨trs, h1, h2⟩ := hr.ex
  refine ⟨_, pps_cons hk hv h1, fun σ H Q ⟨ι, ρ, S, ⟨he, hrp⟩, h⟩ => ?_⟩
  refine ⟨ι, ρ, S, ⟨he, hrp⟩, (PostE.bindP h).imp fun k0 H0 ⟨ι0, kd, S0, x0, r0, i0, h0⟩ => ?_⟩
  refine ⟨ι0, ρ, S0, ⟨he.ext x0, r0⟩, (PostE.bindP h0).imp fun v H1 ⟨ι1, d, S1, x1, r1, i1, h1⟩ => h2 _ _ _ ?_⟩
  refine ⟨ι1, ρ, S1, ⟨he.ext (x0.trans x1), r1⟩, (PostP.bindP h1).imp fun l H2 ⟨ι2, d2, S2, x2, r2, i2, h2⟩ => ?_⟩
  split at h2
  · rename_i k hk2
    have ek := keyOf_is hk2 i0
    subst ek
    exact h2 ι2 H2 ((k, v) :: _) (Ext.refl _ _) r2 (.cons ⟨rfl, i1.ext x2⟩ i2)
  · exact h2.elim
end
end DL

end

/-! ## DW -/
section
set_option Elab.async false
set_option linter.all false
set_option maxRecDepth 100000
namespace DL
open PySem PySem.Spec PyProof.Rows L2
/-! ### lists that are written later: new cells -/
def gListN (d : D) (S : Store) : Out D := match seqOf S d with
  | some l => .ok (.ref S.length) (S ++ [.lst l])
  | none => .no
def lstW (S : Store) : D → Option (List D)
  | .lst l => some l
  | .ref n => match S[n]? with
    | some (.lst l) => some l
    | _ => none
  | _ => none
def gAddN (d e : D) (S : Store) : Out D := match lstW S d, lstW S e with
  | some a, some b => if a.length + b.length ≤ big then .ok (.ref S.length) (S ++ [.lst (a ++ b)]) else .no
  | _, _ => .no
section
variable {X : Cx} {G : String → Addr} {K : PySem.W.Frag} {ι : Ad} {H : Hp} {S : Store}
theorem ok_listN : RAOk X.K G (fun xs H Q => ∃ p ys, xs = [.ref p] ∧ (SqL X.K H p ys ∨ SqT X.K H p ys) ∧ ∀ l, H l = none → Q (.ref l) (upd H l (.lst ys))) (g1 gListN) := by
  intro W ι H S σ xs ds Q r i q
  cases i with
  | nil => exact q.elim
  | cons a t =>
    cases t with
    | cons _ _ => exact q.elim
    | nil =>
      simp only [g1, gListN] at q
      split at q
      · rename_i l hl
        obtain ⟨p, xs, rfl, h1, h2⟩ := seq_sq r a hl
        exact ⟨p, xs, rfl, h1, fun l hl => q.okCell r hl ⟨_, upd_same, h2.ext (Ext.cell hl)⟩⟩
      · exact q.elim
theorem lstW_is {d : D} {v : V} {l : List D} (r : Rep K G ι S H) (i : Is K G ι H d v) (h : lstW S d = some l) : ∃ a xs, v = .ref a ∧ H a = some (.lst xs) ∧ IsAll K G ι H l xs := by
  cases i with
  | lst h1 n1 t1 => cases h; exact ⟨_, _, rfl, h1, t1⟩
  | ref en =>
    simp only [lstW] at h
    split at h
    · rename_i l' hl
      cases h
      obtain ⟨vs, h1, h2⟩ := r.lst hl en
      exact ⟨_, vs, rfl, h1, h2⟩
    · cases h
  | _ => cases h
theorem ok_addN : R2Ok X.K G (rAddD X.K) gAddN := by
  intro W ι H S σ x y d e Q r ix iy q
  unfold gAddN at q
  split at q
  · rename_i l l' h1 h2
    split at q
    · rename_i hl
      obtain ⟨a, xs, rfl, k1, t1⟩ := lstW_is r ix h1
      obtain ⟨a', ys, rfl, k2, t2⟩ := lstW_is r iy h2
      refine .inr ⟨a, a', xs, ys, rfl, rfl, k1, k2, big_line (by rw [← t1.len, ← t2.len]; exact hl), fun p hp => ?_⟩
      exact q.okCell r hp ⟨_, upd_same, (t1.append t2).ext (Ext.cell hp)⟩
    · exact q.elim
  · exact q.elim
theorem de_addN {W : WX} {a b : Expr} {ma mb : M} {pos : Pos} (ha : PE X a (tE X.K G W ma)) (hb : PE X b (tE X.K G W mb)) : PE X (.BinOp a .Add b pos) (tE X.K G W (mB2 ma mb gAddN)) := pe_imp (pe_op op_addD ha hb) (t2_of ok_addN)
/-! slices, of texts too -/
def gSlA (d : D) (lo hi : Option Int) (S : Store) : Out D := match d with
  | .str z => if z.length ≤ big then .ok (.str (cutS z lo hi)) S else .no
  | d => gSl d lo hi S
def mSlA (m : M) (lo hi : MO) : M := fun ρ S => (m ρ S).bind fun d S1 => (lo ρ S1).bind fun l S2 => (hi ρ S2).bind fun h S3 => gSlA d l h S3
theorem de_slA {W : WX} {e : Expr} {m : M} {lo hi : Option Expr} {ml mh : MO} {pos p2 : Pos} (he : PE X e (tE X.K G W m)) (hl : PO X lo (tO X.K G W ml)) (hu : PO X hi (tO X.K G W mh)) : PE X (.Subscript e (.Slice lo hi none p2) pos) (tE X.K G W (mSlA m ml mh)) := by
  refine pe_imp (pe_slice (SlR.or (SlR.or sl_tupA sl_list) sl_str) he hl hu) fun σ H Q ⟨ι, ρ, S, ⟨he, hrp⟩, h⟩ => ?_
  refine ⟨ι, ρ, S, ⟨he, hrp⟩, (PostE.bindE h).imp fun v H1 ⟨ι1, d, S1, x1, r1, i1, h1⟩ => ?_⟩
  refine ⟨ι1, ρ, S1, ⟨he.ext x1, r1⟩, (PostO.bindE h1).imp fun l H2 ⟨ι2, S2, x2, r2, h2⟩ => ?_⟩
  refine ⟨ι2, ρ, S2, ⟨he.ext (x1.trans x2), r2⟩, (PostO.bindE h2).imp fun u H3 ⟨ι3, S3, x3, r3, h3⟩ => ?_⟩
  have i3 := i1.ext (x2.trans x3)
  by_cases hs : ∃ z, d = .str z
  · obtain ⟨z, rfl⟩ := hs
    cases i3
    simp only [gSlA] at h3
    split at h3
    · rename_i hz
      exact .inr ⟨z, rfl, big_line hz, PostE.ok h3 r3 (.str _)⟩
    · exact h3.elim
  · have e0 : gSlA d l u S3 = gSl d l u S3 := by cases d <;> first | rfl | exact absurd ⟨_, rfl⟩ hs
    rw [e0] at h3
    by_cases ht : ∃ l', d = .tup l'
    · obtain ⟨l', rfl⟩ := ht
      cases i3 with
      | tup a t =>
        simp only [gSl] at h3
        refine .inl (.inl ⟨_, _, rfl, a.sq, fun hw => ?_, fun hw p hp => ?_⟩)
        · refine PostE.ok h3 r3 (.tup a ?_)
          have hc : cutD l' l u = l' := by
            unfold cutD
            rw [t.len, hw.1, hw.2, List.drop_zero, Nat.sub_zero, ← t.len, List.take_length]
          rw [hc]; exact t
        · exact h3.okPush r3 hp (.tup (.inl ⟨.inl upd_same, r3.out hp⟩) ((t.cut l u).ext (Ext.push hp)))
    · have e : gSl d l u S3 = match lstOf S3 d with
        | some x => .ok (.lst (cutD x l u)) S3
        | none => .no := by cases d <;> first | rfl | exact absurd ⟨_, rfl⟩ ht
      rw [e] at h3
      split at h3
      · rename_i x hx
        obtain ⟨a, xs, rfl, h4, h5⟩ := lst_sq r3 i3 hx
        exact .inl (.inr ⟨a, xs, rfl, h4, fun p hp => h3.okPush r3 hp (.lst upd_same (r3.out hp) ((h5.cut l u).ext (Ext.push hp)))⟩)
      · exact h3.elim
/-! unpacking, of lists too -/
def gTupA (n : Nat) (g : MGs) : MG := fun d ρ S => match d with
  | .tup l => if l.length = n then g l ρ S else .no
  | d => match lstOf S d with
    | some l => if l.length = n then g l ρ S else .no
    | none => .no
theorem pg_or {tg : Expr} {t t' : TG} (h : PG X tg t) (h' : PG X tg t') : PG X tg (fun v σ H Q => t v σ H Q ∨ t' v σ H Q) :=
  ⟨fun pins s σ H v u Q I r hw => hw.elim (h.run pins s σ H v u Q I r) (h'.run pins s σ H v u Q I r)⟩
theorem dg_tupA {es : List Expr} {k n : Nat} {g : MGs} {pos : Pos} (hc : X.calm = true) (h : PGs X es (tGs X.K G g)) (hn : (assignEach es X.env).length = n := by rfl) (hst : (assignEach es X.env).findIdx? (·.1) = none := by rfl) : PG X (.Tuple es k pos) (tG X.K G (gTupA n g)) := by
  refine pg_imp (pg_or (pg_tup hc h hn hst) (pg_lst hc h hn hst)) fun v σ H Q ⟨ι, ρ, S, d, ⟨he, hr⟩, i1, q⟩ => ?_
  by_cases ht : ∃ l, d = .tup l
  · obtain ⟨l, rfl⟩ := ht
    cases i1 with
    | tup hz t =>
      simp only [gTupA] at q
      split at q
      · rename_i hl
        exact .inl ⟨_, _, rfl, hz.sq, by rw [← t.len]; exact hl, ι, ρ, S, _, ⟨he, hr⟩, t, q⟩
      · exact q.elim
  · have e : gTupA n g d ρ S = match lstOf S d with
      | some l => if l.length = n then g l ρ S else .no
      | none => .no := by cases d <;> first | rfl | exact absurd ⟨_, rfl⟩ ht
    rw [e] at q
    split at q
    · rename_i l hl
      split at q
      · rename_i hn2
        obtain ⟨a, xs, rfl, h4, h5⟩ := lst_sq hr i1 hl
        exact .inr ⟨a, xs, rfl, h4, by rw [← h5.len]; exact hn2, ι, ρ, S, l, ⟨he, hr⟩, h5, q⟩
      · exact q.elim
    · exact q.elim
end
end DL

end

/-! ## DV -/
section
set_option Elab.async false
set_option linter.all false
set_option maxRecDepth 100000
namespace DL
open PySem PySem.Spec PyProof.Rows L2
/-! ### == and != where a side may be a list that is written to -/
def pyS (S : Store) (d : D) : Option PyData := match d with
  | .ref n => match S[n]? with
    | some (.lst l) => (D.pyAll l).map .list
    | _ => none
  | d => d.py
def eqS (S : Store) (d e : D) : Option Bool := match pyS S d, pyS S e with
  | some p, some q => if SeqAt.shaped p = true ∧ SeqAt.shaped q = true then some (PyData.eqv p q) else none
  | _, _ => none
def gEqS (d e : D) (S : Store) : Out D := match eqS S d e with
  | some b => .ok (.bl b) S
  | none => .no
def gNeS (d e : D) (S : Store) : Out D := match eqS S d e with
  | some b => .ok (.bl (!b)) S
  | none => .no
section
variable {X : Cx} {G : String → Addr} {K : PySem.W.Frag} {ι : Ad} {H : Hp} {S : Store}
theorem pyS_dp {d : D} {v : V} {p : PyData} (r : Rep K G ι S H) (i : Is K G ι H d v) (h : pyS S d = some p) : Dp K H v p := by
  by_cases hr : ∃ n, d = .ref n
  · obtain ⟨n, rfl⟩ := hr
    cases i with
    | ref en =>
      simp only [pyS] at h
      split at h
      · rename_i l hl
        obtain ⟨vs, h1, h2⟩ := r.lst hl en
        obtain ⟨ps, hp, rfl⟩ := Option.map_eq_some_iff.mp h
        exact .lst (SqL.of h1) (h2.dp hp)
      · cases h
  · have e : pyS S d = d.py := by cases d <;> first | rfl | exact absurd ⟨_, rfl⟩ hr
    rw [e] at h
    exact i.dp h
theorem ok_eqS : R2Ok X.K G (rEqD X.K) gEqS := by
  intro W ι H S σ x y d e Q r ix iy q
  unfold gEqS eqS at q
  cases hd : pyS S d with
  | none => rw [hd] at q; exact q.elim
  | some p =>
    cases he : pyS S e with
    | none => rw [hd, he] at q; exact q.elim
    | some p' =>
      rw [hd, he] at q
      by_cases hs : SeqAt.shaped p = true ∧ SeqAt.shaped p' = true
      · simp only [if_pos hs] at q
        exact ⟨p, p', pyS_dp r ix hd, pyS_dp r iy he, hs.1, hs.2, PostE.ok q r (.bl _)⟩
      · simp only [if_neg hs] at q
        exact q.elim
theorem ok_neS : R2Ok X.K G (rNeD X.K) gNeS := by
  intro W ι H S σ x y d e Q r ix iy q
  unfold gNeS eqS at q
  cases hd : pyS S d with
  | none => rw [hd] at q; exact q.elim
  | some p =>
    cases he : pyS S e with
    | none => rw [hd, he] at q; exact q.elim
    | some p' =>
      rw [hd, he] at q
      by_cases hs : SeqAt.shaped p = true ∧ SeqAt.shaped p' = true
      · simp only [if_pos hs] at q
        exact ⟨p, p', pyS_dp r ix hd, pyS_dp r iy he, hs.1, hs.2, PostE.ok q r (.bl _)⟩
      · simp only [if_neg hs] at q
        exact q.elim
variable {W : WX} {a b : Expr} {ma mb : M} {pos : Pos}
theorem de_eqS (hu : X.A.units + 64 < cLine) (ha : PE X a (tE X.K G W ma)) (hb : PE X b (tE X.K G W mb)) : PE X (.Compare a [.Eq] [b] pos) (tE X.K G W (mB2 ma mb gEqS)) := pe_imp (pe_cmpR (op_eqD hu) ha hb (nomark _)) (t2_of ok_eqS)
theorem de_neS (hu : X.A.units + 64 < cLine) (ha : PE X a (tE X.K G W ma)) (hb : PE X b (tE X.K G W mb)) : PE X (.Compare a [.NotEq] [b] pos) (tE X.K G W (mB2 ma mb gNeS)) := pe_imp (pe_cmpR (op_neD hu) ha hb (nomark _)) (t2_of ok_neS)
theorem dt_eqS (hu : X.A.units + 64 < cLine) (ha : PE X a (tE X.K G W ma)) (hb : PE X b (tE X.K G W mb)) : PT X (.Compare a [.Eq] [b] pos) (tT X.K G W (tOfB (mB2 ma mb gEqS))) := dt_cmp (op_eqD hu) ok_eqS ha hb (nomark _)
theorem dt_neS (hu : X.A.units + 64 < cLine) (ha : PE X a (tE X.K G W ma)) (hb : PE X b (tE X.K G W mb)) : PT X (.Compare a [.NotEq] [b] pos) (tT X.K G W (tOfB (mB2 ma mb gNeS))) := dt_cmp (op_neD hu) ok_neS ha hb (nomark _)
end
end DL

end

/-! ## DX -/
section
set_option Elab.async false
set_option linter.all false
set_option maxRecDepth 100000
namespace DL
open PySem PySem.Spec PyProof.Rows L2
/-! ### max, str -/
def topI : List Int → Int
  | [] => 0
  | [a] => a
  | a :: b :: l => max a (topI (b :: l))
theorem topI_mem : ∀ {l : List Int}, l ≠ [] → topI l ∈ l
  | [], h => absurd rfl h
  | [a], _ => by simp [topI]
  | a :: b :: l, _ => by
    have ih := topI_mem (l := b :: l) (by simp)
    unfold topI
    rcases Int.le_total a (topI (b :: l)) with h | h
    · rw [Int.max_eq_right h]; exact List.mem_cons_of_mem _ ih
    · rw [Int.max_eq_left h]; exact List.mem_cons_self ..
theorem topI_ge : ∀ {l : List Int} {y : Int}, y ∈ l → y ≤ topI l
  | [a], y, h => by simp only [List.mem_singleton] at h; subst h; simp [topI]
  | a :: b :: l, y, h => by
    unfold topI
    rcases List.mem_cons.mp h with e | h
    · subst e; exact Int.le_max_left _ _
    · exact Int.le_trans (topI_ge h) (Int.le_max_right _ _)
def gMaxL (d : D) (S : Store) : Out D := match lstOf S d with
  | some l => match intsOf l with
    | some (n :: ns) => .ok (.int (topI (n :: ns))) S
    | _ => .no
  | none => .no
def gMax2 : D → D → Store → Out D
  | .int i, .int j, S => .ok (.int (if j > i then j else i)) S
  | _, _, _ => .no
def gStr : D → Store → Out D
  | .int i, S => if i.natAbs.log2 < 1000 then .ok (.str (toString i)) S else .no
  | .str a, S => .ok (.str a) S
  | _, _ => .no
section
variable {X : Cx} {G : String → Addr}
theorem ok_maxL : RAOk X.K G (rMax X.K) (g1 gMaxL) := by
  intro W ι H S σ xs ds Q r i q
  cases i with
  | nil => exact q.elim
  | cons a t =>
    cases t with
    | cons _ _ => exact q.elim
    | nil =>
      simp only [g1, gMaxL] at q
      split at q
      · rename_i l hl
        split at q
        · rename_i n ns hn
          obtain ⟨p, xs, rfl, h1, h2⟩ := lst_sq r a hl
          refine ⟨p, n :: ns, rfl, (h2.ints hn) ▸ h1, by simp, fun m hm hy => ?_⟩
          have e : m = topI (n :: ns) := Int.le_antisymm (topI_ge hm) (hy _ (topI_mem (by simp)))
          subst e
          exact PostE.ok q r (.int _)
        · exact q.elim
      · exact q.elim
theorem ok_max2 : RAOk X.K G (fun xs H Q => ∃ i j, xs = [.int i, .int j] ∧ Q (.int (if j > i then j else i)) H) (g2 gMax2) := by
  intro W ι H S σ xs ds Q r i q
  cases i with
  | nil => exact q.elim
  | cons a t =>
    cases t with
    | nil => exact q.elim
    | cons b t =>
      cases t with
      | cons _ _ => exact q.elim
      | nil => cases a <;> cases b <;> first | exact q.elim | exact ⟨_, _, rfl, PostE.ok q r (.int _)⟩
theorem ok_str1 : RAOk X.K G (fun xs H Q => (∃ i, xs = [.int i] ∧ i.natAbs.log2 < 1920 ∧ Q (.str (toString i)) H) ∨ ∃ a, xs = [.str a] ∧ Q (.str a) H) (g1 gStr) := by
  intro W ι H S σ xs ds Q r i q
  cases i with
  | nil => exact q.elim
  | cons a t =>
    cases t with
    | cons _ _ => exact q.elim
    | nil =>
      cases a with
      | int i =>
        simp only [g1, gStr] at q
        split at q
        · rename_i hb
          exact .inl ⟨i, rfl, Nat.lt_trans hb (by decide), PostE.ok q r (.str _)⟩
        · exact q.elim
      | str a => exact .inr ⟨_, rfl, PostE.ok q r (.str _)⟩
      | _ => exact q.elim
theorem call_str1 : CallR X (.type "str") (fun xs H Q => (∃ i, xs = [.int i] ∧ i.natAbs.log2 < 1920 ∧ Q (.str (toString i)) H) ∨ ∃ a, xs = [.str a] ∧ Q (.str a) H) := CallR.or call_str_int SkE.call_str_str
end
end DL
namespace DL
open PySem PySem.Spec PyProof.Rows L2
/-! ### dict of a list of pairs -/
def pairsOf : List D → Option (List (Key × D))
  | [] => some []
  | .tup [k, v] :: l => match keyOf k, pairsOf l with
    | some k, some r => some ((k, v) :: r)
    | _, _ => none
  | _ :: _ => none
def gDictP (d : D) (S : Store) : Out D := match lstOf S d with
  | some l => match pairsOf l with
    | some kvs => .ok (.ref S.length) (S ++ [.dct (kvs.foldl (fun acc kv => putD acc kv.1 kv.2) [])])
    | none => .no
  | none => .no
section
variable {X : Cx} {G : String → Addr} {K : PySem.W.Frag} {ι : Ad} {H : Hp}
theorem pairs_are : ∀ {l : List D} {vs : List V} {kvs : List (Key × D)}, IsAll K G ι H l vs → pairsOf l = some kvs → ∃ (ps : List Addr) (ws : List (Key × V)), vs = ps.map V.ref ∧ Paired (fun p kv => SqT K H p [kV kv.1, kv.2]) ps ws ∧ IsKV K G ι H kvs ws
  | [], _, _, .nil, h => by cases h; exact ⟨[], [], rfl, .nil, .nil⟩
  | d :: l, _, kvs, .cons a t, h => by
    unfold pairsOf at h
    split at h
    · rename_i heq; cases heq
    · rename_i k v l' heq
      cases heq
      split at h
      · rename_i k' r hk hr
        cases h
        obtain ⟨ps, ws, rfl, hp, hi⟩ := pairs_are t hr
        cases a with
        | @tup _ p xs hz ht =>
          cases ht with
          | cons i1 ht =>
            cases ht with
            | cons i2 ht =>
              cases ht
              have e := keyOf_is hk i1
              subst e
              exact ⟨p :: ps, (k', _) :: ws, rfl, .cons hz.sq hp, .cons ⟨rfl, i2⟩ hi⟩
      · cases h
    · cases h
def rDictP (K : PySem.W.Frag) : List V → Hp → VK → Prop := fun xs H Q => ∃ (a : Addr) (ps : List Addr) (kvs : List (Key × V)), xs = [.ref a] ∧ SqL K H a (ps.map V.ref) ∧ Paired (fun p kv => SqT K H p [kV kv.1, kv.2]) ps kvs ∧ ∀ p, H p = none → Q (.ref p) (upd H p (.dK (mergeK [] kvs)))
theorem ok_dictP : RAOk X.K G (rDictP X.K) (g1 gDictP) := by
  intro W ι H S σ xs ds Q r i q
  cases i with
  | nil => exact q.elim
  | cons a t =>
    cases t with
    | cons _ _ => exact q.elim
    | nil =>
      simp only [g1, gDictP] at q
      split at q
      · rename_i l hl
        split at q
        · rename_i kvs hk
          obtain ⟨p, vs, rfl, h1, h2⟩ := lst_sq r a hl
          obtain ⟨ps, ws, rfl, hp, hi⟩ := pairs_are h2 hk
          exact ⟨p, ps, ws, rfl, h1, hp, fun p hp => q.okCell r hp ⟨_, upd_same, IsKV.merge (hi.ext (Ext.cell hp)) .nil⟩⟩
        · exact q.elim
      · exact q.elim
theorem call_dictL (hc : X.calm = true) : CallR X (.type "dict") (rDictP X.K) := call_dictP hc
end
end DL

end

/-! ## DY -/
section
set_option Elab.async false
set_option linter.all false
set_option maxRecDepth 100000
namespace DL
open PySem PySem.Spec PyProof.Rows L2
/-! ### the items of a dict that is locked meanwhile -/
def kD : Key → D
  | .inl i => .int i
  | .inr s => .str s
def itemsD (kvs : List (Key × D)) : List D := kvs.map fun kv => .tup [kD kv.1, kv.2]
def iItm (m : M) : MI := fun ρ S => (m ρ S).bind fun d S1 => match d with
  | .ref n => match S1[n]? with
    | some (.shut kvs) => .ok (itemsD kvs, [n]) S1
    | _ => .no
  | _ => .no
open Classical in
noncomputable def mLock (i : Nat) (m : M) : M := fun ρ S => match ρ[i]? with
  | some (some (.ref n)) => match S[n]? with
    | some (.dct kvs) => match m ρ (S.set n (.shut kvs)) with
      | .ok d S2 => if S2[n]? = some (.shut kvs) then .ok d (S2.set n (.dct kvs)) else .no
      | _ => .no
    | _ => .no
  | _ => .no
section
variable {X : Cx} {G : String → Addr} {W : WX} {K : PySem.W.Frag} {ι : Ad} {H : Hp}
theorem kD_is (k : Key) : Is K G ι H (kD k) (kV k) := by
  cases k with
  | inl i => exact .int i
  | inr s => exact .str s
theorem IsKV.nth {κ : Type} : ∀ {l : List (κ × D)} {vs : List (κ × V)} (i : Nat) {q : κ × V}, IsKV K G ι H l vs → vs[i]? = some q → ∃ p, l[i]? = some p ∧ p.1 = q.1 ∧ Is K G ι H p.2 q.2
  | _, _, 0, _, .cons a t, h => by
    cases h
    exact ⟨_, rfl, a.1, a.2⟩
  | _, _, i + 1, _, .cons a t, h => by
    obtain ⟨p, h1, h2⟩ := IsKV.nth i t (by simpa using h)
    exact ⟨p, by simpa using h1, h2⟩
theorem di_items {e : Expr} {m : M} {elts : List Expr} {kk : Nat} {tpos apos cpos : Pos} (he : PE X e (tE X.K G W m)) (hbase : attributeBase e "items" X.env (eval e X.env) = eval e X.env := by rfl) (hline : (apos.endLine == cpos.line) = true := by rfl) :
    PI X (.Tuple elts kk tpos) (.Call (.Attribute e "items" apos) [] [] cpos) (tI X.K G W (iItm m)) := by
  refine pi_imp (pi_items he hbase hline) fun σ H R ⟨ι, ρ, S, ⟨hen, hr⟩, h⟩ => ?_
  refine ⟨ι, ρ, S, ⟨hen, hr⟩, (PostI.bindE h).imp fun v H1 ⟨ι1, d, S1, x1, r1, i1, q⟩ => ?_⟩
  cases i1 with
  | @ref n a en =>
    simp only at q
    split at q
    · rename_i kvs hk
      obtain ⟨o, ws, h1, h2⟩ := r1.cell _ _ _ en hk
      have len : (itemsD kvs).length = ws.length := by unfold itemsD; rw [List.length_map, h2.len]
      refine ⟨a, o, ws, rfl, h1, PostI.ok q r1 ⟨fun i ι' H' S' x r ok hi => ?_, fun ι' H' S' x r ok => ⟨x.frz _ _ _ h1, by rw [len]; exact Nat.le_refl _⟩⟩⟩
      have fz := x.frz _ _ _ h1
      have e2 := ok n (List.mem_singleton.mpr rfl)
      rw [hk] at e2
      obtain ⟨o', ws', k1, k2⟩ := r.cell _ _ _ (pre_get x.pre en) e2
      rw [fz] at k1
      cases k1
      refine ⟨⟨fz, by rw [len] at hi; exact hi⟩, fun y H2 hy => ?_⟩
      obtain ⟨T, k, v, g1, rfl, hT, rfl⟩ := hy
      obtain ⟨p, p1, p2, p3⟩ := k2.nth i g1
      refine ⟨.tup [kD p.1, p.2], by unfold itemsD; rw [List.getElem?_map, p1]; rfl, Ext.push hT, r.push hT, .tup (.inl ⟨.inl upd_same, r.out hT⟩) (.cons ?_ (.cons (p3.ext (Ext.push hT)) .nil))⟩
      have p2' : p.1 = k := p2
      rw [p2']
      exact kD_is k
    · exact q.elim
  | _ => exact q.elim
theorem de_lock {e : Expr} {m : M} {i : Nat} (h : PE X e (tE X.K G WN m)) : PE X e (tE X.K G W (mLock i m)) := by
  refine pe_imp (pe_lock h) fun σ H Q ⟨ι, ρ, S, ⟨he, hr⟩, q⟩ => ?_
  unfold mLock at q
  split at q
  · rename_i n hi
    split at q
    · rename_i kvs hS
      obtain ⟨a, ha, ws, h1, h2⟩ := hr.get hS
      refine ⟨a, .dK ws, h1, trivial, fun od => ?_⟩
      have hm := List.mem_of_getElem? ha
      have xw : Ext ι H ι (upd H a (.frz od (.dK ws))) := Ext.write hm (ne_frz h1 fun _ _ z => nomatch z)
      refine ⟨ι, ρ, S.set n (.shut kvs), ⟨he.ext xw, hr.write ha ⟨od, ws, upd_same, h2.ext xw⟩⟩, ?_⟩
      cases hm2 : m ρ (S.set n (.shut kvs)) with
      | no => rw [hm2] at q; exact q.elim
      | ex c fs S2 => rw [hm2] at q; exact q.elim
      | ok d S2 =>
        rw [hm2] at q
        simp only at q
        split at q
        · intro ι' H' v x r i1
          have fz := x.frz a od (.dK ws) upd_same
          refine ⟨fz, ?_⟩
          have ha' := pre_get x.pre.c ha
          have xx : Ext ι H ι' (upd H' a (.dK ws)) := by
            refine ⟨x.pre, fun b o k1 k2 => ?_, fun b k => ?_, fun b o u k => ?_⟩
            · have hb : b ≠ a := fun z => k1 (by rw [z]; exact hm)
              rw [upd_ne hb]
              exact x.keep b o k1 (by rw [upd_ne hb]; exact k2)
            · rcases x.new b k with k | k
              · exact .inl k
              · by_cases hb : b = a
                · exact .inl (by rw [hb]; exact hm)
                · rw [upd_ne hb] at k; exact .inr k
            · have hb : b ≠ a := fun z => by rw [z, h1] at k; cases k
              rw [upd_ne hb]
              exact x.frz b o u (by rw [upd_ne hb]; exact k)
          have st : Stay ι' H' ι' (upd H' a (.dK ws)) := ⟨List.prefix_refl _, fun b u k1 k2 _ => ⟨by rw [upd_ne (fun z : b = a => k1 (.inl (by rw [z]; exact List.mem_of_getElem? ha')))]; exact k2, k1⟩⟩
          exact q ι' _ v xx (r.write ha' ⟨ws, upd_same, h2.ext xx⟩) (i1.stay st)
        · exact q.elim
    · exact q.elim
  · exact q.elim
/-- name = [comprehension] -/
theorem ds_setLc {i : Nat} {y : Str} {py spos : Pos} {elt tg iter : Expr} {ifs : List Expr} {scope : Scope} {own : List (Str × Nat)} {pos : Pos} {mi : MI} {g : TG} {tgt : Tgt} {mt : MT} {me : M} (hc : X.calm = true) (hN : X.N.Nodup) (hy : X.N[i]? = some y) (hyl : X.env.scope.names.lookup y = some .local)
    (hsw : swapsWith (.ListComp elt [⟨tg, iter, ifs, 0⟩] scope pos) (some (.Name y py)) spos.line X.env = pure true) (hi : PI X tg iter (tI X.K G W mi)) (ok : BlkOk X.N X.env.scope scope own)
    (hg : ∀ (s : Shared) (H : Hp) (C : Addr) (cl : List (Str × Addr)) (fp : List Addr), PG (X.blk s H scope (compEnvC scope cl C X.env) fp) tg g) (hk : TgOk X.K G g tgt (own.map (·.2)))
    (ht : ∀ (s : Shared) (H : Hp) (C : Addr) (cl : List (Str × Addr)) (fp : List Addr), PTs (X.blk s H scope (compEnvC scope cl C X.env) fp) ifs (tT X.K G WN mt))
    (he : ∀ (s : Shared) (H : Hp) (C : Addr) (cl : List (Str × Addr)) (fp : List Addr), PE (X.blk s H scope (compEnvC scope cl C X.env) fp) elt (tE X.K G WN me)) (hs : ∀ x, foldedSetIterable iter X.env x = pure x := by intro _; rfl) :
    PS X (.Assign [.Name y py] (.ListComp elt [⟨tg, iter, ifs, 0⟩] scope pos) spos) (tS X.K G W (sAsg (mLc mi tgt mt me (own.map (·.2))) (gNm i))) := by
  refine ps_imp (ps_setLc hc hN hy hyl hsw hi ok hg ht he hs) fun D σ H ⟨ι, ρ, S, ⟨hen, hr⟩, q⟩ => ?_
  refine lc_of (fun _ _ _ h => h) hk (fun _ _ _ h => h) (fun _ _ _ h => h) σ H _ ⟨ι, ρ, S, ⟨hen, hr⟩, (PostE.fl (o := mLc mi tgt mt me (own.map (·.2)) ρ S) hen q).imp fun v H1 ⟨ι1, d, S1, x1, r1, i1, h1⟩ => ?_⟩
  exact h1 ι1 H1 _ (Ext.refl _ _) r1 ((hen.ext x1).set i i1)
end
end DL

end

/-! ## DZL -/
section
set_option Elab.async false
set_option linter.all false
set_option maxRecDepth 100000
set_option maxHeartbeats 1000000
/-! # list(zip(a, b)) -/
namespace DZ
open PySem PySem.Spec PyProof.Rows L2
theorem zip_no_len : typeLookup (.type "zip") "__len__" = pure none := by rw [typeLookup_type, builtinLookup_eq_fast]; kernel_rfl
theorem zip_no_hint : typeLookup (.type "zip") "__length_hint__" = pure none := by rw [typeLookup_type, builtinLookup_eq_fast]; kernel_rfl
structure ZG (xs ys : List V) (lo : Addr) (h : Heap) (as : List Addr) : Prop where
  rise : as.Pairwise (· < ·)
  above : ∀ a ∈ as, lo < a
  pairs : ∀ (j : Nat) a, as[j]? = some a → ∃ u v, Gives xs j u ∧ Gives ys j v ∧ IsTupOf2 h a u v
theorem ZG.there {xs ys : List V} {lo : Addr} {h : Heap} {as : List Addr} (g : ZG xs ys lo h as) {a : Addr} (ha : a ∈ as) : a < h.objs.size := by
  obtain ⟨j, hj⟩ := List.getElem?_of_mem ha
  obtain ⟨_, _, _, _, e⟩ := g.pairs j a hj
  exact Heap.lt_size e
/-- where the zip stands when i pairs were drawn, while the list at S is filled -/
def ZSt (z TI TO i1 i2 S : Addr) (St1 St2 : Addr → Nat → Heap → Prop) (i : Nat) (h : Heap) : Prop := IsTupOf2 h TI (.ref i1) (.ref i2) ∧ St1 i1 i h ∧ St2 i2 i h ∧
      ((IsZip h z TI TO .none ∧ ∃ a b, IsTupOf2 h TO a b) ∨ ∃ T f oT, IsZipHeld h z TI TO T f ∧ h.get? T = some oT ∧ T ≠ z ∧ T ≠ i1 ∧ T ≠ i2 ∧ T ≠ S)
section
variable {P : Program} {w : World} {A : Around} {s : Shared} {R : Result → Shared → Prop} {v1 v2 : Value} {o1 o2 : Obj} {ok1 ok2 : Heap → Prop} {rd1 rd2 : List Addr} {xs ys : List V} {St1 St2 : Addr → Nat → Heap → Prop} {z TI TO i1 i2 S : Addr}
/-- the list lies apart from the zip -/
structure OffS (S z TI TO i1 i2 : Addr) (rd1 rd2 : List Addr) : Prop where
  z : S ≠ z
  TI : S ≠ TI
  TO : S ≠ TO
  r1 : ∀ b ∈ i1 :: rd1, b ≠ S
  r2 : ∀ b ∈ i2 :: rd2, b ≠ S
theorem zst_frame (S1 : Sce P w v1 o1 ok1 rd1 xs St1) (S2 : Sce P w v2 o2 ok2 rd2 ys St2) (O : OffS S z TI TO i1 i2 rd1 rd2) {i : Nat} {h h' : Heap} (st : ZSt z TI TO i1 i2 S St1 St2 i h) (hk : ∀ b o, b ≠ S → h.get? b = some o → h'.get? b = some o) : ZSt z TI TO i1 i2 S St1 St2 i h' := by
  obtain ⟨p, a1, a2, q⟩ := st
  refine ⟨hk _ _ O.TI.symm p, S1.frm _ _ _ _ a1 fun b hb o e => hk b o (O.r1 b hb) e, S2.frm _ _ _ _ a2 fun b hb o e => hk b o (O.r2 b hb) e, ?_⟩
  rcases q with ⟨hz, a, b, hTO⟩ | ⟨T, f, oT, hz, hT, r1, r2, r3, r4⟩
  · exact .inl ⟨hk _ _ O.z.symm hz, a, b, hk _ _ O.TO.symm hTO⟩
  · exact .inr ⟨T, f, oT, hk _ _ O.z.symm hz, hk _ _ r4 hT, r1, r2, r3, r4⟩
theorem zst_item (S1 : Sce P w v1 o1 ok1 rd1 xs St1) (S2 : Sce P w v2 o2 ok2 rd2 ys St2) (Z : ZipSep2 z TI TO i1 i2 (i1 :: rd1) (i2 :: rd2)) (m1 : i1 ∉ rd1) (m2 : i2 ∉ rd2) (hA : A.in1.handled = none) {E : Value → Shared → Prop} {Q : Option Value → Shared → Prop} {i : Nat} (hi : i < min xs.length ys.length) (st : ZSt z TI TO i1 i2 S St1 St2 i s.heap) (hS : S < s.heap.objs.size)
    (hQ : ∀ u v h' tk, Gives xs i u → Gives ys i v → IsTupOf2 h' s.heap.objs.size u v → ZSt z TI TO i1 i2 S St1 St2 (i + 1) h' → (∀ b o, b ∉ [z, TO, i1, i2] → s.heap.get? b = some o → h'.get? b = some o) → Q (some (.ref s.heap.objs.size)) { s with heap := h', toks := tk }) : wpAny (model P w) A (pyNext (.ref z)) Q E s := by
  obtain ⟨p, a1, a2, q⟩ := st
  have l1 : i < xs.length := by omega
  have l2 : i < ys.length := by omega
  have W1 := S1.drw A.in1 hA i1 m1
  have W2 := S2.drw A.in1 hA i2 m2
  have lt : ∀ {c ob}, s.heap.get? c = some ob → s.heap.objs.size ≠ c := fun e => Nat.ne_of_gt (Heap.lt_size e)
  have e1 : s.heap.objs.size ≠ i1 := let ⟨_, e⟩ := S1.live _ _ _ a1 i1 (by simp); lt e
  have e2 : s.heap.objs.size ≠ i2 := let ⟨_, e⟩ := S2.live _ _ _ a2 i2 (by simp); lt e
  rcases q with ⟨hz, a, b, hTO⟩ | ⟨T, f, oT, hz, hT, r1, r2, r3, r4⟩
  · refine wpAny_pyNext_zipD2_item Z W1 W2 hz p hTO a1 a2 l1 l2 fun x1 x2 h' tk g1 g2 b1 b2 t1 t2 b5 b6 hk => ?_
    exact hQ _ _ h' tk g1 g2 b5 ⟨hk _ _ Z.TIz Z.TITO Z.TIi1 Z.TIi2 p, t1, t2, .inr ⟨s.heap.objs.size, false, _, b1, b5, lt hz, e1, e2, Nat.ne_of_gt hS⟩⟩
      fun c o hc e => hk c o (fun x => hc (by simp [x])) (fun x => hc (by simp [x])) (fun x => hc (by simp [x])) (fun x => hc (by simp [x])) e
  · refine next_held Z W1 W2 hz hT p a1 a2 l1 l2 fun x1 x2 h' tk g1 g2 b1 t1 t2 b5 hk => ?_
    exact hQ _ _ h' tk g1 g2 b5 ⟨hk _ _ Z.TIz Z.TIi1 Z.TIi2 p, t1, t2, .inr ⟨T, true, oT, b1, hk _ _ r1 r2 r3 hT, r1, r2, r3, r4⟩⟩
      fun c o hc e => hk c o (fun x => hc (by simp [x])) (fun x => hc (by simp [x])) (fun x => hc (by simp [x])) e
theorem zst_done (S1 : Sce P w v1 o1 ok1 rd1 xs St1) (S2 : Sce P w v2 o2 ok2 rd2 ys St2) (Z : ZipSep2 z TI TO i1 i2 (i1 :: rd1) (i2 :: rd2)) (m1 : i1 ∉ rd1) (m2 : i2 ∉ rd2) (hA : A.in1.handled = none) {E : Value → Shared → Prop} {Q : Option Value → Shared → Prop} (st : ZSt z TI TO i1 i2 S St1 St2 (min xs.length ys.length) s.heap)
    (hQ : ∀ h' tk, (∀ b o, b ∉ [z, TO, i1, i2] → s.heap.get? b = some o → h'.get? b = some o) → Q none { s with heap := h', toks := tk }) : wpAny (model P w) A (pyNext (.ref z)) Q E s := by
  obtain ⟨p, a1, a2, q⟩ := st
  have W1 := S1.drw A.in1 hA i1 m1
  have W2 := S2.drw A.in1 hA i2 m2
  have l1 : min xs.length ys.length ≤ xs.length := Nat.min_le_left ..
  have l2 : min xs.length ys.length ≤ ys.length := Nat.min_le_right ..
  have fin : min xs.length ys.length = xs.length ∨ min xs.length ys.length = ys.length := by omega
  rcases q with ⟨hz, a, b, hTO⟩ | ⟨T, f, oT, hz, hT, r1, r2, r3, r4⟩
  · exact wpAny_pyNext_zipD2_end Z W1 W2 hz p hTO a1 a2 l1 l2 fin fun h' tk hk => hQ h' tk fun c o hc e => hk c o (fun x => hc (by simp [x])) (fun x => hc (by simp [x])) (fun x => hc (by simp [x])) (fun x => hc (by simp [x])) e
  · exact stop_held Z W1 W2 hz hT p a1 a2 l1 l2 fin fun h' tk hk => hQ h' tk fun c o hc e => hk c o (fun x => hc (by simp [x])) (fun x => hc (by simp [x])) (fun x => hc (by simp [x])) e
theorem zl_loop (S1 : Sce P w v1 o1 ok1 rd1 xs St1) (S2 : Sce P w v2 o2 ok2 rd2 ys St2) (Z : ZipSep2 z TI TO i1 i2 (i1 :: rd1) (i2 :: rd2)) (m1 : i1 ∉ rd1) (m2 : i2 ∉ rd2) (hh : A.handled = none) (O : OffS S z TI TO i1 i2 rd1 rd2) (hzS : ∀ b ∈ [z, TO, i1, i2], b < S) (hn : min xs.length ys.length ≤ sizeLine) (res : Value) {h₁ : Heap}
    (hR : ∀ h' tk acc c as, (∀ b o, b ≠ S → b ∉ [z, TO, i1, i2] → h₁.get? b = some o → h'.get? b = some o) → h'.get? S = some { cls := .type "list", dict := none, data := .seq acc c, slots := #[] } → as.length = min xs.length ys.length → ZG xs ys S h' as →
      acc.toList = as.map Value.ref → R (.ok (.ret res)) { s with heap := h', toks := tk }) :
    ∀ (k i : Nat) (h : Heap) (tk c : Nat) (acc : Array Value) (as : List Addr), min xs.length ys.length - i = k → i ≤ min xs.length ys.length → ZSt z TI TO i1 i2 S St1 St2 i h → (∀ b o, b ≠ S → b ∉ [z, TO, i1, i2] → h₁.get? b = some o → h.get? b = some o) →
      h.get? S = some { cls := .type "list", dict := none, data := .seq acc c, slots := #[] } → acc.toList = as.map Value.ref → as.length = i → ZG xs ys S h as →
      codeAny (model P w) A (.builtin "list.extend.loop" ⟨[.ref S, .ref z, res], []⟩) R { s with heap := h, toks := tk } := by
  intro k
  induction k with
  | zero =>
    intro i h tk c acc as hk hi hst hkeep hS hacc hal hG
    have hin : i = min xs.length ys.length := by omega
    subst hin
    refine codeAny_builtin PySem.F.entry_extend_loop ?_
    rw [Around.under_plainId PySem.F.plain_extend_loop _]
    show wpAny _ A.in1 (pyNext (.ref z) >>= _) _ _ _
    refine wpAny_bind (zst_done (s := { s with heap := h, toks := tk }) (A := A.in1) S1 S2 Z m1 m2 hh hst fun h' tk' he => ?_)
    have nS : S ∉ [z, TO, i1, i2] := fun m => Nat.lt_irrefl _ (hzS _ m)
    refine wpAny_pure (hR h' tk' acc c as (fun b o h1 h2 e => he b o h2 (hkeep b o h1 h2 e)) (he S _ nS hS) hal ⟨hG.rise, hG.above, fun j a hj => ?_⟩ hacc)
    obtain ⟨u, v, g1, g2, g3⟩ := hG.pairs j a hj
    exact ⟨u, v, g1, g2, he a _ (fun m => Nat.lt_asymm (hG.above a (List.mem_of_getElem? hj)) (hzS _ m)) g3⟩
  | succ k ih =>
    intro i h tk c acc as hk hi hst hkeep hS hacc hal hG
    have hlt : i < min xs.length ys.length := by omega
    have hsz : acc.size = i := by rw [← Array.length_toList, hacc, List.length_map, hal]
    have nS : S ∉ [z, TO, i1, i2] := fun m => Nat.lt_irrefl _ (hzS _ m)
    refine codeAny_builtin PySem.F.entry_extend_loop ?_
    rw [Around.under_plainId PySem.F.plain_extend_loop _]
    show wpAny _ A.in1 (pyNext (.ref z) >>= _) _ _ _
    refine wpAny_bind (zst_item (s := { s with heap := h, toks := tk }) (A := A.in1) S1 S2 Z m1 m2 hh hlt hst (Heap.lt_size hS) fun u v h' tk' gu gv ht hst' hkp => ?_)
    dsimp only at ht hkp ⊢
    have hS' := hkp S _ nS hS
    have up : ∀ b o, b ≠ S → h'.get? b = some o → (h'.update S (Obj.mapSeq (·.push (Value.ref h.objs.size)))).get? b = some o := fun b o hb e => (Heap.get?_update_other _ _ (Ne.symm hb)).trans e
    have hSl : S < h.objs.size := Heap.lt_size hS
    show wpAny _ A.in1 (updateSeq S (·.push (Value.ref h.objs.size)) >>= _) _ _ _
    refine wpAny_bind ?_
    refine wpAny_updateSeq hS' rfl (wpAny_pure ⟨plainId_quiet PySem.F.plain_extend_loop _, ih (i + 1) _ tk' _ (acc.push (Value.ref h.objs.size)) (as ++ [h.objs.size]) (by omega) hlt (zst_frame S1 S2 O hst' up)
      (fun b o h1 h2 e => up b o h1 (hkp b o h2 (hkeep b o h1 h2 e))) (Heap.get?_update_self _ hS' rfl) (by rw [Array.toList_push, hacc, List.map_append]; rfl) (by rw [List.length_append, hal]; rfl) ⟨?_, ?_, ?_⟩⟩) (by rw [hsz]; omega) (by show (acc.push (Value.ref h.objs.size)).size ≤ sizeLine + 1; rw [Array.size_push, hsz]; omega)
    · refine List.pairwise_append.mpr ⟨hG.rise, List.pairwise_singleton _ _, fun a ha b hb => ?_⟩
      rw [List.mem_singleton.mp hb]
      exact hG.there ha
    · intro a ha
      rcases List.mem_append.mp ha with ha | ha
      · exact hG.above a ha
      · rw [List.mem_singleton.mp ha]; exact hSl
    · intro j b hj
      rcases Nat.lt_trichotomy j as.length with h1 | h1 | h1
      · rw [List.getElem?_append_left h1] at hj
        obtain ⟨u', v', g1, g2, g3⟩ := hG.pairs j b hj
        have hb := hG.above b (List.mem_of_getElem? hj)
        exact ⟨u', v', g1, g2, up b _ (Nat.ne_of_gt hb) (hkp b _ (fun m => Nat.lt_asymm hb (hzS _ m)) g3)⟩
      · subst h1
        have hb : h.objs.size = b := by simpa using hj
        subst hb
        exact ⟨u, v, by rw [hal]; exact gu, by rw [hal]; exact gv, up _ _ (Nat.ne_of_gt hSl) ht⟩
      · have hnone : (as ++ [h.objs.size])[j]? = none := List.getElem?_eq_none (by rw [List.length_append, List.length_singleton]; omega)
        rw [hnone] at hj; cases hj
theorem zip_hint {E : Value → Shared → Prop} (hT : s.TypeIs (.ref z) "zip") {Q : Bool → Shared → Prop} (h : Q true s) : wpAny (model P w) A (Builtin.List.listLengthHint (.ref z)) Q E s := by
  unfold Builtin.List.listLengthHint
  refine wpAny_bind (wpAny_specialOf hT zip_no_len ?_)
  show wpAny _ A (specialOf (Value.ref z) (Str.ofString "__length_hint__") >>= _) _ _ _
  refine wpAny_bind (wpAny_specialOf hT zip_no_hint ?_)
  exact wpAny_pure h
theorem zl_call {E : Value → Shared → Prop} {Q : Value → Shared → Prop} (S1 : Sce P w v1 o1 ok1 rd1 xs St1) (S2 : Sce P w v2 o2 ok2 rd2 ys St2) (Z : ZipSep2 z TI TO i1 i2 (i1 :: rd1) (i2 :: rd2)) (m1 : i1 ∉ rd1) (m2 : i2 ∉ rd2) (hh : A.handled = none) (hn : min xs.length ys.length ≤ sizeLine)
    (ok : IsZip s.heap z TI TO .none ∧ IsTupOf2 s.heap TI (.ref i1) (.ref i2) ∧ (∃ a b, IsTupOf2 s.heap TO a b) ∧ St1 i1 0 s.heap ∧ St2 i2 0 s.heap)
    (hQ : ∀ h' tk acc c as, (∀ b o, b ∉ [z, TO, i1, i2] → s.heap.get? b = some o → h'.get? b = some o) → h'.get? s.heap.objs.size = some { cls := .type "list", dict := none, data := .seq acc c, slots := #[] } → as.length = min xs.length ys.length → ZG xs ys s.heap.objs.size h' as →
      acc.toList = as.map Value.ref → Q (.ref s.heap.objs.size) { s with heap := h', toks := tk }) :
    wpAny (model P w) A (call (.type "list") [.ref z]) Q E s := by
  obtain ⟨hz, hp, ⟨x, y, hTO⟩, a1, a2⟩ := ok
  refine callType_codes (Q₁ := fun obj s₁ => obj = .ref s.heap.objs.size ∧ s₁ = { s with heap := s.heap.push { cls := .type "list", data := .seq #[] } }) PySem.F.called_list (PySem.F.typeCall_list_1 _) PySem.F.entry_list_init
    (code_list_new _ ⟨rfl, rfl⟩) fun obj s₁ h₁ => ?_
  obtain ⟨rfl, rfl⟩ := h₁
  have hS : (s.heap.push { cls := .type "list", data := .seq #[] }).get? s.heap.objs.size = some { cls := .type "list", data := .seq #[] } := Heap.get?_push_size _ rfl
  have lt : ∀ {c ob}, s.heap.get? c = some ob → c < s.heap.objs.size := fun e => Heap.lt_size e
  have O : OffS s.heap.objs.size z TI TO i1 i2 rd1 rd2 := ⟨Nat.ne_of_gt (lt hz), Nat.ne_of_gt (lt hp), Nat.ne_of_gt (lt hTO), fun b hb => let ⟨_, e⟩ := S1.live _ _ _ a1 b hb; Nat.ne_of_lt (lt e), fun b hb => let ⟨_, e⟩ := S2.live _ _ _ a2 b hb; Nat.ne_of_lt (lt e)⟩
  have hzS : ∀ b ∈ [z, TO, i1, i2], b < s.heap.objs.size := fun b hb => by
    simp only [List.mem_cons, List.not_mem_nil, or_false] at hb
    rcases hb with e | e | e | e <;> subst e
    · exact lt hz
    · exact lt hTO
    · let ⟨_, e⟩ := S1.live _ _ _ a1 b (by simp); exact lt e
    · let ⟨_, e⟩ := S2.live _ _ _ a2 b (by simp); exact lt e
  have st0 : ZSt z TI TO i1 i2 s.heap.objs.size St1 St2 0 s.heap := ⟨hp, a1, a2, .inl ⟨hz, x, y, hTO⟩⟩
  refine ⟨⟨_, hS, rfl⟩, PySem.F.args_list_init_2 _ _, ?_⟩
  show wpAny _ _ (do let old ← Builtin.List.listItems (.ref s.heap.objs.size); Builtin.List.listUpdate (.ref s.heap.objs.size) (fun _ => #[]); letGo old.toList.reverse; Builtin.List.listExtendWith (.ref s.heap.objs.size) (.ref z) .none) _ _ _
  refine wpAny_bind ?_
  unfold Builtin.List.listItems
  refine wpAny_bind (wpAny_seqItems hS rfl (wpAny_pure ?_))
  show wpAny _ _ (updateSeq s.heap.objs.size (fun _ => #[]) >>= fun _ => letGo (#[] : Array Value).toList.reverse >>= fun _ => Builtin.List.listExtendWith (.ref s.heap.objs.size) (.ref z) .none) _ _ _
  refine wpAny_bind (wpAny_updateSeq hS rfl ?_)
  have hS₂ := Heap.get?_update_self (Obj.mapSeq (fun _ => (#[] : Array Value))) hS rfl
  refine wpAny_bind (wpAny_letGo ?_)
  have k2 : ∀ b o, b ≠ s.heap.objs.size → s.heap.get? b = some o → ((s.heap.push { cls := .type "list", data := .seq #[] }).update s.heap.objs.size (Obj.mapSeq (fun _ => (#[] : Array Value)))).get? b = some o := fun b o hb e => (Heap.get?_update_other _ _ (Ne.symm hb)).trans (Heap.get?_push_of_some _ e)
  have st2 := zst_frame S1 S2 O st0 k2
  have hT2 : Shared.TypeIs { s with heap := (s.heap.push { cls := .type "list", data := .seq #[] }).update s.heap.objs.size (Obj.mapSeq (fun _ => (#[] : Array Value))) } (.ref z) "zip" := ⟨_, k2 z _ O.z.symm hz, rfl⟩
  unfold Builtin.List.listExtendWith
  refine wpAny_bind (wpAny_typeOf (T := "zip") hT2 ?_)
  have h1 : Builtin.List.listSameRef (.ref s.heap.objs.size) (.ref z) = false := by simp [Builtin.List.listSameRef, O.z]
  have h2 : (Value.type "zip" == Value.type "list") = false := by decide
  have h3 : (Value.type "zip" == Value.type "tuple") = false := by decide
  simp only [h1, h2, h3, Bool.or_false, Bool.false_eq_true, if_false]
  refine wpAny_bind (wpAny_pyIter_zip (k2 z _ O.z.symm hz) ?_)
  refine wpAny_bind (wpAny_holding (zip_hint hT2 ?_))
  simp only [Bool.true_or, if_true]
  refine wpAny_bind (wpAny_rule ?_)
  refine wpAny_bind ?_
  show wpAny _ _ (updateSeq s.heap.objs.size (·.push .none) >>= fun _ => updateSeq s.heap.objs.size (·.pop)) _ _ _
  refine wpAny_bind (wpAny_updateSeq hS₂ rfl ?_)
  have hS₃ := Heap.get?_update_self (Obj.mapSeq (·.push Value.none)) hS₂ rfl
  refine wpAny_updateSeq (hz := by seq_fits) hS₃ rfl ?_
  have hS₄ := Heap.get?_update_self (Obj.mapSeq (·.pop)) hS₃ rfl
  have k4 : ∀ b o, b ≠ s.heap.objs.size → s.heap.get? b = some o → ((((s.heap.push { cls := .type "list", data := .seq #[] }).update s.heap.objs.size (Obj.mapSeq (fun _ => (#[] : Array Value)))).update s.heap.objs.size (Obj.mapSeq (·.push Value.none))).update s.heap.objs.size (Obj.mapSeq (·.pop))).get? b = some o :=
    fun b o hb e => (Heap.get?_update_other _ _ (Ne.symm hb)).trans ((Heap.get?_update_other _ _ (Ne.symm hb)).trans (k2 b o hb e))
  refine wpAny_pure ⟨plainId_quiet PySem.F.plain_extend_loop _, zl_loop (s := { s with heap := s.heap }) (h₁ := s.heap) S1 S2 Z m1 m2 (by exact hh) O hzS hn .none (fun h' tk acc c as hk hS' hl hG hacc => ?_)
    (min xs.length ys.length) 0 _ _ _ #[] [] (Nat.sub_zero _) (Nat.zero_le _) (zst_frame S1 S2 O st0 k4) (fun b o h1 _ e => k4 b o h1 e) hS₄ rfl rfl ⟨List.Pairwise.nil, (fun _ ha => nomatch ha), (fun j a hj => by simp at hj)⟩⟩
  exact ⟨rfl, hQ h' tk acc c as (fun b o hb e => hk b o (Nat.ne_of_lt (Heap.lt_size e)) hb e) hS' hl hG hacc⟩
end
end DZ

end

/-! ## DZM -/
section
set_option Elab.async false
set_option linter.all false
set_option maxRecDepth 100000
set_option maxHeartbeats 1000000
namespace DZ
open PySem PySem.Spec PyProof.Rows L2
/-- the pairs tracked at their addresses -/
def putZ : Hp → List Addr → List (V × V) → Hp
  | H, a :: as, p :: ps => putZ (upd H a (.tup [p.1, p.2])) as ps
  | H, _, _ => H
theorem putZ_off {b : Addr} : ∀ (as : List Addr) (ps : List (V × V)) (H : Hp), b ∉ as → putZ H as ps b = H b
  | [], _, _, _ => rfl
  | _ :: _, [], _, _ => rfl
  | a :: as, p :: ps, H, h => by
    show putZ (upd H a (.tup [p.1, p.2])) as ps b = H b
    rw [putZ_off as ps _ (fun z => h (List.mem_cons_of_mem _ z)), upd_ne (fun z => h (by rw [z]; exact List.mem_cons_self))]
theorem putZ_at : ∀ (as : List Addr) (ps : List (V × V)) (H : Hp), as.length = ps.length → as.Nodup → Paired (fun (t : Addr) (p : V × V) => putZ H as ps t = some (.tup [p.1, p.2])) as ps
  | [], [], _, _, _ => .nil
  | [], _ :: _, _, h, _ => by cases h
  | _ :: _, [], _, h, _ => by cases h
  | a :: as, p :: ps, H, h, hn => by
    have hn' := List.nodup_cons.mp hn
    have ih := putZ_at as ps (upd H a (.tup [p.1, p.2])) (Nat.succ.inj h) hn'.2
    refine .cons ?_ ih
    show putZ (upd H a (.tup [p.1, p.2])) as ps a = some (.tup [p.1, p.2])
    rw [putZ_off as ps _ hn'.1, upd_same]
section
variable {X : Cx}
theorem zl_laid {pins : List (Addr × Obj)} {σ : L2.St} {H : Hp} {s : Shared} {h' : Heap} {tk : Nat} {xs ys : List V} {acc : Array Value} {c : Nat} {S : Addr} {as : List Addr} (I : Inv X pins σ H s) (hz : min xs.length ys.length ≤ sizeLine) (hnS : s.heap.objs.size ≤ S)
    (hk : ∀ b o, s.heap.get? b = some o → h'.get? b = some o) (hS : h'.get? S = some { cls := .type "list", dict := none, data := .seq acc c, slots := #[] }) (hl : as.length = min xs.length ys.length) (hG : ZG xs ys S h' as) (hacc : acc.toList = as.map Value.ref) :
    ∃ H' : Hp, (∀ b o, H b = some o → H' b = some o) ∧ H S = none ∧ (∀ t ∈ as, H t = none) ∧ S ∉ as ∧ H' S = some (.lst (as.map V.ref)) ∧ Paired (fun (t : Addr) (q : V × V) => H' t = some (.tup [q.1, q.2])) as (xs.zip ys) ∧ Inv X pins σ H' { s with heap := h', toks := tk } := by
  have lz : (xs.zip ys).length = min xs.length ys.length := List.length_zip
  have hSn : S ∉ as := fun z => Nat.lt_irrefl _ (hG.above _ z)
  have nd : as.Nodup := List.Pairwise.imp (fun {a b} (h : a < b) => Nat.ne_of_lt h) hG.rise
  have new : ∀ t ∈ as, H t = none := fun t ht => I.hok.fresh (Nat.le_of_lt (Nat.lt_of_le_of_lt hnS (hG.above t ht)))
  have newS : H S = none := I.hok.fresh hnS
  have atP := putZ_at as (xs.zip ys) (upd H S (.lst (as.map V.ref))) (by omega) nd
  have off : ∀ b, b ∉ as → b ≠ S → putZ (upd H S (.lst (as.map V.ref))) as (xs.zip ys) b = H b := fun b h1 h2 => by rw [putZ_off as _ _ h1, upd_ne h2]
  have low : ∀ b o, s.heap.get? b = some o → b ∉ as ∧ b ≠ S := fun b o e => ⟨fun z => absurd (Heap.lt_size e) (Nat.not_lt.mpr (Nat.le_of_lt (Nat.lt_of_le_of_lt hnS (hG.above b z)))), Nat.ne_of_lt (Nat.lt_of_lt_of_le (Heap.lt_size e) hnS)⟩
  have kp : ∀ b u, H b = some u → (putZ (upd H S (.lst (as.map V.ref))) as (xs.zip ys)) b = some u := fun b u e => by
    rw [off b (fun z => by rw [new b z] at e; cases e) (fun z => by rw [z, newS] at e; cases e)]
    exact e
  have eS : putZ (upd H S (.lst (as.map V.ref))) as (xs.zip ys) S = some (.lst (as.map V.ref)) := by rw [putZ_off as _ _ hSn, upd_same]
  refine ⟨putZ (upd H S (.lst (as.map V.ref))) as (xs.zip ys), kp, newS, new, hSn, eS, atP, ?_⟩
  refine I.call' (ch := []) rfl ⟨fun b o q _ _ _ => hk b o q, fun b o q _ _ _ => ⟨o.slots, hk b o q⟩, fun b o q n _ => ?_, fun b o q _ => ⟨o, hk b o q⟩, fun b xs q => kp b _ q, fun b o u q => kp b _ q, fun b ps q => ⟨#[], by rw [kp b _ q]; simp⟩⟩ (fun b u q => ?_) I.bare fun b z => by simp at z
  · obtain ⟨z1, z2⟩ := low b o q
    rw [off b z1 z2]
    exact n
  · by_cases hb : b ∈ as
    · obtain ⟨j, pk, e1, e2, e3⟩ := LiI.paired_ix atP hb
      rw [e3] at q
      cases q
      obtain ⟨u1, u2, ⟨x, fx, rx⟩, ⟨y, fy, ry⟩, f3⟩ := hG.pairs j b e1
      have ez : (xs.zip ys)[j]? = some (x, y) := by rw [List.getElem?_zip_eq_some]; exact ⟨fx, fy⟩
      rw [ez] at e2
      cases e2
      exact ⟨by show 2 ≤ sizeLine; decide, [u1, u2], .cons rx (.cons ry .nil), ⟨_, f3, rfl, _, rfl⟩⟩
    · by_cases hb2 : b = S
      · rw [hb2] at q ⊢
        rw [eS] at q
        cases q
        refine ⟨by rw [List.length_map]; omega, acc.toList, c, by rw [hacc]; exact LiI.vals_refs as, ?_⟩
        rw [Array.toArray_toList]
        exact hS
      · rw [off b hb hb2] at q
        exact (I.hok b u q).stay (fun d v _ y => hk d v y) (fun d y => kp d _ y) fun d xs y => kp d _ y
def tListZ (K : PySem.W.Frag) (ta : TA) : TE := fun σ H Q => ta σ H fun vs H1 => ∃ (v1 v2 : V) (xs ys : List V), vs = [v1, v2] ∧ SrcV K H1 v1 xs ∧ SrcV K H1 v2 ys ∧ min xs.length ys.length ≤ sizeLine ∧
  ∀ (H' : Hp) (p : Addr) (ts : List Addr), (∀ b o, H1 b = some o → H' b = some o) → H1 p = none → (∀ t ∈ ts, H1 t = none) → p ∉ ts → H' p = some (.lst (ts.map V.ref)) → Paired (fun (t : Addr) (q : V × V) => H' t = some (.tup [q.1, q.2])) ts (xs.zip ys) → Q (.ref p) H'
theorem pe_listZ {a b : Expr} {ta : TA} {p p2 pos pos2 : Pos} (hc : X.calm = true) (hg : Gl X "list") (hm : X.mg "list" = none) (hg2 : Gl X "zip") (hm2 : X.mg "zip" = none) (hv : bootBuiltins "list" = some (.type "list")) (ha : PA X [a, b] ta)
    (hs : starEach [a, b] X.env = (false, eval a X.env) :: starEach [b] X.env := by rfl) (hpl : (backTo pos2 (starEach [b] X.env)).any (·.1) = false := by rfl)
    (hs2 : starEach [Expr.Call (.Name "zip" p2) [a, b] [] pos2] X.env = (false, eval (Expr.Call (.Name "zip" p2) [a, b] [] pos2) X.env) :: starEach [] X.env := by rfl) (hpl2 : (backTo pos (starEach [] X.env)).any (·.1) = false := by rfl) :
    PE X (.Call (.Name "list" p) [.Call (.Name "zip" p2) [a, b] [] pos2] [] pos) (tListZ X.K ta) := by
  refine ⟨fun pins s σ H Q I h => ?_⟩
  refine Call_ (ld_blt I hg hm hv (PyProof.Rows.callWith_type1 ?_ hs2 hpl2))
  rw [hs2]
  show wpAny _ _ (spliced ((false, eval (Expr.Call (.Name "zip" p2) [a, b] [] pos2) X.env) :: backTo pos (starEach [] X.env))) _ _ s
  refine Calls.spliced_cons (Call_ (ld_blt I hg2 hm2 PyProof.Rows.boot_zip (PyProof.Rows.callWith_type1 (thn (ha.run pos2 pins s σ H _ I h) fun us s1 ⟨vs, H1, I1, r1, q1⟩ => ?_) hs hpl)))
  obtain ⟨v1, v2, xs, ys, rfl, hx, hy, sz, q⟩ := q1
  cases r1 with
  | cons ra rr =>
    cases rr with
    | cons rb rr =>
      cases rr
      refine call_zipS I1 ra rb hx hy fun z TI TO i1 i2 o1 o2 ok1 ok2 rd1 rd2 St1 St2 h' S1 S2 Z m1 m2 ok new hk => ?_
      have I2 : Inv X pins σ H1 { s1 with heap := h' } := I1.kept (t' := s1.toks) hk
      refine Calls.spliced_nil ?_
      refine zl_call (s := { s1 with heap := h' }) S1 S2 Z m1 m2 (I1.ok.hd hc) sz ok fun h2 tk acc c as k2 hS hl hG hacc => ?_
      have hsz : s1.heap.objs.size ≤ h'.objs.size := by
        rcases Nat.lt_or_ge h'.objs.size s1.heap.objs.size with c | c
        · exfalso
          have zz := ok.1
          exact Nat.lt_irrefl _ (Nat.lt_of_lt_of_le (Nat.lt_trans (Heap.lt_size zz) c) (new z (by simp)))
        · exact c
      have k3 : ∀ c o, s1.heap.get? c = some o → h2.get? c = some o := fun c o e => k2 c o (fun m => by have n4 := new c m; exact absurd (Heap.lt_size e) (Nat.not_lt.mpr n4)) (hk c o e)
      obtain ⟨H', e1, e2, e3, e4, e5, e6, J⟩ := zl_laid (tk := tk) I1 sz hsz k3 hS hl hG hacc
      exact ⟨.ref h'.objs.size, H', J, rfl, q H' _ as e1 e2 e3 e4 e5 e6⟩
end
end DZ
namespace DL
open PySem PySem.Spec PyProof.Rows L2 DZ
def gListZ (ds : List D) (S : Store) : Out D := match ds with
  | [d, e] => match seqI S d, seqI S e with
    | some p, some q => if min p.1.length q.1.length ≤ big then .ok (.lst (zipD p.1 q.1)) S else .no
    | _, _ => .no
  | _ => .no
section
variable {X : Cx} {G : String → Addr} {W : WX} {K : PySem.W.Frag} {ι : Ad} {H : Hp}
/-- new objects that are no cells -/
theorem Ext.more {H' : Hp} (hk : ∀ b o, H b = some o → H' b = some o) : Ext ι H ι H' := ⟨Pre.refl _, fun a o _ h => hk a o h, fun _ h => .inl h, fun a o u h => hk a _ h⟩
theorem Rep.more {S : Store} {H' : Hp} (r : Rep K G ι S H) (hk : ∀ b o, H b = some o → H' b = some o) : Rep K G ι S H' where
  nd := r.nd
  dis := r.dis
  hid a h := let ⟨o, e⟩ := r.hid a h; ⟨o, hk a o e⟩
  len := r.len
  cell i a c h1 h2 := by
    have hc := r.cell i a c h1 h2
    have e : Ext ι H ι H' := Ext.more hk
    cases c with
    | lst l => obtain ⟨vs, h, k⟩ := hc; exact ⟨vs, hk _ _ h, k.ext e⟩
    | dct l => obtain ⟨vs, h, k⟩ := hc; exact ⟨vs, hk _ _ h, k.ext e⟩
    | ins c fs => obtain ⟨dx, vs, h, k⟩ := hc; exact ⟨dx, vs, hk _ _ h, k.ext e⟩
    | shut l => obtain ⟨o, vs, h, k⟩ := hc; exact ⟨o, vs, hk _ _ h, k.ext e⟩
theorem zip_all {H' : Hp} (hout : ∀ t, H t = none → t ∉ ι) : ∀ {l r : List D} {xs ys : List V} {ts : List Addr}, IsAll K G ι H' l xs → IsAll K G ι H' r ys → (∀ t ∈ ts, H t = none) → Paired (fun (t : Addr) (q : V × V) => H' t = some (.tup [q.1, q.2])) ts (xs.zip ys) → IsAll K G ι H' (zipD l r) (ts.map V.ref)
  | [], _, _, _, _, .nil, _, _, h => by cases h; exact .nil
  | _ :: _, [], _, _, _, .cons _ _, .nil, _, h => by cases h; exact .nil
  | _ :: _, _ :: _, _, _, _, .cons a t, .cons b u, hn, h => by
    cases h with
    | cons e h =>
      refine .cons (.tup (.inl ⟨.inl e, hout _ (hn _ (List.mem_cons_self ..))⟩) (.cons a (.cons b .nil))) (zip_all hout t u (fun x hx => hn x (List.mem_cons_of_mem _ hx)) h)
theorem de_listZ {a b : Expr} {m : MA} {p p2 pos pos2 : Pos} (hc : X.calm = true) (hm : X.mg "list" = none) (hm2 : X.mg "zip" = none) (ha : PA X [a, b] (tA X.K G W m)) (hg : Gl X "list" := by rfl) (hg2 : Gl X "zip" := by rfl)
    (hs : starEach [a, b] X.env = (false, eval a X.env) :: starEach [b] X.env := by rfl) (hpl : (backTo pos2 (starEach [b] X.env)).any (·.1) = false := by rfl)
    (hs2 : starEach [Expr.Call (.Name "zip" p2) [a, b] [] pos2] X.env = (false, eval (Expr.Call (.Name "zip" p2) [a, b] [] pos2) X.env) :: starEach [] X.env := by rfl) (hpl2 : (backTo pos (starEach [] X.env)).any (·.1) = false := by rfl) :
    PE X (.Call (.Name "list" p) [.Call (.Name "zip" p2) [a, b] [] pos2] [] pos) (tE X.K G W (mAll m gListZ)) := by
  refine pe_imp (pe_listZ hc hg hm hg2 hm2 (by decide +kernel) ha hs hpl hs2 hpl2) fun σ H Q ⟨ι, ρ, S, ⟨he, hr⟩, h⟩ => ?_
  refine ⟨ι, ρ, S, ⟨he, hr⟩, (PostA.bindE h).imp fun v H1 ⟨ι1, ds, S1, x1, r1, i1, h1⟩ => ?_⟩
  unfold gListZ at h1
  cases i1 with
  | nil => exact h1.elim
  | cons ia it =>
    cases it with
    | nil => exact h1.elim
    | cons ib it =>
      cases it with
      | cons _ _ => exact h1.elim
      | nil =>
        simp only at h1
        split at h1
        · rename_i l r hl hr2
          split at h1
          · rename_i hb
            obtain ⟨xs, hx, hi⟩ := src_is r1 ia hl
            obtain ⟨ys, hy, hj⟩ := src_is r1 ib hr2
            refine ⟨_, _, xs, ys, rfl, hx, hy, by rw [← hi.len, ← hj.len]; exact big_line hb, fun H' p ts k1 k2 k3 k4 k5 k6 => ?_⟩
            have e : Ext ι1 H1 ι1 H' := Ext.more k1
            exact h1 ι1 H' _ e (r1.more k1) (.lst k5 (r1.out k2) (zip_all (fun t ht => r1.out ht) (hi.ext e) (hj.ext e) k3 k6))
          · exact h1.elim
        · exact h1.elim
end
end DL

end

/-! ## DVD -/
section
set_option Elab.async false
set_option linter.all false
set_option maxRecDepth 100000
/-! # == and != where dict cells may stand -/
namespace DL
open PySem PySem.Spec PyProof.Rows L2
def hitsK (ls : List (Key × D)) : List (Key × D) → Option Bool
  | [] => some true
  | (k, v) :: r => match getD ls k with
    | none => some false
    | some u => match eqD v u, hitsK ls r with
      | some e, some b => some (e && b)
      | _, _ => none
def dctAt (S : Store) : D → Option (List (Key × D))
  | .ref n => match S[n]? with
    | some (.dct l) => some l
    | _ => none
  | _ => none
def eqT (S : Store) (d e : D) : Option Bool := match dctAt S d, dctAt S e with
  | some ks, some ls => if ks.length = ls.length then hitsK ls ks else some false
  | none, none => eqS S d e
  | _, _ => none
def gEqT (d e : D) (S : Store) : Out D := match eqT S d e with
  | some b => .ok (.bl b) S
  | none => .no
def gNeT (d e : D) (S : Store) : Out D := match eqT S d e with
  | some b => .ok (.bl (!b)) S
  | none => .no
/-- the pairs of one dict looked up in the other one -/
inductive HitV (K : PySem.W.Frag) (H : Hp) (ls : List (Key × V)) : List (Key × V) → Bool → Prop
  | nil : HitV K H ls [] true
  | miss {k : Key} {v : V} {r : List (Key × V)} : valV ls k = none → HitV K H ls ((k, v) :: r) false
  | hit {k : Key} {v u : V} {r : List (Key × V)} {d e : PyData} {b : Bool} : valV ls k = some u → Dp K H v d → Dp K H u e → SeqAt.shaped d = true → SeqAt.shaped e = true → HitV K H ls r b → HitV K H ls ((k, v) :: r) (PyData.eqv d e && b)
def rEqG (K : PySem.W.Frag) : R2 := fun x y H Q => ∃ a b ks ls r, x = .ref a ∧ y = .ref b ∧ H a = some (.dK ks) ∧ H b = some (.dK ls) ∧ (ks.length = ls.length → HitV K H ls ks r) ∧ Q (.bl (ks.length == ls.length && r)) H
def rNeG (K : PySem.W.Frag) : R2 := fun x y H Q => ∃ a b ks ls r, x = .ref a ∧ y = .ref b ∧ H a = some (.dK ks) ∧ H b = some (.dK ls) ∧ (ks.length = ls.length → HitV K H ls ks r) ∧ Q (.bl (!(ks.length == ls.length && r))) H
section
variable {X : Cx} {pins : List (Addr × Obj)} {σ : L2.St} {H : Hp} {s : Shared}
theorem hits_of (I : Inv X pins σ H s) {A : Around} (hu : A.units + 64 < cLine) {ls : List (Key × V)} {vb : List (Key × Value)} (rb : KV ls vb) : ∀ {ks : List (Key × V)} {va : List (Key × Value)} {r : Bool}, KV ks va → HitV X.K H ls ks r → PySem.W.KeqHits A s vb va r
  | [], _, _, ra, h => by
    cases ra
    cases h
    exact .nil
  | (k, v) :: ks, _, _, ra, h => by
    cases ra with
    | @cons _ q _ qs h12 t =>
      obtain ⟨key, x⟩ := q
      obtain ⟨h1, h2⟩ := h12
      have h1' : k = key := h1
      subst h1'
      cases h with
      | miss e =>
        have rr : RelO (none : Option V) (valueAt vb k) := by rw [← e]; exact rb.val k
        have : valueAt vb k = none := by
          cases hv : valueAt vb k with
          | none => rfl
          | some u => rw [hv] at rr; exact rr.elim
        exact .miss this
      | @hit _ _ u _ d e b hv hd he sd se hr =>
        have rr : RelO (some u) (valueAt vb k) := by rw [← hv]; exact rb.val k
        obtain ⟨y, hy, ry⟩ := rr.some_of
        obtain ⟨as, r1⟩ := Dp.reads I d v x hd h2
        obtain ⟨bs, r2⟩ := Dp.reads I e u y he ry
        simp only [SeqAt.shaped, Bool.and_eq_true, decide_eq_true_eq] at sd se
        refine .hit hy ?_ (hits_of I hu rb t hr)
        exact fun prog w E Q hQ => PySem.SeqAt.eqBoolOverData prog w A E s x y d e as bs Q r1 r2 sd.1 se.1 (by have := Nat.min_le_left d.depth e.depth; omega) hQ
theorem op_eqG (hu : X.A.units + 65 < cLine) : OpR X (compareOp .Eq) (rEqG X.K) := by
  intro pins s σ H x y v u Q I rx ry h
  obtain ⟨a, b, ks, ls, r, rfl, rfl, ea, eb, hp, q⟩ := h
  obtain rfl : v = Value.ref a := rx
  obtain rfl : u = Value.ref b := ry
  obtain ⟨_, ya, va, ra, da⟩ := (show ObjOk X.prog X.w H s.heap a (.dK ks) from I.hok a _ ea)
  obtain ⟨_, yb, vb, rb, db⟩ := (show ObjOk X.prog X.w H s.heap b (.dK ls) from I.hok b _ eb)
  have e1 : ks.length = va.length := ra.length
  have e2 : ls.length = vb.length := rb.length
  refine PySem.W.keq_eq (knd := mixKind X.prog X.w) (r := r) ya yb da db (by omega) (fun hl => hits_of I (by show X.A.units + 1 + 64 < cLine; omega) rb ra (hp (by omega))) ?_
  rw [← e1, ← e2]
  exact ⟨.bl _, H, I, rfl, q⟩
theorem op_neG (hu : X.A.units + 65 < cLine) : OpR X (compareOp .NotEq) (rNeG X.K) := by
  intro pins s σ H x y v u Q I rx ry h
  obtain ⟨a, b, ks, ls, r, rfl, rfl, ea, eb, hp, q⟩ := h
  obtain rfl : v = Value.ref a := rx
  obtain rfl : u = Value.ref b := ry
  obtain ⟨_, ya, va, ra, da⟩ := (show ObjOk X.prog X.w H s.heap a (.dK ks) from I.hok a _ ea)
  obtain ⟨_, yb, vb, rb, db⟩ := (show ObjOk X.prog X.w H s.heap b (.dK ls) from I.hok b _ eb)
  have e1 : ks.length = va.length := ra.length
  have e2 : ls.length = vb.length := rb.length
  refine PySem.W.keq_ne (knd := mixKind X.prog X.w) (r := r) ya yb da db (by omega) (fun hl => hits_of I (by show X.A.units + 1 + 64 < cLine; omega) rb ra (hp (by omega))) ?_
  rw [← e1, ← e2]
  exact ⟨.bl _, H, I, rfl, q⟩
end
section
variable {X : Cx} {G : String → Addr} {K : PySem.W.Frag} {ι : Ad} {H : Hp}
theorem hitsK_is {ls : List (Key × D)} {ws : List (Key × V)} (hb : IsKV K G ι H ls ws) : ∀ {ks : List (Key × D)} {vs : List (Key × V)} {r : Bool}, IsKV K G ι H ks vs → hitsK ls ks = some r → HitV K H ws vs r
  | [], _, r, .nil, h => by cases h; exact .nil
  | (k, v) :: ks, _, r, .cons (b := q) h t, e => by
    obtain ⟨k2, x⟩ := q
    obtain ⟨h1, h2⟩ := h
    have h1' : k = k2 := h1
    subst h1'
    unfold hitsK at e
    rcases hb.get k with ⟨g1, g2⟩ | ⟨d, u, g1, g2, g3⟩
    · rw [g1] at e
      cases e
      exact .miss g2
    · rw [g1] at e
      simp only at e
      cases hq : eqD v d with
      | none => rw [hq] at e; cases e
      | some b1 =>
        cases hr : hitsK ls ks with
        | none => rw [hq, hr] at e; cases e
        | some b2 =>
          rw [hq, hr] at e
          cases e
          unfold eqD at hq
          split at hq
          · rename_i p p' hp hp'
            split at hq
            · rename_i hs
              cases hq
              exact .hit g2 (h2.dp hp) (g3.dp hp') hs.1 hs.2 (hitsK_is hb t hr)
            · cases hq
          · cases hq
theorem dctAt_is {S : Store} {d : D} {v : V} {ks : List (Key × D)} (r : Rep K G ι S H) (i : Is K G ι H d v) (h : dctAt S d = some ks) : ∃ a vs, v = .ref a ∧ H a = some (.dK vs) ∧ IsKV K G ι H ks vs := by
  cases i with
  | ref e =>
    simp only [dctAt] at h
    split at h
    · rename_i l hs
      cases h
      obtain ⟨vs, h1, h2⟩ := r.cell _ _ _ e hs
      exact ⟨_, vs, rfl, h1, h2⟩
    · cases h
  | _ => cases h
def rEqT (K : PySem.W.Frag) : R2 := fun x y H Q => rEqD K x y H Q ∨ rEqG K x y H Q
def rNeT (K : PySem.W.Frag) : R2 := fun x y H Q => rNeD K x y H Q ∨ rNeG K x y H Q
theorem ok_eqT : R2Ok X.K G (rEqT X.K) gEqT := by
  intro W ι H S σ x y d e Q r ix iy q
  unfold gEqT eqT at q
  split at q
  · rename_i b hb
    split at hb
    · rename_i ks ls h1 h2
      obtain ⟨a, vs, rfl, ha, ia⟩ := dctAt_is r ix h1
      obtain ⟨c, ws, rfl, hc, ic⟩ := dctAt_is r iy h2
      have l1 := ia.len
      have l2 := ic.len
      by_cases hl : ks.length = ls.length
      · rw [if_pos hl] at hb
        refine .inr ⟨a, c, vs, ws, b, rfl, rfl, ha, hc, fun _ => hitsK_is ic ia hb, ?_⟩
        have e : (vs.length == ws.length) = true := by rw [← l1, ← l2, hl]; simp
        rw [e, Bool.true_and]
        exact PostE.ok q r (.bl _)
      · rw [if_neg hl] at hb
        cases hb
        refine .inr ⟨a, c, vs, ws, false, rfl, rfl, ha, hc, fun z => absurd (by omega) hl, ?_⟩
        rw [Bool.and_false]
        exact PostE.ok q r (.bl _)
    · refine .inl (ok_eqS W ι H S σ x y d e Q r ix iy ?_)
      unfold gEqS
      rw [hb]
      exact q
    · cases hb
  · exact q.elim
theorem ok_neT : R2Ok X.K G (rNeT X.K) gNeT := by
  intro W ι H S σ x y d e Q r ix iy q
  unfold gNeT eqT at q
  split at q
  · rename_i b hb
    split at hb
    · rename_i ks ls h1 h2
      obtain ⟨a, vs, rfl, ha, ia⟩ := dctAt_is r ix h1
      obtain ⟨c, ws, rfl, hc, ic⟩ := dctAt_is r iy h2
      have l1 := ia.len
      have l2 := ic.len
      by_cases hl : ks.length = ls.length
      · rw [if_pos hl] at hb
        refine .inr ⟨a, c, vs, ws, b, rfl, rfl, ha, hc, fun _ => hitsK_is ic ia hb, ?_⟩
        have e : (vs.length == ws.length) = true := by rw [← l1, ← l2, hl]; simp
        rw [e, Bool.true_and]
        exact PostE.ok q r (.bl _)
      · rw [if_neg hl] at hb
        cases hb
        refine .inr ⟨a, c, vs, ws, false, rfl, rfl, ha, hc, fun z => absurd (by omega) hl, ?_⟩
        rw [Bool.and_false]
        exact PostE.ok q r (.bl _)
    · refine .inl (ok_neS W ι H S σ x y d e Q r ix iy ?_)
      unfold gNeS
      rw [hb]
      exact q
    · cases hb
  · exact q.elim
end
section
variable {X : Cx} {G : String → Addr} {W : WX} {a b : Expr} {ma mb : M} {pos : Pos}
theorem op_eqTT (hu : X.A.units + 65 < cLine) : OpR X (compareOp .Eq) (rEqT X.K) := OpR.or (op_eqD (by omega)) (op_eqG hu)
theorem op_neTT (hu : X.A.units + 65 < cLine) : OpR X (compareOp .NotEq) (rNeT X.K) := OpR.or (op_neD (by omega)) (op_neG hu)
theorem de_eqT (hu : X.A.units + 65 < cLine) (ha : PE X a (tE X.K G W ma)) (hb : PE X b (tE X.K G W mb)) : PE X (.Compare a [.Eq] [b] pos) (tE X.K G W (mB2 ma mb gEqT)) := pe_imp (pe_cmpR (op_eqTT hu) ha hb (nomark _)) (t2_of ok_eqT)
theorem de_neT (hu : X.A.units + 65 < cLine) (ha : PE X a (tE X.K G W ma)) (hb : PE X b (tE X.K G W mb)) : PE X (.Compare a [.NotEq] [b] pos) (tE X.K G W (mB2 ma mb gNeT)) := pe_imp (pe_cmpR (op_neTT hu) ha hb (nomark _)) (t2_of ok_neT)
theorem dt_eqT (hu : X.A.units + 65 < cLine) (ha : PE X a (tE X.K G W ma)) (hb : PE X b (tE X.K G W mb)) : PT X (.Compare a [.Eq] [b] pos) (tT X.K G W (tOfB (mB2 ma mb gEqT))) := dt_cmp (op_eqTT hu) ok_eqT ha hb (nomark _)
theorem dt_neT (hu : X.A.units + 65 < cLine) (ha : PE X a (tE X.K G W ma)) (hb : PE X b (tE X.K G W mb)) : PT X (.Compare a [.NotEq] [b] pos) (tT X.K G W (tOfB (mB2 ma mb gNeT))) := dt_cmp (op_neTT hu) ok_neT ha hb (nomark _)
end
end DL

end

/-! ## DR -/
section
set_option Elab.async false
set_option linter.all false
set_option maxRecDepth 100000
/-! # repr of data -/
namespace DL
open PySem PySem.Spec PyProof.Rows L2
mutual
/-- data without lists and dicts -/
def noL : PyData → Bool
  | .none | .bool _ | .int _ | .str _ => true
  | .tuple xs => noLs xs
  | .list _ => false
  | .dict _ => false
def noLs : List PyData → Bool
  | [] => true
  | x :: xs => noL x && noLs xs
end
mutual
theorem noL_nil {h : Heap} : ∀ (d : PyData) (v : Value) (as : List Addr), Reads h v d as → noL d = true → as = []
  | .none, _, _, r, _ => by cases r; rfl
  | .bool _, _, _, r, _ => by cases r; rfl
  | .int _, _, _, r, _ => by cases r; rfl
  | .str _, _, _, r, _ => by cases r; rfl
  | .tuple xs, _, _, r, e => by
    cases r with
    | tuple _ _ _ q => exact noLs_nil xs _ _ q (by simpa [noL] using e)
  | .list _, _, _, _, e => by simp [noL] at e
  | .dict _, _, _, _, e => by simp [noL] at e
theorem noLs_nil {h : Heap} : ∀ (ds : List PyData) (vs : List Value) (as : List Addr), ReadsAll h vs ds as → noLs ds = true → as = []
  | [], _, _, r, _ => by cases r; rfl
  | d :: ds, _, _, r, e => by
    simp only [noLs, Bool.and_eq_true] at e
    cases r with
    | cons a b => rw [noL_nil d _ _ a e.1, noLs_nil ds _ _ b e.2]; rfl
end
def keyPy : Key → PyData
  | .inl i => .int i
  | .inr s => .str s
def pyKV : List (Key × D) → Option (List (PyData × PyData))
  | [] => some []
  | (k, v) :: r => match v.py, pyKV r with
    | some p, some ps => if noL p = true then some ((keyPy k, p) :: ps) else none
    | _, _ => none
def pyR (S : Store) (d : D) : Option PyData := match d with
  | .ref n => match S[n]? with
    | some (.lst l) => (D.pyAll l).map .list
    | some (.dct kvs) => (pyKV kvs).map .dict
    | _ => none
  | d => d.py
def reprOk (p : PyData) : Bool := p.showable && decide (p.depth ≤ 64) && decide (p.shown.length ≤ big) && (!p.hasDict || (match p with | .dict _ => true | _ => false))
def gRepr (d : D) (S : Store) : Out D := match pyR S d with
  | some p => if reprOk p = true then .ok (.str p.shown) S else .no
  | none => .no
def rReprD (K : PySem.W.Frag) : List V → Hp → VK → Prop := fun xs H Q => ∃ x p, xs = [x] ∧ Dp K H x p ∧ reprOk p = true ∧ Q (.str p.shown) H
def PKV (K : PySem.W.Frag) (H : Hp) : List (Key × V) → List (PyData × PyData) → Prop := Paired fun kv pp => pp.1 = keyPy kv.1 ∧ Dp K H kv.2 pp.2 ∧ noL pp.2 = true
def rReprK (K : PySem.W.Frag) : List V → Hp → VK → Prop := fun xs H Q => ∃ a kvs ps, xs = [.ref a] ∧ H a = some (.dK kvs) ∧ PKV K H kvs ps ∧ reprOk (.dict ps) = true ∧ Q (.str (PyData.dict ps).shown) H
section
variable {X : Cx} {pins : List (Addr × Obj)} {σ : L2.St} {H : Hp} {s : Shared}
theorem hasDict_of : ∀ {v : V} {p : PyData} {K : PySem.W.Frag} {H : Hp}, Dp K H v p → reprOk p = true → p.hasDict = false := fun {v p K H} h e => by
  simp only [reprOk, Bool.and_eq_true, Bool.or_eq_true, Bool.not_eq_true'] at e
  rcases e.2 with e | e
  · exact e
  · cases h <;> simp at e
theorem call_reprD (hu : X.A.units + 65 < cLine) (hg : X.A.guards = some []) : CallR X (.builtin "repr") (rReprD X.K) := by
  intro pins s σ H xs us Q I r h
  obtain ⟨x, p, rfl, hd, hr, q⟩ := h
  have hh := hasDict_of hd hr
  have hr' := hr
  simp only [reprOk, Bool.and_eq_true, decide_eq_true_eq] at hr'
  obtain ⟨⟨⟨h1, h2⟩, h3⟩, _⟩ := hr'
  have h4 : p.shown.length ≤ sizeLine := big_line h3
  obtain ⟨u, rfl, rx⟩ := vals1 r
  cases hd with
  | non =>
    cases rx
    exact PySem.P.repr_of_none ⟨.str _, H, I.tok _, ⟨_, rfl⟩, q⟩
  | bl b =>
    cases rx
    exact PySem.P.repr_of_bool ⟨.str _, H, I.tok _, ⟨_, rfl⟩, q⟩
  | int i =>
    obtain ⟨t, rfl⟩ := rx
    exact PySem.P.repr_of_int (by simpa [PyData.showable] using h1) ⟨.str _, H, I.tok _, ⟨_, rfl⟩, q⟩
  | str z =>
    obtain ⟨t, rfl⟩ := rx
    exact PySem.P.repr_of_str ⟨.str _, H, I.tok _, ⟨_, rfl⟩, q⟩ h4
  | lst hs ha =>
    cases rx
    obtain ⟨as, rd⟩ := Dp.reads I _ _ _ (.lst hs ha) rfl
    exact repr_of_reads' rd h1 (PyData.noDict_hsm hh) hg (by omega) (fun _ _ e => e) (fun h' u tk hk => ⟨.str _, H, I.kept hk, ⟨_, rfl⟩, q⟩) h4
  | tup hs ha =>
    cases rx
    obtain ⟨as, rd⟩ := Dp.reads I _ _ _ (.tup hs ha) rfl
    exact repr_of_reads' rd h1 (PyData.noDict_hsm hh) hg (by omega) (fun _ _ e => e) (fun h' u tk hk => ⟨.str _, H, I.kept hk, ⟨_, rfl⟩, q⟩) h4
theorem key_reads {h : Heap} (k : Key) (key : Value) (e : (mixKind X.prog X.w).is k key = true) : Reads h key (keyPy k) [] := by
  rcases keyIs_shape (show keyIs k key = true from e) with ⟨i, t, rfl, rfl⟩ | ⟨x, t, rfl, rfl⟩
  · exact Reads.int i t
  · exact Reads.str x t
theorem pairs_read (I : Inv X pins σ H s) : ∀ {kvs : List (Key × V)} {vs : List (Key × Value)} {ps : List (PyData × PyData)}, KV kvs vs → PKV X.K H kvs ps → PyProof.V.PairsRead s.heap keyPy vs ps []
  | [], _, _, a, b => by
    cases a
    cases b
    exact .nil
  | (k, v) :: kvs, _, _, a, b => by
    cases a with
    | @cons _ q _ _ a1 a2 =>
      cases b with
      | @cons _ pp _ _ b1 b2 =>
        obtain ⟨k2, u⟩ := q
        obtain ⟨p1, p2⟩ := pp
        obtain ⟨e1, e2⟩ := a1
        obtain ⟨f1, f2, f3⟩ := b1
        have e1' : k = k2 := e1
        have f1' : p1 = keyPy k := f1
        subst e1'
        subst f1'
        obtain ⟨as, rd⟩ := Dp.reads I p2 v u f2 e2
        have he := noL_nil _ _ _ rd f3
        subst he
        exact .cons rd (pairs_read I a2 b2)
theorem call_reprK (hu : X.A.units + 65 < cLine) (hg : X.A.guards = some []) : CallR X (.builtin "repr") (rReprK X.K) := by
  intro pins s σ H xs us Q I r h
  obtain ⟨a, kvs, ps, rfl, ha, hp, hr, q⟩ := h
  simp only [reprOk, Bool.and_eq_true, decide_eq_true_eq] at hr
  obtain ⟨⟨⟨h1, h2⟩, h3⟩, _⟩ := hr
  have h4 : (PyData.dict ps).shown.length ≤ sizeLine := big_line h3
  obtain ⟨u, rfl, rx⟩ := vals1 r
  cases rx
  obtain ⟨_, ya, va, ra, da⟩ := (show ObjOk X.prog X.w H s.heap a (.dK kvs) from I.hok a _ ha)
  have rd := PyProof.V.reads_dictOf (enc := keyPy) (fun k key e => key_reads k key e) da (pairs_read I ra hp)
  refine repr_of_reads' rd h1 (fun _ m => ?_) hg (by omega) (fun _ _ e => e) (fun h' u tk hk => ⟨.str _, H, I.kept hk, ⟨_, rfl⟩, q⟩) h4
  have e := List.mem_singleton.mp m
  rw [← e] at ya
  simp at ya
def rRepr (K : PySem.W.Frag) : List V → Hp → VK → Prop := fun xs H Q => rReprD K xs H Q ∨ rReprK K xs H Q
theorem call_repr (hu : X.A.units + 65 < cLine) (hg : X.A.guards = some []) : CallR X (.builtin "repr") (rRepr X.K) := CallR.or (call_reprD hu hg) (call_reprK hu hg)
end
section
variable {X : Cx} {G : String → Addr} {K : PySem.W.Frag} {ι : Ad} {H : Hp}
theorem pkv_is : ∀ {kvs : List (Key × D)} {ws : List (Key × V)} {ps : List (PyData × PyData)}, IsKV K G ι H kvs ws → pyKV kvs = some ps → PKV K H ws ps
  | [], _, _, .nil, e => by cases e; exact .nil
  | (k, v) :: kvs, _, ps, .cons (b := q) h t, e => by
    unfold pyKV at e
    split at e
    · rename_i p ps' hp hps
      split at e
      · rename_i hn
        cases e
        refine .cons ⟨?_, h.2.dp hp, hn⟩ (pkv_is t hps)
        rw [← h.1]
      · cases e
    · cases e
theorem ok_repr : RAOk X.K G (rRepr X.K) (g1 gRepr) := by
  intro W ι H S σ xs ds Q r i q
  cases i with
  | nil => exact q.elim
  | cons a t =>
    cases t with
    | cons _ _ => exact q.elim
    | nil =>
      rename_i d v
      simp only [g1, gRepr] at q
      split at q
      · rename_i p hp
        split at q
        · rename_i hr
          by_cases hx : ∃ n, d = .ref n
          · obtain ⟨n, rfl⟩ := hx
            cases a with
            | ref en =>
              simp only [pyR] at hp
              split at hp
              · rename_i l hl
                obtain ⟨vs, h1, h2⟩ := r.lst hl en
                obtain ⟨ps, hps, rfl⟩ := Option.map_eq_some_iff.mp hp
                exact .inl ⟨_, _, rfl, .lst (SqL.of h1) (h2.dp hps), hr, PostE.ok q r (.str _)⟩
              · rename_i kvs hl
                obtain ⟨vs, h1, h2⟩ := r.cell _ _ _ en hl
                obtain ⟨ps, hps, rfl⟩ := Option.map_eq_some_iff.mp hp
                exact .inr ⟨_, vs, ps, rfl, h1, pkv_is h2 hps, hr, PostE.ok q r (.str _)⟩
              · cases hp
          · have e : pyR S d = d.py := by cases d <;> first | rfl | exact absurd ⟨_, rfl⟩ hx
            rw [e] at hp
            exact .inl ⟨_, _, rfl, a.dp hp, hr, PostE.ok q r (.str _)⟩
        · exact q.elim
      · exact q.elim
end
end DL

end

/-! ## DIB -/
section
set_option Elab.async false
set_option linter.all false
set_option maxRecDepth 100000
namespace DL
open PySem PySem.Spec PyProof.Rows L2
def gIsB : D → D → Store → Out D
  | .bl a, .bl b, S => .ok (.bl (decide (a = b))) S
  | _, _, _ => .no
def gNotB : D → D → Store → Out D
  | .bl a, .bl b, S => .ok (.bl (!decide (a = b))) S
  | _, _, _ => .no
section
variable {X : Cx} {G : String → Addr} {W : WX} {a b : Expr} {ma mb : M} {pos : Pos}
theorem ok_isB : R2Ok X.K G rIsB gIsB := by
  intro W ι H S σ x y d e Q r ix iy q
  cases ix <;> cases iy <;> first | exact q.elim | exact ⟨_, _, rfl, rfl, PostE.ok q r (.bl _)⟩
theorem ok_notB : R2Ok X.K G rNotB gNotB := by
  intro W ι H S σ x y d e Q r ix iy q
  cases ix <;> cases iy <;> first | exact q.elim | exact ⟨_, _, rfl, rfl, PostE.ok q r (.bl _)⟩
theorem de_isB (ha : PE X a (tE X.K G W ma)) (hb : PE X b (tE X.K G W mb)) : PE X (.Compare a [.Is] [b] pos) (tE X.K G W (mB2 ma mb gIsB)) := pe_imp (pe_cmpR op_isBl ha hb (nomark _)) (t2_of ok_isB)
theorem de_notB (ha : PE X a (tE X.K G W ma)) (hb : PE X b (tE X.K G W mb)) : PE X (.Compare a [.IsNot] [b] pos) (tE X.K G W (mB2 ma mb gNotB)) := pe_imp (pe_cmpR op_notBl ha hb (nomark _)) (t2_of ok_notB)
theorem dt_isB (ha : PE X a (tE X.K G W ma)) (hb : PE X b (tE X.K G W mb)) : PT X (.Compare a [.Is] [b] pos) (tT X.K G W (tOfB (mB2 ma mb gIsB))) := dt_cmp op_isBl ok_isB ha hb (nomark _)
theorem dt_notB (ha : PE X a (tE X.K G W ma)) (hb : PE X b (tE X.K G W mb)) : PT X (.Compare a [.IsNot] [b] pos) (tT X.K G W (tOfB (mB2 ma mb gNotB))) := dt_cmp op_notBl ok_notB ha hb (nomark _)
end
end DL

end

/-! ## DS -/
section
set_option Elab.async false
set_option linter.all false
set_option maxRecDepth 100000
namespace DL
open PySem PySem.Spec PyProof.Rows L2
section
variable {α : Type} {ρ ρ' : Env} {S S' : Store} {f : α → Store → Fl} {b : MS} {d : D} {c : String} {fs : List (Str × D)} {a : α}
theorem fl_ok : (Out.ok a S').fl ρ f = f a S' := rfl
theorem fl_ex : (Out.ex c fs S' : Out α).fl ρ f = .ex c fs ρ S' := rfl
theorem fl_no : (Out.no : Out α).fl ρ f = .no := rfl
theorem seq_nx : (Fl.nx ρ S).seq b = b ρ S := rfl
theorem seq_rt : (Fl.rt d S).seq b = .rt d S := rfl
theorem seq_ex : (Fl.ex c fs ρ S).seq b = .ex c fs ρ S := rfl
theorem seq_bk : (Fl.bk ρ S).seq b = .bk ρ S := rfl
theorem seq_ct : (Fl.ct ρ S).seq b = .ct ρ S := rfl
theorem out_nx : (Fl.nx ρ S).out = .ok .non S := rfl
theorem out_rt : (Fl.rt d S).out = .ok d S := rfl
theorem out_ex : (Fl.ex c fs ρ S).out = .ex c fs S := rfl
theorem fl_if {p : Prop} [Decidable p] {x y : Fl} {b : MS} : (if p then x else y).seq b = if p then x.seq b else y.seq b := by split <;> rfl
theorem out_if {p : Prop} [Decidable p] {x y : Fl} : (if p then x else y).out = if p then x.out else y.out := by split <;> rfl
theorem bind_if {β : Type} {p : Prop} [Decidable p] {x y : Out α} {g : α → Store → Out β} : (if p then x else y).bind g = if p then x.bind g else y.bind g := by split <;> rfl
theorem ofl_if {p : Prop} [Decidable p] {x y : Out α} : (if p then x else y).fl ρ f = if p then x.fl ρ f else y.fl ρ f := by split <;> rfl
end
section
variable {S : Store}
theorem isN_non : gIsN .non .non S = .ok (.bl true) S := rfl
theorem isN_tup {l : List D} : gIsN (.tup l) .non S = .ok (.bl false) S := rfl
theorem isN_str {s : Str} : gIsN (.str s) .non S = .ok (.bl false) S := rfl
theorem isN_ref {n : Nat} : gIsN (.ref n) .non S = .ok (.bl false) S := rfl
theorem notN_non : gNotN .non .non S = .ok (.bl false) S := rfl
theorem notN_tup {l : List D} : gNotN (.tup l) .non S = .ok (.bl true) S := rfl
theorem notN_str {s : Str} : gNotN (.str s) .non S = .ok (.bl true) S := rfl
theorem notN_ref {n : Nat} : gNotN (.ref n) .non S = .ok (.bl true) S := rfl
end
theorem okG_same (gs : List Nat) (S : Store) : okG gs S S := fun _ _ => rfl
theorem okG_none (S S' : Store) : okG [] S S' := fun _ m => by cases m
/-- nothing is written while a comprehension goes on -/
theorem lc_pure {gs : List Nat} {S : Store} {i : Nat} {e : M} {ρ : Env} {f : D → D} : ∀ {l : List D}, (∀ d ∈ l, e (ρ.set i (some d)) S = .ok (f d) S) → lcGo gs S (.one i) tTru e ρ l S = .ok (l.map f) S
  | [], _ => by unfold lcGo; rw [if_pos (okG_same _ _)]; rfl
  | d :: l, h => by
    unfold lcGo
    rw [if_pos (okG_same _ _)]
    simp only [Tgt.put, tTru, if_true]
    rw [h d (List.mem_cons_self ..)]
    simp only
    rw [lc_pure fun x hx => h x (List.mem_cons_of_mem _ hx)]
    rfl
theorem bls_map {α : Type} (l : List α) (f : α → Bool) : blsOf (l.map fun x => D.bl (f x)) = some (l.map f) := by
  induction l with
  | nil => rfl
  | cons a l ih => simp only [List.map_cons, blsOf, ih, Option.map_some]
/-- a step of a for -/
theorem for_nil {S0 : Store} {g : MG} {b : MS} {ρ : Env} {S : Store} : forGo [] S0 g b [] ρ S = .nx ρ S := by
  unfold forGo; rw [if_pos (okG_none _ _)]
theorem for_cons {S0 : Store} {g : MG} {b : MS} {d : D} {ds : List D} {ρ ρ1 : Env} {S S1 : Store} (h : g d ρ S = .ok ρ1 S1) : forGo [] S0 g b (d :: ds) ρ S = (match b ρ1 S1 with
  | .nx ρ' S' => forGo [] S0 g b ds ρ' S'
  | .ct ρ' S' => forGo [] S0 g b ds ρ' S'
  | .bk ρ' S' => .nx ρ' S'
  | o => o) := by
  rw [forGo, if_pos (okG_none _ _), h] <;> rfl
end DL

end

/-! ## DSP -/
section
set_option Elab.async false
set_option linter.all false
set_option maxRecDepth 100000
/-! # Patterns: a text, or a word with parts -/
namespace DL
open PySem PySem.Spec PyProof.Rows L2
inductive Pt where
  | v (s : Str)
  | c (w : Str) (l : List Pt)
mutual
def Pt.D : Pt → DL.D
  | .v s => .str s
  | .c w l => .tup [.str w, .tup (Pt.Ds l)]
def Pt.Ds : List Pt → List DL.D
  | [] => []
  | p :: l => Pt.D p :: Pt.Ds l
end
theorem Pt.Ds_map : ∀ l : List Pt, Pt.Ds l = l.map Pt.D
  | [] => rfl
  | p :: l => by rw [Pt.Ds, Pt.Ds_map l]; rfl
mutual
def Pt.py : Pt → PyData
  | .v s => .str s
  | .c w l => .tuple [.str w, .tuple (Pt.pys l)]
def Pt.pys : List Pt → List PyData
  | [] => []
  | p :: l => Pt.py p :: Pt.pys l
end
mutual
theorem Pt.py_is : ∀ p : Pt, p.D.py = some p.py
  | .v s => rfl
  | .c w l => by simp only [Pt.D, Pt.py, DL.D.py, DL.D.pyAll, Pt.pys_is l, Option.map_some]
theorem Pt.pys_is : ∀ l : List Pt, DL.D.pyAll (Pt.Ds l) = some (Pt.pys l)
  | [] => rfl
  | p :: l => by simp only [Pt.Ds, Pt.pys, DL.D.pyAll, Pt.py_is p, Pt.pys_is l]
end
mutual
def Pt.eq : Pt → Pt → Bool
  | .v s, .v t => s == t
  | .c w l, .c u r => w == u && Pt.eqs l r
  | .v _, .c _ _ => false
  | .c _ _, .v _ => false
def Pt.eqs : List Pt → List Pt → Bool
  | [], [] => true
  | p :: l, q :: r => Pt.eq p q && Pt.eqs l r
  | [], _ :: _ => false
  | _ :: _, [] => false
end
mutual
theorem Pt.eqv : ∀ p q : Pt, PyData.eqv p.py q.py = p.eq q
  | .v s, .v t => by simp only [Pt.py, PyData.eqv, Pt.eq]
  | .c w l, .c u r => by simp only [Pt.py, PyData.eqv, PyData.eqvAll, Pt.eq, Pt.eqvs l r, Bool.and_true]
  | .v _, .c _ _ => by simp only [Pt.py, PyData.eqv, Pt.eq]
  | .c _ _, .v _ => by simp only [Pt.py, PyData.eqv, Pt.eq]
theorem Pt.eqvs : ∀ l r : List Pt, PyData.eqvAll (Pt.pys l) (Pt.pys r) = Pt.eqs l r
  | [], [] => rfl
  | p :: l, q :: r => by simp only [Pt.pys, PyData.eqvAll, Pt.eqs, Pt.eqv p q, Pt.eqvs l r]
  | [], _ :: _ => by simp only [Pt.pys, PyData.eqvAll, Pt.eqs]
  | _ :: _, [] => by simp only [Pt.pys, PyData.eqvAll, Pt.eqs]
end
mutual
theorem Pt.eq_iff : ∀ p q : Pt, p.eq q = true ↔ p = q
  | .v s, .v t => by simp [Pt.eq]
  | .c w l, .c u r => by simp [Pt.eq, Pt.eqs_iff l r]
  | .v _, .c _ _ => by simp [Pt.eq]
  | .c _ _, .v _ => by simp [Pt.eq]
theorem Pt.eqs_iff : ∀ l r : List Pt, Pt.eqs l r = true ↔ l = r
  | [], [] => by simp [Pt.eqs]
  | p :: l, q :: r => by simp [Pt.eqs, Pt.eq_iff p q, Pt.eqs_iff l r]
  | [], _ :: _ => by simp [Pt.eqs]
  | _ :: _, [] => by simp [Pt.eqs]
end
/-! which patterns may stand: levels, texts, as many parts as one likes -/
def okS (s : Str) : Bool := PySem.PyData.strOk s && decide (s.length ≤ 100)
mutual
def Pt.ok : Nat → Pt → Bool
  | 0, _ => false
  | n + 1, .v s => okS s
  | n + 1, .c w l => okS w && decide (l.length ≤ 100) && Pt.oks n l
def Pt.oks : Nat → List Pt → Bool
  | _, [] => true
  | n, p :: l => Pt.ok n p && Pt.oks n l
end
theorem okS_str {s : Str} (h : okS s = true) : PySem.PyData.strOk s = true ∧ s.length ≤ 100 := by simpa [okS] using h
mutual
theorem Pt.lay : ∀ (n : Nat) (p : Pt), p.ok n = true → p.py.canLay0 = true
  | 0, _, h => by simp [Pt.ok] at h
  | n + 1, .v s, h => by simp only [Pt.ok] at h; simp only [Pt.py, PyData.canLay0]; exact (okS_str h).1
  | n + 1, .c w l, h => by
    simp only [Pt.ok, Bool.and_eq_true] at h
    simp only [Pt.py, PyData.canLay0, PyData.canLayAll0, (okS_str h.1.1).1, Pt.lays n l h.2, Bool.and_true]
theorem Pt.lays : ∀ (n : Nat) (l : List Pt), Pt.oks n l = true → PyData.canLayAll0 (Pt.pys l) = true
  | _, [], _ => rfl
  | n, p :: l, h => by
    simp only [Pt.oks, Bool.and_eq_true] at h
    simp only [Pt.pys, PyData.canLayAll0, Pt.lay n p h.1, Pt.lays n l h.2, Bool.and_true]
end
mutual
theorem Pt.deep : ∀ (n : Nat) (p : Pt), p.ok n = true → p.py.depth ≤ 2 * n
  | 0, _, h => by simp [Pt.ok] at h
  | n + 1, .v s, h => by simp only [Pt.py, PyData.depth]; omega
  | n + 1, .c w l, h => by
    simp only [Pt.ok, Bool.and_eq_true] at h
    have := Pt.deeps n l h.2
    simp only [Pt.py, PyData.depth, PyData.depthAll]
    omega
theorem Pt.deeps : ∀ (n : Nat) (l : List Pt), Pt.oks n l = true → PyData.depthAll (Pt.pys l) ≤ 2 * n
  | n, [], _ => by simp [Pt.pys, PyData.depthAll]
  | n, p :: l, h => by
    simp only [Pt.oks, Bool.and_eq_true] at h
    have h1 := Pt.deep n p h.1
    have h2 := Pt.deeps n l h.2
    simp only [Pt.pys, PyData.depthAll]
    omega
end
theorem Pt.shaped {n : Nat} (hn : n ≤ 32) {p : Pt} (h : p.ok n = true) : SeqAt.shaped p.py = true := by
  have := Pt.deep n p h
  simp only [SeqAt.shaped, Pt.lay n p h, Bool.true_and, decide_eq_true_eq]
  omega
theorem eqD_pt {n m : Nat} (hn : n ≤ 32) (hm : m ≤ 32) {p q : Pt} (hp : p.ok n = true) (hq : q.ok m = true) : eqD p.D q.D = some (p.eq q) := by
  unfold eqD
  simp only [Pt.py_is, Pt.shaped hn hp, Pt.shaped hm hq, Pt.eqv, and_self, if_true]
theorem eqD_int (i j : Int) : eqD (.int i) (.int j) = some (i == j) := rfl
theorem eqD_str {s t : Str} (hs : okS s = true) (ht : okS t = true) : eqD (.str s) (.str t) = some (s == t) := by
  have := eqD_pt (n := 1) (m := 1) (by decide) (by decide) (p := .v s) (q := .v t) (by simpa [Pt.ok] using hs) (by simpa [Pt.ok] using ht)
  simpa [Pt.D, Pt.eq] using this
mutual
theorem Pt.ok_up : ∀ (n : Nat) (p : Pt), p.ok n = true → p.ok (n + 1) = true
  | 0, _, h => by simp [Pt.ok] at h
  | n + 1, .v s, h => by simp only [Pt.ok] at h ⊢; exact h
  | n + 1, .c w l, h => by
    simp only [Pt.ok, Bool.and_eq_true] at h ⊢
    exact ⟨h.1, Pt.oks_up n l h.2⟩
theorem Pt.oks_up : ∀ (n : Nat) (l : List Pt), Pt.oks n l = true → Pt.oks (n + 1) l = true
  | _, [], _ => by simp [Pt.oks]
  | n, p :: l, h => by
    simp only [Pt.oks, Bool.and_eq_true] at h ⊢
    exact ⟨Pt.ok_up n p h.1, Pt.oks_up n l h.2⟩
end
theorem Pt.ok_le {n m : Nat} (h : n ≤ m) {p : Pt} (hp : p.ok n = true) : p.ok m = true := by
  induction h with
  | refl => exact hp
  | step _ ih => exact Pt.ok_up _ _ ih
mutual
def Pt.wt : Pt → Nat
  | .v _ => 1
  | .c _ l => 1 + Pt.wts l
def Pt.wts : List Pt → Nat
  | [] => 0
  | p :: l => Pt.wt p + Pt.wts l
end
theorem set_self {S : Store} {j : Nat} {c : Cell} (h : S[j]? = some c) : S.set j c = S := by
  apply List.ext_getElem?
  intro i
  by_cases e : j = i
  · subst e
    rw [List.getElem?_set_self (List.getElem?_eq_some_iff.mp h).1, h]
  · rw [List.getElem?_set_ne e]
theorem set_at {S : Store} {j : Nat} {c c' : Cell} (h : S[j]? = some c) : (S.set j c')[j]? = some c' := List.getElem?_set_self (List.getElem?_eq_some_iff.mp h).1
/-! kinds -/
theorem kit_ss : kitB "str" "str" = some true := by decide +kernel
theorem kit_st : kitB "str" "tuple" = some false := by decide +kernel
theorem kit_ts : kitB "tuple" "str" = some false := by decide +kernel
theorem kit_tt : kitB "tuple" "tuple" = some true := by decide +kernel
theorem atI_zero {α : Type} (a : α) (l : List α) : atI (a :: l) 0 = some a := by simp [atI, ixN]
theorem atI_one {α : Type} (a b : α) (l : List α) : atI (a :: b :: l) 1 = some b := by
  have h : (1 : Int) < (l.length : Int) + 1 + 1 := by omega
  simp [atI, ixN, h]
/-- a pure comprehension over one name -/
theorem lc_map {α : Type} {S : Store} {i : Nat} {e : M} {ρ : Env} {f : α → D} {g : α → D} {l : List α} (h : ∀ a ∈ l, e (ρ.set i (some (f a))) S = .ok (g a) S) : lcGo [] S (.one i) tTru e ρ (l.map f) S = .ok (l.map g) S := by
  induction l with
  | nil => simp only [List.map_nil]; unfold lcGo; rw [if_pos (okG_none _ _)]
  | cons a l ih =>
    simp only [List.map_cons]
    unfold lcGo
    rw [if_pos (okG_none _ _)]
    simp only [Tgt.put, tTru, if_true]
    rw [h a (List.mem_cons_self ..)]
    simp only
    rw [ih fun x hx => h x (List.mem_cons_of_mem _ hx)]
end DL

end

/-! ## DSQ -/
section
set_option Elab.async false
set_option linter.all false
set_option maxRecDepth 100000
/-! # Loops by invariants; comprehensions that leave cells behind -/
namespace DL
open PySem PySem.Spec PyProof.Rows L2
theorem okG_pre {gs : List Nat} {S0 S S' : Store} (h : okG gs S0 S) (hl : ∀ n ∈ gs, n < S.length) (hp : S <+: S') : okG gs S0 S' := fun n hn => by
  obtain ⟨t, rfl⟩ := hp
  rw [List.getElem?_append_left (hl n hn)]
  exact h n hn
theorem okG_one {n : Nat} {S0 S : Store} (h : S[n]? = S0[n]?) : okG [n] S0 S := fun m hm => by rw [List.mem_singleton.mp hm]; exact h
theorem lt_of_at {S : Store} {n : Nat} {c : Cell} (h : S[n]? = some c) : n < S.length := (List.getElem?_eq_some_iff.mp h).1
/-- a for that goes through, by what holds ahead of each turn -/
theorem for_ind {gs : List Nat} {S0 : Store} {g : MG} {b : MS} (P : Nat → Env → Store → Prop) : ∀ (l : List D) (i : Nat),
    (∀ k d ρ S, l[k]? = some d → P (i + k) ρ S → okG gs S0 S ∧ ∃ ρ1 S1, g d ρ S = .ok ρ1 S1 ∧ ∃ ρ2 S2, (b ρ1 S1 = .nx ρ2 S2 ∨ b ρ1 S1 = .ct ρ2 S2) ∧ P (i + k + 1) ρ2 S2) →
    (∀ ρ S, P (i + l.length) ρ S → okG gs S0 S) → ∀ ρ S, P i ρ S → ∃ ρ' S', forGo gs S0 g b l ρ S = .nx ρ' S' ∧ P (i + l.length) ρ' S'
  | [], i, _, h2, ρ, S, hP => ⟨ρ, S, by unfold forGo; rw [if_pos (h2 ρ S (by simpa using hP))], by simpa using hP⟩
  | d :: l, i, h1, h2, ρ, S, hP => by
    obtain ⟨hk, ρ1, S1, e1, ρ2, S2, e2, hP2⟩ := h1 0 d ρ S rfl (by simpa using hP)
    have el : i + 1 + l.length = i + (d :: l).length := by simp only [List.length_cons]; omega
    obtain ⟨ρ', S', e3, hP3⟩ := for_ind P l (i + 1) (fun k d ρ S hd hP => by
      have ek : i + (k + 1) = i + 1 + k := by omega
      have := h1 (k + 1) d ρ S (by simpa using hd) (by rw [ek]; exact hP)
      rw [ek] at this; exact this) (fun ρ S hP => h2 ρ S (by rw [← el]; exact hP)) ρ2 S2 (by simpa using hP2)
    refine ⟨ρ', S', ?_, by rw [← el]; exact hP3⟩
    rw [forGo, if_pos hk, e1]
    simp only
    rcases e2 with e2 | e2 <;> rw [e2] <;> exact e3
/-- a comprehension with a condition; cells may be left behind -/
theorem lc_filter {α : Type} {gs : List Nat} {S0 : Store} {i : Nat} {t : MT} {ρ : Env} {f : α → D} {p : α → Bool} (hi : i < ρ.length) (P : Store → Prop) (hP : ∀ S S', P S → S <+: S' → P S') (hk : ∀ S, P S → okG gs S0 S) :
    ∀ (l : List α), (∀ a ∈ l, ∀ S, P S → ∃ X, t (ρ.set i (some (f a))) S = .ok (p a) (S ++ X)) → ∀ S, P S → ∃ X, lcGo gs S0 (.one i) t (mVar i) ρ (l.map f) S = .ok ((l.filter p).map f) (S ++ X)
  | [], _, S, hS => ⟨[], by simp only [List.map_nil, List.filter_nil]; unfold lcGo; rw [if_pos (hk S hS), List.append_nil]⟩
  | a :: l, h, S, hS => by
    obtain ⟨X, e⟩ := h a (List.mem_cons_self ..) S hS
    obtain ⟨Y, e2⟩ := lc_filter hi P hP hk l (fun x hx => h x (List.mem_cons_of_mem _ hx)) (S ++ X) (hP S _ hS (List.prefix_append _ _))
    refine ⟨X ++ Y, ?_⟩
    simp only [List.map_cons]
    unfold lcGo
    rw [if_pos (hk S hS)]
    simp only [Tgt.put]
    rw [e]
    cases hp : p a with
    | false =>
      simp only [Bool.false_eq_true, if_false]
      rw [e2, List.filter_cons, hp, List.append_assoc]
      rfl
    | true =>
      simp only [if_true, mVar]
      rw [List.getElem?_set_self hi]
      simp only
      rw [e2, List.filter_cons, hp, List.append_assoc]
      rfl
/-- a pure comprehension over pairs -/
theorem lc_two {α : Type} {gs : List Nat} {S : Store} {i j : Nat} {e : M} {ρ : Env} {f g h : α → D} : ∀ {l : List α}, (∀ a ∈ l, e ((ρ.set i (some (f a))).set j (some (g a))) S = .ok (h a) S) → lcGo gs S (.two i j) tTru e ρ (l.map fun a => .tup [f a, g a]) S = .ok (l.map h) S
  | [], _ => by simp only [List.map_nil]; unfold lcGo; rw [if_pos (okG_same _ _)]
  | a :: l, hh => by
    simp only [List.map_cons]
    unfold lcGo
    rw [if_pos (okG_same _ _)]
    simp only [Tgt.put, tTru, if_true]
    rw [hh a (List.mem_cons_self ..)]
    simp only
    rw [lc_two fun x hx => hh x (List.mem_cons_of_mem _ hx)]
/-! steps that are taken by hand, where simp would go too deep -/
section
variable {ρ ρ1 : Env} {S S1 S2 S3 : Store} {m m' m2 : M} {f : List D → Store → Out D} {d d' d2 : D}
theorem mAll_1 (h : m ρ S = .ok d S1) : mAll (aCons m aNil) f ρ S = f [d] S1 := by simp only [mAll, aCons, aNil, h, Out.bind_ok]
theorem mAll_2 (h : m ρ S = .ok d S1) (h' : m' ρ S1 = .ok d' S2) : mAll (aCons m (aCons m' aNil)) f ρ S = f [d, d'] S2 := by simp only [mAll, aCons, aNil, h, h', Out.bind_ok]
theorem mAll_3 (h : m ρ S = .ok d S1) (h' : m' ρ S1 = .ok d' S2) (h2 : m2 ρ S2 = .ok d2 S3) : mAll (aCons m (aCons m' (aCons m2 aNil))) f ρ S = f [d, d', d2] S3 := by simp only [mAll, aCons, aNil, h, h', h2, Out.bind_ok]
theorem sRet_ok (h : m ρ S = .ok d S1) : sRet m ρ S = .rt d S1 := by simp only [sRet, h, fl_ok]
theorem sDrop_ok (h : m ρ S = .ok d S1) : sDrop m ρ S = .nx ρ S1 := by simp only [sDrop, h, fl_ok]
theorem sAsg_ok {g : MG} (h : m ρ S = .ok d S1) (hg : g d ρ S1 = .ok ρ1 S2) : sAsg m g ρ S = .nx ρ1 S2 := by simp only [sAsg, h, fl_ok, hg]
theorem sSeq_nx {a b : MS} (h : a ρ S = .nx ρ1 S1) : sSeq a b ρ S = b ρ1 S1 := by simp only [sSeq, h, seq_nx]
theorem sSeq_rt {a b : MS} (h : a ρ S = .rt d S1) : sSeq a b ρ S = .rt d S1 := by simp only [sSeq, h, seq_rt]
theorem sIf_ok {t : MT} {a b : MS} {k : Bool} (h : t ρ S = .ok k S1) : sIf t a b ρ S = if k = true then a ρ S1 else b ρ S1 := by simp only [sIf, h, fl_ok]
theorem mB2_ok {g : D → D → Store → Out D} (h : m ρ S = .ok d S1) (h' : m' ρ S1 = .ok d' S2) : mB2 m m' g ρ S = g d d' S2 := by simp only [mB2, h, h', Out.bind_ok]
theorem tOfB_ok {k : Bool} (h : m ρ S = .ok (.bl k) S1) : tOfB m ρ S = .ok k S1 := by simp only [tOfB, h, Out.bind_ok]
theorem mAnd_t (h : m ρ S = .ok (.bl true) S1) : mAnd m m' ρ S = m' ρ S1 := by simp only [mAnd, h, Out.bind_ok]
theorem mAnd_f (h : m ρ S = .ok (.bl false) S1) : mAnd m m' ρ S = .ok (.bl false) S1 := by simp only [mAnd, h, Out.bind_ok]
theorem tAnd_t {a b : MT} (h : a ρ S = .ok true S1) : tAndM a b ρ S = b ρ S1 := by simp only [tAndM, h, Out.bind_ok, if_true]
theorem tAnd_f {a b : MT} (h : a ρ S = .ok false S1) : tAndM a b ρ S = .ok false S1 := by simp only [tAndM, h, Out.bind_ok, Bool.false_eq_true, if_false]
theorem tNot_ok {a : MT} {k : Bool} (h : a ρ S = .ok k S1) : tNotM a ρ S = .ok (!k) S1 := by simp only [tNotM, h, Out.bind_ok]
theorem callN_1 {n : Nat} {F : List D → Store → Out D} {ds : List D} (h : ds.length = n) : callN n F ds S = F ds S := by simp only [callN, h, if_true]
theorem lc_ok {mi : MI} {t : Tgt} {tt : MT} {e : M} {vs : List Nat} {p : List D × List Nat} {l : List D} (hm : mi ρ S = .ok p S1) (hb : p.1.length ≤ big) (lo : lcGo p.2 S1 t tt e (wipeE ρ vs) p.1 S1 = .ok l S2) : mLc mi t tt e vs ρ S = .ok (.lst l) S2 := by
  unfold mLc
  rw [hm, Out.bind_ok, if_pos hb, lo]
theorem iSeq_ref {n : Nat} {l : List D} (h : m ρ S = .ok (.ref n) S1) (hS : S1[n]? = some (.lst l)) : iSeq m ρ S = .ok (l, [n]) S1 := by
  unfold iSeq
  rw [h, Out.bind_ok]
  simp only [seqI, hS]
theorem iSeq_lst {l : List D} (h : m ρ S = .ok (.lst l) S1) : iSeq m ρ S = .ok (l, []) S1 := by
  unfold iSeq
  rw [h, Out.bind_ok]
  simp only [seqI]
theorem sFor_ok {mi : MI} {g : MG} {b : MS} {p : List D × List Nat} (hm : mi ρ S = .ok p S1) : sFor mi g b ρ S = forGo p.2 S1 g b p.1 ρ S1 := by
  unfold sFor
  rw [hm, fl_ok]
end
/-! patterns in lists of patterns -/
theorem Pt.pyAll_map (l : List Pt) : DL.D.pyAll (l.map Pt.D) = some (Pt.pys l) := by rw [← Pt.Ds_map, Pt.pys_is]
theorem oks_all {n : Nat} : ∀ {l : List Pt}, (∀ p ∈ l, p.ok n = true) → Pt.oks n l = true
  | [], _ => by simp [Pt.oks]
  | p :: l, h => by simp only [Pt.oks, Bool.and_eq_true]; exact ⟨h p (List.mem_cons_self ..), oks_all fun q hq => h q (List.mem_cons_of_mem _ hq)⟩
theorem shaped_list {n : Nat} (hn : n ≤ 31) {l : List Pt} (h : Pt.oks n l = true) : SeqAt.shaped (.list (Pt.pys l)) = true := by
  have d := Pt.deeps n l h
  have e0 : (PyData.list (Pt.pys l)).depth = PyData.depthAll (Pt.pys l) + 1 := by simp [PyData.depth]
  simp only [SeqAt.shaped, PyData.canLay0, Pt.lays n l h, Bool.true_and, decide_eq_true_eq]
  rw [e0]
  omega
theorem in_pts {n : Nat} (hn : n ≤ 31) {p : Pt} {l : List Pt} (hp : p.ok n = true) (hl : ∀ q ∈ l, q.ok n = true) : inDeep p.D (l.map Pt.D) = some (l.any fun q => q.eq p) := by
  unfold inDeep
  rw [Pt.pyAll_map, Pt.py_is]
  simp only [Pt.shaped (by omega) hp, shaped_list hn (oks_all hl), and_self, if_true, Option.some.injEq]
  clear hl
  induction l with
  | nil => rfl
  | cons q l ih => simp only [Pt.pys, List.any_cons, Pt.eqv, ih]
theorem eqD_lst {n : Nat} (hn : n ≤ 31) {l r : List Pt} (hl : ∀ q ∈ l, q.ok n = true) (hr : ∀ q ∈ r, q.ok n = true) : eqD (.lst (l.map Pt.D)) (.lst (r.map Pt.D)) = some (Pt.eqs l r) := by
  unfold eqD
  simp only [DL.D.py, Pt.pyAll_map, Option.map_some, shaped_list hn (oks_all hl), shaped_list hn (oks_all hr), and_self, if_true, PyData.eqv, Pt.eqvs]
theorem any_eq {p : Pt} : ∀ {l : List Pt}, (l.any fun q => q.eq p) = true ↔ p ∈ l := by
  intro l
  rw [List.any_eq_true]
  constructor
  · rintro ⟨q, hq, e⟩
    rw [← (Pt.eq_iff q p).mp e]; exact hq
  · exact fun h => ⟨p, h, (Pt.eq_iff p p).mpr rfl⟩
end DL

end

/-! ## GK -/
section
set_option Elab.async false
set_option linter.all false
set_option maxRecDepth 100000
set_option maxHeartbeats 4000000
namespace GN
open PySem PySem.Spec PyProof.Rows L2 DL
def topS (i : Nat) : Stmt := PySem.Challenge.pw_wirebox_k05_matching.main.body.getD i (.Pass ⟨0, 0, 0, 0⟩)
structure Txt (mg : Str → Option Value) : Prop where
  m_all : mg "all" = none
  m_enumerate : mg "enumerate" = none
  m_int : mg "int" = none
  m_isinstance : mg "isinstance" = none
  m_len : mg "len" = none
  m_list : mg "list" = none
  m_min : mg "min" = none
  m_range : mg "range" = none
  m_str : mg "str" = none
  m_sum : mg "sum" = none
  m_tuple : mg "tuple" = none
  m_zip : mg "zip" = none
  g_LETTERS : ∃ t, mg "LETTERS" = some (.str ("abcdefghijklmnopqrstuvwxyz" : Str) t)
  g_MOST_DEPTH : ∃ t, mg "MOST_DEPTH" = some (.int 4 t)
  g_MOST_PARTS : ∃ t, mg "MOST_PARTS" = some (.int 3 t)
  g_MOST_SIGNS : ∃ t, mg "MOST_SIGNS" = some (.int 12 t)
  g_MOST_SIZE : ∃ t, mg "MOST_SIZE" = some (.int 12 t)
  g_SIGNS : ∃ t, mg "SIGNS" = some (.str ("abcdefghijklmnopqrstuvwxyz0123456789_" : Str) t)
  g_VARIABLES : ∃ t, mg "VARIABLES" = some (.str ("ABCDEFGHIJKLMNOPQRSTUVWXYZ" : Str) t)
theorem boot_all : bootBuiltins "all" = some (.builtin "all") := by decide +kernel
theorem boot_int : bootBuiltins "int" = some (.type "int") := by decide +kernel
theorem boot_isinstance : bootBuiltins "isinstance" = some (.builtin "isinstance") := by decide +kernel
theorem boot_len : bootBuiltins "len" = some (.builtin "len") := by decide +kernel
theorem boot_list : bootBuiltins "list" = some (.type "list") := by decide +kernel
theorem boot_min : bootBuiltins "min" = some (.builtin "min") := by decide +kernel
theorem boot_str : bootBuiltins "str" = some (.type "str") := by decide +kernel
theorem boot_sum : bootBuiltins "sum" = some (.builtin "sum") := by decide +kernel
theorem boot_tuple : bootBuiltins "tuple" = some (.type "tuple") := by decide +kernel
section
variable {P : Program} {w : World} {K : PySem.W.Frag} {mg : Str → Option Value} {base : Heap} {G : String → Addr}
/-! ### is_word -/
abbrev s_is_word : Stmt := topS 8
theorem sc_is_word : FnScope ["value", "sign"] ["value"] (defScope s_is_word) := ⟨rfl, rfl, rfl, by decide +kernel, rfl, by decide +kernel, by decide +kernel⟩
noncomputable def B_is_word : MS :=
  (sSeq (sIf (tOrM (tNotM (tOfB (mAll (aCons (mVar 0) (aCons (mC (.ty "str")) aNil)) (g2 gIsi)))) (tOrM (tOfB (mB2 (mAll (aCons (mVar 0) aNil) (g1 gLen)) (mC (.int 0)) gEq)) (tOfB (mB2 (mAll (aCons (mVar 0) aNil) (g1 gLen)) (mC (.int 12)) gGt))))
    (sRet (mC (.bl false)))
    sNil)
  (sRet (mAnd (mB2 (mB2 (mVar 0) (mC (.int 0)) gIx) (mC (.str ("abcdefghijklmnopqrstuvwxyz" : Str))) gIn) (mAll (aCons (mLc (iSeq (mVar 0)) (.one 1) tTru (mB2 (mVar 1) (mC (.str ("abcdefghijklmnopqrstuvwxyz0123456789_" : Str))) gIn) [1]) aNil) (g1 gAllB)))))
theorem ok_is_word {f : Addr} {fd : FuncData} {k : Nat} (F : Fun K "is_word" "is_word" s_is_word f fd) (T : Txt mg)  : FnG P w K mg base (k + 1) f fd ["value"] (spF K G 1 (runB 2 (B_is_word))) := by
  refine fn_semG F sc_is_word fun cdv A outer s H E hr gd => ?_
  have sc := sc_is_word
  let NN : List Str := ["value", "sign"]
  let SC : Scope := defScope s_is_word
  have tk := takes_of (X := cxOf (L2.CX P w) P w K mg base ["value", "sign"] "is_word" (defScope s_is_word) f cdv A outer s H E) rfl rfl rfl rfl
  have hu65 : (A.deeper (envOfC "is_word" (defScope s_is_word) s.heap.objs.size f cdv)).units + 65 < cLine := Nat.lt_of_le_of_lt (by omega) hr.un
  have hu64 : (A.deeper (envOfC "is_word" (defScope s_is_word) s.heap.objs.size f cdv)).units + 64 < cLine := by omega
  have hu1 : (A.deeper (envOfC "is_word" (defScope s_is_word) s.heap.objs.size f cdv)).units + 1 < cLine := by omega
  exact (ds_cons (ds_if ((dw_or (dt_not (dt_val (de_bi call_isi ok_isi T.m_isinstance boot_isinstance (da_cons (de_var (pv 0)) (da_cons (de_ty T.m_str boot_str) da_nil))))) (dw_or (dt_eq hu64 (de_bi call_len ok_len T.m_len boot_len (da_cons (de_var (pv 0)) da_nil)) de_int) (dw_or1 (dt_gt (de_bi call_len ok_len T.m_len boot_len (da_cons (de_var (pv 0)) da_nil)) (de_gi T.g_MOST_SIGNS)))))).pt
    (ds_one (ds_ret de_bl))
    ds_nil)
  (ds_one (ds_ret (de_and (de_in hu65 (de_ix hu1 (de_var (pv 0)) de_int) (de_gs T.g_LETTERS)) (de_one (de_bi (cr_all rfl) ok_allB T.m_all boot_all (da_cons (de_lc (own := [(("sign" : Str), 1)]) rfl sc.nd (di_seq (de_var (pv 0))) (blkOk_by (N := NN) (sc := SC) (by decide +kernel)) (fun _ _ _ _ _ => pg_name (i := 1) sc.nd rfl (Or.inl rfl)) (tg_one (by decide)) (fun _ _ _ _ _ => dts_nil) (fun _ _ _ _ _ => (de_in hu65 (de_var (pv 1)) (de_gs T.g_SIGNS)))) da_nil)))))))
/-! ### shape_size -/
abbrev s_shape_size : Stmt := topS 13
theorem sc_shape_size : FnScope ["value", "letters", "levels", "size", "part", "inner"] ["value", "letters", "levels"] (defScope s_shape_size) := ⟨rfl, rfl, rfl, by decide +kernel, rfl, by decide +kernel, by decide +kernel⟩
noncomputable def B_shape_size (c_is_word_with_parts c_shape_size : List D → Store → Out D) : MS :=
  (sSeq (sIf (tOfB (mB2 (mVar 2) (mC (.int 0)) gEq))
    (sRet (mC (.int 0)))
    sNil)
  (sSeq (sIf (tOfB (mAll (aCons (mVar 0) (aCons (mC (.ty "str")) aNil)) (g2 gIsi)))
    (sRet (mIf (tAndM (tOfB (mB2 (mAll (aCons (mVar 0) aNil) (g1 gLen)) (mC (.int 1)) gEq)) (tOfB (mB2 (mVar 0) (mVar 1) gIn))) (mC (.int 1)) (mC (.int 0))))
    sNil)
  (sSeq (sIf (tNotM (tOfB (mAll (aCons (mVar 0) aNil) (callN 1 c_is_word_with_parts))))
    (sRet (mC (.int 0)))
    sNil)
  (sSeq (sAsg (mC (.int 1)) (gNm 3))
  (sSeq (sFor (iSeq (mB2 (mVar 0) (mC (.int 1)) gIx)) (gNm 4)
    (sSeq (sAsg (mAll (aCons (mVar 4) (aCons (mVar 1) (aCons (mB2 (mVar 2) (mC (.int 1)) gSub) aNil))) (callN 3 c_shape_size)) (gNm 5))
    (sSeq (sIf (tOfB (mB2 (mVar 5) (mC (.int 0)) gEq))
      (sRet (mC (.int 0)))
      sNil)
    (sAsg (mB2 (mVar 3) (mVar 5) gAdd) (gNm 3)))))
  (sRet (mVar 3)))))))
theorem ok_shape_size {f : Addr} {fd : FuncData} {k : Nat} {c_is_word_with_parts c_shape_size : List D → Store → Out D} (F : Fun K "shape_size" "shape_size" s_shape_size f fd) (T : Txt mg) (C_is_word_with_parts : Cal P w K mg base G k "is_word_with_parts" 1 c_is_word_with_parts) (C_shape_size : Cal P w K mg base G k "shape_size" 3 c_shape_size) : FnG P w K mg base (k + 1) f fd ["value", "letters", "levels"] (spF K G 3 (runB 6 (B_shape_size c_is_word_with_parts c_shape_size))) := by
  refine fn_semG F sc_shape_size fun cdv A outer s H E hr gd => ?_
  have sc := sc_shape_size
  let NN : List Str := ["value", "letters", "levels", "size", "part", "inner"]
  let SC : Scope := defScope s_shape_size
  have tk := takes_of (X := cxOf (L2.CX P w) P w K mg base ["value", "letters", "levels", "size", "part", "inner"] "shape_size" (defScope s_shape_size) f cdv A outer s H E) rfl rfl rfl rfl
  have hu65 : (A.deeper (envOfC "shape_size" (defScope s_shape_size) s.heap.objs.size f cdv)).units + 65 < cLine := Nat.lt_of_le_of_lt (by omega) hr.un
  have hu64 : (A.deeper (envOfC "shape_size" (defScope s_shape_size) s.heap.objs.size f cdv)).units + 64 < cLine := by omega
  have hu1 : (A.deeper (envOfC "shape_size" (defScope s_shape_size) s.heap.objs.size f cdv)).units + 1 < cLine := by omega
  exact (ds_cons (ds_if (dt_eq hu64 (de_var (pv 2)) de_int)
    (ds_one (ds_ret de_int))
    ds_nil)
  (ds_cons (ds_if (dt_val (de_bi call_isi ok_isi T.m_isinstance boot_isinstance (da_cons (de_var (pv 0)) (da_cons (de_ty T.m_str boot_str) da_nil))))
    (ds_one (ds_ret (de_if ((dw_and (dt_eq hu64 (de_bi call_len ok_len T.m_len boot_len (da_cons (de_var (pv 0)) da_nil)) de_int) (dw_and1 (dt_in hu65 (de_var (pv 0)) (de_var (pv 1)))))).pt de_int de_int)))
    ds_nil)
  (ds_cons (ds_if (dt_not (dt_val (de_cal C_is_word_with_parts hr gd tk (da_cons (de_var (pv 0)) da_nil))))
    (ds_one (ds_ret de_int))
    ds_nil)
  (ds_cons (ds_asg de_int (dg_name (i := 3) sc.nd))
  (ds_cons (ds_for (passes_of rfl) rfl (di_seq (de_ix hu1 (de_var (pv 0)) de_int)) (dg_name (i := 4) sc.nd)
    (ds_cons (ds_asg (de_cal C_shape_size hr gd tk (da_cons (de_var (pv 4)) (da_cons (de_var (pv 1)) (da_cons (de_sub (de_var (pv 2)) de_int) da_nil)))) (dg_name (i := 5) sc.nd))
    (ds_cons (ds_if (dt_eq hu64 (de_var (pv 5)) de_int)
      (ds_one (ds_ret de_int))
      ds_nil)
    (ds_one (ds_asg (de_add (de_var (pv 3)) (de_var (pv 5))) (dg_name (i := 3) sc.nd))))))
  (ds_one (ds_ret (de_var (pv 3)))))))))
/-! ### is_word_with_parts -/
abbrev s_is_word_with_parts : Stmt := topS 14
theorem sc_is_word_with_parts : FnScope ["value", "word", "parts"] ["value"] (defScope s_is_word_with_parts) := ⟨rfl, rfl, rfl, by decide +kernel, rfl, by decide +kernel, by decide +kernel⟩
noncomputable def B_is_word_with_parts (c_is_word : List D → Store → Out D) : MS :=
  (sSeq (sIf (tOrM (tNotM (tOfB (mAll (aCons (mVar 0) (aCons (mC (.ty "tuple")) aNil)) (g2 gIsi)))) (tOfB (mB2 (mAll (aCons (mVar 0) aNil) (g1 gLen)) (mC (.int 2)) gNe)))
    (sRet (mC (.bl false)))
    sNil)
  (sSeq (sAsg (mVar 0) (gTupA 2 (gsCons (gNm 1) (gsCons (gNm 2) gsNil))))
  (sRet (mAnd (mAll (aCons (mVar 1) aNil) (callN 1 c_is_word)) (mAnd (mAll (aCons (mVar 2) (aCons (mC (.ty "tuple")) aNil)) (g2 gIsi)) (mB2 (mAll (aCons (mVar 2) aNil) (g1 gLen)) (mC (.int 3)) gLe))))))
theorem ok_is_word_with_parts {f : Addr} {fd : FuncData} {k : Nat} {c_is_word : List D → Store → Out D} (F : Fun K "is_word_with_parts" "is_word_with_parts" s_is_word_with_parts f fd) (T : Txt mg) (C_is_word : Cal P w K mg base G k "is_word" 1 c_is_word) : FnG P w K mg base (k + 1) f fd ["value"] (spF K G 1 (runB 3 (B_is_word_with_parts c_is_word))) := by
  refine fn_semG F sc_is_word_with_parts fun cdv A outer s H E hr gd => ?_
  have sc := sc_is_word_with_parts
  let NN : List Str := ["value", "word", "parts"]
  let SC : Scope := defScope s_is_word_with_parts
  have tk := takes_of (X := cxOf (L2.CX P w) P w K mg base ["value", "word", "parts"] "is_word_with_parts" (defScope s_is_word_with_parts) f cdv A outer s H E) rfl rfl rfl rfl
  have hu65 : (A.deeper (envOfC "is_word_with_parts" (defScope s_is_word_with_parts) s.heap.objs.size f cdv)).units + 65 < cLine := Nat.lt_of_le_of_lt (by omega) hr.un
  have hu64 : (A.deeper (envOfC "is_word_with_parts" (defScope s_is_word_with_parts) s.heap.objs.size f cdv)).units + 64 < cLine := by omega
  have hu1 : (A.deeper (envOfC "is_word_with_parts" (defScope s_is_word_with_parts) s.heap.objs.size f cdv)).units + 1 < cLine := by omega
  exact (ds_cons (ds_if ((dw_or (dt_not (dt_val (de_bi call_isi ok_isi T.m_isinstance boot_isinstance (da_cons (de_var (pv 0)) (da_cons (de_ty T.m_tuple boot_tuple) da_nil))))) (dw_or1 (dt_ne hu64 (de_bi call_len ok_len T.m_len boot_len (da_cons (de_var (pv 0)) da_nil)) de_int)))).pt
    (ds_one (ds_ret de_bl))
    ds_nil)
  (ds_cons (ds_asg (de_var (pv 0)) (dg_tupA rfl (dgs_cons (dg_name (i := 1) sc.nd) (dgs_cons (dg_name (i := 2) sc.nd) dgs_nil))))
  (ds_one (ds_ret (de_and (de_cal C_is_word hr gd tk (da_cons (de_var (pv 1)) da_nil)) (de_and (de_bi call_isi ok_isi T.m_isinstance boot_isinstance (da_cons (de_var (pv 2)) (da_cons (de_ty T.m_tuple boot_tuple) da_nil))) (de_one (de_le (de_bi call_len ok_len T.m_len boot_len (da_cons (de_var (pv 2)) da_nil)) (de_gi T.g_MOST_PARTS)))))))))
/-! ### is_shape -/
abbrev s_is_shape : Stmt := topS 15
theorem sc_is_shape : FnScope ["value", "letters", "size"] ["value", "letters"] (defScope s_is_shape) := ⟨rfl, rfl, rfl, by decide +kernel, rfl, by decide +kernel, by decide +kernel⟩
noncomputable def B_is_shape (c_shape_size : List D → Store → Out D) : MS :=
  (sSeq (sAsg (mAll (aCons (mVar 0) (aCons (mVar 1) (aCons (mC (.int 4)) aNil))) (callN 3 c_shape_size)) (gNm 2))
  (sRet (mAnd (mB2 (mVar 2) (mC (.int 0)) gGt) (mB2 (mVar 2) (mC (.int 12)) gLe))))
theorem ok_is_shape {f : Addr} {fd : FuncData} {k : Nat} {c_shape_size : List D → Store → Out D} (F : Fun K "is_shape" "is_shape" s_is_shape f fd) (T : Txt mg) (C_shape_size : Cal P w K mg base G k "shape_size" 3 c_shape_size) : FnG P w K mg base (k + 1) f fd ["value", "letters"] (spF K G 2 (runB 3 (B_is_shape c_shape_size))) := by
  refine fn_semG F sc_is_shape fun cdv A outer s H E hr gd => ?_
  have sc := sc_is_shape
  let NN : List Str := ["value", "letters", "size"]
  let SC : Scope := defScope s_is_shape
  have tk := takes_of (X := cxOf (L2.CX P w) P w K mg base ["value", "letters", "size"] "is_shape" (defScope s_is_shape) f cdv A outer s H E) rfl rfl rfl rfl
  have hu65 : (A.deeper (envOfC "is_shape" (defScope s_is_shape) s.heap.objs.size f cdv)).units + 65 < cLine := Nat.lt_of_le_of_lt (by omega) hr.un
  have hu64 : (A.deeper (envOfC "is_shape" (defScope s_is_shape) s.heap.objs.size f cdv)).units + 64 < cLine := by omega
  have hu1 : (A.deeper (envOfC "is_shape" (defScope s_is_shape) s.heap.objs.size f cdv)).units + 1 < cLine := by omega
  exact (ds_cons (ds_asg (de_cal C_shape_size hr gd tk (da_cons (de_var (pv 0)) (da_cons (de_var (pv 1)) (da_cons (de_gi T.g_MOST_DEPTH) da_nil)))) (dg_name (i := 2) sc.nd))
  (ds_one (ds_ret (de_and (de_gt (de_var (pv 2)) de_int) (de_one (de_le (de_var (pv 2)) (de_gi T.g_MOST_SIZE)))))))
/-! ### is_term -/
abbrev s_is_term : Stmt := topS 16
theorem sc_is_term : FnScope ["value"] ["value"] (defScope s_is_term) := ⟨rfl, rfl, rfl, by decide +kernel, rfl, by decide +kernel, by decide +kernel⟩
noncomputable def B_is_term (c_is_shape : List D → Store → Out D) : MS :=
  (sRet (mAll (aCons (mVar 0) (aCons (mC (.str ("" : Str))) aNil)) (callN 2 c_is_shape)))
theorem ok_is_term {f : Addr} {fd : FuncData} {k : Nat} {c_is_shape : List D → Store → Out D} (F : Fun K "is_term" "is_term" s_is_term f fd) (T : Txt mg) (C_is_shape : Cal P w K mg base G k "is_shape" 2 c_is_shape) : FnG P w K mg base (k + 1) f fd ["value"] (spF K G 1 (runB 1 (B_is_term c_is_shape))) := by
  refine fn_semG F sc_is_term fun cdv A outer s H E hr gd => ?_
  have sc := sc_is_term
  let NN : List Str := ["value"]
  let SC : Scope := defScope s_is_term
  have tk := takes_of (X := cxOf (L2.CX P w) P w K mg base ["value"] "is_term" (defScope s_is_term) f cdv A outer s H E) rfl rfl rfl rfl
  have hu65 : (A.deeper (envOfC "is_term" (defScope s_is_term) s.heap.objs.size f cdv)).units + 65 < cLine := Nat.lt_of_le_of_lt (by omega) hr.un
  have hu64 : (A.deeper (envOfC "is_term" (defScope s_is_term) s.heap.objs.size f cdv)).units + 64 < cLine := by omega
  have hu1 : (A.deeper (envOfC "is_term" (defScope s_is_term) s.heap.objs.size f cdv)).units + 1 < cLine := by omega
  exact (ds_one (ds_ret (de_cal C_is_shape hr gd tk (da_cons (de_var (pv 0)) (da_cons de_str da_nil)))))
/-! ### need_term -/
abbrev s_need_term : Stmt := topS 17
theorem sc_need_term : FnScope ["term"] ["term"] (defScope s_need_term) := ⟨rfl, rfl, rfl, by decide +kernel, rfl, by decide +kernel, by decide +kernel⟩
noncomputable def B_need_term (c_is_term : List D → Store → Out D) : MS :=
  (sIf (tNotM (tOfB (mAll (aCons (mVar 0) aNil) (callN 1 c_is_term))))
    sNo
    sNil)
theorem ok_need_term {f : Addr} {fd : FuncData} {k : Nat} {c_is_term : List D → Store → Out D} (F : Fun K "need_term" "need_term" s_need_term f fd) (T : Txt mg) (C_is_term : Cal P w K mg base G k "is_term" 1 c_is_term) : FnG P w K mg base (k + 1) f fd ["term"] (spF K G 1 (runB 1 (B_need_term c_is_term))) := by
  refine fn_semG F sc_need_term fun cdv A outer s H E hr gd => ?_
  have sc := sc_need_term
  let NN : List Str := ["term"]
  let SC : Scope := defScope s_need_term
  have tk := takes_of (X := cxOf (L2.CX P w) P w K mg base ["term"] "need_term" (defScope s_need_term) f cdv A outer s H E) rfl rfl rfl rfl
  have hu65 : (A.deeper (envOfC "need_term" (defScope s_need_term) s.heap.objs.size f cdv)).units + 65 < cLine := Nat.lt_of_le_of_lt (by omega) hr.un
  have hu64 : (A.deeper (envOfC "need_term" (defScope s_need_term) s.heap.objs.size f cdv)).units + 64 < cLine := by omega
  have hu1 : (A.deeper (envOfC "need_term" (defScope s_need_term) s.heap.objs.size f cdv)).units + 1 < cLine := by omega
  exact (ds_one (ds_if (dt_not (dt_val (de_cal C_is_term hr gd tk (da_cons (de_var (pv 0)) da_nil))))
    (ds_one ds_never)
    ds_nil))
/-! ### is_pattern -/
abbrev s_is_pattern : Stmt := topS 20
theorem sc_is_pattern : FnScope ["value"] ["value"] (defScope s_is_pattern) := ⟨rfl, rfl, rfl, by decide +kernel, rfl, by decide +kernel, by decide +kernel⟩
noncomputable def B_is_pattern (c_is_shape : List D → Store → Out D) : MS :=
  (sRet (mAll (aCons (mVar 0) (aCons (mC (.str ("ABCDEFGHIJKLMNOPQRSTUVWXYZ" : Str))) aNil)) (callN 2 c_is_shape)))
theorem ok_is_pattern {f : Addr} {fd : FuncData} {k : Nat} {c_is_shape : List D → Store → Out D} (F : Fun K "is_pattern" "is_pattern" s_is_pattern f fd) (T : Txt mg) (C_is_shape : Cal P w K mg base G k "is_shape" 2 c_is_shape) : FnG P w K mg base (k + 1) f fd ["value"] (spF K G 1 (runB 1 (B_is_pattern c_is_shape))) := by
  refine fn_semG F sc_is_pattern fun cdv A outer s H E hr gd => ?_
  have sc := sc_is_pattern
  let NN : List Str := ["value"]
  let SC : Scope := defScope s_is_pattern
  have tk := takes_of (X := cxOf (L2.CX P w) P w K mg base ["value"] "is_pattern" (defScope s_is_pattern) f cdv A outer s H E) rfl rfl rfl rfl
  have hu65 : (A.deeper (envOfC "is_pattern" (defScope s_is_pattern) s.heap.objs.size f cdv)).units + 65 < cLine := Nat.lt_of_le_of_lt (by omega) hr.un
  have hu64 : (A.deeper (envOfC "is_pattern" (defScope s_is_pattern) s.heap.objs.size f cdv)).units + 64 < cLine := by omega
  have hu1 : (A.deeper (envOfC "is_pattern" (defScope s_is_pattern) s.heap.objs.size f cdv)).units + 1 < cLine := by omega
  exact (ds_one (ds_ret (de_cal C_is_shape hr gd tk (da_cons (de_var (pv 0)) (da_cons (de_gs T.g_VARIABLES) da_nil)))))
/-! ### need_pattern -/
abbrev s_need_pattern : Stmt := topS 21
theorem sc_need_pattern : FnScope ["pattern"] ["pattern"] (defScope s_need_pattern) := ⟨rfl, rfl, rfl, by decide +kernel, rfl, by decide +kernel, by decide +kernel⟩
noncomputable def B_need_pattern (c_is_pattern : List D → Store → Out D) : MS :=
  (sIf (tNotM (tOfB (mAll (aCons (mVar 0) aNil) (callN 1 c_is_pattern))))
    sNo
    sNil)
theorem ok_need_pattern {f : Addr} {fd : FuncData} {k : Nat} {c_is_pattern : List D → Store → Out D} (F : Fun K "need_pattern" "need_pattern" s_need_pattern f fd) (T : Txt mg) (C_is_pattern : Cal P w K mg base G k "is_pattern" 1 c_is_pattern) : FnG P w K mg base (k + 1) f fd ["pattern"] (spF K G 1 (runB 1 (B_need_pattern c_is_pattern))) := by
  refine fn_semG F sc_need_pattern fun cdv A outer s H E hr gd => ?_
  have sc := sc_need_pattern
  let NN : List Str := ["pattern"]
  let SC : Scope := defScope s_need_pattern
  have tk := takes_of (X := cxOf (L2.CX P w) P w K mg base ["pattern"] "need_pattern" (defScope s_need_pattern) f cdv A outer s H E) rfl rfl rfl rfl
  have hu65 : (A.deeper (envOfC "need_pattern" (defScope s_need_pattern) s.heap.objs.size f cdv)).units + 65 < cLine := Nat.lt_of_le_of_lt (by omega) hr.un
  have hu64 : (A.deeper (envOfC "need_pattern" (defScope s_need_pattern) s.heap.objs.size f cdv)).units + 64 < cLine := by omega
  have hu1 : (A.deeper (envOfC "need_pattern" (defScope s_need_pattern) s.heap.objs.size f cdv)).units + 1 < cLine := by omega
  exact (ds_one (ds_if (dt_not (dt_val (de_cal C_is_pattern hr gd tk (da_cons (de_var (pv 0)) da_nil))))
    (ds_one ds_never)
    ds_nil))
/-! ### fits -/
abbrev s_fits : Stmt := topS 22
theorem sc_fits : FnScope ["pattern", "shape", "found", "part", "counterpart"] ["pattern", "shape", "found"] (defScope s_fits) := ⟨rfl, rfl, rfl, by decide +kernel, rfl, by decide +kernel, by decide +kernel⟩
noncomputable def B_fits (c_is_clash c_fits : List D → Store → Out D) : MS :=
  (sSeq (sIf (tOfB (mAll (aCons (mVar 0) (aCons (mC (.ty "str")) aNil)) (g2 gIsi)))
    (sSeq (sIf (tOfB (mB2 (mVar 0) (mVar 2) gNotIn))
      (sAsg (mVar 1) (gSubT (mVar 2) (mVar 0)))
      sNil)
    (sRet (mB2 (mB2 (mVar 2) (mVar 0) gIx) (mVar 1) gEq)))
    sNil)
  (sSeq (sIf (tOfB (mAll (aCons (mVar 0) (aCons (mVar 1) aNil)) (callN 2 c_is_clash)))
    (sRet (mC (.bl false)))
    sNil)
  (sSeq (sFor (iZp (mB2 (mVar 0) (mC (.int 1)) gIx) (mB2 (mVar 1) (mC (.int 1)) gIx)) (gTupA 2 (gsCons (gNm 3) (gsCons (gNm 4) gsNil)))
    (sIf (tNotM (tOfB (mAll (aCons (mVar 3) (aCons (mVar 4) (aCons (mVar 2) aNil))) (callN 3 c_fits))))
      (sRet (mC (.bl false)))
      sNil))
  (sRet (mC (.bl true))))))
theorem ok_fits {f : Addr} {fd : FuncData} {k : Nat} {c_is_clash c_fits : List D → Store → Out D} (F : Fun K "fits" "fits" s_fits f fd) (T : Txt mg) (C_is_clash : Cal P w K mg base G k "is_clash" 2 c_is_clash) (C_fits : Cal P w K mg base G k "fits" 3 c_fits) : FnG P w K mg base (k + 1) f fd ["pattern", "shape", "found"] (spF K G 3 (runB 5 (B_fits c_is_clash c_fits))) := by
  refine fn_semG F sc_fits fun cdv A outer s H E hr gd => ?_
  have sc := sc_fits
  let NN : List Str := ["pattern", "shape", "found", "part", "counterpart"]
  let SC : Scope := defScope s_fits
  have tk := takes_of (X := cxOf (L2.CX P w) P w K mg base ["pattern", "shape", "found", "part", "counterpart"] "fits" (defScope s_fits) f cdv A outer s H E) rfl rfl rfl rfl
  have hu65 : (A.deeper (envOfC "fits" (defScope s_fits) s.heap.objs.size f cdv)).units + 65 < cLine := Nat.lt_of_le_of_lt (by omega) hr.un
  have hu64 : (A.deeper (envOfC "fits" (defScope s_fits) s.heap.objs.size f cdv)).units + 64 < cLine := by omega
  have hu1 : (A.deeper (envOfC "fits" (defScope s_fits) s.heap.objs.size f cdv)).units + 1 < cLine := by omega
  exact (ds_cons (ds_if (dt_val (de_bi call_isi ok_isi T.m_isinstance boot_isinstance (da_cons (de_var (pv 0)) (da_cons (de_ty T.m_str boot_str) da_nil))))
    (ds_cons (ds_if (dt_notIn hu65 (de_var (pv 0)) (de_var (pv 2)))
      (ds_one (ds_asg (de_var (pv 1)) (dg_sub (W := WN) hu1 (de_var (pv 2)) (de_var (pv 0)))))
      ds_nil)
    (ds_one (ds_ret (de_eq hu64 (de_ix hu1 (de_var (pv 2)) (de_var (pv 0))) (de_var (pv 1))))))
    ds_nil)
  (ds_cons (ds_if (dt_val (de_cal C_is_clash hr gd tk (da_cons (de_var (pv 0)) (da_cons (de_var (pv 1)) da_nil))))
    (ds_one (ds_ret de_bl))
    ds_nil)
  (ds_cons (ds_for (passes_of rfl) rfl (di_zip T.m_zip (de_ix hu1 (de_var (pv 0)) de_int) (de_ix hu1 (de_var (pv 1)) de_int)) (dg_tupA rfl (dgs_cons (dg_name (i := 3) sc.nd) (dgs_cons (dg_name (i := 4) sc.nd) dgs_nil)))
    (ds_one (ds_if (dt_not (dt_val (de_cal C_fits hr gd tk (da_cons (de_var (pv 3)) (da_cons (de_var (pv 4)) (da_cons (de_var (pv 2)) da_nil))))))
      (ds_one (ds_ret de_bl))
      ds_nil)))
  (ds_one (ds_ret de_bl)))))
/-! ### is_clash -/
abbrev s_is_clash : Stmt := topS 23
theorem sc_is_clash : FnScope ["one", "other"] ["one", "other"] (defScope s_is_clash) := ⟨rfl, rfl, rfl, by decide +kernel, rfl, by decide +kernel, by decide +kernel⟩
noncomputable def B_is_clash : MS :=
  (sSeq (sIf (tOrM (tOfB (mAll (aCons (mVar 0) (aCons (mC (.ty "str")) aNil)) (g2 gIsi))) (tOfB (mAll (aCons (mVar 1) (aCons (mC (.ty "str")) aNil)) (g2 gIsi))))
    (sRet (mC (.bl true)))
    sNil)
  (sRet (mOr (mB2 (mB2 (mVar 0) (mC (.int 0)) gIx) (mB2 (mVar 1) (mC (.int 0)) gIx) gNe) (mB2 (mAll (aCons (mB2 (mVar 0) (mC (.int 1)) gIx) aNil) (g1 gLen)) (mAll (aCons (mB2 (mVar 1) (mC (.int 1)) gIx) aNil) (g1 gLen)) gNe))))
theorem ok_is_clash {f : Addr} {fd : FuncData} {k : Nat} (F : Fun K "is_clash" "is_clash" s_is_clash f fd) (T : Txt mg)  : FnG P w K mg base (k + 1) f fd ["one", "other"] (spF K G 2 (runB 2 (B_is_clash))) := by
  refine fn_semG F sc_is_clash fun cdv A outer s H E hr gd => ?_
  have sc := sc_is_clash
  let NN : List Str := ["one", "other"]
  let SC : Scope := defScope s_is_clash
  have tk := takes_of (X := cxOf (L2.CX P w) P w K mg base ["one", "other"] "is_clash" (defScope s_is_clash) f cdv A outer s H E) rfl rfl rfl rfl
  have hu65 : (A.deeper (envOfC "is_clash" (defScope s_is_clash) s.heap.objs.size f cdv)).units + 65 < cLine := Nat.lt_of_le_of_lt (by omega) hr.un
  have hu64 : (A.deeper (envOfC "is_clash" (defScope s_is_clash) s.heap.objs.size f cdv)).units + 64 < cLine := by omega
  have hu1 : (A.deeper (envOfC "is_clash" (defScope s_is_clash) s.heap.objs.size f cdv)).units + 1 < cLine := by omega
  exact (ds_cons (ds_if ((dw_or (dt_val (de_bi call_isi ok_isi T.m_isinstance boot_isinstance (da_cons (de_var (pv 0)) (da_cons (de_ty T.m_str boot_str) da_nil)))) (dw_or1 (dt_val (de_bi call_isi ok_isi T.m_isinstance boot_isinstance (da_cons (de_var (pv 1)) (da_cons (de_ty T.m_str boot_str) da_nil))))))).pt
    (ds_one (ds_ret de_bl))
    ds_nil)
  (ds_one (ds_ret (de_or (de_ne hu64 (de_ix hu1 (de_var (pv 0)) de_int) (de_ix hu1 (de_var (pv 1)) de_int)) (de_one (de_ne hu64 (de_bi call_len ok_len T.m_len boot_len (da_cons (de_ix hu1 (de_var (pv 0)) de_int) da_nil)) (de_bi call_len ok_len T.m_len boot_len (da_cons (de_ix hu1 (de_var (pv 1)) de_int) da_nil))))))))
/-! ### match -/
abbrev s_match : Stmt := topS 24
theorem sc_match : FnScope ["pattern", "term", "found"] ["pattern", "term"] (defScope s_match) := ⟨rfl, rfl, rfl, by decide +kernel, rfl, by decide +kernel, by decide +kernel⟩
noncomputable def B_match (c_need_pattern c_need_term c_fits : List D → Store → Out D) : MS :=
  (sSeq (sDrop (mAll (aCons (mVar 0) aNil) (callN 1 c_need_pattern)))
  (sSeq (sDrop (mAll (aCons (mVar 1) aNil) (callN 1 c_need_term)))
  (sSeq (sAsg (fun _ S => gNewD0 S) (gNm 2))
  (sSeq (sIf (tOfB (mAll (aCons (mVar 0) (aCons (mVar 1) (aCons (mVar 2) aNil))) (callN 3 c_fits)))
    (sRet (mVar 2))
    sNil)
  (sRet (mC .non))))))
theorem ok_match {f : Addr} {fd : FuncData} {k : Nat} {c_need_pattern c_need_term c_fits : List D → Store → Out D} (F : Fun K "match" "match" s_match f fd) (T : Txt mg) (C_need_pattern : Cal P w K mg base G k "need_pattern" 1 c_need_pattern) (C_need_term : Cal P w K mg base G k "need_term" 1 c_need_term) (C_fits : Cal P w K mg base G k "fits" 3 c_fits) : FnG P w K mg base (k + 1) f fd ["pattern", "term"] (spF K G 2 (runB 3 (B_match c_need_pattern c_need_term c_fits))) := by
  refine fn_semG F sc_match fun cdv A outer s H E hr gd => ?_
  have sc := sc_match
  let NN : List Str := ["pattern", "term", "found"]
  let SC : Scope := defScope s_match
  have tk := takes_of (X := cxOf (L2.CX P w) P w K mg base ["pattern", "term", "found"] "match" (defScope s_match) f cdv A outer s H E) rfl rfl rfl rfl
  have hu65 : (A.deeper (envOfC "match" (defScope s_match) s.heap.objs.size f cdv)).units + 65 < cLine := Nat.lt_of_le_of_lt (by omega) hr.un
  have hu64 : (A.deeper (envOfC "match" (defScope s_match) s.heap.objs.size f cdv)).units + 64 < cLine := by omega
  have hu1 : (A.deeper (envOfC "match" (defScope s_match) s.heap.objs.size f cdv)).units + 1 < cLine := by omega
  exact (ds_cons (ds_drop (de_cal C_need_pattern hr gd tk (da_cons (de_var (pv 0)) da_nil)))
  (ds_cons (ds_drop (de_cal C_need_term hr gd tk (da_cons (de_var (pv 1)) da_nil)))
  (ds_cons (ds_asg de_newD0 (dg_name (i := 2) sc.nd))
  (ds_cons (ds_if (dt_val (de_cal C_fits hr gd tk (da_cons (de_var (pv 0)) (da_cons (de_var (pv 1)) (da_cons (de_var (pv 2)) da_nil)))))
    (ds_one (ds_ret (de_var (pv 2))))
    ds_nil)
  (ds_one (ds_ret de_non))))))
/-! ### _law_mixed -/
abbrev s__law_mixed : Stmt := topS 26
theorem sc__law_mixed : FnScope ["cell", "k", "one"] ["cell", "k"] (defScope s__law_mixed) := ⟨rfl, rfl, rfl, by decide +kernel, rfl, by decide +kernel, by decide +kernel⟩
noncomputable def B__law_mixed : MS :=
  (sSeq (sAsg (mB2 (mB2 (mB2 (mAll (aCons (mVar 0) aNil) (g1 gInt)) (mB2 (mAll (aCons (mC (.int 1000000007)) (aCons (mC (.int 998244353)) (aCons (mC (.int 2147483629)) (aCons (mC (.int 1000000009)) aNil)))) gLst) (mB2 (mAll (aCons (mVar 1) aNil) (g1 gInt)) (mC (.int 4)) gMod) gIx) gMod) (mB2 (mC (.int 7919)) (mVar 1) gMul) gAdd) (mC (.int 13)) gAdd) (gNm 2))
  (sRet (mB2 (mAll (aCons (mB2 (mB2 (mAll (aCons (mB2 (mVar 2) (mVar 2) gMul) aNil) (g1 gInt)) (mC (.int 2147483647)) gMod) (mC (.int 48271)) gMul) aNil) (g1 gInt)) (mC (.int 2147483647)) gMod)))
theorem ok__law_mixed {f : Addr} {fd : FuncData} {k : Nat} (F : Fun K "_law_mixed" "_law_mixed" s__law_mixed f fd) (T : Txt mg)  : FnG P w K mg base (k + 1) f fd ["cell", "k"] (spF K G 2 (runB 3 (B__law_mixed))) := by
  refine fn_semG F sc__law_mixed fun cdv A outer s H E hr gd => ?_
  have sc := sc__law_mixed
  let NN : List Str := ["cell", "k", "one"]
  let SC : Scope := defScope s__law_mixed
  have tk := takes_of (X := cxOf (L2.CX P w) P w K mg base ["cell", "k", "one"] "_law_mixed" (defScope s__law_mixed) f cdv A outer s H E) rfl rfl rfl rfl
  have hu65 : (A.deeper (envOfC "_law_mixed" (defScope s__law_mixed) s.heap.objs.size f cdv)).units + 65 < cLine := Nat.lt_of_le_of_lt (by omega) hr.un
  have hu64 : (A.deeper (envOfC "_law_mixed" (defScope s__law_mixed) s.heap.objs.size f cdv)).units + 64 < cLine := by omega
  have hu1 : (A.deeper (envOfC "_law_mixed" (defScope s__law_mixed) s.heap.objs.size f cdv)).units + 1 < cLine := by omega
  exact (ds_cons (ds_asg (de_add (de_add (de_mod (de_bt call_int1 ok_int T.m_int boot_int (da_cons (de_var (pv 0)) da_nil)) (de_ix hu1 (de_lst (da_cons de_int (da_cons de_int (da_cons de_int (da_cons de_int da_nil))))) (de_mod (de_bt call_int1 ok_int T.m_int boot_int (da_cons (de_var (pv 1)) da_nil)) de_int))) (de_mul de_int (de_var (pv 1)))) de_int) (dg_name (i := 2) sc.nd))
  (ds_one (ds_ret (de_mod (de_bt call_int1 ok_int T.m_int boot_int (da_cons (de_mul (de_mod (de_bt call_int1 ok_int T.m_int boot_int (da_cons (de_mul (de_var (pv 2)) (de_var (pv 2))) da_nil)) de_int) de_int) da_nil)) de_int))))
/-! ### _law_draw -/
abbrev s__law_draw : Stmt := topS 27
theorem sc__law_draw : FnScope ["cell", "k"] ["cell", "k"] (defScope s__law_draw) := ⟨rfl, rfl, rfl, by decide +kernel, rfl, by decide +kernel, by decide +kernel⟩
noncomputable def B__law_draw : MS :=
  (sRet (mNewD (pCons (.inr ("left" : Str)) (mIf (tOfB (mB2 (mVar 0) (mB2 (mC (.int 10)) (mC (.int 18)) gPow) gGe)) (mVar 0) (mC (.int 0))) (pCons (.inr ("cell" : Str)) (mVar 0) (pCons (.inr ("turns" : Str)) (mB2 (mC (.int 1000)) (mVar 1) gMul) pNil)))))
theorem ok__law_draw {f : Addr} {fd : FuncData} {k : Nat} (F : Fun K "_law_draw" "_law_draw" s__law_draw f fd) (T : Txt mg)  : FnG P w K mg base (k + 1) f fd ["cell", "k"] (spF K G 2 (runB 2 (B__law_draw))) := by
  refine fn_semG F sc__law_draw fun cdv A outer s H E hr gd => ?_
  have sc := sc__law_draw
  let NN : List Str := ["cell", "k"]
  let SC : Scope := defScope s__law_draw
  have tk := takes_of (X := cxOf (L2.CX P w) P w K mg base ["cell", "k"] "_law_draw" (defScope s__law_draw) f cdv A outer s H E) rfl rfl rfl rfl
  have hu65 : (A.deeper (envOfC "_law_draw" (defScope s__law_draw) s.heap.objs.size f cdv)).units + 65 < cLine := Nat.lt_of_le_of_lt (by omega) hr.un
  have hu64 : (A.deeper (envOfC "_law_draw" (defScope s__law_draw) s.heap.objs.size f cdv)).units + 64 < cLine := by omega
  have hu1 : (A.deeper (envOfC "_law_draw" (defScope s__law_draw) s.heap.objs.size f cdv)).units + 1 < cLine := by omega
  exact (ds_one (ds_ret (de_newD (dps_cons (k := .inr ("left" : Str)) pe_str (de_if (dt_ge (de_var (pv 0)) (de_pow de_int de_int)) (de_var (pv 0)) de_int) (dps_cons (k := .inr ("cell" : Str)) pe_str (de_var (pv 0)) (dps_cons (k := .inr ("turns" : Str)) pe_str (de_mul de_int (de_var (pv 1))) dps_nil))))))
/-! ### _law_digit -/
abbrev s__law_digit : Stmt := topS 28
theorem sc__law_digit : FnScope ["draw", "span", "j", "found"] ["draw", "span"] (defScope s__law_digit) := ⟨rfl, rfl, rfl, by decide +kernel, rfl, by decide +kernel, by decide +kernel⟩
noncomputable def B__law_digit (c__law_mixed : List D → Store → Out D) : MS :=
  (sSeq (sIf (tOfB (mB2 (mB2 (mVar 0) (mC (.str ("left" : Str))) gIx) (mC (.int 0)) gEq))
    (sFor (iR1 (mC (.int 4))) (gNm 2)
      (sSeq (sAsg (mB2 (mB2 (mVar 0) (mC (.str ("turns" : Str))) gIx) (mC (.int 1)) gAdd) (gSubT (mVar 0) (mC (.str ("turns" : Str)))))
      (sAsg (mB2 (mB2 (mB2 (mVar 0) (mC (.str ("left" : Str))) gIx) (mC (.int 2147483647)) gMul) (mAll (aCons (mB2 (mVar 0) (mC (.str ("cell" : Str))) gIx) (aCons (mB2 (mVar 0) (mC (.str ("turns" : Str))) gIx) aNil)) (callN 2 c__law_mixed)) gAdd) (gSubT (mVar 0) (mC (.str ("left" : Str)))))))
    sNil)
  (sSeq (sAsg (mB2 (mAll (aCons (mB2 (mVar 0) (mC (.str ("left" : Str))) gIx) aNil) (g1 gInt)) (mVar 1) gMod) (gNm 3))
  (sSeq (sAsg (mB2 (mAll (aCons (mB2 (mVar 0) (mC (.str ("left" : Str))) gIx) aNil) (g1 gInt)) (mVar 1) gDiv) (gSubT (mVar 0) (mC (.str ("left" : Str)))))
  (sRet (mVar 3)))))
theorem ok__law_digit {f : Addr} {fd : FuncData} {k : Nat} {c__law_mixed : List D → Store → Out D} (F : Fun K "_law_digit" "_law_digit" s__law_digit f fd) (T : Txt mg) (C__law_mixed : Cal P w K mg base G k "_law_mixed" 2 c__law_mixed) : FnG P w K mg base (k + 1) f fd ["draw", "span"] (spF K G 2 (runB 4 (B__law_digit c__law_mixed))) := by
  refine fn_semG F sc__law_digit fun cdv A outer s H E hr gd => ?_
  have sc := sc__law_digit
  let NN : List Str := ["draw", "span", "j", "found"]
  let SC : Scope := defScope s__law_digit
  have tk := takes_of (X := cxOf (L2.CX P w) P w K mg base ["draw", "span", "j", "found"] "_law_digit" (defScope s__law_digit) f cdv A outer s H E) rfl rfl rfl rfl
  have hu65 : (A.deeper (envOfC "_law_digit" (defScope s__law_digit) s.heap.objs.size f cdv)).units + 65 < cLine := Nat.lt_of_le_of_lt (by omega) hr.un
  have hu64 : (A.deeper (envOfC "_law_digit" (defScope s__law_digit) s.heap.objs.size f cdv)).units + 64 < cLine := by omega
  have hu1 : (A.deeper (envOfC "_law_digit" (defScope s__law_digit) s.heap.objs.size f cdv)).units + 1 < cLine := by omega
  exact (ds_cons (ds_if (dt_eq hu64 (de_ix hu1 (de_var (pv 0)) de_str) de_int)
    (ds_one (ds_for (passes_of rfl) rfl (di_r1 T.m_range de_int) (dg_name (i := 2) sc.nd)
      (ds_cons (ds_asg (de_add (de_ix hu1 (de_var (pv 0)) de_str) de_int) (dg_sub (W := WN) hu1 (de_var (pv 0)) de_str))
      (ds_one (ds_asg (de_add (de_mul (de_ix hu1 (de_var (pv 0)) de_str) de_int) (de_cal C__law_mixed hr gd tk (da_cons (de_ix hu1 (de_var (pv 0)) de_str) (da_cons (de_ix hu1 (de_var (pv 0)) de_str) da_nil)))) (dg_sub (W := WN) hu1 (de_var (pv 0)) de_str))))))
    ds_nil)
  (ds_cons (ds_asg (de_mod (de_bt call_int1 ok_int T.m_int boot_int (da_cons (de_ix hu1 (de_var (pv 0)) de_str) da_nil)) (de_var (pv 1))) (dg_name (i := 3) sc.nd))
  (ds_cons (ds_asg (de_div (de_bt call_int1 ok_int T.m_int boot_int (da_cons (de_ix hu1 (de_var (pv 0)) de_str) da_nil)) (de_var (pv 1))) (dg_sub (W := WN) hu1 (de_var (pv 0)) de_str))
  (ds_one (ds_ret (de_var (pv 3)))))))
/-! ### _law_drawn_word -/
abbrev s__law_drawn_word : Stmt := topS 29
theorem sc__law_drawn_word : FnScope ["draw"] ["draw"] (defScope s__law_drawn_word) := ⟨rfl, rfl, rfl, by decide +kernel, rfl, by decide +kernel, by decide +kernel⟩
noncomputable def B__law_drawn_word (c__law_digit : List D → Store → Out D) : MS :=
  (sRet (mB2 (mAll (aCons (mC (.str ("a" : Str))) (aCons (mC (.str ("b" : Str))) (aCons (mC (.str ("list" : Str))) (aCons (mC (.str ("map2" : Str))) (aCons (mC (.str ("x_y" : Str))) (aCons (mC (.str ("abcdefghijkl" : Str))) aNil)))))) gLst) (mAll (aCons (mVar 0) (aCons (mC (.int 6)) aNil)) (callN 2 c__law_digit)) gIx))
theorem ok__law_drawn_word {f : Addr} {fd : FuncData} {k : Nat} {c__law_digit : List D → Store → Out D} (F : Fun K "_law_drawn_word" "_law_drawn_word" s__law_drawn_word f fd) (T : Txt mg) (C__law_digit : Cal P w K mg base G k "_law_digit" 2 c__law_digit) : FnG P w K mg base (k + 1) f fd ["draw"] (spF K G 1 (runB 1 (B__law_drawn_word c__law_digit))) := by
  refine fn_semG F sc__law_drawn_word fun cdv A outer s H E hr gd => ?_
  have sc := sc__law_drawn_word
  let NN : List Str := ["draw"]
  let SC : Scope := defScope s__law_drawn_word
  have tk := takes_of (X := cxOf (L2.CX P w) P w K mg base ["draw"] "_law_drawn_word" (defScope s__law_drawn_word) f cdv A outer s H E) rfl rfl rfl rfl
  have hu65 : (A.deeper (envOfC "_law_drawn_word" (defScope s__law_drawn_word) s.heap.objs.size f cdv)).units + 65 < cLine := Nat.lt_of_le_of_lt (by omega) hr.un
  have hu64 : (A.deeper (envOfC "_law_drawn_word" (defScope s__law_drawn_word) s.heap.objs.size f cdv)).units + 64 < cLine := by omega
  have hu1 : (A.deeper (envOfC "_law_drawn_word" (defScope s__law_drawn_word) s.heap.objs.size f cdv)).units + 1 < cLine := by omega
  exact (ds_one (ds_ret (de_ix hu1 (de_lst (da_cons de_str (da_cons de_str (da_cons de_str (da_cons de_str (da_cons de_str (da_cons de_str da_nil))))))) (de_cal C__law_digit hr gd tk (da_cons (de_var (pv 0)) (da_cons de_int da_nil))))))
/-! ### _law_drawn_form -/
abbrev s__law_drawn_form : Stmt := topS 30
theorem sc__law_drawn_form : FnScope ["draw", "depth", "size", "signs", "found", "left", "j"] ["draw", "depth", "size", "signs"] (defScope s__law_drawn_form) := ⟨rfl, rfl, rfl, by decide +kernel, rfl, by decide +kernel, by decide +kernel⟩
noncomputable def B__law_drawn_form (c__law_digit c__law_drawn_form c__law_size_of c__law_drawn_word : List D → Store → Out D) : MS :=
  (sSeq (sIf (tAndM (tOfB (mB2 (mVar 3) (mC (.str ("" : Str))) gNe)) (tOfB (mB2 (mAll (aCons (mVar 0) (aCons (mC (.int 3)) aNil)) (callN 2 c__law_digit)) (mC (.int 0)) gEq)))
    (sRet (mB2 (mVar 3) (mAll (aCons (mVar 0) (aCons (mAll (aCons (mVar 3) aNil) (g1 gLen)) aNil)) (callN 2 c__law_digit)) gIx))
    sNil)
  (sSeq (sPar 4 5 (mAll aNil gNewL) (mB2 (mVar 2) (mC (.int 1)) gSub))
  (sSeq (sFor (iR1 (mIf (tOfB (mB2 (mVar 1) (mC (.int 1)) gGt)) (mAll (aCons (mVar 0) (aCons (mC (.int 4)) aNil)) (callN 2 c__law_digit)) (mC (.int 0)))) (gNm 6)
    (sIf (tOfB (mB2 (mVar 5) (mC (.int 0)) gGt))
      (sSeq (sDrop (mApp (mVar 4) (mAll (aCons (mVar 0) (aCons (mB2 (mVar 1) (mC (.int 1)) gSub) (aCons (mAll (aCons (mVar 5) (aCons (mC (.int 4)) aNil)) (g2 gMin)) (aCons (mVar 3) aNil)))) (callN 4 c__law_drawn_form))))
      (sAsg (mB2 (mVar 5) (mAll (aCons (mB2 (mVar 4) (mB1 (mC (.int 1)) gNeg) gIx) aNil) (callN 1 c__law_size_of)) gSub) (gNm 5)))
      sNil))
  (sRet (mAll (aCons (mAll (aCons (mVar 0) aNil) (callN 1 c__law_drawn_word)) (aCons (mAll (aCons (mVar 4) aNil) (g1 gTuple)) aNil)) gTup)))))
theorem ok__law_drawn_form {f : Addr} {fd : FuncData} {k : Nat} {c__law_digit c__law_drawn_form c__law_size_of c__law_drawn_word : List D → Store → Out D} (F : Fun K "_law_drawn_form" "_law_drawn_form" s__law_drawn_form f fd) (T : Txt mg) (C__law_digit : Cal P w K mg base G k "_law_digit" 2 c__law_digit) (C__law_drawn_form : Cal P w K mg base G k "_law_drawn_form" 4 c__law_drawn_form) (C__law_size_of : Cal P w K mg base G k "_law_size_of" 1 c__law_size_of) (C__law_drawn_word : Cal P w K mg base G k "_law_drawn_word" 1 c__law_drawn_word) : FnG P w K mg base (k + 1) f fd ["draw", "depth", "size", "signs"] (spF K G 4 (runB 7 (B__law_drawn_form c__law_digit c__law_drawn_form c__law_size_of c__law_drawn_word))) := by
  refine fn_semG F sc__law_drawn_form fun cdv A outer s H E hr gd => ?_
  have sc := sc__law_drawn_form
  let NN : List Str := ["draw", "depth", "size", "signs", "found", "left", "j"]
  let SC : Scope := defScope s__law_drawn_form
  have tk := takes_of (X := cxOf (L2.CX P w) P w K mg base ["draw", "depth", "size", "signs", "found", "left", "j"] "_law_drawn_form" (defScope s__law_drawn_form) f cdv A outer s H E) rfl rfl rfl rfl
  have hu65 : (A.deeper (envOfC "_law_drawn_form" (defScope s__law_drawn_form) s.heap.objs.size f cdv)).units + 65 < cLine := Nat.lt_of_le_of_lt (by omega) hr.un
  have hu64 : (A.deeper (envOfC "_law_drawn_form" (defScope s__law_drawn_form) s.heap.objs.size f cdv)).units + 64 < cLine := by omega
  have hu1 : (A.deeper (envOfC "_law_drawn_form" (defScope s__law_drawn_form) s.heap.objs.size f cdv)).units + 1 < cLine := by omega
  exact (ds_cons (ds_if ((dw_and (dt_ne hu64 (de_var (pv 3)) de_str) (dw_and1 (dt_eq hu64 (de_cal C__law_digit hr gd tk (da_cons (de_var (pv 0)) (da_cons de_int da_nil))) de_int)))).pt
    (ds_one (ds_ret (de_ix hu1 (de_var (pv 3)) (de_cal C__law_digit hr gd tk (da_cons (de_var (pv 0)) (da_cons (de_bi call_len ok_len T.m_len boot_len (da_cons (de_var (pv 3)) da_nil)) da_nil))))))
    ds_nil)
  (ds_cons (ds_par (i := 4) (j := 5) rfl sc.nd rfl rfl (by decide) rfl rfl (de_newL da_nil) (de_sub (de_var (pv 2)) de_int) rfl)
  (ds_cons (ds_for (passes_of rfl) rfl (di_r1 T.m_range (de_if (dt_gt (de_var (pv 1)) de_int) (de_cal C__law_digit hr gd tk (da_cons (de_var (pv 0)) (da_cons de_int da_nil))) de_int)) (dg_name (i := 6) sc.nd)
    (ds_one (ds_if (dt_gt (de_var (pv 5)) de_int)
      (ds_cons (ds_drop (de_app (de_var (pv 4)) (de_cal C__law_drawn_form hr gd tk (da_cons (de_var (pv 0)) (da_cons (de_sub (de_var (pv 1)) de_int) (da_cons (de_bi (call_min2 rfl) ok_min T.m_min boot_min (da_cons (de_var (pv 5)) (da_cons de_int da_nil))) (da_cons (de_var (pv 3)) da_nil)))))))
      (ds_one (ds_asg (de_sub (de_var (pv 5)) (de_cal C__law_size_of hr gd tk (da_cons (de_ix hu1 (de_var (pv 4)) (de_neg de_int)) da_nil))) (dg_name (i := 5) sc.nd))))
      ds_nil)))
  (ds_one (ds_ret (de_tup (da_cons (de_cal C__law_drawn_word hr gd tk (da_cons (de_var (pv 0)) da_nil)) (da_cons (de_bt call_tuple_of ok_tuple T.m_tuple boot_tuple (da_cons (de_var (pv 4)) da_nil)) da_nil))))))))
/-! ### _law_size_of -/
abbrev s__law_size_of : Stmt := topS 31
theorem sc__law_size_of : FnScope ["form", "part"] ["form"] (defScope s__law_size_of) := ⟨rfl, rfl, rfl, by decide +kernel, rfl, by decide +kernel, by decide +kernel⟩
noncomputable def B__law_size_of (c__law_size_of : List D → Store → Out D) : MS :=
  (sRet (mIf (tOfB (mAll (aCons (mVar 0) (aCons (mC (.ty "str")) aNil)) (g2 gIsi))) (mC (.int 1)) (mB2 (mC (.int 1)) (mAll (aCons (mLc (iSeq (mB2 (mVar 0) (mC (.int 1)) gIx)) (.one 1) tTru (mAll (aCons (mVar 1) aNil) (callN 1 c__law_size_of)) [1]) aNil) (g1 gSum)) gAdd)))
theorem ok__law_size_of {f : Addr} {fd : FuncData} {k : Nat} {c__law_size_of : List D → Store → Out D} (F : Fun K "_law_size_of" "_law_size_of" s__law_size_of f fd) (T : Txt mg) (C__law_size_of : Cal P w K mg base G k "_law_size_of" 1 c__law_size_of) : FnG P w K mg base (k + 1) f fd ["form"] (spF K G 1 (runB 2 (B__law_size_of c__law_size_of))) := by
  refine fn_semG F sc__law_size_of fun cdv A outer s H E hr gd => ?_
  have sc := sc__law_size_of
  let NN : List Str := ["form", "part"]
  let SC : Scope := defScope s__law_size_of
  have tk := takes_of (X := cxOf (L2.CX P w) P w K mg base ["form", "part"] "_law_size_of" (defScope s__law_size_of) f cdv A outer s H E) rfl rfl rfl rfl
  have hu65 : (A.deeper (envOfC "_law_size_of" (defScope s__law_size_of) s.heap.objs.size f cdv)).units + 65 < cLine := Nat.lt_of_le_of_lt (by omega) hr.un
  have hu64 : (A.deeper (envOfC "_law_size_of" (defScope s__law_size_of) s.heap.objs.size f cdv)).units + 64 < cLine := by omega
  have hu1 : (A.deeper (envOfC "_law_size_of" (defScope s__law_size_of) s.heap.objs.size f cdv)).units + 1 < cLine := by omega
  exact (ds_one (ds_ret (de_if (dt_val (de_bi call_isi ok_isi T.m_isinstance boot_isinstance (da_cons (de_var (pv 0)) (da_cons (de_ty T.m_str boot_str) da_nil)))) de_int (de_add de_int (de_bi (cr_sum rfl) ok_sum T.m_sum boot_sum (da_cons (de_lc (own := [(("part" : Str), 1)]) rfl sc.nd (di_seq (de_ix hu1 (de_var (pv 0)) de_int)) (blkOk_by (N := NN) (sc := SC) (by decide +kernel)) (fun _ _ _ _ _ => pg_name (i := 1) sc.nd rfl (Or.inl rfl)) (tg_one (by decide)) (fun _ _ _ _ _ => dts_nil) (fun _ _ _ _ _ => (de_cal C__law_size_of hr gd takes0 (da_cons (de_var (pv 1)) da_nil)))) da_nil))))))
/-! ### _law_put -/
abbrev s__law_put : Stmt := topS 34
theorem sc__law_put : FnScope ["form", "values", "part"] ["form", "values"] (defScope s__law_put) := ⟨rfl, rfl, rfl, by decide +kernel, rfl, by decide +kernel, by decide +kernel⟩
noncomputable def B__law_put (c__law_put : List D → Store → Out D) : MS :=
  (sSeq (sIf (tOfB (mAll (aCons (mVar 0) (aCons (mC (.ty "str")) aNil)) (g2 gIsi)))
    (sRet (mGet2 (mVar 1) (mVar 0) (mVar 0)))
    sNil)
  (sRet (mAll (aCons (mB2 (mVar 0) (mC (.int 0)) gIx) (aCons (mAll (aCons (mLc (iSeq (mB2 (mVar 0) (mC (.int 1)) gIx)) (.one 2) tTru (mAll (aCons (mVar 2) (aCons (mVar 1) aNil)) (callN 2 c__law_put)) [2]) aNil) (g1 gTuple)) aNil)) gTup)))
theorem ok__law_put {f : Addr} {fd : FuncData} {k : Nat} {c__law_put : List D → Store → Out D} (F : Fun K "_law_put" "_law_put" s__law_put f fd) (T : Txt mg) (C__law_put : Cal P w K mg base G k "_law_put" 2 c__law_put) : FnG P w K mg base (k + 1) f fd ["form", "values"] (spF K G 2 (runB 3 (B__law_put c__law_put))) := by
  refine fn_semG F sc__law_put fun cdv A outer s H E hr gd => ?_
  have sc := sc__law_put
  let NN : List Str := ["form", "values", "part"]
  let SC : Scope := defScope s__law_put
  have tk := takes_of (X := cxOf (L2.CX P w) P w K mg base ["form", "values", "part"] "_law_put" (defScope s__law_put) f cdv A outer s H E) rfl rfl rfl rfl
  have hu65 : (A.deeper (envOfC "_law_put" (defScope s__law_put) s.heap.objs.size f cdv)).units + 65 < cLine := Nat.lt_of_le_of_lt (by omega) hr.un
  have hu64 : (A.deeper (envOfC "_law_put" (defScope s__law_put) s.heap.objs.size f cdv)).units + 64 < cLine := by omega
  have hu1 : (A.deeper (envOfC "_law_put" (defScope s__law_put) s.heap.objs.size f cdv)).units + 1 < cLine := by omega
  exact (ds_cons (ds_if (dt_val (de_bi call_isi ok_isi T.m_isinstance boot_isinstance (da_cons (de_var (pv 0)) (da_cons (de_ty T.m_str boot_str) da_nil))))
    (ds_one (ds_ret (de_get2 hu1 (de_var (pv 1)) (de_var (pv 0)) (de_var (pv 0)))))
    ds_nil)
  (ds_one (ds_ret (de_tup (da_cons (de_ix hu1 (de_var (pv 0)) de_int) (da_cons (de_bt call_tuple_of ok_tuple T.m_tuple boot_tuple (da_cons (de_lc (own := [(("part" : Str), 2)]) rfl sc.nd (di_seq (de_ix hu1 (de_var (pv 0)) de_int)) (blkOk_by (N := NN) (sc := SC) (by decide +kernel)) (fun _ _ _ _ _ => pg_name (i := 2) sc.nd rfl (Or.inl rfl)) (tg_one (by decide)) (fun _ _ _ _ _ => dts_nil) (fun _ _ _ _ _ => (de_cal C__law_put hr gd takes0 (da_cons (de_var (pv 2)) (da_cons (de_var (pv 1)) da_nil))))) da_nil)) da_nil))))))
/-! ### _law_bent -/
abbrev s__law_bent : Stmt := topS 35
theorem sc__law_bent : FnScope ["draw", "form", "at"] ["draw", "form"] (defScope s__law_bent) := ⟨rfl, rfl, rfl, by decide +kernel, rfl, by decide +kernel, by decide +kernel⟩
noncomputable def B__law_bent (c__law_digit c__law_bent : List D → Store → Out D) : MS :=
  (sSeq (sIf (tOrM (tOfB (mAll (aCons (mVar 1) (aCons (mC (.ty "str")) aNil)) (g2 gIsi))) (tOrM (tOfB (mB2 (mB2 (mVar 1) (mC (.int 1)) gIx) (mAll aNil gTup) gEq)) (tOfB (mB2 (mAll (aCons (mVar 0) (aCons (mC (.int 3)) aNil)) (callN 2 c__law_digit)) (mC (.int 0)) gEq))))
    (sRet (mIf (tNotM (tOfB (mAll (aCons (mVar 1) (aCons (mC (.ty "str")) aNil)) (g2 gIsi)))) (mAll (aCons (mC (.str ("other" : Str))) (aCons (mB2 (mVar 1) (mC (.int 1)) gIx) aNil)) gTup) (mVar 1)))
    sNil)
  (sSeq (sAsg (mAll (aCons (mVar 0) (aCons (mB2 (mAll (aCons (mB2 (mVar 1) (mC (.int 1)) gIx) aNil) (g1 gLen)) (mC (.int 1)) gAdd) aNil)) (callN 2 c__law_digit)) (gNm 2))
  (sSeq (sIf (tOfB (mB2 (mVar 2) (mAll (aCons (mB2 (mVar 1) (mC (.int 1)) gIx) aNil) (g1 gLen)) gEq))
    (sRet (mAll (aCons (mB2 (mVar 1) (mC (.int 0)) gIx) (aCons (mSlA (mB2 (mVar 1) (mC (.int 1)) gIx) oNo (oOf (mB1 (mC (.int 1)) gNeg))) aNil)) gTup))
    sNil)
  (sRet (mAll (aCons (mB2 (mVar 1) (mC (.int 0)) gIx) (aCons (mB2 (mB2 (mSlA (mB2 (mVar 1) (mC (.int 1)) gIx) oNo (oOf (mVar 2))) (mAll (aCons (mAll (aCons (mVar 0) (aCons (mB2 (mB2 (mVar 1) (mC (.int 1)) gIx) (mVar 2) gIx) aNil)) (callN 2 c__law_bent)) aNil) gTup) gAdd) (mSlA (mB2 (mVar 1) (mC (.int 1)) gIx) (oOf (mB2 (mVar 2) (mC (.int 1)) gAdd)) oNo) gAdd) aNil)) gTup)))))
theorem ok__law_bent {f : Addr} {fd : FuncData} {k : Nat} {c__law_digit c__law_bent : List D → Store → Out D} (F : Fun K "_law_bent" "_law_bent" s__law_bent f fd) (T : Txt mg) (C__law_digit : Cal P w K mg base G k "_law_digit" 2 c__law_digit) (C__law_bent : Cal P w K mg base G k "_law_bent" 2 c__law_bent) : FnG P w K mg base (k + 1) f fd ["draw", "form"] (spF K G 2 (runB 3 (B__law_bent c__law_digit c__law_bent))) := by
  refine fn_semG F sc__law_bent fun cdv A outer s H E hr gd => ?_
  have sc := sc__law_bent
  let NN : List Str := ["draw", "form", "at"]
  let SC : Scope := defScope s__law_bent
  have tk := takes_of (X := cxOf (L2.CX P w) P w K mg base ["draw", "form", "at"] "_law_bent" (defScope s__law_bent) f cdv A outer s H E) rfl rfl rfl rfl
  have hu65 : (A.deeper (envOfC "_law_bent" (defScope s__law_bent) s.heap.objs.size f cdv)).units + 65 < cLine := Nat.lt_of_le_of_lt (by omega) hr.un
  have hu64 : (A.deeper (envOfC "_law_bent" (defScope s__law_bent) s.heap.objs.size f cdv)).units + 64 < cLine := by omega
  have hu1 : (A.deeper (envOfC "_law_bent" (defScope s__law_bent) s.heap.objs.size f cdv)).units + 1 < cLine := by omega
  exact (ds_cons (ds_if ((dw_or (dt_val (de_bi call_isi ok_isi T.m_isinstance boot_isinstance (da_cons (de_var (pv 1)) (da_cons (de_ty T.m_str boot_str) da_nil)))) (dw_or (dt_eq hu64 (de_ix hu1 (de_var (pv 1)) de_int) (de_tup da_nil)) (dw_or1 (dt_eq hu64 (de_cal C__law_digit hr gd tk (da_cons (de_var (pv 0)) (da_cons de_int da_nil))) de_int))))).pt
    (ds_one (ds_ret (de_if (dt_not (dt_val (de_bi call_isi ok_isi T.m_isinstance boot_isinstance (da_cons (de_var (pv 1)) (da_cons (de_ty T.m_str boot_str) da_nil))))) (de_tup (da_cons de_str (da_cons (de_ix hu1 (de_var (pv 1)) de_int) da_nil))) (de_var (pv 1)))))
    ds_nil)
  (ds_cons (ds_asg (de_cal C__law_digit hr gd tk (da_cons (de_var (pv 0)) (da_cons (de_add (de_bi call_len ok_len T.m_len boot_len (da_cons (de_ix hu1 (de_var (pv 1)) de_int) da_nil)) de_int) da_nil))) (dg_name (i := 2) sc.nd))
  (ds_cons (ds_if (dt_eq hu64 (de_var (pv 2)) (de_bi call_len ok_len T.m_len boot_len (da_cons (de_ix hu1 (de_var (pv 1)) de_int) da_nil)))
    (ds_one (ds_ret (de_tup (da_cons (de_ix hu1 (de_var (pv 1)) de_int) (da_cons (de_slA (de_ix hu1 (de_var (pv 1)) de_int) do_no (do_some (de_neg de_int))) da_nil)))))
    ds_nil)
  (ds_one (ds_ret (de_tup (da_cons (de_ix hu1 (de_var (pv 1)) de_int) (da_cons (de_add (de_add (de_slA (de_ix hu1 (de_var (pv 1)) de_int) do_no (do_some (de_var (pv 2)))) (de_tup (da_cons (de_cal C__law_bent hr gd tk (da_cons (de_var (pv 0)) (da_cons (de_ix hu1 (de_ix hu1 (de_var (pv 1)) de_int) (de_var (pv 2))) da_nil))) da_nil))) (de_slA (de_ix hu1 (de_var (pv 1)) de_int) (do_some (de_add (de_var (pv 2)) de_int)) do_no)) da_nil))))))))
/-! ### _law_due -/
abbrev s__law_due : Stmt := topS 36
theorem sc__law_due : FnScope ["pattern", "term", "found", "waiting", "one", "other"] ["pattern", "term"] (defScope s__law_due) := ⟨rfl, rfl, rfl, by decide +kernel, rfl, by decide +kernel, by decide +kernel⟩
noncomputable def B__law_due : MS :=
  (sSeq (sPar 2 3 (fun _ S => gNewD0 S) (mAll (aCons (mAll (aCons (mVar 0) (aCons (mVar 1) aNil)) gTup) aNil) gNewL))
  (sSeq (sWhile (tOfB (mB2 (mVar 3) (mAll aNil gLst) gNeS))
    (sSeq (sAsg (mB1 (mVar 3) gPop) (gTupA 2 (gsCons (gNm 4) (gsCons (gNm 5) gsNil))))
    (sIf (tOfB (mAll (aCons (mVar 4) (aCons (mC (.ty "str")) aNil)) (g2 gIsi)))
      (sSeq (sIf (tOfB (mB2 (mGet2 (mVar 2) (mVar 4) (mVar 5)) (mVar 5) gNe))
        (sRet (mC .non))
        sNil)
      (sAsg (mVar 5) (gSubT (mVar 2) (mVar 4))))
      (sIf (tOrM (tOfB (mB2 (mB2 (mVar 4) (mC (.int 0)) gIx) (mB2 (mVar 5) (mC (.int 0)) gIx) gNe)) (tOfB (mB2 (mAll (aCons (mB2 (mVar 4) (mC (.int 1)) gIx) aNil) (g1 gLen)) (mAll (aCons (mB2 (mVar 5) (mC (.int 1)) gIx) aNil) (g1 gLen)) gNe)))
        (sRet (mC .non))
        (sAsg (mB2 (mVar 3) (mAll (aCons (mB2 (mVar 4) (mC (.int 1)) gIx) (aCons (mB2 (mVar 5) (mC (.int 1)) gIx) aNil)) gListZ) gAddN) (gNm 3))))))
  (sRet (mVar 2))))
theorem ok__law_due {f : Addr} {fd : FuncData} {k : Nat} (F : Fun K "_law_due" "_law_due" s__law_due f fd) (T : Txt mg)  : FnG P w K mg base (k + 1) f fd ["pattern", "term"] (spF K G 2 (runB 6 (B__law_due))) := by
  refine fn_semG F sc__law_due fun cdv A outer s H E hr gd => ?_
  have sc := sc__law_due
  let NN : List Str := ["pattern", "term", "found", "waiting", "one", "other"]
  let SC : Scope := defScope s__law_due
  have tk := takes_of (X := cxOf (L2.CX P w) P w K mg base ["pattern", "term", "found", "waiting", "one", "other"] "_law_due" (defScope s__law_due) f cdv A outer s H E) rfl rfl rfl rfl
  have hu65 : (A.deeper (envOfC "_law_due" (defScope s__law_due) s.heap.objs.size f cdv)).units + 65 < cLine := Nat.lt_of_le_of_lt (by omega) hr.un
  have hu64 : (A.deeper (envOfC "_law_due" (defScope s__law_due) s.heap.objs.size f cdv)).units + 64 < cLine := by omega
  have hu1 : (A.deeper (envOfC "_law_due" (defScope s__law_due) s.heap.objs.size f cdv)).units + 1 < cLine := by omega
  exact (ds_cons (ds_par (i := 2) (j := 3) rfl sc.nd rfl rfl (by decide) rfl rfl de_newD0 (de_newL (da_cons (de_tup (da_cons (de_var (pv 0)) (da_cons (de_var (pv 1)) da_nil))) da_nil)) rfl)
  (ds_cons (ds_while (passes_of rfl) (dt_neS hu64 (de_var (pv 3)) (de_lst da_nil))
    (ds_cons (ds_asg (de_pop (de_var (pv 3))) (dg_tupA rfl (dgs_cons (dg_name (i := 4) sc.nd) (dgs_cons (dg_name (i := 5) sc.nd) dgs_nil))))
    (ds_one (ds_if (dt_val (de_bi call_isi ok_isi T.m_isinstance boot_isinstance (da_cons (de_var (pv 4)) (da_cons (de_ty T.m_str boot_str) da_nil))))
      (ds_cons (ds_if (dt_ne hu64 (de_get2 hu1 (de_var (pv 2)) (de_var (pv 4)) (de_var (pv 5))) (de_var (pv 5)))
        (ds_one (ds_ret de_non))
        ds_nil)
      (ds_one (ds_asg (de_var (pv 5)) (dg_sub (W := WN) hu1 (de_var (pv 2)) (de_var (pv 4))))))
      (ds_one (ds_if ((dw_or (dt_ne hu64 (de_ix hu1 (de_var (pv 4)) de_int) (de_ix hu1 (de_var (pv 5)) de_int)) (dw_or1 (dt_ne hu64 (de_bi call_len ok_len T.m_len boot_len (da_cons (de_ix hu1 (de_var (pv 4)) de_int) da_nil)) (de_bi call_len ok_len T.m_len boot_len (da_cons (de_ix hu1 (de_var (pv 5)) de_int) da_nil)))))).pt
        (ds_one (ds_ret de_non))
        (ds_one (ds_asg (de_addN (de_var (pv 3)) (de_listZ rfl T.m_list T.m_zip (da_cons (de_ix hu1 (de_var (pv 4)) de_int) (da_cons (de_ix hu1 (de_var (pv 5)) de_int) da_nil)))) (dg_name (i := 3) sc.nd)))))))))
  (ds_one (ds_ret (de_var (pv 2))))))
/-! ### law -/
abbrev s_law : Stmt := topS 37
theorem sc_law : FnScope ["script", "k", "amount", "draw", "turn", "pattern", "values", "term", "way", "found"] ["script"] (defScope s_law) := ⟨rfl, rfl, rfl, by decide +kernel, rfl, by decide +kernel, by decide +kernel⟩
noncomputable def B_law (c__law_draw c__law_drawn_form c__law_put c__law_digit c__law_bent c_is_term c_match c__law_due : List D → Store → Out D) : MS :=
  (sSeq (sFor (iEnm (mB2 (mSlA (mVar 0) oNo (oOf (mC (.int 6)))) (mAll (aCons (mAll (aCons (mVar 0) aNil) (g1 gSum)) aNil) gLst) gAdd)) (gTupA 2 (gsCons (gNm 1) (gsCons (gNm 2) gsNil)))
    (sSeq (sAsg (mAll (aCons (mVar 2) (aCons (mVar 1) aNil)) (callN 2 c__law_draw)) (gNm 3))
    (sFor (iR1 (mC (.int 8))) (gNm 4)
      (sSeq (sAsg (mAll (aCons (mVar 3) (aCons (mC (.int 3)) (aCons (mC (.int 6)) (aCons (mC (.str ("TXT" : Str))) aNil)))) (callN 4 c__law_drawn_form)) (gNm 5))
      (sSeq (sAsg (mNewD (pCons (.inr ("T" : Str)) (mAll (aCons (mVar 3) (aCons (mC (.int 2)) (aCons (mC (.int 3)) (aCons (mC (.str ("" : Str))) aNil)))) (callN 4 c__law_drawn_form)) (pCons (.inr ("X" : Str)) (mAll (aCons (mVar 3) (aCons (mC (.int 2)) (aCons (mC (.int 3)) (aCons (mC (.str ("" : Str))) aNil)))) (callN 4 c__law_drawn_form)) pNil))) (gNm 6))
      (sSeq (sAsg (mAll (aCons (mVar 5) (aCons (mVar 6) aNil)) (callN 2 c__law_put)) (gNm 7))
      (sSeq (sAsg (mAll (aCons (mVar 3) (aCons (mC (.int 4)) aNil)) (callN 2 c__law_digit)) (gNm 8))
      (sSeq (sIf (tOfB (mB2 (mVar 8) (mC (.int 0)) gEq))
        (sAsg (mAll (aCons (mVar 3) (aCons (mVar 7) aNil)) (callN 2 c__law_bent)) (gNm 7))
        (sIf (tOfB (mB2 (mVar 8) (mC (.int 1)) gEq))
          (sAsg (mAll (aCons (mVar 3) (aCons (mC (.int 3)) (aCons (mC (.int 6)) (aCons (mC (.str ("" : Str))) aNil)))) (callN 4 c__law_drawn_form)) (gNm 7))
          sNil))
      (sIf (tOfB (mAll (aCons (mVar 7) aNil) (callN 1 c_is_term)))
        (sSeq (sAsg (mAll (aCons (mVar 5) (aCons (mVar 7) aNil)) (callN 2 c_match)) (gNm 9))
        (sIf (tOrM (tOfB (mB2 (mVar 9) (mAll (aCons (mVar 5) (aCons (mVar 7) aNil)) (callN 2 c__law_due)) gNeT)) (tAndM (tOfB (mB2 (mVar 9) (mC .non) gNotN)) (tOfB (mB2 (mAll (aCons (mVar 5) (aCons (mVar 9) aNil)) (callN 2 c__law_put)) (mVar 7) gNeT))))
          (sRet (mC (.bl false)))
          sNil))
        sNil)))))))))
  (sRet (mC (.bl true))))
theorem ok_law {f : Addr} {fd : FuncData} {k : Nat} {c__law_draw c__law_drawn_form c__law_put c__law_digit c__law_bent c_is_term c_match c__law_due : List D → Store → Out D} (F : Fun K "law" "law" s_law f fd) (T : Txt mg) (C__law_draw : Cal P w K mg base G k "_law_draw" 2 c__law_draw) (C__law_drawn_form : Cal P w K mg base G k "_law_drawn_form" 4 c__law_drawn_form) (C__law_put : Cal P w K mg base G k "_law_put" 2 c__law_put) (C__law_digit : Cal P w K mg base G k "_law_digit" 2 c__law_digit) (C__law_bent : Cal P w K mg base G k "_law_bent" 2 c__law_bent) (C_is_term : Cal P w K mg base G k "is_term" 1 c_is_term) (C_match : Cal P w K mg base G k "match" 2 c_match) (C__law_due : Cal P w K mg base G k "_law_due" 2 c__law_due) : FnG P w K mg base (k + 1) f fd ["script"] (spF K G 1 (runB 10 (B_law c__law_draw c__law_drawn_form c__law_put c__law_digit c__law_bent c_is_term c_match c__law_due))) := by
  refine fn_semG F sc_law fun cdv A outer s H E hr gd => ?_
  have sc := sc_law
  let NN : List Str := ["script", "k", "amount", "draw", "turn", "pattern", "values", "term", "way", "found"]
  let SC : Scope := defScope s_law
  have tk := takes_of (X := cxOf (L2.CX P w) P w K mg base ["script", "k", "amount", "draw", "turn", "pattern", "values", "term", "way", "found"] "law" (defScope s_law) f cdv A outer s H E) rfl rfl rfl rfl
  have hu65 : (A.deeper (envOfC "law" (defScope s_law) s.heap.objs.size f cdv)).units + 65 < cLine := Nat.lt_of_le_of_lt (by omega) hr.un
  have hu64 : (A.deeper (envOfC "law" (defScope s_law) s.heap.objs.size f cdv)).units + 64 < cLine := by omega
  have hu1 : (A.deeper (envOfC "law" (defScope s_law) s.heap.objs.size f cdv)).units + 1 < cLine := by omega
  exact (ds_cons (ds_for (passes_of rfl) rfl (di_enum T.m_enumerate (de_add (de_slA (de_var (pv 0)) do_no (do_some de_int)) (de_lst (da_cons (de_bi (cr_sum rfl) ok_sum T.m_sum boot_sum (da_cons (de_var (pv 0)) da_nil)) da_nil)))) (dg_tupA rfl (dgs_cons (dg_name (i := 1) sc.nd) (dgs_cons (dg_name (i := 2) sc.nd) dgs_nil)))
    (ds_cons (ds_asg (de_cal C__law_draw hr gd tk (da_cons (de_var (pv 2)) (da_cons (de_var (pv 1)) da_nil))) (dg_name (i := 3) sc.nd))
    (ds_one (ds_for (passes_of rfl) rfl (di_r1 T.m_range de_int) (dg_name (i := 4) sc.nd)
      (ds_cons (ds_asg (de_cal C__law_drawn_form hr gd tk (da_cons (de_var (pv 3)) (da_cons de_int (da_cons de_int (da_cons de_str da_nil))))) (dg_name (i := 5) sc.nd))
      (ds_cons (ds_asg (de_newD (dps_cons (k := .inr ("T" : Str)) pe_str (de_cal C__law_drawn_form hr gd tk (da_cons (de_var (pv 3)) (da_cons de_int (da_cons de_int (da_cons de_str da_nil))))) (dps_cons (k := .inr ("X" : Str)) pe_str (de_cal C__law_drawn_form hr gd tk (da_cons (de_var (pv 3)) (da_cons de_int (da_cons de_int (da_cons de_str da_nil))))) dps_nil))) (dg_name (i := 6) sc.nd))
      (ds_cons (ds_asg (de_cal C__law_put hr gd tk (da_cons (de_var (pv 5)) (da_cons (de_var (pv 6)) da_nil))) (dg_name (i := 7) sc.nd))
      (ds_cons (ds_asg (de_cal C__law_digit hr gd tk (da_cons (de_var (pv 3)) (da_cons de_int da_nil))) (dg_name (i := 8) sc.nd))
      (ds_cons (ds_if (dt_eq hu64 (de_var (pv 8)) de_int)
        (ds_one (ds_asg (de_cal C__law_bent hr gd tk (da_cons (de_var (pv 3)) (da_cons (de_var (pv 7)) da_nil))) (dg_name (i := 7) sc.nd)))
        (ds_one (ds_if (dt_eq hu64 (de_var (pv 8)) de_int)
          (ds_one (ds_asg (de_cal C__law_drawn_form hr gd tk (da_cons (de_var (pv 3)) (da_cons de_int (da_cons de_int (da_cons de_str da_nil))))) (dg_name (i := 7) sc.nd)))
          ds_nil)))
      (ds_one (ds_if (dt_val (de_cal C_is_term hr gd tk (da_cons (de_var (pv 7)) da_nil)))
        (ds_cons (ds_asg (de_cal C_match hr gd tk (da_cons (de_var (pv 5)) (da_cons (de_var (pv 7)) da_nil))) (dg_name (i := 9) sc.nd))
        (ds_one (ds_if ((dw_or (dt_neT hu65 (de_var (pv 9)) (de_cal C__law_due hr gd tk (da_cons (de_var (pv 5)) (da_cons (de_var (pv 7)) da_nil)))) (dw_or1 ((dw_and (dt_notN (de_var (pv 9)) de_non) (dw_and1 (dt_neT hu65 (de_cal C__law_put hr gd tk (da_cons (de_var (pv 5)) (da_cons (de_var (pv 9)) da_nil))) (de_var (pv 7)))))).pt))).pt
          (ds_one (ds_ret de_bl))
          ds_nil)))
        ds_nil)))))))))))
  (ds_one (ds_ret de_bl)))
end
noncomputable def F_is_word : List D → Store → Out D := runB 2 (B_is_word )
noncomputable def F_is_clash : List D → Store → Out D := runB 2 (B_is_clash )
noncomputable def F__law_mixed : List D → Store → Out D := runB 3 (B__law_mixed )
noncomputable def F__law_draw : List D → Store → Out D := runB 2 (B__law_draw )
noncomputable def F__law_size_of : Nat → List D → Store → Out D
  | 0 => fun _ _ => .no
  | k + 1 => runB 2 (B__law_size_of (F__law_size_of k))
noncomputable def F__law_put : Nat → List D → Store → Out D
  | 0 => fun _ _ => .no
  | k + 1 => runB 3 (B__law_put (F__law_put k))
noncomputable def F__law_due : List D → Store → Out D := runB 6 (B__law_due )
noncomputable def F_is_word_with_parts : List D → Store → Out D := runB 3 (B_is_word_with_parts (F_is_word))
noncomputable def F_fits : Nat → List D → Store → Out D
  | 0 => fun _ _ => .no
  | k + 1 => runB 5 (B_fits (F_is_clash) (F_fits k))
noncomputable def F__law_digit : List D → Store → Out D := runB 4 (B__law_digit (F__law_mixed))
noncomputable def F_shape_size : Nat → List D → Store → Out D
  | 0 => fun _ _ => .no
  | k + 1 => runB 6 (B_shape_size (F_is_word_with_parts) (F_shape_size k))
noncomputable def F__law_drawn_word : List D → Store → Out D := runB 1 (B__law_drawn_word (F__law_digit))
noncomputable def F__law_bent : Nat → List D → Store → Out D
  | 0 => fun _ _ => .no
  | k + 1 => runB 3 (B__law_bent (F__law_digit) (F__law_bent k))
noncomputable def F_is_shape : List D → Store → Out D := runB 3 (B_is_shape (F_shape_size 6))
noncomputable def F__law_drawn_form : Nat → List D → Store → Out D
  | 0 => fun _ _ => .no
  | k + 1 => runB 7 (B__law_drawn_form (F__law_digit) (F__law_drawn_form k) (F__law_size_of 6) (F__law_drawn_word))
noncomputable def F_is_term : List D → Store → Out D := runB 1 (B_is_term (F_is_shape))
noncomputable def F_is_pattern : List D → Store → Out D := runB 1 (B_is_pattern (F_is_shape))
noncomputable def F_need_term : List D → Store → Out D := runB 1 (B_need_term (F_is_term))
noncomputable def F_need_pattern : List D → Store → Out D := runB 1 (B_need_pattern (F_is_pattern))
noncomputable def F_match : List D → Store → Out D := runB 3 (B_match (F_need_pattern) (F_need_term) (F_fits 6))
noncomputable def F_law : List D → Store → Out D := runB 10 (B_law (F__law_draw) (F__law_drawn_form 6) (F__law_put 6) (F__law_digit) (F__law_bent 6) (F_is_term) (F_match) (F__law_due))
section
variable {P : Program} {w : World} {K : PySem.W.Frag} {mg : Str → Option Value} {base : Heap} {G : String → Addr}
/-- a def as the top has left it -/
structure DefAt (K : PySem.W.Frag) (mg : Str → Option Value) (x : Str) (st : Stmt) (ps : List Str) : Prop where
  ex : ∃ (f : Addr) (fd : FuncData), Fun K x x st f fd ∧ mg x = some (.ref f) ∧ Binds K fd ps []
theorem cal_is_word (T : Txt mg) (A : DefAt K mg "is_word" s_is_word ["value"])  : Cal P w K mg base G 1 "is_word" 1 F_is_word := by
  obtain ⟨f, fd, F, g, b⟩ := A.ex
  exact ⟨f, fd, _, (ok_is_word (k := 0) F T ), g, F.kp, b⟩
theorem cal_is_clash (T : Txt mg) (A : DefAt K mg "is_clash" s_is_clash ["one", "other"])  : Cal P w K mg base G 1 "is_clash" 2 F_is_clash := by
  obtain ⟨f, fd, F, g, b⟩ := A.ex
  exact ⟨f, fd, _, (ok_is_clash (k := 0) F T ), g, F.kp, b⟩
theorem cal__law_mixed (T : Txt mg) (A : DefAt K mg "_law_mixed" s__law_mixed ["cell", "k"])  : Cal P w K mg base G 1 "_law_mixed" 2 F__law_mixed := by
  obtain ⟨f, fd, F, g, b⟩ := A.ex
  exact ⟨f, fd, _, (ok__law_mixed (k := 0) F T ), g, F.kp, b⟩
theorem cal__law_draw (T : Txt mg) (A : DefAt K mg "_law_draw" s__law_draw ["cell", "k"])  : Cal P w K mg base G 1 "_law_draw" 2 F__law_draw := by
  obtain ⟨f, fd, F, g, b⟩ := A.ex
  exact ⟨f, fd, _, (ok__law_draw (k := 0) F T ), g, F.kp, b⟩
theorem cal__law_size_of (T : Txt mg) (A : DefAt K mg "_law_size_of" s__law_size_of ["form"])  : ∀ k, Cal P w K mg base G (1 + k) "_law_size_of" 1 (F__law_size_of k)
  | 0 => by
    obtain ⟨f, fd, F, g, b⟩ := A.ex
    exact ⟨f, fd, _, FnG.never (ps := ["form"]) rfl, g, F.kp, b⟩
  | k + 1 => by
    obtain ⟨f, fd, F, g, b⟩ := A.ex
    exact ⟨f, fd, _, (ok__law_size_of (k := 1 + k) F T ((cal__law_size_of T A  k).mono (by omega))), g, F.kp, b⟩
theorem cal__law_put (T : Txt mg) (A : DefAt K mg "_law_put" s__law_put ["form", "values"])  : ∀ k, Cal P w K mg base G (1 + k) "_law_put" 2 (F__law_put k)
  | 0 => by
    obtain ⟨f, fd, F, g, b⟩ := A.ex
    exact ⟨f, fd, _, FnG.never (ps := ["form", "values"]) rfl, g, F.kp, b⟩
  | k + 1 => by
    obtain ⟨f, fd, F, g, b⟩ := A.ex
    exact ⟨f, fd, _, (ok__law_put (k := 1 + k) F T ((cal__law_put T A  k).mono (by omega))), g, F.kp, b⟩
theorem cal__law_due (T : Txt mg) (A : DefAt K mg "_law_due" s__law_due ["pattern", "term"])  : Cal P w K mg base G 1 "_law_due" 2 F__law_due := by
  obtain ⟨f, fd, F, g, b⟩ := A.ex
  exact ⟨f, fd, _, (ok__law_due (k := 0) F T ), g, F.kp, b⟩
theorem cal_is_word_with_parts (T : Txt mg) (A : DefAt K mg "is_word_with_parts" s_is_word_with_parts ["value"]) (C_is_word : Cal P w K mg base G 1 "is_word" 1 (F_is_word)) : Cal P w K mg base G 2 "is_word_with_parts" 1 F_is_word_with_parts := by
  obtain ⟨f, fd, F, g, b⟩ := A.ex
  exact ⟨f, fd, _, (ok_is_word_with_parts (k := 1) F T (C_is_word.mono (by decide))), g, F.kp, b⟩
theorem cal_fits (T : Txt mg) (A : DefAt K mg "fits" s_fits ["pattern", "shape", "found"]) (C_is_clash : Cal P w K mg base G 1 "is_clash" 2 (F_is_clash)) : ∀ k, Cal P w K mg base G (2 + k) "fits" 3 (F_fits k)
  | 0 => by
    obtain ⟨f, fd, F, g, b⟩ := A.ex
    exact ⟨f, fd, _, FnG.never (ps := ["pattern", "shape", "found"]) rfl, g, F.kp, b⟩
  | k + 1 => by
    obtain ⟨f, fd, F, g, b⟩ := A.ex
    exact ⟨f, fd, _, (ok_fits (k := 2 + k) F T (C_is_clash.mono (by omega)) ((cal_fits T A C_is_clash k).mono (by omega))), g, F.kp, b⟩
theorem cal__law_digit (T : Txt mg) (A : DefAt K mg "_law_digit" s__law_digit ["draw", "span"]) (C__law_mixed : Cal P w K mg base G 1 "_law_mixed" 2 (F__law_mixed)) : Cal P w K mg base G 2 "_law_digit" 2 F__law_digit := by
  obtain ⟨f, fd, F, g, b⟩ := A.ex
  exact ⟨f, fd, _, (ok__law_digit (k := 1) F T (C__law_mixed.mono (by decide))), g, F.kp, b⟩
theorem cal_shape_size (T : Txt mg) (A : DefAt K mg "shape_size" s_shape_size ["value", "letters", "levels"]) (C_is_word_with_parts : Cal P w K mg base G 2 "is_word_with_parts" 1 (F_is_word_with_parts)) : ∀ k, Cal P w K mg base G (3 + k) "shape_size" 3 (F_shape_size k)
  | 0 => by
    obtain ⟨f, fd, F, g, b⟩ := A.ex
    exact ⟨f, fd, _, FnG.never (ps := ["value", "letters", "levels"]) rfl, g, F.kp, b⟩
  | k + 1 => by
    obtain ⟨f, fd, F, g, b⟩ := A.ex
    exact ⟨f, fd, _, (ok_shape_size (k := 3 + k) F T (C_is_word_with_parts.mono (by omega)) ((cal_shape_size T A C_is_word_with_parts k).mono (by omega))), g, F.kp, b⟩
theorem cal__law_drawn_word (T : Txt mg) (A : DefAt K mg "_law_drawn_word" s__law_drawn_word ["draw"]) (C__law_digit : Cal P w K mg base G 2 "_law_digit" 2 (F__law_digit)) : Cal P w K mg base G 3 "_law_drawn_word" 1 F__law_drawn_word := by
  obtain ⟨f, fd, F, g, b⟩ := A.ex
  exact ⟨f, fd, _, (ok__law_drawn_word (k := 2) F T (C__law_digit.mono (by decide))), g, F.kp, b⟩
theorem cal__law_bent (T : Txt mg) (A : DefAt K mg "_law_bent" s__law_bent ["draw", "form"]) (C__law_digit : Cal P w K mg base G 2 "_law_digit" 2 (F__law_digit)) : ∀ k, Cal P w K mg base G (3 + k) "_law_bent" 2 (F__law_bent k)
  | 0 => by
    obtain ⟨f, fd, F, g, b⟩ := A.ex
    exact ⟨f, fd, _, FnG.never (ps := ["draw", "form"]) rfl, g, F.kp, b⟩
  | k + 1 => by
    obtain ⟨f, fd, F, g, b⟩ := A.ex
    exact ⟨f, fd, _, (ok__law_bent (k := 3 + k) F T (C__law_digit.mono (by omega)) ((cal__law_bent T A C__law_digit k).mono (by omega))), g, F.kp, b⟩
theorem cal_is_shape (T : Txt mg) (A : DefAt K mg "is_shape" s_is_shape ["value", "letters"]) (C_shape_size : Cal P w K mg base G 9 "shape_size" 3 (F_shape_size 6)) : Cal P w K mg base G 10 "is_shape" 2 F_is_shape := by
  obtain ⟨f, fd, F, g, b⟩ := A.ex
  exact ⟨f, fd, _, (ok_is_shape (k := 9) F T (C_shape_size.mono (by decide))), g, F.kp, b⟩
theorem cal__law_drawn_form (T : Txt mg) (A : DefAt K mg "_law_drawn_form" s__law_drawn_form ["draw", "depth", "size", "signs"]) (C__law_digit : Cal P w K mg base G 2 "_law_digit" 2 (F__law_digit)) (C__law_size_of : Cal P w K mg base G 7 "_law_size_of" 1 (F__law_size_of 6)) (C__law_drawn_word : Cal P w K mg base G 3 "_law_drawn_word" 1 (F__law_drawn_word)) : ∀ k, Cal P w K mg base G (8 + k) "_law_drawn_form" 4 (F__law_drawn_form k)
  | 0 => by
    obtain ⟨f, fd, F, g, b⟩ := A.ex
    exact ⟨f, fd, _, FnG.never (ps := ["draw", "depth", "size", "signs"]) rfl, g, F.kp, b⟩
  | k + 1 => by
    obtain ⟨f, fd, F, g, b⟩ := A.ex
    exact ⟨f, fd, _, (ok__law_drawn_form (k := 8 + k) F T (C__law_digit.mono (by omega)) ((cal__law_drawn_form T A C__law_digit C__law_size_of C__law_drawn_word k).mono (by omega)) (C__law_size_of.mono (by omega)) (C__law_drawn_word.mono (by omega))), g, F.kp, b⟩
theorem cal_is_term (T : Txt mg) (A : DefAt K mg "is_term" s_is_term ["value"]) (C_is_shape : Cal P w K mg base G 10 "is_shape" 2 (F_is_shape)) : Cal P w K mg base G 11 "is_term" 1 F_is_term := by
  obtain ⟨f, fd, F, g, b⟩ := A.ex
  exact ⟨f, fd, _, (ok_is_term (k := 10) F T (C_is_shape.mono (by decide))), g, F.kp, b⟩
theorem cal_is_pattern (T : Txt mg) (A : DefAt K mg "is_pattern" s_is_pattern ["value"]) (C_is_shape : Cal P w K mg base G 10 "is_shape" 2 (F_is_shape)) : Cal P w K mg base G 11 "is_pattern" 1 F_is_pattern := by
  obtain ⟨f, fd, F, g, b⟩ := A.ex
  exact ⟨f, fd, _, (ok_is_pattern (k := 10) F T (C_is_shape.mono (by decide))), g, F.kp, b⟩
theorem cal_need_term (T : Txt mg) (A : DefAt K mg "need_term" s_need_term ["term"]) (C_is_term : Cal P w K mg base G 11 "is_term" 1 (F_is_term)) : Cal P w K mg base G 12 "need_term" 1 F_need_term := by
  obtain ⟨f, fd, F, g, b⟩ := A.ex
  exact ⟨f, fd, _, (ok_need_term (k := 11) F T (C_is_term.mono (by decide))), g, F.kp, b⟩
theorem cal_need_pattern (T : Txt mg) (A : DefAt K mg "need_pattern" s_need_pattern ["pattern"]) (C_is_pattern : Cal P w K mg base G 11 "is_pattern" 1 (F_is_pattern)) : Cal P w K mg base G 12 "need_pattern" 1 F_need_pattern := by
  obtain ⟨f, fd, F, g, b⟩ := A.ex
  exact ⟨f, fd, _, (ok_need_pattern (k := 11) F T (C_is_pattern.mono (by decide))), g, F.kp, b⟩
theorem cal_match (T : Txt mg) (A : DefAt K mg "match" s_match ["pattern", "term"]) (C_need_pattern : Cal P w K mg base G 12 "need_pattern" 1 (F_need_pattern)) (C_need_term : Cal P w K mg base G 12 "need_term" 1 (F_need_term)) (C_fits : Cal P w K mg base G 8 "fits" 3 (F_fits 6)) : Cal P w K mg base G 13 "match" 2 F_match := by
  obtain ⟨f, fd, F, g, b⟩ := A.ex
  exact ⟨f, fd, _, (ok_match (k := 12) F T (C_need_pattern.mono (by decide)) (C_need_term.mono (by decide)) (C_fits.mono (by decide))), g, F.kp, b⟩
theorem cal_law (T : Txt mg) (A : DefAt K mg "law" s_law ["script"]) (C__law_draw : Cal P w K mg base G 1 "_law_draw" 2 (F__law_draw)) (C__law_drawn_form : Cal P w K mg base G 14 "_law_drawn_form" 4 (F__law_drawn_form 6)) (C__law_put : Cal P w K mg base G 7 "_law_put" 2 (F__law_put 6)) (C__law_digit : Cal P w K mg base G 2 "_law_digit" 2 (F__law_digit)) (C__law_bent : Cal P w K mg base G 9 "_law_bent" 2 (F__law_bent 6)) (C_is_term : Cal P w K mg base G 11 "is_term" 1 (F_is_term)) (C_match : Cal P w K mg base G 13 "match" 2 (F_match)) (C__law_due : Cal P w K mg base G 1 "_law_due" 2 (F__law_due)) : Cal P w K mg base G 15 "law" 1 F_law := by
  obtain ⟨f, fd, F, g, b⟩ := A.ex
  exact ⟨f, fd, _, (ok_law (k := 14) F T (C__law_draw.mono (by decide)) (C__law_drawn_form.mono (by decide)) (C__law_put.mono (by decide)) (C__law_digit.mono (by decide)) (C__law_bent.mono (by decide)) (C_is_term.mono (by decide)) (C_match.mono (by decide)) (C__law_due.mono (by decide))), g, F.kp, b⟩
end
theorem all_mk {P : Program} {w : World} {K : PySem.W.Frag} {h : Heap} {mg : Str → Option Value} {G : String → Addr} {fa : Addr} (X : K.In h) (Gm : h.Ns mainGlobals mg) (hfa : mg "law" = some (.ref fa))
    {f0 : Addr} {od0 an0 : Option Addr} {sl0 : Array (Option Value)} {oc0 kV0 dc0 pm0 cd0 ct0 : Value}
    (a0 : PySem.W.nsIn K mainGlobals "is_word" = some (some (.ref f0))) (l0 : K.lookup f0 = some ⟨oc0, od0, .func (PySem.W.fnOf "is_word" "is_word" (defArgs s_is_word) (defBody s_is_word) (defScope s_is_word) .none kV0 dc0 pm0 an0 cd0 ct0), sl0⟩) (c0 : PySem.W.codeIn K cd0 "is_word" = true) (k0 : PySem.W.keepIn K (.ref f0) = true)
    {f1 : Addr} {od1 an1 : Option Addr} {sl1 : Array (Option Value)} {oc1 kV1 dc1 pm1 cd1 ct1 : Value}
    (a1 : PySem.W.nsIn K mainGlobals "is_clash" = some (some (.ref f1))) (l1 : K.lookup f1 = some ⟨oc1, od1, .func (PySem.W.fnOf "is_clash" "is_clash" (defArgs s_is_clash) (defBody s_is_clash) (defScope s_is_clash) .none kV1 dc1 pm1 an1 cd1 ct1), sl1⟩) (c1 : PySem.W.codeIn K cd1 "is_clash" = true) (k1 : PySem.W.keepIn K (.ref f1) = true)
    {f2 : Addr} {od2 an2 : Option Addr} {sl2 : Array (Option Value)} {oc2 kV2 dc2 pm2 cd2 ct2 : Value}
    (a2 : PySem.W.nsIn K mainGlobals "_law_mixed" = some (some (.ref f2))) (l2 : K.lookup f2 = some ⟨oc2, od2, .func (PySem.W.fnOf "_law_mixed" "_law_mixed" (defArgs s__law_mixed) (defBody s__law_mixed) (defScope s__law_mixed) .none kV2 dc2 pm2 an2 cd2 ct2), sl2⟩) (c2 : PySem.W.codeIn K cd2 "_law_mixed" = true) (k2 : PySem.W.keepIn K (.ref f2) = true)
    {f3 : Addr} {od3 an3 : Option Addr} {sl3 : Array (Option Value)} {oc3 kV3 dc3 pm3 cd3 ct3 : Value}
    (a3 : PySem.W.nsIn K mainGlobals "_law_draw" = some (some (.ref f3))) (l3 : K.lookup f3 = some ⟨oc3, od3, .func (PySem.W.fnOf "_law_draw" "_law_draw" (defArgs s__law_draw) (defBody s__law_draw) (defScope s__law_draw) .none kV3 dc3 pm3 an3 cd3 ct3), sl3⟩) (c3 : PySem.W.codeIn K cd3 "_law_draw" = true) (k3 : PySem.W.keepIn K (.ref f3) = true)
    {f4 : Addr} {od4 an4 : Option Addr} {sl4 : Array (Option Value)} {oc4 kV4 dc4 pm4 cd4 ct4 : Value}
    (a4 : PySem.W.nsIn K mainGlobals "_law_size_of" = some (some (.ref f4))) (l4 : K.lookup f4 = some ⟨oc4, od4, .func (PySem.W.fnOf "_law_size_of" "_law_size_of" (defArgs s__law_size_of) (defBody s__law_size_of) (defScope s__law_size_of) .none kV4 dc4 pm4 an4 cd4 ct4), sl4⟩) (c4 : PySem.W.codeIn K cd4 "_law_size_of" = true) (k4 : PySem.W.keepIn K (.ref f4) = true)
    {f5 : Addr} {od5 an5 : Option Addr} {sl5 : Array (Option Value)} {oc5 kV5 dc5 pm5 cd5 ct5 : Value}
    (a5 : PySem.W.nsIn K mainGlobals "_law_put" = some (some (.ref f5))) (l5 : K.lookup f5 = some ⟨oc5, od5, .func (PySem.W.fnOf "_law_put" "_law_put" (defArgs s__law_put) (defBody s__law_put) (defScope s__law_put) .none kV5 dc5 pm5 an5 cd5 ct5), sl5⟩) (c5 : PySem.W.codeIn K cd5 "_law_put" = true) (k5 : PySem.W.keepIn K (.ref f5) = true)
    {f6 : Addr} {od6 an6 : Option Addr} {sl6 : Array (Option Value)} {oc6 kV6 dc6 pm6 cd6 ct6 : Value}
    (a6 : PySem.W.nsIn K mainGlobals "_law_due" = some (some (.ref f6))) (l6 : K.lookup f6 = some ⟨oc6, od6, .func (PySem.W.fnOf "_law_due" "_law_due" (defArgs s__law_due) (defBody s__law_due) (defScope s__law_due) .none kV6 dc6 pm6 an6 cd6 ct6), sl6⟩) (c6 : PySem.W.codeIn K cd6 "_law_due" = true) (k6 : PySem.W.keepIn K (.ref f6) = true)
    {f7 : Addr} {od7 an7 : Option Addr} {sl7 : Array (Option Value)} {oc7 kV7 dc7 pm7 cd7 ct7 : Value}
    (a7 : PySem.W.nsIn K mainGlobals "is_word_with_parts" = some (some (.ref f7))) (l7 : K.lookup f7 = some ⟨oc7, od7, .func (PySem.W.fnOf "is_word_with_parts" "is_word_with_parts" (defArgs s_is_word_with_parts) (defBody s_is_word_with_parts) (defScope s_is_word_with_parts) .none kV7 dc7 pm7 an7 cd7 ct7), sl7⟩) (c7 : PySem.W.codeIn K cd7 "is_word_with_parts" = true) (k7 : PySem.W.keepIn K (.ref f7) = true)
    {f8 : Addr} {od8 an8 : Option Addr} {sl8 : Array (Option Value)} {oc8 kV8 dc8 pm8 cd8 ct8 : Value}
    (a8 : PySem.W.nsIn K mainGlobals "fits" = some (some (.ref f8))) (l8 : K.lookup f8 = some ⟨oc8, od8, .func (PySem.W.fnOf "fits" "fits" (defArgs s_fits) (defBody s_fits) (defScope s_fits) .none kV8 dc8 pm8 an8 cd8 ct8), sl8⟩) (c8 : PySem.W.codeIn K cd8 "fits" = true) (k8 : PySem.W.keepIn K (.ref f8) = true)
    {f9 : Addr} {od9 an9 : Option Addr} {sl9 : Array (Option Value)} {oc9 kV9 dc9 pm9 cd9 ct9 : Value}
    (a9 : PySem.W.nsIn K mainGlobals "_law_digit" = some (some (.ref f9))) (l9 : K.lookup f9 = some ⟨oc9, od9, .func (PySem.W.fnOf "_law_digit" "_law_digit" (defArgs s__law_digit) (defBody s__law_digit) (defScope s__law_digit) .none kV9 dc9 pm9 an9 cd9 ct9), sl9⟩) (c9 : PySem.W.codeIn K cd9 "_law_digit" = true) (k9 : PySem.W.keepIn K (.ref f9) = true)
    {f10 : Addr} {od10 an10 : Option Addr} {sl10 : Array (Option Value)} {oc10 kV10 dc10 pm10 cd10 ct10 : Value}
    (a10 : PySem.W.nsIn K mainGlobals "shape_size" = some (some (.ref f10))) (l10 : K.lookup f10 = some ⟨oc10, od10, .func (PySem.W.fnOf "shape_size" "shape_size" (defArgs s_shape_size) (defBody s_shape_size) (defScope s_shape_size) .none kV10 dc10 pm10 an10 cd10 ct10), sl10⟩) (c10 : PySem.W.codeIn K cd10 "shape_size" = true) (k10 : PySem.W.keepIn K (.ref f10) = true)
    {f11 : Addr} {od11 an11 : Option Addr} {sl11 : Array (Option Value)} {oc11 kV11 dc11 pm11 cd11 ct11 : Value}
    (a11 : PySem.W.nsIn K mainGlobals "_law_drawn_word" = some (some (.ref f11))) (l11 : K.lookup f11 = some ⟨oc11, od11, .func (PySem.W.fnOf "_law_drawn_word" "_law_drawn_word" (defArgs s__law_drawn_word) (defBody s__law_drawn_word) (defScope s__law_drawn_word) .none kV11 dc11 pm11 an11 cd11 ct11), sl11⟩) (c11 : PySem.W.codeIn K cd11 "_law_drawn_word" = true) (k11 : PySem.W.keepIn K (.ref f11) = true)
    {f12 : Addr} {od12 an12 : Option Addr} {sl12 : Array (Option Value)} {oc12 kV12 dc12 pm12 cd12 ct12 : Value}
    (a12 : PySem.W.nsIn K mainGlobals "_law_bent" = some (some (.ref f12))) (l12 : K.lookup f12 = some ⟨oc12, od12, .func (PySem.W.fnOf "_law_bent" "_law_bent" (defArgs s__law_bent) (defBody s__law_bent) (defScope s__law_bent) .none kV12 dc12 pm12 an12 cd12 ct12), sl12⟩) (c12 : PySem.W.codeIn K cd12 "_law_bent" = true) (k12 : PySem.W.keepIn K (.ref f12) = true)
    {f13 : Addr} {od13 an13 : Option Addr} {sl13 : Array (Option Value)} {oc13 kV13 dc13 pm13 cd13 ct13 : Value}
    (a13 : PySem.W.nsIn K mainGlobals "is_shape" = some (some (.ref f13))) (l13 : K.lookup f13 = some ⟨oc13, od13, .func (PySem.W.fnOf "is_shape" "is_shape" (defArgs s_is_shape) (defBody s_is_shape) (defScope s_is_shape) .none kV13 dc13 pm13 an13 cd13 ct13), sl13⟩) (c13 : PySem.W.codeIn K cd13 "is_shape" = true) (k13 : PySem.W.keepIn K (.ref f13) = true)
    {f14 : Addr} {od14 an14 : Option Addr} {sl14 : Array (Option Value)} {oc14 kV14 dc14 pm14 cd14 ct14 : Value}
    (a14 : PySem.W.nsIn K mainGlobals "_law_drawn_form" = some (some (.ref f14))) (l14 : K.lookup f14 = some ⟨oc14, od14, .func (PySem.W.fnOf "_law_drawn_form" "_law_drawn_form" (defArgs s__law_drawn_form) (defBody s__law_drawn_form) (defScope s__law_drawn_form) .none kV14 dc14 pm14 an14 cd14 ct14), sl14⟩) (c14 : PySem.W.codeIn K cd14 "_law_drawn_form" = true) (k14 : PySem.W.keepIn K (.ref f14) = true)
    {f15 : Addr} {od15 an15 : Option Addr} {sl15 : Array (Option Value)} {oc15 kV15 dc15 pm15 cd15 ct15 : Value}
    (a15 : PySem.W.nsIn K mainGlobals "is_term" = some (some (.ref f15))) (l15 : K.lookup f15 = some ⟨oc15, od15, .func (PySem.W.fnOf "is_term" "is_term" (defArgs s_is_term) (defBody s_is_term) (defScope s_is_term) .none kV15 dc15 pm15 an15 cd15 ct15), sl15⟩) (c15 : PySem.W.codeIn K cd15 "is_term" = true) (k15 : PySem.W.keepIn K (.ref f15) = true)
    {f16 : Addr} {od16 an16 : Option Addr} {sl16 : Array (Option Value)} {oc16 kV16 dc16 pm16 cd16 ct16 : Value}
    (a16 : PySem.W.nsIn K mainGlobals "is_pattern" = some (some (.ref f16))) (l16 : K.lookup f16 = some ⟨oc16, od16, .func (PySem.W.fnOf "is_pattern" "is_pattern" (defArgs s_is_pattern) (defBody s_is_pattern) (defScope s_is_pattern) .none kV16 dc16 pm16 an16 cd16 ct16), sl16⟩) (c16 : PySem.W.codeIn K cd16 "is_pattern" = true) (k16 : PySem.W.keepIn K (.ref f16) = true)
    {f17 : Addr} {od17 an17 : Option Addr} {sl17 : Array (Option Value)} {oc17 kV17 dc17 pm17 cd17 ct17 : Value}
    (a17 : PySem.W.nsIn K mainGlobals "need_term" = some (some (.ref f17))) (l17 : K.lookup f17 = some ⟨oc17, od17, .func (PySem.W.fnOf "need_term" "need_term" (defArgs s_need_term) (defBody s_need_term) (defScope s_need_term) .none kV17 dc17 pm17 an17 cd17 ct17), sl17⟩) (c17 : PySem.W.codeIn K cd17 "need_term" = true) (k17 : PySem.W.keepIn K (.ref f17) = true)
    {f18 : Addr} {od18 an18 : Option Addr} {sl18 : Array (Option Value)} {oc18 kV18 dc18 pm18 cd18 ct18 : Value}
    (a18 : PySem.W.nsIn K mainGlobals "need_pattern" = some (some (.ref f18))) (l18 : K.lookup f18 = some ⟨oc18, od18, .func (PySem.W.fnOf "need_pattern" "need_pattern" (defArgs s_need_pattern) (defBody s_need_pattern) (defScope s_need_pattern) .none kV18 dc18 pm18 an18 cd18 ct18), sl18⟩) (c18 : PySem.W.codeIn K cd18 "need_pattern" = true) (k18 : PySem.W.keepIn K (.ref f18) = true)
    {f19 : Addr} {od19 an19 : Option Addr} {sl19 : Array (Option Value)} {oc19 kV19 dc19 pm19 cd19 ct19 : Value}
    (a19 : PySem.W.nsIn K mainGlobals "match" = some (some (.ref f19))) (l19 : K.lookup f19 = some ⟨oc19, od19, .func (PySem.W.fnOf "match" "match" (defArgs s_match) (defBody s_match) (defScope s_match) .none kV19 dc19 pm19 an19 cd19 ct19), sl19⟩) (c19 : PySem.W.codeIn K cd19 "match" = true) (k19 : PySem.W.keepIn K (.ref f19) = true)
    {f20 : Addr} {od20 an20 : Option Addr} {sl20 : Array (Option Value)} {oc20 kV20 dc20 pm20 cd20 ct20 : Value}
    (a20 : PySem.W.nsIn K mainGlobals "law" = some (some (.ref f20))) (l20 : K.lookup f20 = some ⟨oc20, od20, .func (PySem.W.fnOf "law" "law" (defArgs s_law) (defBody s_law) (defScope s_law) .none kV20 dc20 pm20 an20 cd20 ct20), sl20⟩) (c20 : PySem.W.codeIn K cd20 "law" = true) (k20 : PySem.W.keepIn K (.ref f20) = true)
    (z_all : PySem.W.nsIn K mainGlobals "all" = some none)
    (z_enumerate : PySem.W.nsIn K mainGlobals "enumerate" = some none)
    (z_int : PySem.W.nsIn K mainGlobals "int" = some none)
    (z_isinstance : PySem.W.nsIn K mainGlobals "isinstance" = some none)
    (z_len : PySem.W.nsIn K mainGlobals "len" = some none)
    (z_list : PySem.W.nsIn K mainGlobals "list" = some none)
    (z_min : PySem.W.nsIn K mainGlobals "min" = some none)
    (z_range : PySem.W.nsIn K mainGlobals "range" = some none)
    (z_str : PySem.W.nsIn K mainGlobals "str" = some none)
    (z_sum : PySem.W.nsIn K mainGlobals "sum" = some none)
    (z_tuple : PySem.W.nsIn K mainGlobals "tuple" = some none)
    (z_zip : PySem.W.nsIn K mainGlobals "zip" = some none)
    {t_LETTERS : Tok} (v_LETTERS : PySem.W.nsIn K mainGlobals "LETTERS" = some (some (.str ("abcdefghijklmnopqrstuvwxyz" : Str) t_LETTERS)))
    {t_MOST_DEPTH : Tok} (v_MOST_DEPTH : PySem.W.nsIn K mainGlobals "MOST_DEPTH" = some (some (.int 4 t_MOST_DEPTH)))
    {t_MOST_PARTS : Tok} (v_MOST_PARTS : PySem.W.nsIn K mainGlobals "MOST_PARTS" = some (some (.int 3 t_MOST_PARTS)))
    {t_MOST_SIGNS : Tok} (v_MOST_SIGNS : PySem.W.nsIn K mainGlobals "MOST_SIGNS" = some (some (.int 12 t_MOST_SIGNS)))
    {t_MOST_SIZE : Tok} (v_MOST_SIZE : PySem.W.nsIn K mainGlobals "MOST_SIZE" = some (some (.int 12 t_MOST_SIZE)))
    {t_SIGNS : Tok} (v_SIGNS : PySem.W.nsIn K mainGlobals "SIGNS" = some (some (.str ("abcdefghijklmnopqrstuvwxyz0123456789_" : Str) t_SIGNS)))
    {t_VARIABLES : Tok} (v_VARIABLES : PySem.W.nsIn K mainGlobals "VARIABLES" = some (some (.str ("ABCDEFGHIJKLMNOPQRSTUVWXYZ" : Str) t_VARIABLES))) :
    ∃ fd : FuncData, (∀ (s : Shared) (v : Value), BindsTo s fd ⟨[v], []⟩ [("script", v)]) ∧ ∀ base : Heap, K.In base → base.Ns mainGlobals mg → FnG P w K mg base 15 fa fd ["script"] (spF K G 1 F_law) := by
  have T : Txt mg := ⟨PySem.W.mg_none_of X Gm z_all, PySem.W.mg_none_of X Gm z_enumerate, PySem.W.mg_none_of X Gm z_int, PySem.W.mg_none_of X Gm z_isinstance, PySem.W.mg_none_of X Gm z_len, PySem.W.mg_none_of X Gm z_list, PySem.W.mg_none_of X Gm z_min, PySem.W.mg_none_of X Gm z_range, PySem.W.mg_none_of X Gm z_str, PySem.W.mg_none_of X Gm z_sum, PySem.W.mg_none_of X Gm z_tuple, PySem.W.mg_none_of X Gm z_zip, ⟨_, PySem.W.mg_of X Gm v_LETTERS⟩, ⟨_, PySem.W.mg_of X Gm v_MOST_DEPTH⟩, ⟨_, PySem.W.mg_of X Gm v_MOST_PARTS⟩, ⟨_, PySem.W.mg_of X Gm v_MOST_SIGNS⟩, ⟨_, PySem.W.mg_of X Gm v_MOST_SIZE⟩, ⟨_, PySem.W.mg_of X Gm v_SIGNS⟩, ⟨_, PySem.W.mg_of X Gm v_VARIABLES⟩⟩
  have e := hfa.symm.trans (PySem.W.mg_of X Gm a20)
  cases e
  have F0 := fun_mk (st := s_is_word) l0 c0 k0
  have A0 : DefAt K mg "is_word" s_is_word ["value"] := ⟨_, _, F0, PySem.W.mg_of X Gm a0, F0.binds fun _ _ _ _ _ _ us hl => match us, hl with | [_], _ => rfl⟩
  have F1 := fun_mk (st := s_is_clash) l1 c1 k1
  have A1 : DefAt K mg "is_clash" s_is_clash ["one", "other"] := ⟨_, _, F1, PySem.W.mg_of X Gm a1, F1.binds fun _ _ _ _ _ _ us hl => match us, hl with | [_, _], _ => rfl⟩
  have F2 := fun_mk (st := s__law_mixed) l2 c2 k2
  have A2 : DefAt K mg "_law_mixed" s__law_mixed ["cell", "k"] := ⟨_, _, F2, PySem.W.mg_of X Gm a2, F2.binds fun _ _ _ _ _ _ us hl => match us, hl with | [_, _], _ => rfl⟩
  have F3 := fun_mk (st := s__law_draw) l3 c3 k3
  have A3 : DefAt K mg "_law_draw" s__law_draw ["cell", "k"] := ⟨_, _, F3, PySem.W.mg_of X Gm a3, F3.binds fun _ _ _ _ _ _ us hl => match us, hl with | [_, _], _ => rfl⟩
  have F4 := fun_mk (st := s__law_size_of) l4 c4 k4
  have A4 : DefAt K mg "_law_size_of" s__law_size_of ["form"] := ⟨_, _, F4, PySem.W.mg_of X Gm a4, F4.binds fun _ _ _ _ _ _ us hl => match us, hl with | [_], _ => rfl⟩
  have F5 := fun_mk (st := s__law_put) l5 c5 k5
  have A5 : DefAt K mg "_law_put" s__law_put ["form", "values"] := ⟨_, _, F5, PySem.W.mg_of X Gm a5, F5.binds fun _ _ _ _ _ _ us hl => match us, hl with | [_, _], _ => rfl⟩
  have F6 := fun_mk (st := s__law_due) l6 c6 k6
  have A6 : DefAt K mg "_law_due" s__law_due ["pattern", "term"] := ⟨_, _, F6, PySem.W.mg_of X Gm a6, F6.binds fun _ _ _ _ _ _ us hl => match us, hl with | [_, _], _ => rfl⟩
  have F7 := fun_mk (st := s_is_word_with_parts) l7 c7 k7
  have A7 : DefAt K mg "is_word_with_parts" s_is_word_with_parts ["value"] := ⟨_, _, F7, PySem.W.mg_of X Gm a7, F7.binds fun _ _ _ _ _ _ us hl => match us, hl with | [_], _ => rfl⟩
  have F8 := fun_mk (st := s_fits) l8 c8 k8
  have A8 : DefAt K mg "fits" s_fits ["pattern", "shape", "found"] := ⟨_, _, F8, PySem.W.mg_of X Gm a8, F8.binds fun _ _ _ _ _ _ us hl => match us, hl with | [_, _, _], _ => rfl⟩
  have F9 := fun_mk (st := s__law_digit) l9 c9 k9
  have A9 : DefAt K mg "_law_digit" s__law_digit ["draw", "span"] := ⟨_, _, F9, PySem.W.mg_of X Gm a9, F9.binds fun _ _ _ _ _ _ us hl => match us, hl with | [_, _], _ => rfl⟩
  have F10 := fun_mk (st := s_shape_size) l10 c10 k10
  have A10 : DefAt K mg "shape_size" s_shape_size ["value", "letters", "levels"] := ⟨_, _, F10, PySem.W.mg_of X Gm a10, F10.binds fun _ _ _ _ _ _ us hl => match us, hl with | [_, _, _], _ => rfl⟩
  have F11 := fun_mk (st := s__law_drawn_word) l11 c11 k11
  have A11 : DefAt K mg "_law_drawn_word" s__law_drawn_word ["draw"] := ⟨_, _, F11, PySem.W.mg_of X Gm a11, F11.binds fun _ _ _ _ _ _ us hl => match us, hl with | [_], _ => rfl⟩
  have F12 := fun_mk (st := s__law_bent) l12 c12 k12
  have A12 : DefAt K mg "_law_bent" s__law_bent ["draw", "form"] := ⟨_, _, F12, PySem.W.mg_of X Gm a12, F12.binds fun _ _ _ _ _ _ us hl => match us, hl with | [_, _], _ => rfl⟩
  have F13 := fun_mk (st := s_is_shape) l13 c13 k13
  have A13 : DefAt K mg "is_shape" s_is_shape ["value", "letters"] := ⟨_, _, F13, PySem.W.mg_of X Gm a13, F13.binds fun _ _ _ _ _ _ us hl => match us, hl with | [_, _], _ => rfl⟩
  have F14 := fun_mk (st := s__law_drawn_form) l14 c14 k14
  have A14 : DefAt K mg "_law_drawn_form" s__law_drawn_form ["draw", "depth", "size", "signs"] := ⟨_, _, F14, PySem.W.mg_of X Gm a14, F14.binds fun _ _ _ _ _ _ us hl => match us, hl with | [_, _, _, _], _ => rfl⟩
  have F15 := fun_mk (st := s_is_term) l15 c15 k15
  have A15 : DefAt K mg "is_term" s_is_term ["value"] := ⟨_, _, F15, PySem.W.mg_of X Gm a15, F15.binds fun _ _ _ _ _ _ us hl => match us, hl with | [_], _ => rfl⟩
  have F16 := fun_mk (st := s_is_pattern) l16 c16 k16
  have A16 : DefAt K mg "is_pattern" s_is_pattern ["value"] := ⟨_, _, F16, PySem.W.mg_of X Gm a16, F16.binds fun _ _ _ _ _ _ us hl => match us, hl with | [_], _ => rfl⟩
  have F17 := fun_mk (st := s_need_term) l17 c17 k17
  have A17 : DefAt K mg "need_term" s_need_term ["term"] := ⟨_, _, F17, PySem.W.mg_of X Gm a17, F17.binds fun _ _ _ _ _ _ us hl => match us, hl with | [_], _ => rfl⟩
  have F18 := fun_mk (st := s_need_pattern) l18 c18 k18
  have A18 : DefAt K mg "need_pattern" s_need_pattern ["pattern"] := ⟨_, _, F18, PySem.W.mg_of X Gm a18, F18.binds fun _ _ _ _ _ _ us hl => match us, hl with | [_], _ => rfl⟩
  have F19 := fun_mk (st := s_match) l19 c19 k19
  have A19 : DefAt K mg "match" s_match ["pattern", "term"] := ⟨_, _, F19, PySem.W.mg_of X Gm a19, F19.binds fun _ _ _ _ _ _ us hl => match us, hl with | [_, _], _ => rfl⟩
  have F20 := fun_mk (st := s_law) l20 c20 k20
  refine ⟨PySem.W.fnOf "law" "law" (defArgs s_law) (defBody s_law) (defScope s_law) .none kV20 dc20 pm20 an20 cd20 ct20, fun s v => .of_eq rfl, fun base _ _ => ?_⟩
  have C_is_word : Cal P w K mg base G 1 "is_word" 1 F_is_word := cal_is_word T A0 
  have C_is_clash : Cal P w K mg base G 1 "is_clash" 2 F_is_clash := cal_is_clash T A1 
  have C__law_mixed : Cal P w K mg base G 1 "_law_mixed" 2 F__law_mixed := cal__law_mixed T A2 
  have C__law_draw : Cal P w K mg base G 1 "_law_draw" 2 F__law_draw := cal__law_draw T A3 
  have C__law_size_of : Cal P w K mg base G 7 "_law_size_of" 1 (F__law_size_of 6) := cal__law_size_of T A4  6
  have C__law_put : Cal P w K mg base G 7 "_law_put" 2 (F__law_put 6) := cal__law_put T A5  6
  have C__law_due : Cal P w K mg base G 1 "_law_due" 2 F__law_due := cal__law_due T A6 
  have C_is_word_with_parts : Cal P w K mg base G 2 "is_word_with_parts" 1 F_is_word_with_parts := cal_is_word_with_parts T A7 C_is_word
  have C_fits : Cal P w K mg base G 8 "fits" 3 (F_fits 6) := cal_fits T A8 C_is_clash 6
  have C__law_digit : Cal P w K mg base G 2 "_law_digit" 2 F__law_digit := cal__law_digit T A9 C__law_mixed
  have C_shape_size : Cal P w K mg base G 9 "shape_size" 3 (F_shape_size 6) := cal_shape_size T A10 C_is_word_with_parts 6
  have C__law_drawn_word : Cal P w K mg base G 3 "_law_drawn_word" 1 F__law_drawn_word := cal__law_drawn_word T A11 C__law_digit
  have C__law_bent : Cal P w K mg base G 9 "_law_bent" 2 (F__law_bent 6) := cal__law_bent T A12 C__law_digit 6
  have C_is_shape : Cal P w K mg base G 10 "is_shape" 2 F_is_shape := cal_is_shape T A13 C_shape_size
  have C__law_drawn_form : Cal P w K mg base G 14 "_law_drawn_form" 4 (F__law_drawn_form 6) := cal__law_drawn_form T A14 C__law_digit C__law_size_of C__law_drawn_word 6
  have C_is_term : Cal P w K mg base G 11 "is_term" 1 F_is_term := cal_is_term T A15 C_is_shape
  have C_is_pattern : Cal P w K mg base G 11 "is_pattern" 1 F_is_pattern := cal_is_pattern T A16 C_is_shape
  have C_need_term : Cal P w K mg base G 12 "need_term" 1 F_need_term := cal_need_term T A17 C_is_term
  have C_need_pattern : Cal P w K mg base G 12 "need_pattern" 1 F_need_pattern := cal_need_pattern T A18 C_is_pattern
  have C_match : Cal P w K mg base G 13 "match" 2 F_match := cal_match T A19 C_need_pattern C_need_term C_fits
  exact ok_law (k := 14) F20 T (C__law_draw.mono (by decide)) (C__law_drawn_form.mono (by decide)) (C__law_put.mono (by decide)) (C__law_digit.mono (by decide)) (C__law_bent.mono (by decide)) (C_is_term.mono (by decide)) (C_match.mono (by decide)) (C__law_due.mono (by decide))
end GN

end

/-! ## MR -/
section
set_option Elab.async false
set_option linter.all false
set_option maxRecDepth 100000
namespace GN
open PySem PySem.Spec PyProof.Rows L2 DL
abbrev LTR : Str := "abcdefghijklmnopqrstuvwxyz"
abbrev SGN : Str := "abcdefghijklmnopqrstuvwxyz0123456789_"
def isWordB (s : Str) : Bool := match s.cps.toList with
  | [] => false
  | c :: r => if 12 < s.length then false else inS ⟨#[c]⟩ LTR && ((c :: r).all fun c => inS ⟨#[c]⟩ SGN)
theorem F_is_word_str (s : Str) (hs : s.length ≤ 100) (S : Store) : F_is_word [.str s] S = .ok (.bl (isWordB s)) S := by
  have hb : s.length ≤ big := by unfold big; omega
  have hn : s.length = s.cps.toList.length := by simp [Str.length]
  cases hc : s.cps.toList with
  | nil =>
    rw [hc] at hn
    have h0 : s.length = 0 := by simpa using hn
    simp [F_is_word, B_is_word, DL.fl_if, DL.out_if, DL.bind_if, DL.ofl_if, DL.Out.bind_ok, DL.Out.bind_ex, DL.Out.bind_no, DL.sSeq, DL.sIf, DL.sRet, DL.sRetN, DL.sDrop, DL.sAsg, DL.sNil, DL.sNo, DL.sBrk, DL.sCnt, DL.mVar, DL.mC, DL.mNo, DL.mB1, DL.mB2, DL.mAll, DL.aNil, DL.aCons, DL.tOfB, DL.tAndM, DL.tOrM, DL.tNotM, DL.mIf, DL.mAnd, DL.mOr, DL.runB, DL.callN, DL.g1, DL.g2, DL.gNm, DL.gLen, DL.gIsi, DL.tyN, DL.gEq, DL.gNe, DL.gLt, DL.gLe, DL.gGt, DL.gGe, DL.gAdd, DL.gSub, DL.gIx, DL.gIn, DL.gNotIn, DL.inOf, DL.gNot, DL.gTup, DL.gLst, DL.gNewL, DL.gNewD0, DL.gAllB, DL.gAnyB, DL.gSum, DL.lstOf, DL.gTuple, DL.gList, DL.seqOf, DL.iSeq, DL.seqI, DL.lstI, DL.sFor, DL.mLc, DL.wipeE, DL.tTru, DL.Tgt.put, DL.mApp, DL.gApp, DL.isL, DL.isDc, DL.mGet2, DL.gGet, DL.gTupA, DL.gTupT, DL.gsCons, DL.gsNil, DL.gSubT, DL.gPut, DL.sPar, DL.gInt, DL.gMin, DL.iZp, DL.zipI, DL.fl_ok, DL.fl_ex, DL.fl_no, DL.seq_nx, DL.seq_rt, DL.seq_ex, DL.seq_bk, DL.seq_ct, DL.out_nx, DL.out_rt, DL.out_ex, DL.isN_non, DL.isN_tup, DL.isN_str, DL.isN_ref, DL.notN_non, DL.notN_tup, DL.notN_str, DL.notN_ref, DL.atI_zero, DL.atI_one, DL.kit_ss, DL.kit_st, DL.kit_ts, DL.kit_tt, DL.eqD_int, hb, isWordB, h0, hc]
  | cons c r =>
    rw [hc, List.length_cons] at hn
    have h0 : ¬ s.length = 0 := by omega
    by_cases h1 : 12 < s.length
    · have h2 : (12 : Int) < (s.length : Int) := by omega
      simp [F_is_word, B_is_word, DL.fl_if, DL.out_if, DL.bind_if, DL.ofl_if, DL.Out.bind_ok, DL.Out.bind_ex, DL.Out.bind_no, DL.sSeq, DL.sIf, DL.sRet, DL.sRetN, DL.sDrop, DL.sAsg, DL.sNil, DL.sNo, DL.sBrk, DL.sCnt, DL.mVar, DL.mC, DL.mNo, DL.mB1, DL.mB2, DL.mAll, DL.aNil, DL.aCons, DL.tOfB, DL.tAndM, DL.tOrM, DL.tNotM, DL.mIf, DL.mAnd, DL.mOr, DL.runB, DL.callN, DL.g1, DL.g2, DL.gNm, DL.gLen, DL.gIsi, DL.tyN, DL.gEq, DL.gNe, DL.gLt, DL.gLe, DL.gGt, DL.gGe, DL.gAdd, DL.gSub, DL.gIx, DL.gIn, DL.gNotIn, DL.inOf, DL.gNot, DL.gTup, DL.gLst, DL.gNewL, DL.gNewD0, DL.gAllB, DL.gAnyB, DL.gSum, DL.lstOf, DL.gTuple, DL.gList, DL.seqOf, DL.iSeq, DL.seqI, DL.lstI, DL.sFor, DL.mLc, DL.wipeE, DL.tTru, DL.Tgt.put, DL.mApp, DL.gApp, DL.isL, DL.isDc, DL.mGet2, DL.gGet, DL.gTupA, DL.gTupT, DL.gsCons, DL.gsNil, DL.gSubT, DL.gPut, DL.sPar, DL.gInt, DL.gMin, DL.iZp, DL.zipI, DL.fl_ok, DL.fl_ex, DL.fl_no, DL.seq_nx, DL.seq_rt, DL.seq_ex, DL.seq_bk, DL.seq_ct, DL.out_nx, DL.out_rt, DL.out_ex, DL.isN_non, DL.isN_tup, DL.isN_str, DL.isN_ref, DL.notN_non, DL.notN_tup, DL.notN_str, DL.notN_ref, DL.atI_zero, DL.atI_one, DL.kit_ss, DL.kit_st, DL.kit_ts, DL.kit_tt, DL.eqD_int, hb, isWordB, h0, h1, h2, hc]
    · have h2 : ¬ (12 : Int) < (s.length : Int) := by omega
      have hr : r.length + 1 ≤ big := by unfold big; omega
      cases hL : inS ⟨#[c]⟩ LTR with
      | false => simp [F_is_word, B_is_word, DL.fl_if, DL.out_if, DL.bind_if, DL.ofl_if, DL.Out.bind_ok, DL.Out.bind_ex, DL.Out.bind_no, DL.sSeq, DL.sIf, DL.sRet, DL.sRetN, DL.sDrop, DL.sAsg, DL.sNil, DL.sNo, DL.sBrk, DL.sCnt, DL.mVar, DL.mC, DL.mNo, DL.mB1, DL.mB2, DL.mAll, DL.aNil, DL.aCons, DL.tOfB, DL.tAndM, DL.tOrM, DL.tNotM, DL.mIf, DL.mAnd, DL.mOr, DL.runB, DL.callN, DL.g1, DL.g2, DL.gNm, DL.gLen, DL.gIsi, DL.tyN, DL.gEq, DL.gNe, DL.gLt, DL.gLe, DL.gGt, DL.gGe, DL.gAdd, DL.gSub, DL.gIx, DL.gIn, DL.gNotIn, DL.inOf, DL.gNot, DL.gTup, DL.gLst, DL.gNewL, DL.gNewD0, DL.gAllB, DL.gAnyB, DL.gSum, DL.lstOf, DL.gTuple, DL.gList, DL.seqOf, DL.iSeq, DL.seqI, DL.lstI, DL.sFor, DL.mLc, DL.wipeE, DL.tTru, DL.Tgt.put, DL.mApp, DL.gApp, DL.isL, DL.isDc, DL.mGet2, DL.gGet, DL.gTupA, DL.gTupT, DL.gsCons, DL.gsNil, DL.gSubT, DL.gPut, DL.sPar, DL.gInt, DL.gMin, DL.iZp, DL.zipI, DL.fl_ok, DL.fl_ex, DL.fl_no, DL.seq_nx, DL.seq_rt, DL.seq_ex, DL.seq_bk, DL.seq_ct, DL.out_nx, DL.out_rt, DL.out_ex, DL.isN_non, DL.isN_tup, DL.isN_str, DL.isN_ref, DL.notN_non, DL.notN_tup, DL.notN_str, DL.notN_ref, DL.atI_zero, DL.atI_one, DL.kit_ss, DL.kit_st, DL.kit_ts, DL.kit_tt, DL.eqD_int, hb, isWordB, h0, h1, h2, hc, hL]
      | true =>
        have hl := lc_map (S := S) (i := 1) (e := mB2 (mVar 1) (mC (.str SGN)) gIn) (ρ := [some (.str s), none]) (f := fun c => D.str ⟨#[c]⟩) (g := fun c => D.bl (inS ⟨#[c]⟩ SGN)) (l := c :: r) (fun a _ => by simp [DL.fl_if, DL.out_if, DL.bind_if, DL.ofl_if, DL.Out.bind_ok, DL.Out.bind_ex, DL.Out.bind_no, DL.sSeq, DL.sIf, DL.sRet, DL.sRetN, DL.sDrop, DL.sAsg, DL.sNil, DL.sNo, DL.sBrk, DL.sCnt, DL.mVar, DL.mC, DL.mNo, DL.mB1, DL.mB2, DL.mAll, DL.aNil, DL.aCons, DL.tOfB, DL.tAndM, DL.tOrM, DL.tNotM, DL.mIf, DL.mAnd, DL.mOr, DL.runB, DL.callN, DL.g1, DL.g2, DL.gNm, DL.gLen, DL.gIsi, DL.tyN, DL.gEq, DL.gNe, DL.gLt, DL.gLe, DL.gGt, DL.gGe, DL.gAdd, DL.gSub, DL.gIx, DL.gIn, DL.gNotIn, DL.inOf, DL.gNot, DL.gTup, DL.gLst, DL.gNewL, DL.gNewD0, DL.gAllB, DL.gAnyB, DL.gSum, DL.lstOf, DL.gTuple, DL.gList, DL.seqOf, DL.iSeq, DL.seqI, DL.lstI, DL.sFor, DL.mLc, DL.wipeE, DL.tTru, DL.Tgt.put, DL.mApp, DL.gApp, DL.isL, DL.isDc, DL.mGet2, DL.gGet, DL.gTupA, DL.gTupT, DL.gsCons, DL.gsNil, DL.gSubT, DL.gPut, DL.sPar, DL.gInt, DL.gMin, DL.iZp, DL.zipI, DL.fl_ok, DL.fl_ex, DL.fl_no, DL.seq_nx, DL.seq_rt, DL.seq_ex, DL.seq_bk, DL.seq_ct, DL.out_nx, DL.out_rt, DL.out_ex, DL.isN_non, DL.isN_tup, DL.isN_str, DL.isN_ref, DL.notN_non, DL.notN_tup, DL.notN_str, DL.notN_ref, DL.atI_zero, DL.atI_one, DL.kit_ss, DL.kit_st, DL.kit_ts, DL.kit_tt, DL.eqD_int])
        rw [List.map_cons] at hl
        simp [F_is_word, B_is_word, DL.fl_if, DL.out_if, DL.bind_if, DL.ofl_if, DL.Out.bind_ok, DL.Out.bind_ex, DL.Out.bind_no, DL.sSeq, DL.sIf, DL.sRet, DL.sRetN, DL.sDrop, DL.sAsg, DL.sNil, DL.sNo, DL.sBrk, DL.sCnt, DL.mVar, DL.mC, DL.mNo, DL.mB1, DL.mB2, DL.mAll, DL.aNil, DL.aCons, DL.tOfB, DL.tAndM, DL.tOrM, DL.tNotM, DL.mIf, DL.mAnd, DL.mOr, DL.runB, DL.callN, DL.g1, DL.g2, DL.gNm, DL.gLen, DL.gIsi, DL.tyN, DL.gEq, DL.gNe, DL.gLt, DL.gLe, DL.gGt, DL.gGe, DL.gAdd, DL.gSub, DL.gIx, DL.gIn, DL.gNotIn, DL.inOf, DL.gNot, DL.gTup, DL.gLst, DL.gNewL, DL.gNewD0, DL.gAllB, DL.gAnyB, DL.gSum, DL.lstOf, DL.gTuple, DL.gList, DL.seqOf, DL.iSeq, DL.seqI, DL.lstI, DL.sFor, DL.mLc, DL.wipeE, DL.tTru, DL.Tgt.put, DL.mApp, DL.gApp, DL.isL, DL.isDc, DL.mGet2, DL.gGet, DL.gTupA, DL.gTupT, DL.gsCons, DL.gsNil, DL.gSubT, DL.gPut, DL.sPar, DL.gInt, DL.gMin, DL.iZp, DL.zipI, DL.fl_ok, DL.fl_ex, DL.fl_no, DL.seq_nx, DL.seq_rt, DL.seq_ex, DL.seq_bk, DL.seq_ct, DL.out_nx, DL.out_rt, DL.out_ex, DL.isN_non, DL.isN_tup, DL.isN_str, DL.isN_ref, DL.notN_non, DL.notN_tup, DL.notN_str, DL.notN_ref, DL.atI_zero, DL.atI_one, DL.kit_ss, DL.kit_st, DL.kit_ts, DL.kit_tt, DL.eqD_int, hb, isWordB, h0, h1, h2, hc, hL, signsD, hr, hl, blsOf, bls_map]
theorem F_iwwp (w : Str) (l : List D) (hw : w.length ≤ 100) (hl : l.length ≤ 100) (S : Store) : F_is_word_with_parts [.tup [.str w, .tup l]] S = .ok (.bl (isWordB w && decide (l.length ≤ 3))) S := by
  have hb : (2 : Int) = 2 := rfl
  cases hx : isWordB w with
  | false => simp [F_is_word_with_parts, B_is_word_with_parts, DL.fl_if, DL.out_if, DL.bind_if, DL.ofl_if, DL.Out.bind_ok, DL.Out.bind_ex, DL.Out.bind_no, DL.sSeq, DL.sIf, DL.sRet, DL.sRetN, DL.sDrop, DL.sAsg, DL.sNil, DL.sNo, DL.sBrk, DL.sCnt, DL.mVar, DL.mC, DL.mNo, DL.mB1, DL.mB2, DL.mAll, DL.aNil, DL.aCons, DL.tOfB, DL.tAndM, DL.tOrM, DL.tNotM, DL.mIf, DL.mAnd, DL.mOr, DL.runB, DL.callN, DL.g1, DL.g2, DL.gNm, DL.gLen, DL.gIsi, DL.tyN, DL.gEq, DL.gNe, DL.gLt, DL.gLe, DL.gGt, DL.gGe, DL.gAdd, DL.gSub, DL.gIx, DL.gIn, DL.gNotIn, DL.inOf, DL.gNot, DL.gTup, DL.gLst, DL.gNewL, DL.gNewD0, DL.gAllB, DL.gAnyB, DL.gSum, DL.lstOf, DL.gTuple, DL.gList, DL.seqOf, DL.iSeq, DL.seqI, DL.lstI, DL.sFor, DL.mLc, DL.wipeE, DL.tTru, DL.Tgt.put, DL.mApp, DL.gApp, DL.isL, DL.isDc, DL.mGet2, DL.gGet, DL.gTupA, DL.gTupT, DL.gsCons, DL.gsNil, DL.gSubT, DL.gPut, DL.sPar, DL.gInt, DL.gMin, DL.iZp, DL.zipI, DL.fl_ok, DL.fl_ex, DL.fl_no, DL.seq_nx, DL.seq_rt, DL.seq_ex, DL.seq_bk, DL.seq_ct, DL.out_nx, DL.out_rt, DL.out_ex, DL.isN_non, DL.isN_tup, DL.isN_str, DL.isN_ref, DL.notN_non, DL.notN_tup, DL.notN_str, DL.notN_ref, DL.atI_zero, DL.atI_one, DL.kit_ss, DL.kit_st, DL.kit_ts, DL.kit_tt, DL.eqD_int, F_is_word_str w hw, hx]
  | true =>
    simp [F_is_word_with_parts, B_is_word_with_parts, DL.fl_if, DL.out_if, DL.bind_if, DL.ofl_if, DL.Out.bind_ok, DL.Out.bind_ex, DL.Out.bind_no, DL.sSeq, DL.sIf, DL.sRet, DL.sRetN, DL.sDrop, DL.sAsg, DL.sNil, DL.sNo, DL.sBrk, DL.sCnt, DL.mVar, DL.mC, DL.mNo, DL.mB1, DL.mB2, DL.mAll, DL.aNil, DL.aCons, DL.tOfB, DL.tAndM, DL.tOrM, DL.tNotM, DL.mIf, DL.mAnd, DL.mOr, DL.runB, DL.callN, DL.g1, DL.g2, DL.gNm, DL.gLen, DL.gIsi, DL.tyN, DL.gEq, DL.gNe, DL.gLt, DL.gLe, DL.gGt, DL.gGe, DL.gAdd, DL.gSub, DL.gIx, DL.gIn, DL.gNotIn, DL.inOf, DL.gNot, DL.gTup, DL.gLst, DL.gNewL, DL.gNewD0, DL.gAllB, DL.gAnyB, DL.gSum, DL.lstOf, DL.gTuple, DL.gList, DL.seqOf, DL.iSeq, DL.seqI, DL.lstI, DL.sFor, DL.mLc, DL.wipeE, DL.tTru, DL.Tgt.put, DL.mApp, DL.gApp, DL.isL, DL.isDc, DL.mGet2, DL.gGet, DL.gTupA, DL.gTupT, DL.gsCons, DL.gsNil, DL.gSubT, DL.gPut, DL.sPar, DL.gInt, DL.gMin, DL.iZp, DL.zipI, DL.fl_ok, DL.fl_ex, DL.fl_no, DL.seq_nx, DL.seq_rt, DL.seq_ex, DL.seq_bk, DL.seq_ct, DL.out_nx, DL.out_rt, DL.out_ex, DL.isN_non, DL.isN_tup, DL.isN_str, DL.isN_ref, DL.notN_non, DL.notN_tup, DL.notN_str, DL.notN_ref, DL.atI_zero, DL.atI_one, DL.kit_ss, DL.kit_st, DL.kit_ts, DL.kit_tt, DL.eqD_int, F_is_word_str w hw, hx]
    omega
theorem oks_mem {m : Nat} : ∀ {l : List Pt}, Pt.oks m l = true → ∀ {q : Pt}, q ∈ l → q.ok m = true
  | p :: l, h, q, hq => by
    simp only [Pt.oks, Bool.and_eq_true] at h
    rcases List.mem_cons.mp hq with e | hq
    · rw [e]; exact h.1
    · exact oks_mem h.2 hq
/-- the size of a pattern with these variables, 0 where it is none -/
def sumP (f : Pt → Nat) : List Pt → Nat → Nat
  | [], a => a
  | p :: l, a => if f p = 0 then 0 else sumP f l (a + f p)
def sizeP (lt : Str) : Nat → Pt → Nat
  | 0, _ => 0
  | _ + 1, .v s => if s.length = 1 ∧ inS s lt = true then 1 else 0
  | n + 1, .c w l => if isWordB w = true ∧ l.length ≤ 3 then sumP (sizeP lt n) l 1 else 0
theorem size_loop {lt : Str} {n k : Nat} {S : Store} {d : D} : ∀ (l : List Pt) (a : Nat) (x y : Option D), (∀ p ∈ l, F_shape_size k [p.D, .str lt, .int n] S = .ok (.int (sizeP lt n p)) S) →
    ((forGo [] S (gNm 4)
              (sSeq
                (sAsg
                  (mAll (aCons (mVar 4) (aCons (mVar 1) (aCons (mB2 (mVar 2) (mC (D.int 1)) DL.gSub) aNil)))
                    (callN 3 (F_shape_size k)))
                  (gNm 5))
                (sSeq (sIf (tOfB (mB2 (mVar 5) (mC (D.int 0)) gEq)) (sRet (mC (D.int 0))) sNil)
                  (sAsg (mB2 (mVar 3) (mVar 5) gAdd) (gNm 3))))
              (Pt.Ds l)
              [some d, some (D.str lt), some (D.int (↑n + 1)), some (D.int a), x, y]
              S).seq
          (sRet (mVar 3))).out = .ok (.int (sumP (sizeP lt n) l a)) S
  | [], a, x, y, h => by simp [Pt.Ds, for_nil, DL.fl_if, DL.out_if, DL.bind_if, DL.ofl_if, DL.Out.bind_ok, DL.Out.bind_ex, DL.Out.bind_no, DL.sSeq, DL.sIf, DL.sRet, DL.sRetN, DL.sDrop, DL.sAsg, DL.sNil, DL.sNo, DL.sBrk, DL.sCnt, DL.mVar, DL.mC, DL.mNo, DL.mB1, DL.mB2, DL.mAll, DL.aNil, DL.aCons, DL.tOfB, DL.tAndM, DL.tOrM, DL.tNotM, DL.mIf, DL.mAnd, DL.mOr, DL.runB, DL.callN, DL.g1, DL.g2, DL.gNm, DL.gLen, DL.gIsi, DL.tyN, DL.gEq, DL.gNe, DL.gLt, DL.gLe, DL.gGt, DL.gGe, DL.gAdd, DL.gSub, DL.gIx, DL.gIn, DL.gNotIn, DL.inOf, DL.gNot, DL.gTup, DL.gLst, DL.gNewL, DL.gNewD0, DL.gAllB, DL.gAnyB, DL.gSum, DL.lstOf, DL.gTuple, DL.gList, DL.seqOf, DL.iSeq, DL.seqI, DL.lstI, DL.sFor, DL.mLc, DL.wipeE, DL.tTru, DL.Tgt.put, DL.mApp, DL.gApp, DL.isL, DL.isDc, DL.mGet2, DL.gGet, DL.gTupA, DL.gTupT, DL.gsCons, DL.gsNil, DL.gSubT, DL.gPut, DL.sPar, DL.gInt, DL.gMin, DL.iZp, DL.zipI, DL.fl_ok, DL.fl_ex, DL.fl_no, DL.seq_nx, DL.seq_rt, DL.seq_ex, DL.seq_bk, DL.seq_ct, DL.out_nx, DL.out_rt, DL.out_ex, DL.isN_non, DL.isN_tup, DL.isN_str, DL.isN_ref, DL.notN_non, DL.notN_tup, DL.notN_str, DL.notN_ref, DL.atI_zero, DL.atI_one, DL.kit_ss, DL.kit_st, DL.kit_ts, DL.kit_tt, DL.eqD_int, sumP]
  | p :: l, a, x, y, h => by
    rw [Pt.Ds, for_cons (ρ1 := [some d, some (.str lt), some (.int (↑n + 1)), some (.int a), some p.D, y]) (S1 := S) (by simp [DL.fl_if, DL.out_if, DL.bind_if, DL.ofl_if, DL.Out.bind_ok, DL.Out.bind_ex, DL.Out.bind_no, DL.sSeq, DL.sIf, DL.sRet, DL.sRetN, DL.sDrop, DL.sAsg, DL.sNil, DL.sNo, DL.sBrk, DL.sCnt, DL.mVar, DL.mC, DL.mNo, DL.mB1, DL.mB2, DL.mAll, DL.aNil, DL.aCons, DL.tOfB, DL.tAndM, DL.tOrM, DL.tNotM, DL.mIf, DL.mAnd, DL.mOr, DL.runB, DL.callN, DL.g1, DL.g2, DL.gNm, DL.gLen, DL.gIsi, DL.tyN, DL.gEq, DL.gNe, DL.gLt, DL.gLe, DL.gGt, DL.gGe, DL.gAdd, DL.gSub, DL.gIx, DL.gIn, DL.gNotIn, DL.inOf, DL.gNot, DL.gTup, DL.gLst, DL.gNewL, DL.gNewD0, DL.gAllB, DL.gAnyB, DL.gSum, DL.lstOf, DL.gTuple, DL.gList, DL.seqOf, DL.iSeq, DL.seqI, DL.lstI, DL.sFor, DL.mLc, DL.wipeE, DL.tTru, DL.Tgt.put, DL.mApp, DL.gApp, DL.isL, DL.isDc, DL.mGet2, DL.gGet, DL.gTupA, DL.gTupT, DL.gsCons, DL.gsNil, DL.gSubT, DL.gPut, DL.sPar, DL.gInt, DL.gMin, DL.iZp, DL.zipI, DL.fl_ok, DL.fl_ex, DL.fl_no, DL.seq_nx, DL.seq_rt, DL.seq_ex, DL.seq_bk, DL.seq_ct, DL.out_nx, DL.out_rt, DL.out_ex, DL.isN_non, DL.isN_tup, DL.isN_str, DL.isN_ref, DL.notN_non, DL.notN_tup, DL.notN_str, DL.notN_ref, DL.atI_zero, DL.atI_one, DL.kit_ss, DL.kit_st, DL.kit_ts, DL.kit_tt, DL.eqD_int])]
    by_cases e : sizeP lt n p = 0
    · simp [DL.fl_if, DL.out_if, DL.bind_if, DL.ofl_if, DL.Out.bind_ok, DL.Out.bind_ex, DL.Out.bind_no, DL.sSeq, DL.sIf, DL.sRet, DL.sRetN, DL.sDrop, DL.sAsg, DL.sNil, DL.sNo, DL.sBrk, DL.sCnt, DL.mVar, DL.mC, DL.mNo, DL.mB1, DL.mB2, DL.mAll, DL.aNil, DL.aCons, DL.tOfB, DL.tAndM, DL.tOrM, DL.tNotM, DL.mIf, DL.mAnd, DL.mOr, DL.runB, DL.callN, DL.g1, DL.g2, DL.gNm, DL.gLen, DL.gIsi, DL.tyN, DL.gEq, DL.gNe, DL.gLt, DL.gLe, DL.gGt, DL.gGe, DL.gAdd, DL.gSub, DL.gIx, DL.gIn, DL.gNotIn, DL.inOf, DL.gNot, DL.gTup, DL.gLst, DL.gNewL, DL.gNewD0, DL.gAllB, DL.gAnyB, DL.gSum, DL.lstOf, DL.gTuple, DL.gList, DL.seqOf, DL.iSeq, DL.seqI, DL.lstI, DL.sFor, DL.mLc, DL.wipeE, DL.tTru, DL.Tgt.put, DL.mApp, DL.gApp, DL.isL, DL.isDc, DL.mGet2, DL.gGet, DL.gTupA, DL.gTupT, DL.gsCons, DL.gsNil, DL.gSubT, DL.gPut, DL.sPar, DL.gInt, DL.gMin, DL.iZp, DL.zipI, DL.fl_ok, DL.fl_ex, DL.fl_no, DL.seq_nx, DL.seq_rt, DL.seq_ex, DL.seq_bk, DL.seq_ct, DL.out_nx, DL.out_rt, DL.out_ex, DL.isN_non, DL.isN_tup, DL.isN_str, DL.isN_ref, DL.notN_non, DL.notN_tup, DL.notN_str, DL.notN_ref, DL.atI_zero, DL.atI_one, DL.kit_ss, DL.kit_st, DL.kit_ts, DL.kit_tt, DL.eqD_int, h p (List.mem_cons_self ..), e, sumP]
    · have ih := size_loop (d := d) l (a + sizeP lt n p) (some p.D) (some (.int (sizeP lt n p))) fun q hq => h q (List.mem_cons_of_mem _ hq)
      simp [DL.fl_if, DL.out_if, DL.bind_if, DL.ofl_if, DL.Out.bind_ok, DL.Out.bind_ex, DL.Out.bind_no, DL.sSeq, DL.sIf, DL.sRet, DL.sRetN, DL.sDrop, DL.sAsg, DL.sNil, DL.sNo, DL.sBrk, DL.sCnt, DL.mVar, DL.mC, DL.mNo, DL.mB1, DL.mB2, DL.mAll, DL.aNil, DL.aCons, DL.tOfB, DL.tAndM, DL.tOrM, DL.tNotM, DL.mIf, DL.mAnd, DL.mOr, DL.runB, DL.callN, DL.g1, DL.g2, DL.gNm, DL.gLen, DL.gIsi, DL.tyN, DL.gEq, DL.gNe, DL.gLt, DL.gLe, DL.gGt, DL.gGe, DL.gAdd, DL.gSub, DL.gIx, DL.gIn, DL.gNotIn, DL.inOf, DL.gNot, DL.gTup, DL.gLst, DL.gNewL, DL.gNewD0, DL.gAllB, DL.gAnyB, DL.gSum, DL.lstOf, DL.gTuple, DL.gList, DL.seqOf, DL.iSeq, DL.seqI, DL.lstI, DL.sFor, DL.mLc, DL.wipeE, DL.tTru, DL.Tgt.put, DL.mApp, DL.gApp, DL.isL, DL.isDc, DL.mGet2, DL.gGet, DL.gTupA, DL.gTupT, DL.gsCons, DL.gsNil, DL.gSubT, DL.gPut, DL.sPar, DL.gInt, DL.gMin, DL.iZp, DL.zipI, DL.fl_ok, DL.fl_ex, DL.fl_no, DL.seq_nx, DL.seq_rt, DL.seq_ex, DL.seq_bk, DL.seq_ct, DL.out_nx, DL.out_rt, DL.out_ex, DL.isN_non, DL.isN_tup, DL.isN_str, DL.isN_ref, DL.notN_non, DL.notN_tup, DL.notN_str, DL.notN_ref, DL.atI_zero, DL.atI_one, DL.kit_ss, DL.kit_st, DL.kit_ts, DL.kit_tt, DL.eqD_int, h p (List.mem_cons_self ..), e, sumP]
      simpa using ih
theorem F_shape_size_ok (lt : Str) : ∀ (n k : Nat), n < k → ∀ (m : Nat) (p : Pt), p.ok m = true → ∀ S, F_shape_size k [p.D, .str lt, .int n] S = .ok (.int (sizeP lt n p)) S
  | 0, k + 1, _, m, p, hp, S => by
    simp [F_shape_size, B_shape_size, DL.fl_if, DL.out_if, DL.bind_if, DL.ofl_if, DL.Out.bind_ok, DL.Out.bind_ex, DL.Out.bind_no, DL.sSeq, DL.sIf, DL.sRet, DL.sRetN, DL.sDrop, DL.sAsg, DL.sNil, DL.sNo, DL.sBrk, DL.sCnt, DL.mVar, DL.mC, DL.mNo, DL.mB1, DL.mB2, DL.mAll, DL.aNil, DL.aCons, DL.tOfB, DL.tAndM, DL.tOrM, DL.tNotM, DL.mIf, DL.mAnd, DL.mOr, DL.runB, DL.callN, DL.g1, DL.g2, DL.gNm, DL.gLen, DL.gIsi, DL.tyN, DL.gEq, DL.gNe, DL.gLt, DL.gLe, DL.gGt, DL.gGe, DL.gAdd, DL.gSub, DL.gIx, DL.gIn, DL.gNotIn, DL.inOf, DL.gNot, DL.gTup, DL.gLst, DL.gNewL, DL.gNewD0, DL.gAllB, DL.gAnyB, DL.gSum, DL.lstOf, DL.gTuple, DL.gList, DL.seqOf, DL.iSeq, DL.seqI, DL.lstI, DL.sFor, DL.mLc, DL.wipeE, DL.tTru, DL.Tgt.put, DL.mApp, DL.gApp, DL.isL, DL.isDc, DL.mGet2, DL.gGet, DL.gTupA, DL.gTupT, DL.gsCons, DL.gsNil, DL.gSubT, DL.gPut, DL.sPar, DL.gInt, DL.gMin, DL.iZp, DL.zipI, DL.fl_ok, DL.fl_ex, DL.fl_no, DL.seq_nx, DL.seq_rt, DL.seq_ex, DL.seq_bk, DL.seq_ct, DL.out_nx, DL.out_rt, DL.out_ex, DL.isN_non, DL.isN_tup, DL.isN_str, DL.isN_ref, DL.notN_non, DL.notN_tup, DL.notN_str, DL.notN_ref, DL.atI_zero, DL.atI_one, DL.kit_ss, DL.kit_st, DL.kit_ts, DL.kit_tt, DL.eqD_int, sizeP]
  | n + 1, k + 1, hk, m + 1, .v s, hp, S => by
    simp only [Pt.ok] at hp
    have hs := (okS_str hp).2
    have hb : s.length ≤ big := by unfold big; omega
    have e0 : ¬ ((n : Int) + 1 = 0) := by omega
    have e1 : ((s.length : Int) = 1) ↔ s.length = 1 := by omega
    simp [F_shape_size, B_shape_size, DL.fl_if, DL.out_if, DL.bind_if, DL.ofl_if, DL.Out.bind_ok, DL.Out.bind_ex, DL.Out.bind_no, DL.sSeq, DL.sIf, DL.sRet, DL.sRetN, DL.sDrop, DL.sAsg, DL.sNil, DL.sNo, DL.sBrk, DL.sCnt, DL.mVar, DL.mC, DL.mNo, DL.mB1, DL.mB2, DL.mAll, DL.aNil, DL.aCons, DL.tOfB, DL.tAndM, DL.tOrM, DL.tNotM, DL.mIf, DL.mAnd, DL.mOr, DL.runB, DL.callN, DL.g1, DL.g2, DL.gNm, DL.gLen, DL.gIsi, DL.tyN, DL.gEq, DL.gNe, DL.gLt, DL.gLe, DL.gGt, DL.gGe, DL.gAdd, DL.gSub, DL.gIx, DL.gIn, DL.gNotIn, DL.inOf, DL.gNot, DL.gTup, DL.gLst, DL.gNewL, DL.gNewD0, DL.gAllB, DL.gAnyB, DL.gSum, DL.lstOf, DL.gTuple, DL.gList, DL.seqOf, DL.iSeq, DL.seqI, DL.lstI, DL.sFor, DL.mLc, DL.wipeE, DL.tTru, DL.Tgt.put, DL.mApp, DL.gApp, DL.isL, DL.isDc, DL.mGet2, DL.gGet, DL.gTupA, DL.gTupT, DL.gsCons, DL.gsNil, DL.gSubT, DL.gPut, DL.sPar, DL.gInt, DL.gMin, DL.iZp, DL.zipI, DL.fl_ok, DL.fl_ex, DL.fl_no, DL.seq_nx, DL.seq_rt, DL.seq_ex, DL.seq_bk, DL.seq_ct, DL.out_nx, DL.out_rt, DL.out_ex, DL.isN_non, DL.isN_tup, DL.isN_str, DL.isN_ref, DL.notN_non, DL.notN_tup, DL.notN_str, DL.notN_ref, DL.atI_zero, DL.atI_one, DL.kit_ss, DL.kit_st, DL.kit_ts, DL.kit_tt, DL.eqD_int, sizeP, Pt.D, e0, hb, e1]
    by_cases h1 : s.length = 1 <;> by_cases h2 : inS s lt = true <;> simp [h1, h2]
  | n + 1, k + 1, hk, 0, p, hp, S => by simp [Pt.ok] at hp
  | n + 1, k + 1, hk, m + 1, .c w l, hp, S => by
    simp only [Pt.ok, Bool.and_eq_true, decide_eq_true_eq] at hp
    have hw := (okS_str hp.1.1).2
    have e0 : ¬ ((n : Int) + 1 = 0) := by omega
    have hD : (Pt.Ds l).length = l.length := by rw [Pt.Ds_map, List.length_map]
    have hx := F_iwwp w (Pt.Ds l) hw (by rw [hD]; exact hp.1.2) S
    rw [hD] at hx
    simp [F_shape_size, B_shape_size, DL.fl_if, DL.out_if, DL.bind_if, DL.ofl_if, DL.Out.bind_ok, DL.Out.bind_ex, DL.Out.bind_no, DL.sSeq, DL.sIf, DL.sRet, DL.sRetN, DL.sDrop, DL.sAsg, DL.sNil, DL.sNo, DL.sBrk, DL.sCnt, DL.mVar, DL.mC, DL.mNo, DL.mB1, DL.mB2, DL.mAll, DL.aNil, DL.aCons, DL.tOfB, DL.tAndM, DL.tOrM, DL.tNotM, DL.mIf, DL.mAnd, DL.mOr, DL.runB, DL.callN, DL.g1, DL.g2, DL.gNm, DL.gLen, DL.gIsi, DL.tyN, DL.gEq, DL.gNe, DL.gLt, DL.gLe, DL.gGt, DL.gGe, DL.gAdd, DL.gSub, DL.gIx, DL.gIn, DL.gNotIn, DL.inOf, DL.gNot, DL.gTup, DL.gLst, DL.gNewL, DL.gNewD0, DL.gAllB, DL.gAnyB, DL.gSum, DL.lstOf, DL.gTuple, DL.gList, DL.seqOf, DL.iSeq, DL.seqI, DL.lstI, DL.sFor, DL.mLc, DL.wipeE, DL.tTru, DL.Tgt.put, DL.mApp, DL.gApp, DL.isL, DL.isDc, DL.mGet2, DL.gGet, DL.gTupA, DL.gTupT, DL.gsCons, DL.gsNil, DL.gSubT, DL.gPut, DL.sPar, DL.gInt, DL.gMin, DL.iZp, DL.zipI, DL.fl_ok, DL.fl_ex, DL.fl_no, DL.seq_nx, DL.seq_rt, DL.seq_ex, DL.seq_bk, DL.seq_ct, DL.out_nx, DL.out_rt, DL.out_ex, DL.isN_non, DL.isN_tup, DL.isN_str, DL.isN_ref, DL.notN_non, DL.notN_tup, DL.notN_str, DL.notN_ref, DL.atI_zero, DL.atI_one, DL.kit_ss, DL.kit_st, DL.kit_ts, DL.kit_tt, DL.eqD_int, sizeP, Pt.D, e0, hx]
    by_cases h1 : isWordB w = true
    · by_cases h2 : l.length ≤ 3
      · have h3 : ¬ 3 < l.length := by omega
        have lo := size_loop (lt := lt) (n := n) (k := k) (S := S) (d := D.tup [D.str w, D.tup (Pt.Ds l)]) l 1 none none fun q hq => F_shape_size_ok lt n k (by omega) m q (oks_mem hp.2 hq) S
        simp [h1, h2, h3]
        simpa using lo
      · have h3 : 3 < l.length := by omega
        simp [h1, h2, h3]
    · simp [h1]
end GN

end

/-! ## MR2a -/
section
set_option Elab.async false
set_option linter.all false
set_option maxRecDepth 100000
namespace GN
open PySem PySem.Spec PyProof.Rows L2 DL
abbrev VARS : Str := "ABCDEFGHIJKLMNOPQRSTUVWXYZ"
def isShapeB (lt : Str) (p : Pt) : Bool := decide (0 < sizeP lt 4 p) && decide (sizeP lt 4 p ≤ 12)
theorem F_is_shape_ok (lt : Str) {m : Nat} {p : Pt} (hp : p.ok m = true) (S : Store) : F_is_shape [p.D, .str lt] S = .ok (.bl (isShapeB lt p)) S := by
  have h : F_shape_size 6 [p.D, .str lt, .int 4] S = .ok (.int (sizeP lt 4 p)) S := F_shape_size_ok lt 4 6 (by decide) m p hp S
  by_cases h1 : 0 < sizeP lt 4 p
  · have e1 : decide ((0 : Int) < (sizeP lt 4 p : Int)) = true := by simpa using h1
    simp [F_is_shape, B_is_shape, DL.fl_if, DL.out_if, DL.bind_if, DL.ofl_if, DL.Out.bind_ok, DL.Out.bind_ex, DL.Out.bind_no, DL.sSeq, DL.sIf, DL.sRet, DL.sRetN, DL.sDrop, DL.sAsg, DL.sNil, DL.sNo, DL.sBrk, DL.sCnt, DL.mVar, DL.mC, DL.mNo, DL.mB1, DL.mB2, DL.mAll, DL.aNil, DL.aCons, DL.tOfB, DL.tAndM, DL.tOrM, DL.tNotM, DL.mIf, DL.mAnd, DL.mOr, DL.runB, DL.callN, DL.g1, DL.g2, DL.gNm, DL.gLen, DL.gIsi, DL.tyN, DL.gEq, DL.gNe, DL.gLt, DL.gLe, DL.gGt, DL.gGe, DL.gAdd, DL.gSub, DL.gIx, DL.gIn, DL.gNotIn, DL.inOf, DL.gNot, DL.gTup, DL.gLst, DL.gNewL, DL.gNewD0, DL.gAllB, DL.gAnyB, DL.gSum, DL.lstOf, DL.gTuple, DL.gList, DL.seqOf, DL.iSeq, DL.seqI, DL.lstI, DL.sFor, DL.mLc, DL.wipeE, DL.tTru, DL.Tgt.put, DL.mApp, DL.gApp, DL.isL, DL.isDc, DL.mGet2, DL.gGet, DL.gTupA, DL.gTupT, DL.gsCons, DL.gsNil, DL.gSubT, DL.gPut, DL.sPar, DL.gInt, DL.gMin, DL.iZp, DL.zipI, DL.fl_ok, DL.fl_ex, DL.fl_no, DL.seq_nx, DL.seq_rt, DL.seq_ex, DL.seq_bk, DL.seq_ct, DL.out_nx, DL.out_rt, DL.out_ex, DL.isN_non, DL.isN_tup, DL.isN_str, DL.isN_ref, DL.notN_non, DL.notN_tup, DL.notN_str, DL.notN_ref, DL.atI_zero, DL.atI_one, DL.kit_ss, DL.kit_st, DL.kit_ts, DL.kit_tt, DL.eqD_int, isShapeB, h, h1, e1]
    omega
  · have e1 : decide ((0 : Int) < (sizeP lt 4 p : Int)) = false := by simpa using h1
    simp [F_is_shape, B_is_shape, DL.fl_if, DL.out_if, DL.bind_if, DL.ofl_if, DL.Out.bind_ok, DL.Out.bind_ex, DL.Out.bind_no, DL.sSeq, DL.sIf, DL.sRet, DL.sRetN, DL.sDrop, DL.sAsg, DL.sNil, DL.sNo, DL.sBrk, DL.sCnt, DL.mVar, DL.mC, DL.mNo, DL.mB1, DL.mB2, DL.mAll, DL.aNil, DL.aCons, DL.tOfB, DL.tAndM, DL.tOrM, DL.tNotM, DL.mIf, DL.mAnd, DL.mOr, DL.runB, DL.callN, DL.g1, DL.g2, DL.gNm, DL.gLen, DL.gIsi, DL.tyN, DL.gEq, DL.gNe, DL.gLt, DL.gLe, DL.gGt, DL.gGe, DL.gAdd, DL.gSub, DL.gIx, DL.gIn, DL.gNotIn, DL.inOf, DL.gNot, DL.gTup, DL.gLst, DL.gNewL, DL.gNewD0, DL.gAllB, DL.gAnyB, DL.gSum, DL.lstOf, DL.gTuple, DL.gList, DL.seqOf, DL.iSeq, DL.seqI, DL.lstI, DL.sFor, DL.mLc, DL.wipeE, DL.tTru, DL.Tgt.put, DL.mApp, DL.gApp, DL.isL, DL.isDc, DL.mGet2, DL.gGet, DL.gTupA, DL.gTupT, DL.gsCons, DL.gsNil, DL.gSubT, DL.gPut, DL.sPar, DL.gInt, DL.gMin, DL.iZp, DL.zipI, DL.fl_ok, DL.fl_ex, DL.fl_no, DL.seq_nx, DL.seq_rt, DL.seq_ex, DL.seq_bk, DL.seq_ct, DL.out_nx, DL.out_rt, DL.out_ex, DL.isN_non, DL.isN_tup, DL.isN_str, DL.isN_ref, DL.notN_non, DL.notN_tup, DL.notN_str, DL.notN_ref, DL.atI_zero, DL.atI_one, DL.kit_ss, DL.kit_st, DL.kit_ts, DL.kit_tt, DL.eqD_int, isShapeB, h, h1, e1]
theorem F_is_pattern_ok {m : Nat} {p : Pt} (hp : p.ok m = true) (S : Store) : F_is_pattern [p.D] S = .ok (.bl (isShapeB VARS p)) S := by
  simp [F_is_pattern, B_is_pattern, DL.fl_if, DL.out_if, DL.bind_if, DL.ofl_if, DL.Out.bind_ok, DL.Out.bind_ex, DL.Out.bind_no, DL.sSeq, DL.sIf, DL.sRet, DL.sRetN, DL.sDrop, DL.sAsg, DL.sNil, DL.sNo, DL.sBrk, DL.sCnt, DL.mVar, DL.mC, DL.mNo, DL.mB1, DL.mB2, DL.mAll, DL.aNil, DL.aCons, DL.tOfB, DL.tAndM, DL.tOrM, DL.tNotM, DL.mIf, DL.mAnd, DL.mOr, DL.runB, DL.callN, DL.g1, DL.g2, DL.gNm, DL.gLen, DL.gIsi, DL.tyN, DL.gEq, DL.gNe, DL.gLt, DL.gLe, DL.gGt, DL.gGe, DL.gAdd, DL.gSub, DL.gIx, DL.gIn, DL.gNotIn, DL.inOf, DL.gNot, DL.gTup, DL.gLst, DL.gNewL, DL.gNewD0, DL.gAllB, DL.gAnyB, DL.gSum, DL.lstOf, DL.gTuple, DL.gList, DL.seqOf, DL.iSeq, DL.seqI, DL.lstI, DL.sFor, DL.mLc, DL.wipeE, DL.tTru, DL.Tgt.put, DL.mApp, DL.gApp, DL.isL, DL.isDc, DL.mGet2, DL.gGet, DL.gTupA, DL.gTupT, DL.gsCons, DL.gsNil, DL.gSubT, DL.gPut, DL.sPar, DL.gInt, DL.gMin, DL.iZp, DL.zipI, DL.fl_ok, DL.fl_ex, DL.fl_no, DL.seq_nx, DL.seq_rt, DL.seq_ex, DL.seq_bk, DL.seq_ct, DL.out_nx, DL.out_rt, DL.out_ex, DL.isN_non, DL.isN_tup, DL.isN_str, DL.isN_ref, DL.notN_non, DL.notN_tup, DL.notN_str, DL.notN_ref, DL.atI_zero, DL.atI_one, DL.kit_ss, DL.kit_st, DL.kit_ts, DL.kit_tt, DL.eqD_int, F_is_shape_ok VARS hp]
theorem F_need_pattern_ok {m : Nat} {p : Pt} (hp : p.ok m = true) (h : isShapeB VARS p = true) (S : Store) : F_need_pattern [p.D] S = .ok .non S := by
  simp [F_need_pattern, B_need_pattern, DL.fl_if, DL.out_if, DL.bind_if, DL.ofl_if, DL.Out.bind_ok, DL.Out.bind_ex, DL.Out.bind_no, DL.sSeq, DL.sIf, DL.sRet, DL.sRetN, DL.sDrop, DL.sAsg, DL.sNil, DL.sNo, DL.sBrk, DL.sCnt, DL.mVar, DL.mC, DL.mNo, DL.mB1, DL.mB2, DL.mAll, DL.aNil, DL.aCons, DL.tOfB, DL.tAndM, DL.tOrM, DL.tNotM, DL.mIf, DL.mAnd, DL.mOr, DL.runB, DL.callN, DL.g1, DL.g2, DL.gNm, DL.gLen, DL.gIsi, DL.tyN, DL.gEq, DL.gNe, DL.gLt, DL.gLe, DL.gGt, DL.gGe, DL.gAdd, DL.gSub, DL.gIx, DL.gIn, DL.gNotIn, DL.inOf, DL.gNot, DL.gTup, DL.gLst, DL.gNewL, DL.gNewD0, DL.gAllB, DL.gAnyB, DL.gSum, DL.lstOf, DL.gTuple, DL.gList, DL.seqOf, DL.iSeq, DL.seqI, DL.lstI, DL.sFor, DL.mLc, DL.wipeE, DL.tTru, DL.Tgt.put, DL.mApp, DL.gApp, DL.isL, DL.isDc, DL.mGet2, DL.gGet, DL.gTupA, DL.gTupT, DL.gsCons, DL.gsNil, DL.gSubT, DL.gPut, DL.sPar, DL.gInt, DL.gMin, DL.iZp, DL.zipI, DL.fl_ok, DL.fl_ex, DL.fl_no, DL.seq_nx, DL.seq_rt, DL.seq_ex, DL.seq_bk, DL.seq_ct, DL.out_nx, DL.out_rt, DL.out_ex, DL.isN_non, DL.isN_tup, DL.isN_str, DL.isN_ref, DL.notN_non, DL.notN_tup, DL.notN_str, DL.notN_ref, DL.atI_zero, DL.atI_one, DL.kit_ss, DL.kit_st, DL.kit_ts, DL.kit_tt, DL.eqD_int, F_is_pattern_ok hp, h]
end GN

end

/-! ## MR2t -/
section
set_option Elab.async false
set_option linter.all false
set_option maxRecDepth 100000
namespace GN
open PySem PySem.Spec PyProof.Rows L2 DL
theorem F_is_term_ok {m : Nat} {p : Pt} (hp : p.ok m = true) (S : Store) : F_is_term [p.D] S = .ok (.bl (isShapeB "" p)) S := by
  simp [F_is_term, B_is_term, DL.fl_if, DL.out_if, DL.bind_if, DL.ofl_if, DL.Out.bind_ok, DL.Out.bind_ex, DL.Out.bind_no, DL.sSeq, DL.sIf, DL.sRet, DL.sRetN, DL.sDrop, DL.sAsg, DL.sNil, DL.sNo, DL.sBrk, DL.sCnt, DL.mVar, DL.mC, DL.mNo, DL.mB1, DL.mB2, DL.mAll, DL.aNil, DL.aCons, DL.tOfB, DL.tAndM, DL.tOrM, DL.tNotM, DL.mIf, DL.mAnd, DL.mOr, DL.runB, DL.callN, DL.g1, DL.g2, DL.gNm, DL.gLen, DL.gIsi, DL.tyN, DL.gEq, DL.gNe, DL.gLt, DL.gLe, DL.gGt, DL.gGe, DL.gAdd, DL.gSub, DL.gIx, DL.gIn, DL.gNotIn, DL.inOf, DL.gNot, DL.gTup, DL.gLst, DL.gNewL, DL.gNewD0, DL.gAllB, DL.gAnyB, DL.gSum, DL.lstOf, DL.gTuple, DL.gList, DL.seqOf, DL.iSeq, DL.seqI, DL.lstI, DL.sFor, DL.mLc, DL.wipeE, DL.tTru, DL.Tgt.put, DL.mApp, DL.gApp, DL.isL, DL.isDc, DL.mGet2, DL.gGet, DL.gTupA, DL.gTupT, DL.gsCons, DL.gsNil, DL.gSubT, DL.gPut, DL.sPar, DL.gInt, DL.gMin, DL.iZp, DL.zipI, DL.fl_ok, DL.fl_ex, DL.fl_no, DL.seq_nx, DL.seq_rt, DL.seq_ex, DL.seq_bk, DL.seq_ct, DL.out_nx, DL.out_rt, DL.out_ex, DL.isN_non, DL.isN_tup, DL.isN_str, DL.isN_ref, DL.notN_non, DL.notN_tup, DL.notN_str, DL.notN_ref, DL.atI_zero, DL.atI_one, DL.kit_ss, DL.kit_st, DL.kit_ts, DL.kit_tt, DL.eqD_int, F_is_shape_ok "" hp]
theorem F_need_term_ok {m : Nat} {p : Pt} (hp : p.ok m = true) (h : isShapeB "" p = true) (S : Store) : F_need_term [p.D] S = .ok .non S := by
  simp [F_need_term, B_need_term, DL.fl_if, DL.out_if, DL.bind_if, DL.ofl_if, DL.Out.bind_ok, DL.Out.bind_ex, DL.Out.bind_no, DL.sSeq, DL.sIf, DL.sRet, DL.sRetN, DL.sDrop, DL.sAsg, DL.sNil, DL.sNo, DL.sBrk, DL.sCnt, DL.mVar, DL.mC, DL.mNo, DL.mB1, DL.mB2, DL.mAll, DL.aNil, DL.aCons, DL.tOfB, DL.tAndM, DL.tOrM, DL.tNotM, DL.mIf, DL.mAnd, DL.mOr, DL.runB, DL.callN, DL.g1, DL.g2, DL.gNm, DL.gLen, DL.gIsi, DL.tyN, DL.gEq, DL.gNe, DL.gLt, DL.gLe, DL.gGt, DL.gGe, DL.gAdd, DL.gSub, DL.gIx, DL.gIn, DL.gNotIn, DL.inOf, DL.gNot, DL.gTup, DL.gLst, DL.gNewL, DL.gNewD0, DL.gAllB, DL.gAnyB, DL.gSum, DL.lstOf, DL.gTuple, DL.gList, DL.seqOf, DL.iSeq, DL.seqI, DL.lstI, DL.sFor, DL.mLc, DL.wipeE, DL.tTru, DL.Tgt.put, DL.mApp, DL.gApp, DL.isL, DL.isDc, DL.mGet2, DL.gGet, DL.gTupA, DL.gTupT, DL.gsCons, DL.gsNil, DL.gSubT, DL.gPut, DL.sPar, DL.gInt, DL.gMin, DL.iZp, DL.zipI, DL.fl_ok, DL.fl_ex, DL.fl_no, DL.seq_nx, DL.seq_rt, DL.seq_ex, DL.seq_bk, DL.seq_ct, DL.out_nx, DL.out_rt, DL.out_ex, DL.isN_non, DL.isN_tup, DL.isN_str, DL.isN_ref, DL.notN_non, DL.notN_tup, DL.notN_str, DL.notN_ref, DL.atI_zero, DL.atI_one, DL.kit_ss, DL.kit_st, DL.kit_ts, DL.kit_tt, DL.eqD_int, F_is_term_ok hp, h]
end GN

end

/-! ## MR2b -/
section
set_option Elab.async false
set_option linter.all false
set_option maxRecDepth 100000
namespace GN
open PySem PySem.Spec PyProof.Rows L2 DL
/-! two patterns at odds -/
def clashP : Pt → Pt → Bool
  | .c w l, .c u r => !(w == u) || !(l.length == r.length)
  | _, _ => true
theorem F_is_clash_ok {m n : Nat} {p q : Pt} (hp : p.ok m = true) (hq : q.ok n = true) (S : Store) : F_is_clash [p.D, q.D] S = .ok (.bl (clashP p q)) S := by
  cases p with
  | v s => simp [F_is_clash, B_is_clash, DL.fl_if, DL.out_if, DL.bind_if, DL.ofl_if, DL.Out.bind_ok, DL.Out.bind_ex, DL.Out.bind_no, DL.sSeq, DL.sIf, DL.sRet, DL.sRetN, DL.sDrop, DL.sAsg, DL.sNil, DL.sNo, DL.sBrk, DL.sCnt, DL.mVar, DL.mC, DL.mNo, DL.mB1, DL.mB2, DL.mAll, DL.aNil, DL.aCons, DL.tOfB, DL.tAndM, DL.tOrM, DL.tNotM, DL.mIf, DL.mAnd, DL.mOr, DL.runB, DL.callN, DL.g1, DL.g2, DL.gNm, DL.gLen, DL.gIsi, DL.tyN, DL.gEq, DL.gNe, DL.gLt, DL.gLe, DL.gGt, DL.gGe, DL.gAdd, DL.gSub, DL.gIx, DL.gIn, DL.gNotIn, DL.inOf, DL.gNot, DL.gTup, DL.gLst, DL.gNewL, DL.gNewD0, DL.gAllB, DL.gAnyB, DL.gSum, DL.lstOf, DL.gTuple, DL.gList, DL.seqOf, DL.iSeq, DL.seqI, DL.lstI, DL.sFor, DL.mLc, DL.wipeE, DL.tTru, DL.Tgt.put, DL.mApp, DL.gApp, DL.isL, DL.isDc, DL.mGet2, DL.gGet, DL.gTupA, DL.gTupT, DL.gsCons, DL.gsNil, DL.gSubT, DL.gPut, DL.sPar, DL.gInt, DL.gMin, DL.iZp, DL.zipI, DL.fl_ok, DL.fl_ex, DL.fl_no, DL.seq_nx, DL.seq_rt, DL.seq_ex, DL.seq_bk, DL.seq_ct, DL.out_nx, DL.out_rt, DL.out_ex, DL.isN_non, DL.isN_tup, DL.isN_str, DL.isN_ref, DL.notN_non, DL.notN_tup, DL.notN_str, DL.notN_ref, DL.atI_zero, DL.atI_one, DL.kit_ss, DL.kit_st, DL.kit_ts, DL.kit_tt, DL.eqD_int, Pt.D, clashP]
  | c w l =>
    cases q with
    | v s => simp [F_is_clash, B_is_clash, DL.fl_if, DL.out_if, DL.bind_if, DL.ofl_if, DL.Out.bind_ok, DL.Out.bind_ex, DL.Out.bind_no, DL.sSeq, DL.sIf, DL.sRet, DL.sRetN, DL.sDrop, DL.sAsg, DL.sNil, DL.sNo, DL.sBrk, DL.sCnt, DL.mVar, DL.mC, DL.mNo, DL.mB1, DL.mB2, DL.mAll, DL.aNil, DL.aCons, DL.tOfB, DL.tAndM, DL.tOrM, DL.tNotM, DL.mIf, DL.mAnd, DL.mOr, DL.runB, DL.callN, DL.g1, DL.g2, DL.gNm, DL.gLen, DL.gIsi, DL.tyN, DL.gEq, DL.gNe, DL.gLt, DL.gLe, DL.gGt, DL.gGe, DL.gAdd, DL.gSub, DL.gIx, DL.gIn, DL.gNotIn, DL.inOf, DL.gNot, DL.gTup, DL.gLst, DL.gNewL, DL.gNewD0, DL.gAllB, DL.gAnyB, DL.gSum, DL.lstOf, DL.gTuple, DL.gList, DL.seqOf, DL.iSeq, DL.seqI, DL.lstI, DL.sFor, DL.mLc, DL.wipeE, DL.tTru, DL.Tgt.put, DL.mApp, DL.gApp, DL.isL, DL.isDc, DL.mGet2, DL.gGet, DL.gTupA, DL.gTupT, DL.gsCons, DL.gsNil, DL.gSubT, DL.gPut, DL.sPar, DL.gInt, DL.gMin, DL.iZp, DL.zipI, DL.fl_ok, DL.fl_ex, DL.fl_no, DL.seq_nx, DL.seq_rt, DL.seq_ex, DL.seq_bk, DL.seq_ct, DL.out_nx, DL.out_rt, DL.out_ex, DL.isN_non, DL.isN_tup, DL.isN_str, DL.isN_ref, DL.notN_non, DL.notN_tup, DL.notN_str, DL.notN_ref, DL.atI_zero, DL.atI_one, DL.kit_ss, DL.kit_st, DL.kit_ts, DL.kit_tt, DL.eqD_int, Pt.D, clashP]
    | c u r =>
      cases m with
      | zero => simp [Pt.ok] at hp
      | succ m =>
      cases n with
      | zero => simp [Pt.ok] at hq
      | succ n =>
      simp only [Pt.ok, Bool.and_eq_true, decide_eq_true_eq] at hp hq
      have e := eqD_str hp.1.1 hq.1.1
      cases hwu : (w == u) with
      | false => simp [F_is_clash, B_is_clash, DL.fl_if, DL.out_if, DL.bind_if, DL.ofl_if, DL.Out.bind_ok, DL.Out.bind_ex, DL.Out.bind_no, DL.sSeq, DL.sIf, DL.sRet, DL.sRetN, DL.sDrop, DL.sAsg, DL.sNil, DL.sNo, DL.sBrk, DL.sCnt, DL.mVar, DL.mC, DL.mNo, DL.mB1, DL.mB2, DL.mAll, DL.aNil, DL.aCons, DL.tOfB, DL.tAndM, DL.tOrM, DL.tNotM, DL.mIf, DL.mAnd, DL.mOr, DL.runB, DL.callN, DL.g1, DL.g2, DL.gNm, DL.gLen, DL.gIsi, DL.tyN, DL.gEq, DL.gNe, DL.gLt, DL.gLe, DL.gGt, DL.gGe, DL.gAdd, DL.gSub, DL.gIx, DL.gIn, DL.gNotIn, DL.inOf, DL.gNot, DL.gTup, DL.gLst, DL.gNewL, DL.gNewD0, DL.gAllB, DL.gAnyB, DL.gSum, DL.lstOf, DL.gTuple, DL.gList, DL.seqOf, DL.iSeq, DL.seqI, DL.lstI, DL.sFor, DL.mLc, DL.wipeE, DL.tTru, DL.Tgt.put, DL.mApp, DL.gApp, DL.isL, DL.isDc, DL.mGet2, DL.gGet, DL.gTupA, DL.gTupT, DL.gsCons, DL.gsNil, DL.gSubT, DL.gPut, DL.sPar, DL.gInt, DL.gMin, DL.iZp, DL.zipI, DL.fl_ok, DL.fl_ex, DL.fl_no, DL.seq_nx, DL.seq_rt, DL.seq_ex, DL.seq_bk, DL.seq_ct, DL.out_nx, DL.out_rt, DL.out_ex, DL.isN_non, DL.isN_tup, DL.isN_str, DL.isN_ref, DL.notN_non, DL.notN_tup, DL.notN_str, DL.notN_ref, DL.atI_zero, DL.atI_one, DL.kit_ss, DL.kit_st, DL.kit_ts, DL.kit_tt, DL.eqD_int, Pt.D, clashP, e, hwu]
      | true =>
        have hl : (Pt.Ds l).length = l.length := by rw [Pt.Ds_map, List.length_map]
        have hr : (Pt.Ds r).length = r.length := by rw [Pt.Ds_map, List.length_map]
        simp [F_is_clash, B_is_clash, DL.fl_if, DL.out_if, DL.bind_if, DL.ofl_if, DL.Out.bind_ok, DL.Out.bind_ex, DL.Out.bind_no, DL.sSeq, DL.sIf, DL.sRet, DL.sRetN, DL.sDrop, DL.sAsg, DL.sNil, DL.sNo, DL.sBrk, DL.sCnt, DL.mVar, DL.mC, DL.mNo, DL.mB1, DL.mB2, DL.mAll, DL.aNil, DL.aCons, DL.tOfB, DL.tAndM, DL.tOrM, DL.tNotM, DL.mIf, DL.mAnd, DL.mOr, DL.runB, DL.callN, DL.g1, DL.g2, DL.gNm, DL.gLen, DL.gIsi, DL.tyN, DL.gEq, DL.gNe, DL.gLt, DL.gLe, DL.gGt, DL.gGe, DL.gAdd, DL.gSub, DL.gIx, DL.gIn, DL.gNotIn, DL.inOf, DL.gNot, DL.gTup, DL.gLst, DL.gNewL, DL.gNewD0, DL.gAllB, DL.gAnyB, DL.gSum, DL.lstOf, DL.gTuple, DL.gList, DL.seqOf, DL.iSeq, DL.seqI, DL.lstI, DL.sFor, DL.mLc, DL.wipeE, DL.tTru, DL.Tgt.put, DL.mApp, DL.gApp, DL.isL, DL.isDc, DL.mGet2, DL.gGet, DL.gTupA, DL.gTupT, DL.gsCons, DL.gsNil, DL.gSubT, DL.gPut, DL.sPar, DL.gInt, DL.gMin, DL.iZp, DL.zipI, DL.fl_ok, DL.fl_ex, DL.fl_no, DL.seq_nx, DL.seq_rt, DL.seq_ex, DL.seq_bk, DL.seq_ct, DL.out_nx, DL.out_rt, DL.out_ex, DL.isN_non, DL.isN_tup, DL.isN_str, DL.isN_ref, DL.notN_non, DL.notN_tup, DL.notN_str, DL.notN_ref, DL.atI_zero, DL.atI_one, DL.kit_ss, DL.kit_st, DL.kit_ts, DL.kit_tt, DL.eqD_int, Pt.D, clashP, e, hwu, hl, hr]
        rw [Bool.eq_iff_iff]; simp; omega
/-! matching -/
def getA (f : List (Str × Pt)) (s : Str) : Option Pt := (f.find? fun x => decide (x.1 = s)).map (·.2)
def kvA (f : List (Str × Pt)) : List (Key × D) := f.map fun x => (.inr x.1, x.2.D)
theorem getD_kv (s : Str) : ∀ f : List (Str × Pt), getD (kvA f) (.inr s) = (getA f s).map Pt.D
  | [] => rfl
  | x :: f => by
    have ih := getD_kv s f
    unfold getD getA kvA at ih ⊢
    by_cases e : x.1 = s
    · simp [e]
    · simp only [List.map_cons, List.find?_cons, Sum.inr.injEq, e, decide_false]
      exact ih
theorem any_kv {s : Str} : ∀ {f : List (Str × Pt)}, getA f s = none → ((kvA f).any fun kv => decide (kv.1 = Sum.inr s)) = false
  | [], _ => rfl
  | x :: f, h => by
    by_cases e : x.1 = s
    · simp [getA, e] at h
    · have h' : getA f s = none := by simpa [getA, e] using h
      have ih := any_kv h'
      simp only [kvA, List.map_cons, List.any_cons, Sum.inr.injEq, e, decide_false, Bool.false_or]
      exact ih
theorem putD_kv {s : Str} {p : Pt} {f : List (Str × Pt)} (h : getA f s = none) : putD (kvA f) (.inr s) p.D = kvA (f ++ [(s, p)]) := by
  unfold putD
  rw [any_kv h]
  simp [kvA]
theorem getA_snoc {s : Str} {p : Pt} : ∀ {f : List (Str × Pt)}, getA f s = none → getA (f ++ [(s, p)]) s = some p
  | [], _ => by simp [getA]
  | x :: f, h => by
    by_cases e : x.1 = s
    · simp [getA, e] at h
    · have h' : getA f s = none := by simpa [getA, e] using h
      have ih := getA_snoc (p := p) h'
      simpa [getA, e] using ih
def fitsL (g : Pt → Pt → List (Str × Pt) → Bool × List (Str × Pt)) : List Pt → List Pt → List (Str × Pt) → Bool × List (Str × Pt)
  | p :: l, q :: r, f => if (g p q f).1 = true then fitsL g l r (g p q f).2 else (false, (g p q f).2)
  | _, _, f => (true, f)
def fitsP : Nat → Pt → Pt → List (Str × Pt) → Bool × List (Str × Pt)
  | 0, _, _, f => (false, f)
  | _ + 1, .v s, q, f => match getA f s with
    | some r => (r.eq q, f)
    | none => (true, f ++ [(s, q)])
  | k + 1, .c w l, .c u r, f => if clashP (.c w l) (.c u r) = true then (false, f) else fitsL (fitsP k) l r f
  | _ + 1, .c _ _, .v _, f => (false, f)
def okA (n : Nat) (f : List (Str × Pt)) : Prop := ∀ x ∈ f, x.2.ok n = true
theorem okA_get {n : Nat} {f : List (Str × Pt)} (h : okA n f) {s : Str} {r : Pt} (e : getA f s = some r) : r.ok n = true := by
  unfold getA at e
  cases hx : f.find? fun x => decide (x.1 = s) with
  | none => rw [hx] at e; cases e
  | some x => rw [hx] at e; cases e; exact h x (List.mem_of_find?_eq_some hx)
theorem okA_snoc {n : Nat} {f : List (Str × Pt)} (h : okA n f) {s : Str} {p : Pt} (hp : p.ok n = true) : okA n (f ++ [(s, p)]) := fun x hx => by
  rcases List.mem_append.mp hx with hx | hx
  · exact h x hx
  · rw [List.mem_singleton.mp hx]; exact hp
def FitsAt (k n : Nat) (p q : Pt) (f : List (Str × Pt)) (S : Store) (j : Nat) : Prop :=
  F_fits k [p.D, q.D, .ref j] S = .ok (.bl (fitsP k p q f).1) (S.set j (.dct (kvA (fitsP k p q f).2))) ∧ okA n (fitsP k p q f).2 ∧ (fitsP k p q f).2.length ≤ f.length + p.wt
theorem fits_loop {k n : Nat} {S0 : Store} {j : Nat} {pd qd : D} (ih : ∀ (p q : Pt) (f : List (Str × Pt)) (S : Store), p.ok k = true → q.ok n = true → okA n f → f.length + p.wt ≤ 1000 → S[j]? = some (.dct (kvA f)) → FitsAt k n p q f S j) :
    ∀ (l r : List Pt) (f : List (Str × Pt)) (S : Store) (x y : Option D), Pt.oks k l = true → Pt.oks n r = true → okA n f → f.length + Pt.wts l ≤ 1000 → S[j]? = some (.dct (kvA f)) →
    ((forGo [] S0 (gTupA 2 (gsCons (gNm 3) (gsCons (gNm 4) gsNil)))
      (sIf (tNotM (tOfB (mAll (aCons (mVar 3) (aCons (mVar 4) (aCons (mVar 2) aNil))) (callN 3 (F_fits k))))) (sRet (mC (.bl false))) sNil)
      (zipD (Pt.Ds l) (Pt.Ds r)) [some pd, some qd, some (.ref j), x, y] S).seq (sRet (mC (.bl true)))).out = .ok (.bl (fitsL (fitsP k) l r f).1) (S.set j (.dct (kvA (fitsL (fitsP k) l r f).2)))
      ∧ okA n (fitsL (fitsP k) l r f).2 ∧ (fitsL (fitsP k) l r f).2.length ≤ f.length + Pt.wts l
  | [], r, f, S, x, y, _, _, hf, _, hS => by
    refine ⟨?_, by simpa [fitsL] using hf, by simp [fitsL]⟩
    simp [Pt.Ds, zipD, for_nil, DL.fl_if, DL.out_if, DL.bind_if, DL.ofl_if, DL.Out.bind_ok, DL.Out.bind_ex, DL.Out.bind_no, DL.sSeq, DL.sIf, DL.sRet, DL.sRetN, DL.sDrop, DL.sAsg, DL.sNil, DL.sNo, DL.sBrk, DL.sCnt, DL.mVar, DL.mC, DL.mNo, DL.mB1, DL.mB2, DL.mAll, DL.aNil, DL.aCons, DL.tOfB, DL.tAndM, DL.tOrM, DL.tNotM, DL.mIf, DL.mAnd, DL.mOr, DL.runB, DL.callN, DL.g1, DL.g2, DL.gNm, DL.gLen, DL.gIsi, DL.tyN, DL.gEq, DL.gNe, DL.gLt, DL.gLe, DL.gGt, DL.gGe, DL.gAdd, DL.gSub, DL.gIx, DL.gIn, DL.gNotIn, DL.inOf, DL.gNot, DL.gTup, DL.gLst, DL.gNewL, DL.gNewD0, DL.gAllB, DL.gAnyB, DL.gSum, DL.lstOf, DL.gTuple, DL.gList, DL.seqOf, DL.iSeq, DL.seqI, DL.lstI, DL.sFor, DL.mLc, DL.wipeE, DL.tTru, DL.Tgt.put, DL.mApp, DL.gApp, DL.isL, DL.isDc, DL.mGet2, DL.gGet, DL.gTupA, DL.gTupT, DL.gsCons, DL.gsNil, DL.gSubT, DL.gPut, DL.sPar, DL.gInt, DL.gMin, DL.iZp, DL.zipI, DL.fl_ok, DL.fl_ex, DL.fl_no, DL.seq_nx, DL.seq_rt, DL.seq_ex, DL.seq_bk, DL.seq_ct, DL.out_nx, DL.out_rt, DL.out_ex, DL.isN_non, DL.isN_tup, DL.isN_str, DL.isN_ref, DL.notN_non, DL.notN_tup, DL.notN_str, DL.notN_ref, DL.atI_zero, DL.atI_one, DL.kit_ss, DL.kit_st, DL.kit_ts, DL.kit_tt, DL.eqD_int, fitsL, set_self hS]
  | p :: l, [], f, S, x, y, _, _, hf, _, hS => by
    refine ⟨?_, by simpa [fitsL] using hf, by simp [fitsL]⟩
    simp [Pt.Ds, zipD, for_nil, DL.fl_if, DL.out_if, DL.bind_if, DL.ofl_if, DL.Out.bind_ok, DL.Out.bind_ex, DL.Out.bind_no, DL.sSeq, DL.sIf, DL.sRet, DL.sRetN, DL.sDrop, DL.sAsg, DL.sNil, DL.sNo, DL.sBrk, DL.sCnt, DL.mVar, DL.mC, DL.mNo, DL.mB1, DL.mB2, DL.mAll, DL.aNil, DL.aCons, DL.tOfB, DL.tAndM, DL.tOrM, DL.tNotM, DL.mIf, DL.mAnd, DL.mOr, DL.runB, DL.callN, DL.g1, DL.g2, DL.gNm, DL.gLen, DL.gIsi, DL.tyN, DL.gEq, DL.gNe, DL.gLt, DL.gLe, DL.gGt, DL.gGe, DL.gAdd, DL.gSub, DL.gIx, DL.gIn, DL.gNotIn, DL.inOf, DL.gNot, DL.gTup, DL.gLst, DL.gNewL, DL.gNewD0, DL.gAllB, DL.gAnyB, DL.gSum, DL.lstOf, DL.gTuple, DL.gList, DL.seqOf, DL.iSeq, DL.seqI, DL.lstI, DL.sFor, DL.mLc, DL.wipeE, DL.tTru, DL.Tgt.put, DL.mApp, DL.gApp, DL.isL, DL.isDc, DL.mGet2, DL.gGet, DL.gTupA, DL.gTupT, DL.gsCons, DL.gsNil, DL.gSubT, DL.gPut, DL.sPar, DL.gInt, DL.gMin, DL.iZp, DL.zipI, DL.fl_ok, DL.fl_ex, DL.fl_no, DL.seq_nx, DL.seq_rt, DL.seq_ex, DL.seq_bk, DL.seq_ct, DL.out_nx, DL.out_rt, DL.out_ex, DL.isN_non, DL.isN_tup, DL.isN_str, DL.isN_ref, DL.notN_non, DL.notN_tup, DL.notN_str, DL.notN_ref, DL.atI_zero, DL.atI_one, DL.kit_ss, DL.kit_st, DL.kit_ts, DL.kit_tt, DL.eqD_int, fitsL, set_self hS]
  | p :: l, q :: r, f, S, x, y, hl, hr, hf, hw, hS => by
    simp only [Pt.oks, Bool.and_eq_true] at hl hr
    simp only [Pt.wts] at hw
    obtain ⟨e1, e2, e3⟩ := ih p q f S hl.1 hr.1 hf (by omega) hS
    rw [Pt.Ds, Pt.Ds, zipD, for_cons (ρ1 := [some pd, some qd, some (.ref j), some p.D, some q.D]) (S1 := S) (by simp [DL.fl_if, DL.out_if, DL.bind_if, DL.ofl_if, DL.Out.bind_ok, DL.Out.bind_ex, DL.Out.bind_no, DL.sSeq, DL.sIf, DL.sRet, DL.sRetN, DL.sDrop, DL.sAsg, DL.sNil, DL.sNo, DL.sBrk, DL.sCnt, DL.mVar, DL.mC, DL.mNo, DL.mB1, DL.mB2, DL.mAll, DL.aNil, DL.aCons, DL.tOfB, DL.tAndM, DL.tOrM, DL.tNotM, DL.mIf, DL.mAnd, DL.mOr, DL.runB, DL.callN, DL.g1, DL.g2, DL.gNm, DL.gLen, DL.gIsi, DL.tyN, DL.gEq, DL.gNe, DL.gLt, DL.gLe, DL.gGt, DL.gGe, DL.gAdd, DL.gSub, DL.gIx, DL.gIn, DL.gNotIn, DL.inOf, DL.gNot, DL.gTup, DL.gLst, DL.gNewL, DL.gNewD0, DL.gAllB, DL.gAnyB, DL.gSum, DL.lstOf, DL.gTuple, DL.gList, DL.seqOf, DL.iSeq, DL.seqI, DL.lstI, DL.sFor, DL.mLc, DL.wipeE, DL.tTru, DL.Tgt.put, DL.mApp, DL.gApp, DL.isL, DL.isDc, DL.mGet2, DL.gGet, DL.gTupA, DL.gTupT, DL.gsCons, DL.gsNil, DL.gSubT, DL.gPut, DL.sPar, DL.gInt, DL.gMin, DL.iZp, DL.zipI, DL.fl_ok, DL.fl_ex, DL.fl_no, DL.seq_nx, DL.seq_rt, DL.seq_ex, DL.seq_bk, DL.seq_ct, DL.out_nx, DL.out_rt, DL.out_ex, DL.isN_non, DL.isN_tup, DL.isN_str, DL.isN_ref, DL.notN_non, DL.notN_tup, DL.notN_str, DL.notN_ref, DL.atI_zero, DL.atI_one, DL.kit_ss, DL.kit_st, DL.kit_ts, DL.kit_tt, DL.eqD_int])]
    cases hb : (fitsP k p q f).1 with
    | false =>
      rw [hb] at e1
      refine ⟨?_, ?_, ?_⟩
      · simp [DL.fl_if, DL.out_if, DL.bind_if, DL.ofl_if, DL.Out.bind_ok, DL.Out.bind_ex, DL.Out.bind_no, DL.sSeq, DL.sIf, DL.sRet, DL.sRetN, DL.sDrop, DL.sAsg, DL.sNil, DL.sNo, DL.sBrk, DL.sCnt, DL.mVar, DL.mC, DL.mNo, DL.mB1, DL.mB2, DL.mAll, DL.aNil, DL.aCons, DL.tOfB, DL.tAndM, DL.tOrM, DL.tNotM, DL.mIf, DL.mAnd, DL.mOr, DL.runB, DL.callN, DL.g1, DL.g2, DL.gNm, DL.gLen, DL.gIsi, DL.tyN, DL.gEq, DL.gNe, DL.gLt, DL.gLe, DL.gGt, DL.gGe, DL.gAdd, DL.gSub, DL.gIx, DL.gIn, DL.gNotIn, DL.inOf, DL.gNot, DL.gTup, DL.gLst, DL.gNewL, DL.gNewD0, DL.gAllB, DL.gAnyB, DL.gSum, DL.lstOf, DL.gTuple, DL.gList, DL.seqOf, DL.iSeq, DL.seqI, DL.lstI, DL.sFor, DL.mLc, DL.wipeE, DL.tTru, DL.Tgt.put, DL.mApp, DL.gApp, DL.isL, DL.isDc, DL.mGet2, DL.gGet, DL.gTupA, DL.gTupT, DL.gsCons, DL.gsNil, DL.gSubT, DL.gPut, DL.sPar, DL.gInt, DL.gMin, DL.iZp, DL.zipI, DL.fl_ok, DL.fl_ex, DL.fl_no, DL.seq_nx, DL.seq_rt, DL.seq_ex, DL.seq_bk, DL.seq_ct, DL.out_nx, DL.out_rt, DL.out_ex, DL.isN_non, DL.isN_tup, DL.isN_str, DL.isN_ref, DL.notN_non, DL.notN_tup, DL.notN_str, DL.notN_ref, DL.atI_zero, DL.atI_one, DL.kit_ss, DL.kit_st, DL.kit_ts, DL.kit_tt, DL.eqD_int, e1, fitsL, hb]
      · simpa [fitsL, hb] using e2
      · simp only [fitsL, hb, Pt.wts]; simp; omega
    | true =>
      rw [hb] at e1
      have hi := fits_loop (S0 := S0) (pd := pd) (qd := qd) ih l r (fitsP k p q f).2 (S.set j (.dct (kvA (fitsP k p q f).2))) (some p.D) (some q.D) hl.2 hr.2 e2 (by omega) (set_at hS)
      obtain ⟨g1, g2, g3⟩ := hi
      refine ⟨?_, ?_, ?_⟩
      · simp [DL.fl_if, DL.out_if, DL.bind_if, DL.ofl_if, DL.Out.bind_ok, DL.Out.bind_ex, DL.Out.bind_no, DL.sSeq, DL.sIf, DL.sRet, DL.sRetN, DL.sDrop, DL.sAsg, DL.sNil, DL.sNo, DL.sBrk, DL.sCnt, DL.mVar, DL.mC, DL.mNo, DL.mB1, DL.mB2, DL.mAll, DL.aNil, DL.aCons, DL.tOfB, DL.tAndM, DL.tOrM, DL.tNotM, DL.mIf, DL.mAnd, DL.mOr, DL.runB, DL.callN, DL.g1, DL.g2, DL.gNm, DL.gLen, DL.gIsi, DL.tyN, DL.gEq, DL.gNe, DL.gLt, DL.gLe, DL.gGt, DL.gGe, DL.gAdd, DL.gSub, DL.gIx, DL.gIn, DL.gNotIn, DL.inOf, DL.gNot, DL.gTup, DL.gLst, DL.gNewL, DL.gNewD0, DL.gAllB, DL.gAnyB, DL.gSum, DL.lstOf, DL.gTuple, DL.gList, DL.seqOf, DL.iSeq, DL.seqI, DL.lstI, DL.sFor, DL.mLc, DL.wipeE, DL.tTru, DL.Tgt.put, DL.mApp, DL.gApp, DL.isL, DL.isDc, DL.mGet2, DL.gGet, DL.gTupA, DL.gTupT, DL.gsCons, DL.gsNil, DL.gSubT, DL.gPut, DL.sPar, DL.gInt, DL.gMin, DL.iZp, DL.zipI, DL.fl_ok, DL.fl_ex, DL.fl_no, DL.seq_nx, DL.seq_rt, DL.seq_ex, DL.seq_bk, DL.seq_ct, DL.out_nx, DL.out_rt, DL.out_ex, DL.isN_non, DL.isN_tup, DL.isN_str, DL.isN_ref, DL.notN_non, DL.notN_tup, DL.notN_str, DL.notN_ref, DL.atI_zero, DL.atI_one, DL.kit_ss, DL.kit_st, DL.kit_ts, DL.kit_tt, DL.eqD_int, e1, fitsL, hb]
        simpa [List.set_set] using g1
      · simpa [fitsL, hb] using g2
      · simp only [fitsL, hb, Pt.wts]; simp; omega
theorem zipDs_len : True := trivial
theorem F_fits_ok {n : Nat} (hn : n ≤ 32) {j : Nat} : ∀ (k : Nat), k ≤ 32 → ∀ (p q : Pt) (f : List (Str × Pt)) (S : Store), p.ok k = true → q.ok n = true → okA n f → f.length + p.wt ≤ 1000 → S[j]? = some (.dct (kvA f)) → FitsAt k n p q f S j
  | 0, _, p, q, f, S, hp, _, _, _, _ => by simp [Pt.ok] at hp
  | k + 1, hk, .v s, q, f, S, hp, hq, hf, hw, hS => by
    cases hg : getA f s with
    | some r =>
      have hr := okA_get hf hg
      have e := eqD_pt hn hn hr hq
      refine ⟨?_, by simpa [fitsP, hg] using hf, by simp [fitsP, hg]⟩
      simp [F_fits, B_fits, DL.fl_if, DL.out_if, DL.bind_if, DL.ofl_if, DL.Out.bind_ok, DL.Out.bind_ex, DL.Out.bind_no, DL.sSeq, DL.sIf, DL.sRet, DL.sRetN, DL.sDrop, DL.sAsg, DL.sNil, DL.sNo, DL.sBrk, DL.sCnt, DL.mVar, DL.mC, DL.mNo, DL.mB1, DL.mB2, DL.mAll, DL.aNil, DL.aCons, DL.tOfB, DL.tAndM, DL.tOrM, DL.tNotM, DL.mIf, DL.mAnd, DL.mOr, DL.runB, DL.callN, DL.g1, DL.g2, DL.gNm, DL.gLen, DL.gIsi, DL.tyN, DL.gEq, DL.gNe, DL.gLt, DL.gLe, DL.gGt, DL.gGe, DL.gAdd, DL.gSub, DL.gIx, DL.gIn, DL.gNotIn, DL.inOf, DL.gNot, DL.gTup, DL.gLst, DL.gNewL, DL.gNewD0, DL.gAllB, DL.gAnyB, DL.gSum, DL.lstOf, DL.gTuple, DL.gList, DL.seqOf, DL.iSeq, DL.seqI, DL.lstI, DL.sFor, DL.mLc, DL.wipeE, DL.tTru, DL.Tgt.put, DL.mApp, DL.gApp, DL.isL, DL.isDc, DL.mGet2, DL.gGet, DL.gTupA, DL.gTupT, DL.gsCons, DL.gsNil, DL.gSubT, DL.gPut, DL.sPar, DL.gInt, DL.gMin, DL.iZp, DL.zipI, DL.fl_ok, DL.fl_ex, DL.fl_no, DL.seq_nx, DL.seq_rt, DL.seq_ex, DL.seq_bk, DL.seq_ct, DL.out_nx, DL.out_rt, DL.out_ex, DL.isN_non, DL.isN_tup, DL.isN_str, DL.isN_ref, DL.notN_non, DL.notN_tup, DL.notN_str, DL.notN_ref, DL.atI_zero, DL.atI_one, DL.kit_ss, DL.kit_st, DL.kit_ts, DL.kit_tt, DL.eqD_int, Pt.D, hS, keyOf, getD_kv, hg, e, fitsP, set_self hS]
    | none =>
      have e := eqD_pt hn hn hq hq
      have hb : (kvA f).length < big := by unfold big; simp [kvA]; omega
      refine ⟨?_, by simpa [fitsP, hg] using okA_snoc hf hq, by simp [fitsP, hg, Pt.wt]⟩
      simp [F_fits, B_fits, DL.fl_if, DL.out_if, DL.bind_if, DL.ofl_if, DL.Out.bind_ok, DL.Out.bind_ex, DL.Out.bind_no, DL.sSeq, DL.sIf, DL.sRet, DL.sRetN, DL.sDrop, DL.sAsg, DL.sNil, DL.sNo, DL.sBrk, DL.sCnt, DL.mVar, DL.mC, DL.mNo, DL.mB1, DL.mB2, DL.mAll, DL.aNil, DL.aCons, DL.tOfB, DL.tAndM, DL.tOrM, DL.tNotM, DL.mIf, DL.mAnd, DL.mOr, DL.runB, DL.callN, DL.g1, DL.g2, DL.gNm, DL.gLen, DL.gIsi, DL.tyN, DL.gEq, DL.gNe, DL.gLt, DL.gLe, DL.gGt, DL.gGe, DL.gAdd, DL.gSub, DL.gIx, DL.gIn, DL.gNotIn, DL.inOf, DL.gNot, DL.gTup, DL.gLst, DL.gNewL, DL.gNewD0, DL.gAllB, DL.gAnyB, DL.gSum, DL.lstOf, DL.gTuple, DL.gList, DL.seqOf, DL.iSeq, DL.seqI, DL.lstI, DL.sFor, DL.mLc, DL.wipeE, DL.tTru, DL.Tgt.put, DL.mApp, DL.gApp, DL.isL, DL.isDc, DL.mGet2, DL.gGet, DL.gTupA, DL.gTupT, DL.gsCons, DL.gsNil, DL.gSubT, DL.gPut, DL.sPar, DL.gInt, DL.gMin, DL.iZp, DL.zipI, DL.fl_ok, DL.fl_ex, DL.fl_no, DL.seq_nx, DL.seq_rt, DL.seq_ex, DL.seq_bk, DL.seq_ct, DL.out_nx, DL.out_rt, DL.out_ex, DL.isN_non, DL.isN_tup, DL.isN_str, DL.isN_ref, DL.notN_non, DL.notN_tup, DL.notN_str, DL.notN_ref, DL.atI_zero, DL.atI_one, DL.kit_ss, DL.kit_st, DL.kit_ts, DL.kit_tt, DL.eqD_int, Pt.D, hS, keyOf, getD_kv, hg, e, fitsP, putD_kv hg, set_at hS, getA_snoc hg, hb, (Pt.eq_iff q q).mpr rfl]
  | k + 1, hk, .c w l, .v s, f, S, hp, hq, hf, hw, hS => by
    have hc := F_is_clash_ok hp hq S
    refine ⟨?_, by simpa [fitsP] using hf, by simp [fitsP]⟩
    simp only [Pt.D] at hc
    simp [F_fits, B_fits, DL.fl_if, DL.out_if, DL.bind_if, DL.ofl_if, DL.Out.bind_ok, DL.Out.bind_ex, DL.Out.bind_no, DL.sSeq, DL.sIf, DL.sRet, DL.sRetN, DL.sDrop, DL.sAsg, DL.sNil, DL.sNo, DL.sBrk, DL.sCnt, DL.mVar, DL.mC, DL.mNo, DL.mB1, DL.mB2, DL.mAll, DL.aNil, DL.aCons, DL.tOfB, DL.tAndM, DL.tOrM, DL.tNotM, DL.mIf, DL.mAnd, DL.mOr, DL.runB, DL.callN, DL.g1, DL.g2, DL.gNm, DL.gLen, DL.gIsi, DL.tyN, DL.gEq, DL.gNe, DL.gLt, DL.gLe, DL.gGt, DL.gGe, DL.gAdd, DL.gSub, DL.gIx, DL.gIn, DL.gNotIn, DL.inOf, DL.gNot, DL.gTup, DL.gLst, DL.gNewL, DL.gNewD0, DL.gAllB, DL.gAnyB, DL.gSum, DL.lstOf, DL.gTuple, DL.gList, DL.seqOf, DL.iSeq, DL.seqI, DL.lstI, DL.sFor, DL.mLc, DL.wipeE, DL.tTru, DL.Tgt.put, DL.mApp, DL.gApp, DL.isL, DL.isDc, DL.mGet2, DL.gGet, DL.gTupA, DL.gTupT, DL.gsCons, DL.gsNil, DL.gSubT, DL.gPut, DL.sPar, DL.gInt, DL.gMin, DL.iZp, DL.zipI, DL.fl_ok, DL.fl_ex, DL.fl_no, DL.seq_nx, DL.seq_rt, DL.seq_ex, DL.seq_bk, DL.seq_ct, DL.out_nx, DL.out_rt, DL.out_ex, DL.isN_non, DL.isN_tup, DL.isN_str, DL.isN_ref, DL.notN_non, DL.notN_tup, DL.notN_str, DL.notN_ref, DL.atI_zero, DL.atI_one, DL.kit_ss, DL.kit_st, DL.kit_ts, DL.kit_tt, DL.eqD_int, Pt.D, hc, clashP, fitsP, set_self hS]
  | k + 1, hk, .c w l, .c u r, f, S, hp, hq, hf, hw, hS => by
    have hc := F_is_clash_ok hp hq S
    cases n with
    | zero => simp [Pt.ok] at hq
    | succ n =>
    simp only [Pt.ok, Bool.and_eq_true, decide_eq_true_eq] at hp hq
    simp only [Pt.D] at hc
    simp only [Pt.wt] at hw
    cases hcl : clashP (.c w l) (.c u r) with
    | true =>
      rw [hcl] at hc
      refine ⟨?_, by simpa [fitsP, hcl] using hf, by simp [fitsP, hcl]⟩
      simp [F_fits, B_fits, DL.fl_if, DL.out_if, DL.bind_if, DL.ofl_if, DL.Out.bind_ok, DL.Out.bind_ex, DL.Out.bind_no, DL.sSeq, DL.sIf, DL.sRet, DL.sRetN, DL.sDrop, DL.sAsg, DL.sNil, DL.sNo, DL.sBrk, DL.sCnt, DL.mVar, DL.mC, DL.mNo, DL.mB1, DL.mB2, DL.mAll, DL.aNil, DL.aCons, DL.tOfB, DL.tAndM, DL.tOrM, DL.tNotM, DL.mIf, DL.mAnd, DL.mOr, DL.runB, DL.callN, DL.g1, DL.g2, DL.gNm, DL.gLen, DL.gIsi, DL.tyN, DL.gEq, DL.gNe, DL.gLt, DL.gLe, DL.gGt, DL.gGe, DL.gAdd, DL.gSub, DL.gIx, DL.gIn, DL.gNotIn, DL.inOf, DL.gNot, DL.gTup, DL.gLst, DL.gNewL, DL.gNewD0, DL.gAllB, DL.gAnyB, DL.gSum, DL.lstOf, DL.gTuple, DL.gList, DL.seqOf, DL.iSeq, DL.seqI, DL.lstI, DL.sFor, DL.mLc, DL.wipeE, DL.tTru, DL.Tgt.put, DL.mApp, DL.gApp, DL.isL, DL.isDc, DL.mGet2, DL.gGet, DL.gTupA, DL.gTupT, DL.gsCons, DL.gsNil, DL.gSubT, DL.gPut, DL.sPar, DL.gInt, DL.gMin, DL.iZp, DL.zipI, DL.fl_ok, DL.fl_ex, DL.fl_no, DL.seq_nx, DL.seq_rt, DL.seq_ex, DL.seq_bk, DL.seq_ct, DL.out_nx, DL.out_rt, DL.out_ex, DL.isN_non, DL.isN_tup, DL.isN_str, DL.isN_ref, DL.notN_non, DL.notN_tup, DL.notN_str, DL.notN_ref, DL.atI_zero, DL.atI_one, DL.kit_ss, DL.kit_st, DL.kit_ts, DL.kit_tt, DL.eqD_int, Pt.D, hc, fitsP, hcl, set_self hS]
    | false =>
      rw [hcl] at hc
      have lo := fits_loop (k := k) (n := n + 1) (S0 := S) (j := j) (pd := .tup [.str w, .tup (Pt.Ds l)]) (qd := .tup [.str u, .tup (Pt.Ds r)]) (fun p q f S a b c d e => F_fits_ok hn k (by omega) p q f S a b c d e) l r f S none none hp.2 (Pt.oks_up _ _ hq.2) hf (by omega) hS
      obtain ⟨g1, g2, g3⟩ := lo
      refine ⟨?_, by simpa [fitsP, hcl] using g2, by simp only [fitsP, hcl, Pt.wt]; simp; omega⟩
      simp [F_fits, B_fits, DL.fl_if, DL.out_if, DL.bind_if, DL.ofl_if, DL.Out.bind_ok, DL.Out.bind_ex, DL.Out.bind_no, DL.sSeq, DL.sIf, DL.sRet, DL.sRetN, DL.sDrop, DL.sAsg, DL.sNil, DL.sNo, DL.sBrk, DL.sCnt, DL.mVar, DL.mC, DL.mNo, DL.mB1, DL.mB2, DL.mAll, DL.aNil, DL.aCons, DL.tOfB, DL.tAndM, DL.tOrM, DL.tNotM, DL.mIf, DL.mAnd, DL.mOr, DL.runB, DL.callN, DL.g1, DL.g2, DL.gNm, DL.gLen, DL.gIsi, DL.tyN, DL.gEq, DL.gNe, DL.gLt, DL.gLe, DL.gGt, DL.gGe, DL.gAdd, DL.gSub, DL.gIx, DL.gIn, DL.gNotIn, DL.inOf, DL.gNot, DL.gTup, DL.gLst, DL.gNewL, DL.gNewD0, DL.gAllB, DL.gAnyB, DL.gSum, DL.lstOf, DL.gTuple, DL.gList, DL.seqOf, DL.iSeq, DL.seqI, DL.lstI, DL.sFor, DL.mLc, DL.wipeE, DL.tTru, DL.Tgt.put, DL.mApp, DL.gApp, DL.isL, DL.isDc, DL.mGet2, DL.gGet, DL.gTupA, DL.gTupT, DL.gsCons, DL.gsNil, DL.gSubT, DL.gPut, DL.sPar, DL.gInt, DL.gMin, DL.iZp, DL.zipI, DL.fl_ok, DL.fl_ex, DL.fl_no, DL.seq_nx, DL.seq_rt, DL.seq_ex, DL.seq_bk, DL.seq_ct, DL.out_nx, DL.out_rt, DL.out_ex, DL.isN_non, DL.isN_tup, DL.isN_str, DL.isN_ref, DL.notN_non, DL.notN_tup, DL.notN_str, DL.notN_ref, DL.atI_zero, DL.atI_one, DL.kit_ss, DL.kit_st, DL.kit_ts, DL.kit_tt, DL.eqD_int, Pt.D, hc, fitsP, hcl]
      simpa using g1
end GN

end

/-! ## MR3f -/
section
set_option Elab.async false
set_option linter.all false
set_option maxRecDepth 100000
namespace GN
open PySem PySem.Spec PyProof.Rows L2 DL
/-! putting in -/
mutual
def fillP (f : List (Str × Pt)) : Pt → Pt
  | .v s => (getA f s).getD (.v s)
  | .c w l => .c w (fillPs f l)
def fillPs (f : List (Str × Pt)) : List Pt → List Pt
  | [] => []
  | p :: l => fillP f p :: fillPs f l
end
theorem fillPs_map (f : List (Str × Pt)) : ∀ l, fillPs f l = l.map (fillP f)
  | [] => rfl
  | p :: l => by rw [fillPs, fillPs_map f l]; rfl
end GN

end

/-! ## MR4a -/
section
set_option Elab.async false
set_option linter.all false
set_option maxRecDepth 100000
namespace GN
open PySem PySem.Spec PyProof.Rows L2 DL
theorem pureF_at {F : List D → Store → Out D} {ds : List D} {S S1 : Store} {d : D} (h : F ds S = .ok d S1) (hp : D.pure d = true) (ht : S1.take S.length = S) : pureF F ds S = .ok d S := by
  unfold pureF
  rw [h]
  simp only [hp, ht, and_self, if_true]
mutual
theorem pt_pure : ∀ p : Pt, D.pure p.D = true
  | .v s => rfl
  | .c w l => by simp only [Pt.D, D.pure, D.pureAll, pt_pures l, Bool.and_self]
theorem pt_pures : ∀ l : List Pt, D.pureAll (Pt.Ds l) = true
  | [] => rfl
  | p :: l => by simp only [Pt.Ds, D.pureAll, pt_pure p, pt_pures l, Bool.and_self]
end
theorem strs_pure : ∀ l : List Str, D.pureAll (l.map D.str) = true
  | [] => rfl
  | s :: l => by simp only [List.map_cons, D.pureAll, D.pure, strs_pure l, Bool.and_self]
theorem last_at (S : Store) (c : Cell) : (S ++ [c])[S.length]? = some c := by simp
theorem last_set (S : Store) (c c' : Cell) : (S ++ [c]).set S.length c' = S ++ [c'] := by simp
structure IsPat (p : Pt) : Prop where
  ok : p.ok 6 = true
  sh : isShapeB VARS p = true
  wt : p.wt ≤ 500
/-- what stands by: a pattern with fitting size -/
def fitB (p : Pt) : Bool := p.ok 6 && isShapeB VARS p && decide (p.wt ≤ 500)
theorem fit_pat {p : Pt} (h : fitB p = true) : IsPat p := by
  simp only [fitB, Bool.and_eq_true, decide_eq_true_eq] at h
  exact ⟨h.1.1, h.1.2, h.2⟩
end GN

end

/-! ## MR4n -/
section
set_option Elab.async false
set_option linter.all false
set_option maxRecDepth 100000
namespace GN
open PySem PySem.Spec PyProof.Rows L2 DL
/-! names by places -/
def putA (f : List (Str × Pt)) (s : Str) (p : Pt) : List (Str × Pt) := if (f.any fun x => decide (x.1 = s)) = true then f.map (fun x => if x.1 = s then (x.1, p) else x) else f ++ [(s, p)]
theorem any_kvA (s : Str) : ∀ f : List (Str × Pt), ((kvA f).any fun kv => decide (kv.1 = Sum.inr s)) = f.any fun x => decide (x.1 = s)
  | [] => rfl
  | x :: f => by
    have ih := any_kvA s f
    simp only [kvA, List.map_cons, List.any_cons, Sum.inr.injEq] at ih ⊢
    rw [ih]
theorem kvA_put (f : List (Str × Pt)) (s : Str) (p : Pt) : putD (kvA f) (.inr s) p.D = kvA (putA f s p) := by
  unfold putD putA
  rw [any_kvA]
  split
  · simp only [kvA, List.map_map]
    apply List.map_congr_left
    intro x _
    by_cases e : x.1 = s <;> simp [e]
  · simp [kvA]
def nameA (vs : List Str) (lt : Str) : List (Str × Pt) := (vs.zip (lt.cps.toList.map fun c => Pt.v ⟨#[c]⟩)).foldl (fun acc x => putA acc x.1 x.2) []
theorem name_fold : ∀ (l : List (Str × Pt)) (f : List (Str × Pt)), (l.map fun x => ((.inr x.1, x.2.D) : Key × D)).foldl (fun acc kv => putD acc kv.1 kv.2) (kvA f) = kvA (l.foldl (fun acc x => putA acc x.1 x.2) f)
  | [], f => rfl
  | x :: l, f => by simp only [List.map_cons, List.foldl_cons, kvA_put]; exact name_fold l _
theorem keys_strs : ∀ l : List Str, keysOf (l.map D.str) = some (l.map Sum.inr)
  | [] => rfl
  | s :: l => by simp only [List.map_cons, keysOf, keyOf, keys_strs l]
theorem zip_names (vs : List Str) (cs : List Nat) : ((vs.map Sum.inr : List Key).zip (cs.map fun c => D.str ⟨#[c]⟩)) = (vs.zip (cs.map fun c => Pt.v ⟨#[c]⟩)).map fun x => ((.inr x.1, x.2.D) : Key × D) := by
  induction vs generalizing cs with
  | nil => rfl
  | cons s vs ih =>
    cases cs with
    | nil => rfl
    | cons c cs => simp only [List.map_cons, List.zip_cons_cons, ih cs]; rfl
end GN

end

/-! ## MR4m -/
section
set_option Elab.async false
set_option linter.all false
set_option maxRecDepth 100000
namespace GN
open PySem PySem.Spec PyProof.Rows L2 DL
theorem F_match_ok {p q : Pt} (h : IsPat p) (hq : q.ok 6 = true) (hs : isShapeB "" q = true) (S : Store) :
    F_match [p.D, q.D] S = if (fitsP 6 p q []).1 = true then .ok (.ref S.length) (S ++ [.dct (kvA (fitsP 6 p q []).2)]) else .ok .non (S ++ [.dct (kvA (fitsP 6 p q []).2)]) := by
  have hn := F_need_pattern_ok h.ok h.sh S
  have ht := F_need_term_ok hq hs S
  obtain ⟨e1, _, _⟩ := F_fits_ok (n := 6) (by decide) (j := S.length) 6 (by decide) p q [] (S ++ [.dct []]) h.ok hq (fun _ m => by cases m) (by have := h.wt; simp; omega) (by simp [kvA])
  rw [last_set] at e1
  by_cases hb : (fitsP 6 p q []).1 = true
  · rw [hb] at e1
    simp [F_match, B_match, DL.fl_if, DL.out_if, DL.bind_if, DL.ofl_if, DL.Out.bind_ok, DL.Out.bind_ex, DL.Out.bind_no, DL.sSeq, DL.sIf, DL.sRet, DL.sRetN, DL.sDrop, DL.sAsg, DL.sNil, DL.sNo, DL.sBrk, DL.sCnt, DL.mVar, DL.mC, DL.mNo, DL.mB1, DL.mB2, DL.mAll, DL.aNil, DL.aCons, DL.tOfB, DL.tAndM, DL.tOrM, DL.tNotM, DL.mIf, DL.mAnd, DL.mOr, DL.runB, DL.callN, DL.g1, DL.g2, DL.gNm, DL.gLen, DL.gIsi, DL.tyN, DL.gEq, DL.gNe, DL.gLt, DL.gLe, DL.gGt, DL.gGe, DL.gAdd, DL.gSub, DL.gIx, DL.gIn, DL.gNotIn, DL.inOf, DL.gNot, DL.gTup, DL.gLst, DL.gNewL, DL.gNewD0, DL.gAllB, DL.gAnyB, DL.gSum, DL.lstOf, DL.gTuple, DL.gList, DL.seqOf, DL.iSeq, DL.seqI, DL.lstI, DL.sFor, DL.mLc, DL.wipeE, DL.tTru, DL.Tgt.put, DL.mApp, DL.gApp, DL.isL, DL.isDc, DL.mGet2, DL.gGet, DL.gTupA, DL.gTupT, DL.gsCons, DL.gsNil, DL.gSubT, DL.gPut, DL.sPar, DL.gInt, DL.gMin, DL.iZp, DL.zipI, DL.fl_ok, DL.fl_ex, DL.fl_no, DL.seq_nx, DL.seq_rt, DL.seq_ex, DL.seq_bk, DL.seq_ct, DL.out_nx, DL.out_rt, DL.out_ex, DL.isN_non, DL.isN_tup, DL.isN_str, DL.isN_ref, DL.notN_non, DL.notN_tup, DL.notN_str, DL.notN_ref, DL.atI_zero, DL.atI_one, DL.kit_ss, DL.kit_st, DL.kit_ts, DL.kit_tt, DL.eqD_int, hn, ht, e1, hb]
  · have hb' : (fitsP 6 p q []).1 = false := by simpa using hb
    rw [hb'] at e1
    simp [F_match, B_match, DL.fl_if, DL.out_if, DL.bind_if, DL.ofl_if, DL.Out.bind_ok, DL.Out.bind_ex, DL.Out.bind_no, DL.sSeq, DL.sIf, DL.sRet, DL.sRetN, DL.sDrop, DL.sAsg, DL.sNil, DL.sNo, DL.sBrk, DL.sCnt, DL.mVar, DL.mC, DL.mNo, DL.mB1, DL.mB2, DL.mAll, DL.aNil, DL.aCons, DL.tOfB, DL.tAndM, DL.tOrM, DL.tNotM, DL.mIf, DL.mAnd, DL.mOr, DL.runB, DL.callN, DL.g1, DL.g2, DL.gNm, DL.gLen, DL.gIsi, DL.tyN, DL.gEq, DL.gNe, DL.gLt, DL.gLe, DL.gGt, DL.gGe, DL.gAdd, DL.gSub, DL.gIx, DL.gIn, DL.gNotIn, DL.inOf, DL.gNot, DL.gTup, DL.gLst, DL.gNewL, DL.gNewD0, DL.gAllB, DL.gAnyB, DL.gSum, DL.lstOf, DL.gTuple, DL.gList, DL.seqOf, DL.iSeq, DL.seqI, DL.lstI, DL.sFor, DL.mLc, DL.wipeE, DL.tTru, DL.Tgt.put, DL.mApp, DL.gApp, DL.isL, DL.isDc, DL.mGet2, DL.gGet, DL.gTupA, DL.gTupT, DL.gsCons, DL.gsNil, DL.gSubT, DL.gPut, DL.sPar, DL.gInt, DL.gMin, DL.iZp, DL.zipI, DL.fl_ok, DL.fl_ex, DL.fl_no, DL.seq_nx, DL.seq_rt, DL.seq_ex, DL.seq_bk, DL.seq_ct, DL.out_nx, DL.out_rt, DL.out_ex, DL.isN_non, DL.isN_tup, DL.isN_str, DL.isN_ref, DL.notN_non, DL.notN_tup, DL.notN_str, DL.notN_ref, DL.atI_zero, DL.atI_one, DL.kit_ss, DL.kit_st, DL.kit_ts, DL.kit_tt, DL.eqD_int, hn, ht, e1, hb']
end GN

end

/-! ## MR7 -/
section
set_option Elab.async false
set_option linter.all false
set_option maxRecDepth 100000
namespace GN
open PySem PySem.Spec PyProof.Rows L2 DL
/-! drawing -/
theorem n1 : ¬ (("left" : Str) = "cell") := by decide +kernel
theorem n2 : ¬ (("left" : Str) = "turns") := by decide +kernel
theorem n3 : ¬ (("cell" : Str) = "turns") := by decide +kernel
theorem n1' : ¬ (("cell" : Str) = "left") := by decide +kernel
theorem n2' : ¬ (("turns" : Str) = "left") := by decide +kernel
theorem n3' : ¬ (("turns" : Str) = "cell") := by decide +kernel
def drawL (a c t : Int) : List (Key × D) := [(.inr "left", .int a), (.inr "cell", .int c), (.inr "turns", .int t)]
theorem get_left (a c t : Int) : getD (drawL a c t) (.inr "left") = some (.int a) := by simp [getD, drawL]
theorem get_cell (a c t : Int) : getD (drawL a c t) (.inr "cell") = some (.int c) := by simp [getD, drawL, n1]
theorem get_turns (a c t : Int) : getD (drawL a c t) (.inr "turns") = some (.int t) := by simp [getD, drawL, n2, n3]
theorem put_left (a c t b : Int) : putD (drawL a c t) (.inr "left") (.int b) = drawL b c t := by simp [putD, drawL, n1', n2']
theorem put_turns (a c t b : Int) : putD (drawL a c t) (.inr "turns") (.int b) = drawL a c b := by simp [putD, drawL, n2, n3]
theorem F_mixed_ok {c k : Int} (h0 : 0 ≤ k) (h1 : k ≤ 1000000) (S : Store) : ∃ r, 0 ≤ r ∧ r < 2147483647 ∧ F__law_mixed [.int c, .int k] S = .ok (.int r) S := by
  have hq : k % 4 = 0 ∨ k % 4 = 1 ∨ k % 4 = 2 ∨ k % 4 = 3 := by omega
  have hat : ∃ m : Int, 0 < m ∧ m ≤ 2147483647 ∧ atI [D.int 1000000007, D.int 998244353, D.int 2147483629, D.int 1000000009] (k % 4) = some (.int m) := by
    rcases hq with e | e | e | e <;> rw [e]
    · exact ⟨1000000007, by decide, by decide, by simp [atI, ixN]⟩
    · exact ⟨998244353, by decide, by decide, by simp [atI, ixN]⟩
    · exact ⟨2147483629, by decide, by decide, by simp [atI, ixN]⟩
    · exact ⟨1000000009, by decide, by decide, by simp [atI, ixN]⟩
  obtain ⟨m, m0, m1, hat⟩ := hat
  have h4 : 4 ≤ big := by unfold big; omega
  have q1 : mulOk 7919 k = true := by simp [mulOk]
  have b0 := Int.emod_nonneg c (Int.ne_of_gt m0)
  have b1 := Int.emod_lt_of_pos c m0
  have q2 : mulOk (c % m + 7919 * k + 13) (c % m + 7919 * k + 13) = true := by
    simp only [mulOk, Bool.or_eq_true, Bool.and_eq_true, decide_eq_true_eq]
    left
    constructor <;> omega
  have q3 : mulOk ((c % m + 7919 * k + 13) * (c % m + 7919 * k + 13) % 2147483647) 48271 = true := by simp [mulOk]
  refine ⟨_, ?_, ?_, by simp [F__law_mixed, B__law_mixed, DL.fl_if, DL.out_if, DL.bind_if, DL.ofl_if, DL.Out.bind_ok, DL.Out.bind_ex, DL.Out.bind_no, DL.sSeq, DL.sIf, DL.sRet, DL.sRetN, DL.sDrop, DL.sAsg, DL.sNil, DL.sNo, DL.sBrk, DL.sCnt, DL.mVar, DL.mC, DL.mNo, DL.mB1, DL.mB2, DL.mAll, DL.aNil, DL.aCons, DL.tOfB, DL.tAndM, DL.tOrM, DL.tNotM, DL.mIf, DL.mAnd, DL.mOr, DL.runB, DL.callN, DL.g1, DL.g2, DL.gNm, DL.gLen, DL.gIsi, DL.tyN, DL.gEq, DL.gNe, DL.gLt, DL.gLe, DL.gGt, DL.gGe, DL.gAdd, DL.gSub, DL.gIx, DL.gIn, DL.gNotIn, DL.inOf, DL.gNot, DL.gTup, DL.gLst, DL.gNewL, DL.gNewD0, DL.gAllB, DL.gAnyB, DL.gSum, DL.lstOf, DL.gTuple, DL.gList, DL.seqOf, DL.iSeq, DL.seqI, DL.lstI, DL.sFor, DL.mLc, DL.wipeE, DL.tTru, DL.Tgt.put, DL.mApp, DL.gApp, DL.isL, DL.isDc, DL.mGet2, DL.gGet, DL.gTupA, DL.gTupT, DL.gsCons, DL.gsNil, DL.gSubT, DL.gPut, DL.sPar, DL.gInt, DL.gMin, DL.iZp, DL.zipI, DL.fl_ok, DL.fl_ex, DL.fl_no, DL.seq_nx, DL.seq_rt, DL.seq_ex, DL.seq_bk, DL.seq_ct, DL.out_nx, DL.out_rt, DL.out_ex, DL.isN_non, DL.isN_tup, DL.isN_str, DL.isN_ref, DL.notN_non, DL.notN_tup, DL.notN_str, DL.notN_ref, DL.atI_zero, DL.atI_one, DL.kit_ss, DL.kit_st, DL.kit_ts, DL.kit_tt, DL.eqD_int, gMod, gMul, h4, hat, m0, q1, q2, q3]; rfl⟩
  · exact Int.emod_nonneg _ (by decide)
  · exact Int.emod_lt_of_pos _ (by decide)
noncomputable def digitB : MS :=
      (sSeq (sAsg (mB2 (mB2 (mVar 0) (mC (.str ("turns" : Str))) gIx) (mC (.int 1)) gAdd) (gSubT (mVar 0) (mC (.str ("turns" : Str)))))
      (sAsg (mB2 (mB2 (mB2 (mVar 0) (mC (.str ("left" : Str))) gIx) (mC (.int 2147483647)) gMul) (mAll (aCons (mB2 (mVar 0) (mC (.str ("cell" : Str))) gIx) (aCons (mB2 (mVar 0) (mC (.str ("turns" : Str))) gIx) aNil)) (callN 2 F__law_mixed)) gAdd) (gSubT (mVar 0) (mC (.str ("left" : Str))))))
theorem len_draw (a c t : Int) : (drawL a c t).length < big := by
  have : (drawL a c t).length = 3 := rfl
  rw [this]; unfold big; omega
theorem digit_step {j : Nat} {sp x y : Option D} {a c t : Int} {S : Store} (hS : S[j]? = some (.dct (drawL a c t))) (ha : 0 ≤ a) (ht : 0 ≤ t) (ht2 : t + 1 ≤ 1000000) :
    ∃ a', 0 ≤ a' ∧ digitB [some (.ref j), sp, x, y] S = .nx [some (.ref j), sp, x, y] (S.set j (.dct (drawL a' c (t + 1)))) := by
  obtain ⟨r, r0, r1, e⟩ := F_mixed_ok (c := c) (k := t + 1) (by omega) (by omega) (S.set j (.dct (drawL a c (t + 1))))
  have q : mulOk a 2147483647 = true := by simp [mulOk]
  refine ⟨a * 2147483647 + r, by omega, ?_⟩
  simp [digitB, DL.fl_if, DL.out_if, DL.bind_if, DL.ofl_if, DL.Out.bind_ok, DL.Out.bind_ex, DL.Out.bind_no, DL.sSeq, DL.sIf, DL.sRet, DL.sRetN, DL.sDrop, DL.sAsg, DL.sNil, DL.sNo, DL.sBrk, DL.sCnt, DL.mVar, DL.mC, DL.mNo, DL.mB1, DL.mB2, DL.mAll, DL.aNil, DL.aCons, DL.tOfB, DL.tAndM, DL.tOrM, DL.tNotM, DL.mIf, DL.mAnd, DL.mOr, DL.runB, DL.callN, DL.g1, DL.g2, DL.gNm, DL.gLen, DL.gIsi, DL.tyN, DL.gEq, DL.gNe, DL.gLt, DL.gLe, DL.gGt, DL.gGe, DL.gAdd, DL.gSub, DL.gIx, DL.gIn, DL.gNotIn, DL.inOf, DL.gNot, DL.gTup, DL.gLst, DL.gNewL, DL.gNewD0, DL.gAllB, DL.gAnyB, DL.gSum, DL.lstOf, DL.gTuple, DL.gList, DL.seqOf, DL.iSeq, DL.seqI, DL.lstI, DL.sFor, DL.mLc, DL.wipeE, DL.tTru, DL.Tgt.put, DL.mApp, DL.gApp, DL.isL, DL.isDc, DL.mGet2, DL.gGet, DL.gTupA, DL.gTupT, DL.gsCons, DL.gsNil, DL.gSubT, DL.gPut, DL.sPar, DL.gInt, DL.gMin, DL.iZp, DL.zipI, DL.fl_ok, DL.fl_ex, DL.fl_no, DL.seq_nx, DL.seq_rt, DL.seq_ex, DL.seq_bk, DL.seq_ct, DL.out_nx, DL.out_rt, DL.out_ex, DL.isN_non, DL.isN_tup, DL.isN_str, DL.isN_ref, DL.notN_non, DL.notN_tup, DL.notN_str, DL.notN_ref, DL.atI_zero, DL.atI_one, DL.kit_ss, DL.kit_st, DL.kit_ts, DL.kit_tt, DL.eqD_int, hS, keyOf, get_turns, get_left, get_cell, put_turns, put_left, len_draw, set_at hS, gMul, q, e]
theorem digit_loop {j : Nat} {S0 : Store} {sp y : Option D} {c : Int} : ∀ (l : List D) (x : Option D) (a t : Int) (S : Store), S[j]? = some (.dct (drawL a c t)) → 0 ≤ a → 0 ≤ t → t + l.length ≤ 1000000 →
    ∃ a' x', 0 ≤ a' ∧ forGo [] S0 (gNm 2) digitB l [some (.ref j), sp, x, y] S = .nx [some (.ref j), sp, x', y] (S.set j (.dct (drawL a' c (t + l.length))))
  | [], x, a, t, S, hS, ha, ht, h2 => ⟨a, x, ha, by simp [for_nil, set_self hS]⟩
  | d :: l, x, a, t, S, hS, ha, ht, h2 => by
    simp only [List.length_cons, Int.natCast_add, Int.cast_ofNat_Int] at h2
    obtain ⟨a1, h1, e1⟩ := digit_step (sp := sp) (x := some d) (y := y) hS ha ht (by omega)
    obtain ⟨a2, x2, h3, e2⟩ := digit_loop l (some d) a1 (t + 1) (S.set j (.dct (drawL a1 c (t + 1)))) (set_at hS) h1 (by omega) (by omega)
    refine ⟨a2, x2, h3, ?_⟩
    rw [for_cons (ρ1 := [some (.ref j), sp, some d, y]) (S1 := S) (by simp [DL.fl_if, DL.out_if, DL.bind_if, DL.ofl_if, DL.Out.bind_ok, DL.Out.bind_ex, DL.Out.bind_no, DL.sSeq, DL.sIf, DL.sRet, DL.sRetN, DL.sDrop, DL.sAsg, DL.sNil, DL.sNo, DL.sBrk, DL.sCnt, DL.mVar, DL.mC, DL.mNo, DL.mB1, DL.mB2, DL.mAll, DL.aNil, DL.aCons, DL.tOfB, DL.tAndM, DL.tOrM, DL.tNotM, DL.mIf, DL.mAnd, DL.mOr, DL.runB, DL.callN, DL.g1, DL.g2, DL.gNm, DL.gLen, DL.gIsi, DL.tyN, DL.gEq, DL.gNe, DL.gLt, DL.gLe, DL.gGt, DL.gGe, DL.gAdd, DL.gSub, DL.gIx, DL.gIn, DL.gNotIn, DL.inOf, DL.gNot, DL.gTup, DL.gLst, DL.gNewL, DL.gNewD0, DL.gAllB, DL.gAnyB, DL.gSum, DL.lstOf, DL.gTuple, DL.gList, DL.seqOf, DL.iSeq, DL.seqI, DL.lstI, DL.sFor, DL.mLc, DL.wipeE, DL.tTru, DL.Tgt.put, DL.mApp, DL.gApp, DL.isL, DL.isDc, DL.mGet2, DL.gGet, DL.gTupA, DL.gTupT, DL.gsCons, DL.gsNil, DL.gSubT, DL.gPut, DL.sPar, DL.gInt, DL.gMin, DL.iZp, DL.zipI, DL.fl_ok, DL.fl_ex, DL.fl_no, DL.seq_nx, DL.seq_rt, DL.seq_ex, DL.seq_bk, DL.seq_ct, DL.out_nx, DL.out_rt, DL.out_ex, DL.isN_non, DL.isN_tup, DL.isN_str, DL.isN_ref, DL.notN_non, DL.notN_tup, DL.notN_str, DL.notN_ref, DL.atI_zero, DL.atI_one, DL.kit_ss, DL.kit_st, DL.kit_ts, DL.kit_tt, DL.eqD_int]), e1]
    simp only
    rw [e2, List.set_set]
    congr 3
    simp only [List.length_cons]
    congr 1
    omega
/-- a draw that can be gone on with n times -/
structure Drw (S : Store) (j : Nat) (c : Int) (n : Int) : Prop where
  ex : ∃ a t, S[j]? = some (.dct (drawL a c t)) ∧ 0 ≤ a ∧ 0 ≤ t ∧ t + 4 * n ≤ 1000000
theorem drw_at {S : Store} {j : Nat} {c n : Int} (h : Drw S j c n) : ∃ cell, S[j]? = some cell := by
  obtain ⟨_, _, e, _⟩ := h.ex
  exact ⟨_, e⟩
theorem drw_app {S : Store} {j : Nat} {c n : Int} (h : Drw S j c n) (X : Store) : Drw (S ++ X) j c n := by
  obtain ⟨a, t, e, r⟩ := h.ex
  exact ⟨a, t, by rw [List.getElem?_append_left (List.getElem?_eq_some_iff.mp e).1]; exact e, r⟩
theorem F_digit_ok {j : Nat} {sp : Int} {c n : Int} {S : Store} (h : Drw S j c n) (hn : 1 ≤ n) (h0 : 0 < sp) (h1 : sp < 1000) :
    ∃ d cell, 0 ≤ d ∧ d < sp ∧ Drw (S.set j cell) j c (n - 1) ∧ F__law_digit [.ref j, .int sp] S = .ok (.int d) (S.set j cell) := by
  obtain ⟨a, t, hS, ha, ht, h2⟩ := h.ex
  have k1 : sp < 1073741824 := by omega
  by_cases ha0 : a = 0
  · subst ha0
    obtain ⟨a', x', ha', e⟩ := digit_loop (S0 := S) (j := j) (sp := some (.int sp)) (y := none) (c := c) (rngD 0 4) none 0 t S hS (by omega) ht (by have : (rngD 0 4).length = 4 := rfl; rw [this]; omega)
    have el : ((rngD 0 4).length : Int) = 4 := rfl
    rw [el] at e
    have hS' := set_at (c' := .dct (drawL a' c (t + 4))) hS
    refine ⟨a' % sp, .dct (drawL (a' / sp) c (t + 4)), Int.emod_nonneg _ (by omega), Int.emod_lt_of_pos _ h0, ⟨_, _, set_at hS, Int.ediv_nonneg ha' (by omega), by omega, by omega⟩, ?_⟩
    have hr : rOk 4 = true := by decide
    have e' : forGo [] S (gNm 2) (sSeq (sAsg (mB2 (mB2 (mVar 0) (mC (.str ("turns" : Str))) gIx) (mC (.int 1)) gAdd) (gSubT (mVar 0) (mC (.str ("turns" : Str)))))
      (sAsg (mB2 (mB2 (mB2 (mVar 0) (mC (.str ("left" : Str))) gIx) (mC (.int 2147483647)) gMul) (mAll (aCons (mB2 (mVar 0) (mC (.str ("cell" : Str))) gIx) (aCons (mB2 (mVar 0) (mC (.str ("turns" : Str))) gIx) aNil)) (callN 2 F__law_mixed)) gAdd) (gSubT (mVar 0) (mC (.str ("left" : Str)))))) (rngD 0 4) [some (.ref j), some (.int sp), none, none] S = .nx [some (.ref j), some (.int sp), x', none] (S.set j (.dct (drawL a' c (t + 4)))) := e
    simp [F__law_digit, B__law_digit, DL.fl_if, DL.out_if, DL.bind_if, DL.ofl_if, DL.Out.bind_ok, DL.Out.bind_ex, DL.Out.bind_no, DL.sSeq, DL.sIf, DL.sRet, DL.sRetN, DL.sDrop, DL.sAsg, DL.sNil, DL.sNo, DL.sBrk, DL.sCnt, DL.mVar, DL.mC, DL.mNo, DL.mB1, DL.mB2, DL.mAll, DL.aNil, DL.aCons, DL.tOfB, DL.tAndM, DL.tOrM, DL.tNotM, DL.mIf, DL.mAnd, DL.mOr, DL.runB, DL.callN, DL.g1, DL.g2, DL.gNm, DL.gLen, DL.gIsi, DL.tyN, DL.gEq, DL.gNe, DL.gLt, DL.gLe, DL.gGt, DL.gGe, DL.gAdd, DL.gSub, DL.gIx, DL.gIn, DL.gNotIn, DL.inOf, DL.gNot, DL.gTup, DL.gLst, DL.gNewL, DL.gNewD0, DL.gAllB, DL.gAnyB, DL.gSum, DL.lstOf, DL.gTuple, DL.gList, DL.seqOf, DL.iSeq, DL.seqI, DL.lstI, DL.sFor, DL.mLc, DL.wipeE, DL.tTru, DL.Tgt.put, DL.mApp, DL.gApp, DL.isL, DL.isDc, DL.mGet2, DL.gGet, DL.gTupA, DL.gTupT, DL.gsCons, DL.gsNil, DL.gSubT, DL.gPut, DL.sPar, DL.gInt, DL.gMin, DL.iZp, DL.zipI, DL.fl_ok, DL.fl_ex, DL.fl_no, DL.seq_nx, DL.seq_rt, DL.seq_ex, DL.seq_bk, DL.seq_ct, DL.out_nx, DL.out_rt, DL.out_ex, DL.isN_non, DL.isN_tup, DL.isN_str, DL.isN_ref, DL.notN_non, DL.notN_tup, DL.notN_str, DL.notN_ref, DL.atI_zero, DL.atI_one, DL.kit_ss, DL.kit_st, DL.kit_ts, DL.kit_tt, DL.eqD_int, hS, keyOf, get_left, iR1, hr, e', hS', put_left, len_draw, gMod, gDiv, h0, k1]
  · refine ⟨a % sp, .dct (drawL (a / sp) c t), Int.emod_nonneg _ (by omega), Int.emod_lt_of_pos _ h0, ⟨_, _, set_at hS, Int.ediv_nonneg ha (by omega), by omega, by omega⟩, ?_⟩
    simp [F__law_digit, B__law_digit, DL.fl_if, DL.out_if, DL.bind_if, DL.ofl_if, DL.Out.bind_ok, DL.Out.bind_ex, DL.Out.bind_no, DL.sSeq, DL.sIf, DL.sRet, DL.sRetN, DL.sDrop, DL.sAsg, DL.sNil, DL.sNo, DL.sBrk, DL.sCnt, DL.mVar, DL.mC, DL.mNo, DL.mB1, DL.mB2, DL.mAll, DL.aNil, DL.aCons, DL.tOfB, DL.tAndM, DL.tOrM, DL.tNotM, DL.mIf, DL.mAnd, DL.mOr, DL.runB, DL.callN, DL.g1, DL.g2, DL.gNm, DL.gLen, DL.gIsi, DL.tyN, DL.gEq, DL.gNe, DL.gLt, DL.gLe, DL.gGt, DL.gGe, DL.gAdd, DL.gSub, DL.gIx, DL.gIn, DL.gNotIn, DL.inOf, DL.gNot, DL.gTup, DL.gLst, DL.gNewL, DL.gNewD0, DL.gAllB, DL.gAnyB, DL.gSum, DL.lstOf, DL.gTuple, DL.gList, DL.seqOf, DL.iSeq, DL.seqI, DL.lstI, DL.sFor, DL.mLc, DL.wipeE, DL.tTru, DL.Tgt.put, DL.mApp, DL.gApp, DL.isL, DL.isDc, DL.mGet2, DL.gGet, DL.gTupA, DL.gTupT, DL.gsCons, DL.gsNil, DL.gSubT, DL.gPut, DL.sPar, DL.gInt, DL.gMin, DL.iZp, DL.zipI, DL.fl_ok, DL.fl_ex, DL.fl_no, DL.seq_nx, DL.seq_rt, DL.seq_ex, DL.seq_bk, DL.seq_ct, DL.out_nx, DL.out_rt, DL.out_ex, DL.isN_non, DL.isN_tup, DL.isN_str, DL.isN_ref, DL.notN_non, DL.notN_tup, DL.notN_str, DL.notN_ref, DL.atI_zero, DL.atI_one, DL.kit_ss, DL.kit_st, DL.kit_ts, DL.kit_tt, DL.eqD_int, hS, keyOf, get_left, ha0, put_left, len_draw, gMod, gDiv, h0, k1]
end GN

end

/-! ## MR9d -/
section
set_option Elab.async false
set_option linter.all false
set_option maxRecDepth 100000
namespace GN
open PySem PySem.Spec PyProof.Rows L2 DL
theorem F_draw_ok {c k : Int} (h0 : 0 ≤ k) (h1 : k ≤ 900) (S : Store) : ∃ cell, F__law_draw [.int c, .int k] S = .ok (.ref S.length) (S ++ [cell]) ∧ Drw (S ++ [cell]) S.length c 10000 := by
  have e18 : ((10 : Int) ^ 18) = 1000000000000000000 := by decide
  have q1 : mulOk 1000 k = true := by simp [mulOk]
  by_cases hc : (1000000000000000000 : Int) ≤ c
  · refine ⟨.dct (drawL c c (1000 * k)), ?_, ⟨c, 1000 * k, by simp, by omega, by omega, by omega⟩⟩
    simp [F__law_draw, B__law_draw, DL.fl_if, DL.out_if, DL.bind_if, DL.ofl_if, DL.Out.bind_ok, DL.Out.bind_ex, DL.Out.bind_no, DL.sSeq, DL.sIf, DL.sRet, DL.sRetN, DL.sDrop, DL.sAsg, DL.sNil, DL.sNo, DL.sBrk, DL.sCnt, DL.mVar, DL.mC, DL.mNo, DL.mB1, DL.mB2, DL.mAll, DL.aNil, DL.aCons, DL.tOfB, DL.tAndM, DL.tOrM, DL.tNotM, DL.mIf, DL.mAnd, DL.mOr, DL.runB, DL.callN, DL.g1, DL.g2, DL.gNm, DL.gLen, DL.gIsi, DL.tyN, DL.gEq, DL.gNe, DL.gLt, DL.gLe, DL.gGt, DL.gGe, DL.gAdd, DL.gSub, DL.gIx, DL.gIn, DL.gNotIn, DL.inOf, DL.gNot, DL.gTup, DL.gLst, DL.gNewL, DL.gNewD0, DL.gAllB, DL.gAnyB, DL.gSum, DL.lstOf, DL.gTuple, DL.gList, DL.seqOf, DL.iSeq, DL.seqI, DL.lstI, DL.sFor, DL.mLc, DL.wipeE, DL.tTru, DL.Tgt.put, DL.mApp, DL.gApp, DL.isL, DL.isDc, DL.mGet2, DL.gGet, DL.gTupA, DL.gTupT, DL.gsCons, DL.gsNil, DL.gSubT, DL.gPut, DL.sPar, DL.gInt, DL.gMin, DL.iZp, DL.zipI, DL.fl_ok, DL.fl_ex, DL.fl_no, DL.seq_nx, DL.seq_rt, DL.seq_ex, DL.seq_bk, DL.seq_ct, DL.out_nx, DL.out_rt, DL.out_ex, DL.isN_non, DL.isN_tup, DL.isN_str, DL.isN_ref, DL.notN_non, DL.notN_tup, DL.notN_str, DL.notN_ref, DL.atI_zero, DL.atI_one, DL.kit_ss, DL.kit_st, DL.kit_ts, DL.kit_tt, DL.eqD_int, mNewD, pCons, pNil, gPow, e18, hc, gMul, q1, putD, drawL, n1, n2, n3, n1', n2', n3']
  · refine ⟨.dct (drawL 0 c (1000 * k)), ?_, ⟨0, 1000 * k, by simp, by omega, by omega, by omega⟩⟩
    simp [F__law_draw, B__law_draw, DL.fl_if, DL.out_if, DL.bind_if, DL.ofl_if, DL.Out.bind_ok, DL.Out.bind_ex, DL.Out.bind_no, DL.sSeq, DL.sIf, DL.sRet, DL.sRetN, DL.sDrop, DL.sAsg, DL.sNil, DL.sNo, DL.sBrk, DL.sCnt, DL.mVar, DL.mC, DL.mNo, DL.mB1, DL.mB2, DL.mAll, DL.aNil, DL.aCons, DL.tOfB, DL.tAndM, DL.tOrM, DL.tNotM, DL.mIf, DL.mAnd, DL.mOr, DL.runB, DL.callN, DL.g1, DL.g2, DL.gNm, DL.gLen, DL.gIsi, DL.tyN, DL.gEq, DL.gNe, DL.gLt, DL.gLe, DL.gGt, DL.gGe, DL.gAdd, DL.gSub, DL.gIx, DL.gIn, DL.gNotIn, DL.inOf, DL.gNot, DL.gTup, DL.gLst, DL.gNewL, DL.gNewD0, DL.gAllB, DL.gAnyB, DL.gSum, DL.lstOf, DL.gTuple, DL.gList, DL.seqOf, DL.iSeq, DL.seqI, DL.lstI, DL.sFor, DL.mLc, DL.wipeE, DL.tTru, DL.Tgt.put, DL.mApp, DL.gApp, DL.isL, DL.isDc, DL.mGet2, DL.gGet, DL.gTupA, DL.gTupT, DL.gsCons, DL.gsNil, DL.gSubT, DL.gPut, DL.sPar, DL.gInt, DL.gMin, DL.iZp, DL.zipI, DL.fl_ok, DL.fl_ex, DL.fl_no, DL.seq_nx, DL.seq_rt, DL.seq_ex, DL.seq_bk, DL.seq_ct, DL.out_nx, DL.out_rt, DL.out_ex, DL.isN_non, DL.isN_tup, DL.isN_str, DL.isN_ref, DL.notN_non, DL.notN_tup, DL.notN_str, DL.notN_ref, DL.atI_zero, DL.atI_one, DL.kit_ss, DL.kit_st, DL.kit_ts, DL.kit_tt, DL.eqD_int, mNewD, pCons, pNil, gPow, e18, hc, gMul, q1, putD, drawL, n1, n2, n3, n1', n2', n3']
end GN

end

/-! ## KS -/
section
set_option Elab.async false
set_option linter.all false
set_option maxRecDepth 100000
namespace GN
open PySem PySem.Spec PyProof.Rows L2 DL
theorem ints_mapN {α : Type} (g : α → Nat) : ∀ l : List α, intsOf (l.map fun a => D.int (g a)) = some (l.map fun a => (g a : Int))
  | [] => rfl
  | a :: l => by simp only [List.map_cons, intsOf, ints_mapN g l, Option.map_some]
theorem wts_sum : ∀ l : List Pt, ((l.map fun p => (p.wt : Int)).sum) = (Pt.wts l : Int)
  | [] => rfl
  | p :: l => by simp only [List.map_cons, List.sum_cons, wts_sum l, Pt.wts]; omega
theorem F_size_ok : ∀ (k : Nat) (p : Pt) (S : Store), p.ok k = true → F__law_size_of k [p.D] S = .ok (.int p.wt) S
  | 0, p, S, hp => by simp [Pt.ok] at hp
  | k + 1, .v s, S, hp => by simp [F__law_size_of, B__law_size_of, DL.fl_if, DL.out_if, DL.bind_if, DL.ofl_if, DL.Out.bind_ok, DL.Out.bind_ex, DL.Out.bind_no, DL.sSeq, DL.sIf, DL.sRet, DL.sRetN, DL.sDrop, DL.sAsg, DL.sNil, DL.sNo, DL.sBrk, DL.sCnt, DL.mVar, DL.mC, DL.mNo, DL.mB1, DL.mB2, DL.mAll, DL.aNil, DL.aCons, DL.tOfB, DL.tAndM, DL.tOrM, DL.tNotM, DL.mIf, DL.mAnd, DL.mOr, DL.runB, DL.callN, DL.g1, DL.g2, DL.gNm, DL.gLen, DL.gIsi, DL.tyN, DL.gEq, DL.gNe, DL.gLt, DL.gLe, DL.gGt, DL.gGe, DL.gAdd, DL.gSub, DL.gIx, DL.gIn, DL.gNotIn, DL.inOf, DL.gNot, DL.gTup, DL.gLst, DL.gNewL, DL.gNewD0, DL.gAllB, DL.gAnyB, DL.gSum, DL.lstOf, DL.gTuple, DL.gList, DL.seqOf, DL.iSeq, DL.seqI, DL.lstI, DL.sFor, DL.mLc, DL.wipeE, DL.tTru, DL.Tgt.put, DL.mApp, DL.gApp, DL.isL, DL.isDc, DL.mGet2, DL.gGet, DL.gTupA, DL.gTupT, DL.gsCons, DL.gsNil, DL.gSubT, DL.gPut, DL.sPar, DL.gInt, DL.gMin, DL.iZp, DL.zipI, DL.fl_ok, DL.fl_ex, DL.fl_no, DL.seq_nx, DL.seq_rt, DL.seq_ex, DL.seq_bk, DL.seq_ct, DL.out_nx, DL.out_rt, DL.out_ex, DL.isN_non, DL.isN_tup, DL.isN_str, DL.isN_ref, DL.notN_non, DL.notN_tup, DL.notN_str, DL.notN_ref, DL.atI_zero, DL.atI_one, DL.kit_ss, DL.kit_st, DL.kit_ts, DL.kit_tt, DL.eqD_int, Pt.D, Pt.wt]
  | k + 1, .c w l, S, hp => by
    simp only [Pt.ok, Bool.and_eq_true, decide_eq_true_eq] at hp
    have hb : l.length ≤ big := by unfold big; omega
    have lo := lc_map (S := S) (i := 1) (e := mAll (aCons (mVar 1) aNil) (callN 1 (F__law_size_of k))) (ρ := [some (.tup [.str w, .tup (l.map Pt.D)]), none]) (f := Pt.D) (g := fun p => D.int (p.wt : Int)) (l := l) (fun q hq => by
      have := F_size_ok k q S (oks_mem hp.2 hq)
      simp [DL.fl_if, DL.out_if, DL.bind_if, DL.ofl_if, DL.Out.bind_ok, DL.Out.bind_ex, DL.Out.bind_no, DL.sSeq, DL.sIf, DL.sRet, DL.sRetN, DL.sDrop, DL.sAsg, DL.sNil, DL.sNo, DL.sBrk, DL.sCnt, DL.mVar, DL.mC, DL.mNo, DL.mB1, DL.mB2, DL.mAll, DL.aNil, DL.aCons, DL.tOfB, DL.tAndM, DL.tOrM, DL.tNotM, DL.mIf, DL.mAnd, DL.mOr, DL.runB, DL.callN, DL.g1, DL.g2, DL.gNm, DL.gLen, DL.gIsi, DL.tyN, DL.gEq, DL.gNe, DL.gLt, DL.gLe, DL.gGt, DL.gGe, DL.gAdd, DL.gSub, DL.gIx, DL.gIn, DL.gNotIn, DL.inOf, DL.gNot, DL.gTup, DL.gLst, DL.gNewL, DL.gNewD0, DL.gAllB, DL.gAnyB, DL.gSum, DL.lstOf, DL.gTuple, DL.gList, DL.seqOf, DL.iSeq, DL.seqI, DL.lstI, DL.sFor, DL.mLc, DL.wipeE, DL.tTru, DL.Tgt.put, DL.mApp, DL.gApp, DL.isL, DL.isDc, DL.mGet2, DL.gGet, DL.gTupA, DL.gTupT, DL.gsCons, DL.gsNil, DL.gSubT, DL.gPut, DL.sPar, DL.gInt, DL.gMin, DL.iZp, DL.zipI, DL.fl_ok, DL.fl_ex, DL.fl_no, DL.seq_nx, DL.seq_rt, DL.seq_ex, DL.seq_bk, DL.seq_ct, DL.out_nx, DL.out_rt, DL.out_ex, DL.isN_non, DL.isN_tup, DL.isN_str, DL.isN_ref, DL.notN_non, DL.notN_tup, DL.notN_str, DL.notN_ref, DL.atI_zero, DL.atI_one, DL.kit_ss, DL.kit_st, DL.kit_ts, DL.kit_tt, DL.eqD_int, this])
    have hi := ints_mapN Pt.wt l
    simp [F__law_size_of, B__law_size_of, DL.fl_if, DL.out_if, DL.bind_if, DL.ofl_if, DL.Out.bind_ok, DL.Out.bind_ex, DL.Out.bind_no, DL.sSeq, DL.sIf, DL.sRet, DL.sRetN, DL.sDrop, DL.sAsg, DL.sNil, DL.sNo, DL.sBrk, DL.sCnt, DL.mVar, DL.mC, DL.mNo, DL.mB1, DL.mB2, DL.mAll, DL.aNil, DL.aCons, DL.tOfB, DL.tAndM, DL.tOrM, DL.tNotM, DL.mIf, DL.mAnd, DL.mOr, DL.runB, DL.callN, DL.g1, DL.g2, DL.gNm, DL.gLen, DL.gIsi, DL.tyN, DL.gEq, DL.gNe, DL.gLt, DL.gLe, DL.gGt, DL.gGe, DL.gAdd, DL.gSub, DL.gIx, DL.gIn, DL.gNotIn, DL.inOf, DL.gNot, DL.gTup, DL.gLst, DL.gNewL, DL.gNewD0, DL.gAllB, DL.gAnyB, DL.gSum, DL.lstOf, DL.gTuple, DL.gList, DL.seqOf, DL.iSeq, DL.seqI, DL.lstI, DL.sFor, DL.mLc, DL.wipeE, DL.tTru, DL.Tgt.put, DL.mApp, DL.gApp, DL.isL, DL.isDc, DL.mGet2, DL.gGet, DL.gTupA, DL.gTupT, DL.gsCons, DL.gsNil, DL.gSubT, DL.gPut, DL.sPar, DL.gInt, DL.gMin, DL.iZp, DL.zipI, DL.fl_ok, DL.fl_ex, DL.fl_no, DL.seq_nx, DL.seq_rt, DL.seq_ex, DL.seq_bk, DL.seq_ct, DL.out_nx, DL.out_rt, DL.out_ex, DL.isN_non, DL.isN_tup, DL.isN_str, DL.isN_ref, DL.notN_non, DL.notN_tup, DL.notN_str, DL.notN_ref, DL.atI_zero, DL.atI_one, DL.kit_ss, DL.kit_st, DL.kit_ts, DL.kit_tt, DL.eqD_int, Pt.D, Pt.Ds_map, Pt.wt, hb, lo, hi, wts_sum]
end GN

end

/-! ## MF -/
section
set_option Elab.async false
set_option linter.all false
set_option maxRecDepth 100000
/-! # drawn forms -/
namespace GN
open PySem PySem.Spec PyProof.Rows L2 DL
theorem drw_le {S : Store} {j : Nat} {c n m : Int} (h : Drw S j c n) (hm : m ≤ n) : Drw S j c m := by
  obtain ⟨a, t, x1, x2, x3, x4⟩ := h.ex
  exact ⟨a, t, x1, x2, x3, by omega⟩
/-- what is no draw stays -/
def Kp (j : Nat) (S S' : Store) : Prop := ∀ i x, i ≠ j → S[i]? = some x → S'[i]? = some x
theorem Kp.refl (j : Nat) (S : Store) : Kp j S S := fun _ _ _ h => h
theorem Kp.trans {j : Nat} {S S1 S2 : Store} (a : Kp j S S1) (b : Kp j S1 S2) : Kp j S S2 := fun i x h e => b i x h (a i x h e)
theorem Kp.set (j : Nat) (S : Store) (c : Cell) : Kp j S (S.set j c) := fun i x h e => by rw [List.getElem?_set_ne (Ne.symm h)]; exact e
theorem Kp.app (j : Nat) (S X : Store) : Kp j S (S ++ X) := fun i x h e => by rw [List.getElem?_append_left (lt_of_at e)]; exact e
theorem Kp.len {j : Nat} {S S' : Store} (h : Kp j S S') {c n : Int} (hd : Drw S' j c n) : S.length ≤ S'.length := by
  rcases Nat.lt_or_ge S'.length S.length with g | g
  · exfalso
    by_cases e : S'.length = j
    · obtain ⟨a, t, x, _⟩ := hd.ex
      have := lt_of_at x
      omega
    · have := h S'.length S[S'.length] e (List.getElem?_eq_getElem g)
      have := lt_of_at this
      omega
  · exact g
theorem drw_set {S : Store} {j m : Nat} {c n : Int} (h : Drw S j c n) (hne : j ≠ m) (x : Cell) : Drw (S.set m x) j c n := by
  obtain ⟨a, t, e, r⟩ := h.ex
  exact ⟨a, t, by rw [List.getElem?_set_ne (Ne.symm hne)]; exact e, r⟩
theorem drw_ne {S : Store} {j : Nat} {c n : Int} (h : Drw S j c n) : j ≠ S.length := by
  obtain ⟨a, t, e, r⟩ := h.ex
  have := lt_of_at e
  omega
theorem at_strs {l : List Str} {d : Int} (h0 : 0 ≤ d) (h1 : d < l.length) : ∃ p ∈ l, atI (l.map D.str) d = some (.str p) := by
  obtain ⟨n, rfl⟩ := Int.eq_ofNat_of_zero_le h0
  have hn : n < l.length := by omega
  have h2 : (n : Int) < (l.length : Int) := by omega
  refine ⟨l[n], List.getElem_mem hn, ?_⟩
  have h3 : ¬ ((n : Int) < 0) := by omega
  simp [atI, ixN, h2, hn]
def WDS : List Str := ["a", "b", "list", "map2", "x_y", "abcdefghijkl"]
theorem wds_ok : (WDS.all fun w => isWordB w && okS w) = true := by decide +kernel
noncomputable def wdsE : M := mAll (aCons (mC (.str ("a" : Str))) (aCons (mC (.str ("b" : Str))) (aCons (mC (.str ("list" : Str))) (aCons (mC (.str ("map2" : Str))) (aCons (mC (.str ("x_y" : Str))) (aCons (mC (.str ("abcdefghijkl" : Str))) aNil)))))) DL.gLst
theorem wdsE_ok (ρ : DL.Env) (S : Store) : wdsE ρ S = .ok (.lst (WDS.map D.str)) S := by
  have h6 : 6 ≤ big := by unfold big; omega
  simp [wdsE, DL.fl_if, DL.out_if, DL.bind_if, DL.ofl_if, DL.Out.bind_ok, DL.Out.bind_ex, DL.Out.bind_no, DL.sSeq, DL.sIf, DL.sRet, DL.sRetN, DL.sDrop, DL.sAsg, DL.sNil, DL.sNo, DL.sBrk, DL.sCnt, DL.mVar, DL.mC, DL.mNo, DL.mB1, DL.mB2, DL.mAll, DL.aNil, DL.aCons, DL.tOfB, DL.tAndM, DL.tOrM, DL.tNotM, DL.mIf, DL.mAnd, DL.mOr, DL.runB, DL.callN, DL.g1, DL.g2, DL.gNm, DL.gLen, DL.gIsi, DL.tyN, DL.gEq, DL.gNe, DL.gLt, DL.gLe, DL.gGt, DL.gGe, DL.gAdd, DL.gSub, DL.gIx, DL.gIn, DL.gNotIn, DL.inOf, DL.gNot, DL.gTup, DL.gLst, DL.gNewL, DL.gNewD0, DL.gAllB, DL.gAnyB, DL.gSum, DL.lstOf, DL.gTuple, DL.gList, DL.seqOf, DL.iSeq, DL.seqI, DL.lstI, DL.sFor, DL.mLc, DL.wipeE, DL.tTru, DL.Tgt.put, DL.mApp, DL.gApp, DL.isL, DL.isDc, DL.mGet2, DL.gGet, DL.gTupA, DL.gTupT, DL.gsCons, DL.gsNil, DL.gSubT, DL.gPut, DL.sPar, DL.gInt, DL.gMin, DL.iZp, DL.zipI, DL.fl_ok, DL.fl_ex, DL.fl_no, DL.seq_nx, DL.seq_rt, DL.seq_ex, DL.seq_bk, DL.seq_ct, DL.out_nx, DL.out_rt, DL.out_ex, DL.isN_non, DL.isN_tup, DL.isN_str, DL.isN_ref, DL.notN_non, DL.notN_tup, DL.notN_str, DL.notN_ref, DL.atI_zero, DL.atI_one, DL.kit_ss, DL.kit_st, DL.kit_ts, DL.kit_tt, DL.eqD_int, h6, WDS]
theorem F_word_ok {j : Nat} {c n : Int} {S : Store} (h : Drw S j c n) (hn : 1 ≤ n) : ∃ w ∈ WDS, ∃ cell, Drw (S.set j cell) j c (n - 1) ∧ F__law_drawn_word [.ref j] S = .ok (.str w) (S.set j cell) := by
  obtain ⟨d, cell, d0, d1, hd, e⟩ := F_digit_ok h hn (sp := 6) (by decide) (by decide)
  obtain ⟨w, hw, ea⟩ := at_strs (l := WDS) d0 d1
  refine ⟨w, hw, cell, hd, ?_⟩
  show Fl.out (sRet (mB2 wdsE (mAll (aCons (mVar 0) (aCons (mC (.int 6)) aNil)) (callN 2 F__law_digit)) gIx) [some (.ref j)] S) = _
  simp [DL.fl_if, DL.out_if, DL.bind_if, DL.ofl_if, DL.Out.bind_ok, DL.Out.bind_ex, DL.Out.bind_no, DL.sSeq, DL.sIf, DL.sRet, DL.sRetN, DL.sDrop, DL.sAsg, DL.sNil, DL.sNo, DL.sBrk, DL.sCnt, DL.mVar, DL.mC, DL.mNo, DL.mB1, DL.mB2, DL.mAll, DL.aNil, DL.aCons, DL.tOfB, DL.tAndM, DL.tOrM, DL.tNotM, DL.mIf, DL.mAnd, DL.mOr, DL.runB, DL.callN, DL.g1, DL.g2, DL.gNm, DL.gLen, DL.gIsi, DL.tyN, DL.gEq, DL.gNe, DL.gLt, DL.gLe, DL.gGt, DL.gGe, DL.gAdd, DL.gSub, DL.gIx, DL.gIn, DL.gNotIn, DL.inOf, DL.gNot, DL.gTup, DL.gLst, DL.gNewL, DL.gNewD0, DL.gAllB, DL.gAnyB, DL.gSum, DL.lstOf, DL.gTuple, DL.gList, DL.seqOf, DL.iSeq, DL.seqI, DL.lstI, DL.sFor, DL.mLc, DL.wipeE, DL.tTru, DL.Tgt.put, DL.mApp, DL.gApp, DL.isL, DL.isDc, DL.mGet2, DL.gGet, DL.gTupA, DL.gTupT, DL.gsCons, DL.gsNil, DL.gSubT, DL.gPut, DL.sPar, DL.gInt, DL.gMin, DL.iZp, DL.zipI, DL.fl_ok, DL.fl_ex, DL.fl_no, DL.seq_nx, DL.seq_rt, DL.seq_ex, DL.seq_bk, DL.seq_ct, DL.out_nx, DL.out_rt, DL.out_ex, DL.isN_non, DL.isN_tup, DL.isN_str, DL.isN_ref, DL.notN_non, DL.notN_tup, DL.notN_str, DL.notN_ref, DL.atI_zero, DL.atI_one, DL.kit_ss, DL.kit_st, DL.kit_ts, DL.kit_tt, DL.eqD_int, wdsE_ok, e, ea]
/-! which forms are drawn -/
mutual
def shp (lt : Str) : Nat → Pt → Bool
  | 0, _ => false
  | _ + 1, .v s => decide (s.length = 1) && inS s lt
  | n + 1, .c w l => isWordB w && decide (l.length ≤ 3) && shps lt n l
def shps (lt : Str) : Nat → List Pt → Bool
  | _, [] => true
  | n, p :: l => shp lt n p && shps lt n l
end
theorem wt_pos : ∀ p : Pt, 0 < p.wt
  | .v _ => by simp [Pt.wt]
  | .c _ l => by simp only [Pt.wt]; omega
mutual
theorem size_shp {lt : Str} : ∀ (n : Nat) (p : Pt), shp lt n p = true → sizeP lt n p = p.wt
  | 0, _, h => by simp [shp] at h
  | n + 1, .v s, h => by
    simp only [shp, Bool.and_eq_true, decide_eq_true_eq] at h
    simp [sizeP, Pt.wt, h.1, h.2]
  | n + 1, .c w l, h => by
    simp only [shp, Bool.and_eq_true, decide_eq_true_eq] at h
    simp only [sizeP, h.1.1, h.1.2, and_self, if_true, Pt.wt]
    exact sizes_shp n l 1 h.2
theorem sizes_shp {lt : Str} : ∀ (n : Nat) (l : List Pt) (a : Nat), shps lt n l = true → sumP (sizeP lt n) l a = a + Pt.wts l
  | _, [], a, _ => by simp [sumP, Pt.wts]
  | n, p :: l, a, h => by
    simp only [shps, Bool.and_eq_true] at h
    have e := size_shp n p h.1
    have e0 := wt_pos p
    have e1 : ¬ p.wt = 0 := by omega
    simp only [sumP, e, e1, if_false, Pt.wts]
    rw [sizes_shp n l _ h.2]; omega
end
theorem shps_all {lt : Str} {n : Nat} : ∀ {l : List Pt}, (∀ p ∈ l, shp lt n p = true) → shps lt n l = true
  | [], _ => by simp [shps]
  | p :: l, h => by simp only [shps, Bool.and_eq_true]; exact ⟨h p (List.mem_cons_self ..), shps_all fun q hq => h q (List.mem_cons_of_mem _ hq)⟩
mutual
theorem shp_up {lt : Str} : ∀ (n : Nat) (p : Pt), shp lt n p = true → shp lt (n + 1) p = true
  | 0, _, h => by simp [shp] at h
  | n + 1, .v s, h => by simpa [shp] using h
  | n + 1, .c w l, h => by
    simp only [shp, Bool.and_eq_true] at h ⊢
    exact ⟨h.1, shps_up n l h.2⟩
theorem shps_up {lt : Str} : ∀ (n : Nat) (l : List Pt), shps lt n l = true → shps lt (n + 1) l = true
  | _, [], _ => by simp [shps]
  | n, p :: l, h => by
    simp only [shps, Bool.and_eq_true] at h ⊢
    exact ⟨shp_up n p h.1, shps_up n l h.2⟩
end
theorem shp_le {lt : Str} {n m : Nat} (h : n ≤ m) {p : Pt} (hp : shp lt n p = true) : shp lt m p = true := by
  induction h with
  | refl => exact hp
  | step _ ih => exact shp_up _ _ ih
theorem shape_of {lt : Str} {p : Pt} (h : shp lt 4 p = true) (hw : p.wt ≤ 12) : isShapeB lt p = true := by
  have e := size_shp 4 p h
  have := wt_pos p
  simp [isShapeB, e, hw, this]
structure Gd (lt : Str) (d : Nat) (sz : Int) (p : Pt) : Prop where
  sh : shp lt d p = true
  ok : p.ok d = true
  wt : (p.wt : Int) ≤ sz
def need : Nat → Nat
  | 0 => 0
  | d + 1 => 4 + 3 * need d
theorem wts_snoc : ∀ (l : List Pt) (p : Pt), Pt.wts (l ++ [p]) = Pt.wts l + p.wt
  | [], p => by simp [Pt.wts]
  | q :: l, p => by simp only [List.cons_append, Pt.wts, wts_snoc l p]; omega
theorem atI_last {l : List D} {d : D} : atI (l ++ [d]) (-1) = some d := by
  have h : (-1 : Int) + ((l.length : Int) + 1) = (l.length : Int) := by omega
  have h2 : ¬ ((l.length : Int) < 0) := by omega
  have h3 : (1 : Int) ≤ (l.length : Int) + 1 := by omega
  simp [atI, ixN, h, h3]
noncomputable def frmB (k : Nat) : MS := (sIf (tOfB (mB2 (mVar 5) (mC (.int 0)) gGt))
      (sSeq (sDrop (mApp (mVar 4) (mAll (aCons (mVar 0) (aCons (mB2 (mVar 1) (mC (.int 1)) gSub) (aCons (mAll (aCons (mVar 5) (aCons (mC (.int 4)) aNil)) (g2 gMin)) (aCons (mVar 3) aNil)))) (callN 4 (F__law_drawn_form k)))))
      (sAsg (mB2 (mVar 5) (mAll (aCons (mB2 (mVar 4) (mB1 (mC (.int 1)) gNeg) gIx) aNil) (callN 1 (F__law_size_of 6))) gSub) (gNm 5)))
      sNil)
/-- one turn -/
theorem frm_turn {lt sg : Str} {d k : Nat} {j m : Nat} {c n sz : Int} {S : Store} {qs : List Pt} {left : Int} {x6 : Option D} (hk6 : d ≤ 6)
    (IH : ∀ (sz n : Int) (S : Store), 1 ≤ sz → Drw S j c n → (need d : Int) ≤ n → ∃ p S', Gd lt d sz p ∧ F__law_drawn_form k [.ref j, .int d, .int sz, .str sg] S = .ok p.D S' ∧ Drw S' j c (n - need d) ∧ Kp j S S')
    (hd : Drw S j c n) (hn : (need d : Int) ≤ n) (hne : j ≠ m) (hm : S[m]? = some (.lst (qs.map Pt.D))) (hl : left = sz - 1 - Pt.wts qs) (h0 : 0 ≤ left) (hq : ∀ q ∈ qs, shp lt d q = true ∧ q.ok d = true) (hlen : qs.length ≤ 50) :
    ∃ qs' S' left', frmB k [some (.ref j), some (.int ((d : Int) + 1)), some (.int sz), some (.str sg), some (.ref m), some (.int left), x6] S = .nx [some (.ref j), some (.int ((d : Int) + 1)), some (.int sz), some (.str sg), some (.ref m), some (.int left'), x6] S' ∧ Drw S' j c (n - need d) ∧ S'[m]? = some (.lst (qs'.map Pt.D)) ∧ left' = sz - 1 - Pt.wts qs' ∧ 0 ≤ left' ∧ (∀ q ∈ qs', shp lt d q = true ∧ q.ok d = true) ∧ qs'.length ≤ qs.length + 1 ∧ ∀ i x, i ≠ j → i ≠ m → S[i]? = some x → S'[i]? = some x := by
  by_cases hp : 0 < left
  · have t1 : tOfB (mB2 (mVar 5) (mC (.int 0)) gGt) [some (.ref j), some (.int ((d : Int) + 1)), some (.int sz), some (.str sg), some (.ref m), some (.int left), x6] S = .ok true S := by simp [DL.fl_if, DL.out_if, DL.bind_if, DL.ofl_if, DL.Out.bind_ok, DL.Out.bind_ex, DL.Out.bind_no, DL.sSeq, DL.sIf, DL.sRet, DL.sRetN, DL.sDrop, DL.sAsg, DL.sNil, DL.sNo, DL.sBrk, DL.sCnt, DL.mVar, DL.mC, DL.mNo, DL.mB1, DL.mB2, DL.mAll, DL.aNil, DL.aCons, DL.tOfB, DL.tAndM, DL.tOrM, DL.tNotM, DL.mIf, DL.mAnd, DL.mOr, DL.runB, DL.callN, DL.g1, DL.g2, DL.gNm, DL.gLen, DL.gIsi, DL.tyN, DL.gEq, DL.gNe, DL.gLt, DL.gLe, DL.gGt, DL.gGe, DL.gAdd, DL.gSub, DL.gIx, DL.gIn, DL.gNotIn, DL.inOf, DL.gNot, DL.gTup, DL.gLst, DL.gNewL, DL.gNewD0, DL.gAllB, DL.gAnyB, DL.gSum, DL.lstOf, DL.gTuple, DL.gList, DL.seqOf, DL.iSeq, DL.seqI, DL.lstI, DL.sFor, DL.mLc, DL.wipeE, DL.tTru, DL.Tgt.put, DL.mApp, DL.gApp, DL.isL, DL.isDc, DL.mGet2, DL.gGet, DL.gTupA, DL.gTupT, DL.gsCons, DL.gsNil, DL.gSubT, DL.gPut, DL.sPar, DL.gInt, DL.gMin, DL.iZp, DL.zipI, DL.fl_ok, DL.fl_ex, DL.fl_no, DL.seq_nx, DL.seq_rt, DL.seq_ex, DL.seq_bk, DL.seq_ct, DL.out_nx, DL.out_rt, DL.out_ex, DL.isN_non, DL.isN_tup, DL.isN_str, DL.isN_ref, DL.notN_non, DL.notN_tup, DL.notN_str, DL.notN_ref, DL.atI_zero, DL.atI_one, DL.kit_ss, DL.kit_st, DL.kit_ts, DL.kit_tt, DL.eqD_int, hp]
    have hmin : 1 ≤ (if 4 < left then (4 : Int) else left) := by split <;> omega
    have hmin2 : (if 4 < left then (4 : Int) else left) ≤ left := by split <;> omega
    obtain ⟨p, S1, g, e, hd1, kp⟩ := IH (if 4 < left then 4 else left) n S hmin hd hn
    have hm1 := kp m _ (Ne.symm hne) hm
    have hlb : (qs.map Pt.D).length < big := by rw [List.length_map]; unfold big; omega
    have hS1 := set_at (c' := .lst (qs.map Pt.D ++ [p.D])) hm1
    have dd : (d : Int) + 1 - 1 = d := by omega
    have a1 : sDrop (mApp (mVar 4) (mAll (aCons (mVar 0) (aCons (mB2 (mVar 1) (mC (.int 1)) gSub) (aCons (mAll (aCons (mVar 5) (aCons (mC (.int 4)) aNil)) (g2 gMin)) (aCons (mVar 3) aNil)))) (callN 4 (F__law_drawn_form k)))) [some (.ref j), some (.int ((d : Int) + 1)), some (.int sz), some (.str sg), some (.ref m), some (.int left), x6] S
        = .nx [some (.ref j), some (.int ((d : Int) + 1)), some (.int sz), some (.str sg), some (.ref m), some (.int left), x6] (S1.set m (.lst (qs.map Pt.D ++ [p.D]))) := by
      have i1 : isL S (.ref m) = true := by simp [isL, hm]
      have e2 : mAll (aCons (mVar 0) (aCons (mB2 (mVar 1) (mC (.int 1)) gSub) (aCons (mAll (aCons (mVar 5) (aCons (mC (.int 4)) aNil)) (g2 gMin)) (aCons (mVar 3) aNil)))) (callN 4 (F__law_drawn_form k)) [some (.ref j), some (.int ((d : Int) + 1)), some (.int sz), some (.str sg), some (.ref m), some (.int left), x6] S = .ok p.D S1 := by
        simp [DL.fl_if, DL.out_if, DL.bind_if, DL.ofl_if, DL.Out.bind_ok, DL.Out.bind_ex, DL.Out.bind_no, DL.sSeq, DL.sIf, DL.sRet, DL.sRetN, DL.sDrop, DL.sAsg, DL.sNil, DL.sNo, DL.sBrk, DL.sCnt, DL.mVar, DL.mC, DL.mNo, DL.mB1, DL.mB2, DL.mAll, DL.aNil, DL.aCons, DL.tOfB, DL.tAndM, DL.tOrM, DL.tNotM, DL.mIf, DL.mAnd, DL.mOr, DL.runB, DL.callN, DL.g1, DL.g2, DL.gNm, DL.gLen, DL.gIsi, DL.tyN, DL.gEq, DL.gNe, DL.gLt, DL.gLe, DL.gGt, DL.gGe, DL.gAdd, DL.gSub, DL.gIx, DL.gIn, DL.gNotIn, DL.inOf, DL.gNot, DL.gTup, DL.gLst, DL.gNewL, DL.gNewD0, DL.gAllB, DL.gAnyB, DL.gSum, DL.lstOf, DL.gTuple, DL.gList, DL.seqOf, DL.iSeq, DL.seqI, DL.lstI, DL.sFor, DL.mLc, DL.wipeE, DL.tTru, DL.Tgt.put, DL.mApp, DL.gApp, DL.isL, DL.isDc, DL.mGet2, DL.gGet, DL.gTupA, DL.gTupT, DL.gsCons, DL.gsNil, DL.gSubT, DL.gPut, DL.sPar, DL.gInt, DL.gMin, DL.iZp, DL.zipI, DL.fl_ok, DL.fl_ex, DL.fl_no, DL.seq_nx, DL.seq_rt, DL.seq_ex, DL.seq_bk, DL.seq_ct, DL.out_nx, DL.out_rt, DL.out_ex, DL.isN_non, DL.isN_tup, DL.isN_str, DL.isN_ref, DL.notN_non, DL.notN_tup, DL.notN_str, DL.notN_ref, DL.atI_zero, DL.atI_one, DL.kit_ss, DL.kit_st, DL.kit_ts, DL.kit_tt, DL.eqD_int, dd, e]
      have e3 : mVar 4 [some (.ref j), some (.int ((d : Int) + 1)), some (.int sz), some (.str sg), some (.ref m), some (.int left), x6] S = .ok (.ref m) S := rfl
      refine sDrop_ok (d := .non) ?_
      unfold mApp
      rw [e3, Out.bind_ok, if_pos i1, e2, Out.bind_ok]
      simp only [gApp, hm1, hlb, if_true]
    have sz6 := F_size_ok 6 p (S1.set m (.lst (qs.map Pt.D ++ [p.D]))) (Pt.ok_le hk6 g.ok)
    have a2 : sAsg (mB2 (mVar 5) (mAll (aCons (mB2 (mVar 4) (mB1 (mC (.int 1)) gNeg) gIx) aNil) (callN 1 (F__law_size_of 6))) gSub) (gNm 5) [some (.ref j), some (.int ((d : Int) + 1)), some (.int sz), some (.str sg), some (.ref m), some (.int left), x6] (S1.set m (.lst (qs.map Pt.D ++ [p.D])))
        = .nx [some (.ref j), some (.int ((d : Int) + 1)), some (.int sz), some (.str sg), some (.ref m), some (.int (left - p.wt)), x6] (S1.set m (.lst (qs.map Pt.D ++ [p.D]))) := by
      have lst := atI_last (l := qs.map Pt.D) (d := p.D)
      simp [DL.fl_if, DL.out_if, DL.bind_if, DL.ofl_if, DL.Out.bind_ok, DL.Out.bind_ex, DL.Out.bind_no, DL.sSeq, DL.sIf, DL.sRet, DL.sRetN, DL.sDrop, DL.sAsg, DL.sNil, DL.sNo, DL.sBrk, DL.sCnt, DL.mVar, DL.mC, DL.mNo, DL.mB1, DL.mB2, DL.mAll, DL.aNil, DL.aCons, DL.tOfB, DL.tAndM, DL.tOrM, DL.tNotM, DL.mIf, DL.mAnd, DL.mOr, DL.runB, DL.callN, DL.g1, DL.g2, DL.gNm, DL.gLen, DL.gIsi, DL.tyN, DL.gEq, DL.gNe, DL.gLt, DL.gLe, DL.gGt, DL.gGe, DL.gAdd, DL.gSub, DL.gIx, DL.gIn, DL.gNotIn, DL.inOf, DL.gNot, DL.gTup, DL.gLst, DL.gNewL, DL.gNewD0, DL.gAllB, DL.gAnyB, DL.gSum, DL.lstOf, DL.gTuple, DL.gList, DL.seqOf, DL.iSeq, DL.seqI, DL.lstI, DL.sFor, DL.mLc, DL.wipeE, DL.tTru, DL.Tgt.put, DL.mApp, DL.gApp, DL.isL, DL.isDc, DL.mGet2, DL.gGet, DL.gTupA, DL.gTupT, DL.gsCons, DL.gsNil, DL.gSubT, DL.gPut, DL.sPar, DL.gInt, DL.gMin, DL.iZp, DL.zipI, DL.fl_ok, DL.fl_ex, DL.fl_no, DL.seq_nx, DL.seq_rt, DL.seq_ex, DL.seq_bk, DL.seq_ct, DL.out_nx, DL.out_rt, DL.out_ex, DL.isN_non, DL.isN_tup, DL.isN_str, DL.isN_ref, DL.notN_non, DL.notN_tup, DL.notN_str, DL.notN_ref, DL.atI_zero, DL.atI_one, DL.kit_ss, DL.kit_st, DL.kit_ts, DL.kit_tt, DL.eqD_int, hS1, gNeg, lst, sz6]
    have hw := g.wt
    have hwp : (p.wt : Int) ≤ left := Int.le_trans hw hmin2
    refine ⟨qs ++ [p], S1.set m (.lst (qs.map Pt.D ++ [p.D])), left - p.wt, ?_, drw_set hd1 hne _, by rw [hS1]; simp, ?_, by omega, ?_, by simp, ?_⟩
    · unfold frmB
      rw [sIf_ok t1, if_pos rfl, sSeq_nx a1, a2]
    · rw [wts_snoc]; omega
    · intro q hqm
      rcases List.mem_append.mp hqm with h | h
      · exact hq q h
      · rw [List.mem_singleton.mp h]; exact ⟨g.sh, g.ok⟩
    · intro i x h1 h2 hx
      rw [List.getElem?_set_ne (Ne.symm h2)]
      exact kp i x h1 hx
  · have t1 : tOfB (mB2 (mVar 5) (mC (.int 0)) gGt) [some (.ref j), some (.int ((d : Int) + 1)), some (.int sz), some (.str sg), some (.ref m), some (.int left), x6] S = .ok false S := by simp [DL.fl_if, DL.out_if, DL.bind_if, DL.ofl_if, DL.Out.bind_ok, DL.Out.bind_ex, DL.Out.bind_no, DL.sSeq, DL.sIf, DL.sRet, DL.sRetN, DL.sDrop, DL.sAsg, DL.sNil, DL.sNo, DL.sBrk, DL.sCnt, DL.mVar, DL.mC, DL.mNo, DL.mB1, DL.mB2, DL.mAll, DL.aNil, DL.aCons, DL.tOfB, DL.tAndM, DL.tOrM, DL.tNotM, DL.mIf, DL.mAnd, DL.mOr, DL.runB, DL.callN, DL.g1, DL.g2, DL.gNm, DL.gLen, DL.gIsi, DL.tyN, DL.gEq, DL.gNe, DL.gLt, DL.gLe, DL.gGt, DL.gGe, DL.gAdd, DL.gSub, DL.gIx, DL.gIn, DL.gNotIn, DL.inOf, DL.gNot, DL.gTup, DL.gLst, DL.gNewL, DL.gNewD0, DL.gAllB, DL.gAnyB, DL.gSum, DL.lstOf, DL.gTuple, DL.gList, DL.seqOf, DL.iSeq, DL.seqI, DL.lstI, DL.sFor, DL.mLc, DL.wipeE, DL.tTru, DL.Tgt.put, DL.mApp, DL.gApp, DL.isL, DL.isDc, DL.mGet2, DL.gGet, DL.gTupA, DL.gTupT, DL.gsCons, DL.gsNil, DL.gSubT, DL.gPut, DL.sPar, DL.gInt, DL.gMin, DL.iZp, DL.zipI, DL.fl_ok, DL.fl_ex, DL.fl_no, DL.seq_nx, DL.seq_rt, DL.seq_ex, DL.seq_bk, DL.seq_ct, DL.out_nx, DL.out_rt, DL.out_ex, DL.isN_non, DL.isN_tup, DL.isN_str, DL.isN_ref, DL.notN_non, DL.notN_tup, DL.notN_str, DL.notN_ref, DL.atI_zero, DL.atI_one, DL.kit_ss, DL.kit_st, DL.kit_ts, DL.kit_tt, DL.eqD_int, hp]
    refine ⟨qs, S, left, ?_, drw_le hd (by omega), hm, hl, h0, hq, by omega, fun _ _ _ _ h => h⟩
    unfold frmB
    rw [sIf_ok t1]
    rfl
theorem F_form_ok {j : Nat} {c : Int} {lt sg : Str} (hs : okS sg = true) (hsg : ∀ c ∈ sg.cps.toList, inS ⟨#[c]⟩ lt = true ∧ okS ⟨#[c]⟩ = true) : ∀ (d k : Nat), d ≤ k → 1 ≤ d → d ≤ 6 → ∀ (sz n : Int) (S : Store), 1 ≤ sz → Drw S j c n → (need d : Int) ≤ n →
    ∃ p S', Gd lt d sz p ∧ F__law_drawn_form k [.ref j, .int d, .int sz, .str sg] S = .ok p.D S' ∧ Drw S' j c (n - need d) ∧ Kp j S S'
  | 0, _, _, h1, _, _, _, _, _, _, _ => by omega
  | d + 1, 0, h, _, _, _, _, _, _, _, _ => by omega
  | d + 1, k + 1, hk, _, hd6, sz, n, S, hsz, hd, hn => by
    have hn4 : (4 : Int) + 3 * need d ≤ n := by simp only [need] at hn; omega
    have e0 := eqD_str hs (t := "") (by decide +kernel)
    have fin : ∀ (S1 : Store) (n1 : Int), Drw S1 j c n1 → (2 : Int) + 3 * need d ≤ n1 → n1 ≤ n → Kp j S S1 → ∃ p S', Gd lt (d + 1) sz p ∧
        (sSeq (sPar 4 5 (mAll aNil gNewL) (mB2 (mVar 2) (mC (.int 1)) gSub))
        (sSeq (sFor (iR1 (mIf (tOfB (mB2 (mVar 1) (mC (.int 1)) gGt)) (mAll (aCons (mVar 0) (aCons (mC (.int 4)) aNil)) (callN 2 F__law_digit)) (mC (.int 0)))) (gNm 6) (frmB k))
        (sRet (mAll (aCons (mAll (aCons (mVar 0) aNil) (callN 1 F__law_drawn_word)) (aCons (mAll (aCons (mVar 4) aNil) (g1 gTuple)) aNil)) gTup)))) [some (.ref j), some (.int ((d : Int) + 1)), some (.int sz), some (.str sg), none, none, none] S1 = .rt p.D S' ∧ Drw S' j c (n1 - (2 + 3 * need d)) ∧ Kp j S S' := by
      intro S1 n1 hd1 hn1 hle hkp
      have hne : j ≠ S1.length := drw_ne hd1
      have h00 : 0 ≤ big := Nat.zero_le _
      have s1 : sPar 4 5 (mAll aNil gNewL) (mB2 (mVar 2) (mC (.int 1)) gSub) [some (.ref j), some (.int ((d : Int) + 1)), some (.int sz), some (.str sg), none, none, none] S1 = .nx [some (.ref j), some (.int ((d : Int) + 1)), some (.int sz), some (.str sg), some (.ref S1.length), some (.int (sz - 1)), none] (S1 ++ [.lst []]) := by
        simp [sPar, DL.fl_if, DL.out_if, DL.bind_if, DL.ofl_if, DL.Out.bind_ok, DL.Out.bind_ex, DL.Out.bind_no, DL.sSeq, DL.sIf, DL.sRet, DL.sRetN, DL.sDrop, DL.sAsg, DL.sNil, DL.sNo, DL.sBrk, DL.sCnt, DL.mVar, DL.mC, DL.mNo, DL.mB1, DL.mB2, DL.mAll, DL.aNil, DL.aCons, DL.tOfB, DL.tAndM, DL.tOrM, DL.tNotM, DL.mIf, DL.mAnd, DL.mOr, DL.runB, DL.callN, DL.g1, DL.g2, DL.gNm, DL.gLen, DL.gIsi, DL.tyN, DL.gEq, DL.gNe, DL.gLt, DL.gLe, DL.gGt, DL.gGe, DL.gAdd, DL.gSub, DL.gIx, DL.gIn, DL.gNotIn, DL.inOf, DL.gNot, DL.gTup, DL.gLst, DL.gNewL, DL.gNewD0, DL.gAllB, DL.gAnyB, DL.gSum, DL.lstOf, DL.gTuple, DL.gList, DL.seqOf, DL.iSeq, DL.seqI, DL.lstI, DL.sFor, DL.mLc, DL.wipeE, DL.tTru, DL.Tgt.put, DL.mApp, DL.gApp, DL.isL, DL.isDc, DL.mGet2, DL.gGet, DL.gTupA, DL.gTupT, DL.gsCons, DL.gsNil, DL.gSubT, DL.gPut, DL.sPar, DL.gInt, DL.gMin, DL.iZp, DL.zipI, DL.fl_ok, DL.fl_ex, DL.fl_no, DL.seq_nx, DL.seq_rt, DL.seq_ex, DL.seq_bk, DL.seq_ct, DL.out_nx, DL.out_rt, DL.out_ex, DL.isN_non, DL.isN_tup, DL.isN_str, DL.isN_ref, DL.notN_non, DL.notN_tup, DL.notN_str, DL.notN_ref, DL.atI_zero, DL.atI_one, DL.kit_ss, DL.kit_st, DL.kit_ts, DL.kit_tt, DL.eqD_int, h00]
      -- how many parts
      obtain ⟨Sx, hSx⟩ : ∃ Sx : Store, Sx = S1 ++ [Cell.lst []] := ⟨_, rfl⟩
      have hdx : Drw Sx j c n1 := by rw [hSx]; exact drw_app hd1 _
      have elx : Sx[S1.length]? = some (Cell.lst []) := by rw [hSx]; exact last_at _ _
      have kpx : Kp j S1 Sx := by rw [hSx]; exact Kp.app _ _ _
      rw [← hSx] at s1
      have parts : ∃ (t : Nat) (S2 : Store), t ≤ 3 ∧ (d = 0 → t = 0) ∧ Drw S2 j c (n1 - 1) ∧ S2[S1.length]? = some (Cell.lst []) ∧ Kp j S1 S2 ∧ iR1 (mIf (tOfB (mB2 (mVar 1) (mC (.int 1)) gGt)) (mAll (aCons (mVar 0) (aCons (mC (.int 4)) aNil)) (callN 2 F__law_digit)) (mC (.int 0))) [some (.ref j), some (.int ((d : Int) + 1)), some (.int sz), some (.str sg), some (.ref S1.length), some (.int (sz - 1)), none] Sx = .ok (rngD 0 t, []) S2 := by
        by_cases hz : d = 0
        · refine ⟨0, Sx, by omega, fun _ => rfl, drw_le hdx (by omega), elx, kpx, ?_⟩
          have r0 : rOk 0 = true := by decide
          subst hz
          simp [DL.fl_if, DL.out_if, DL.bind_if, DL.ofl_if, DL.Out.bind_ok, DL.Out.bind_ex, DL.Out.bind_no, DL.sSeq, DL.sIf, DL.sRet, DL.sRetN, DL.sDrop, DL.sAsg, DL.sNil, DL.sNo, DL.sBrk, DL.sCnt, DL.mVar, DL.mC, DL.mNo, DL.mB1, DL.mB2, DL.mAll, DL.aNil, DL.aCons, DL.tOfB, DL.tAndM, DL.tOrM, DL.tNotM, DL.mIf, DL.mAnd, DL.mOr, DL.runB, DL.callN, DL.g1, DL.g2, DL.gNm, DL.gLen, DL.gIsi, DL.tyN, DL.gEq, DL.gNe, DL.gLt, DL.gLe, DL.gGt, DL.gGe, DL.gAdd, DL.gSub, DL.gIx, DL.gIn, DL.gNotIn, DL.inOf, DL.gNot, DL.gTup, DL.gLst, DL.gNewL, DL.gNewD0, DL.gAllB, DL.gAnyB, DL.gSum, DL.lstOf, DL.gTuple, DL.gList, DL.seqOf, DL.iSeq, DL.seqI, DL.lstI, DL.sFor, DL.mLc, DL.wipeE, DL.tTru, DL.Tgt.put, DL.mApp, DL.gApp, DL.isL, DL.isDc, DL.mGet2, DL.gGet, DL.gTupA, DL.gTupT, DL.gsCons, DL.gsNil, DL.gSubT, DL.gPut, DL.sPar, DL.gInt, DL.gMin, DL.iZp, DL.zipI, DL.fl_ok, DL.fl_ex, DL.fl_no, DL.seq_nx, DL.seq_rt, DL.seq_ex, DL.seq_bk, DL.seq_ct, DL.out_nx, DL.out_rt, DL.out_ex, DL.isN_non, DL.isN_tup, DL.isN_str, DL.isN_ref, DL.notN_non, DL.notN_tup, DL.notN_str, DL.notN_ref, DL.atI_zero, DL.atI_one, DL.kit_ss, DL.kit_st, DL.kit_ts, DL.kit_tt, DL.eqD_int, iR1, r0]
        · obtain ⟨t, cell, t0, t1, hd2, e⟩ := F_digit_ok hdx (by omega) (sp := 4) (by decide) (by decide)
          have ro : rOk t = true := by simp only [rOk, Bool.and_eq_true, decide_eq_true_eq]; omega
          refine ⟨t.toNat, Sx.set j cell, by omega, fun z => absurd z hz, hd2, by rw [List.getElem?_set_ne hne]; exact elx, kpx.trans (Kp.set _ _ _), ?_⟩
          have gt : (1 : Int) < (d : Int) + 1 := by omega
          have tt : tOfB (mB2 (mVar 1) (mC (.int 1)) gGt) [some (.ref j), some (.int ((d : Int) + 1)), some (.int sz), some (.str sg), some (.ref S1.length), some (.int (sz - 1)), none] Sx = .ok true Sx := by
            simp [DL.fl_if, DL.out_if, DL.bind_if, DL.ofl_if, DL.Out.bind_ok, DL.Out.bind_ex, DL.Out.bind_no, DL.sSeq, DL.sIf, DL.sRet, DL.sRetN, DL.sDrop, DL.sAsg, DL.sNil, DL.sNo, DL.sBrk, DL.sCnt, DL.mVar, DL.mC, DL.mNo, DL.mB1, DL.mB2, DL.mAll, DL.aNil, DL.aCons, DL.tOfB, DL.tAndM, DL.tOrM, DL.tNotM, DL.mIf, DL.mAnd, DL.mOr, DL.runB, DL.callN, DL.g1, DL.g2, DL.gNm, DL.gLen, DL.gIsi, DL.tyN, DL.gEq, DL.gNe, DL.gLt, DL.gLe, DL.gGt, DL.gGe, DL.gAdd, DL.gSub, DL.gIx, DL.gIn, DL.gNotIn, DL.inOf, DL.gNot, DL.gTup, DL.gLst, DL.gNewL, DL.gNewD0, DL.gAllB, DL.gAnyB, DL.gSum, DL.lstOf, DL.gTuple, DL.gList, DL.seqOf, DL.iSeq, DL.seqI, DL.lstI, DL.sFor, DL.mLc, DL.wipeE, DL.tTru, DL.Tgt.put, DL.mApp, DL.gApp, DL.isL, DL.isDc, DL.mGet2, DL.gGet, DL.gTupA, DL.gTupT, DL.gsCons, DL.gsNil, DL.gSubT, DL.gPut, DL.sPar, DL.gInt, DL.gMin, DL.iZp, DL.zipI, DL.fl_ok, DL.fl_ex, DL.fl_no, DL.seq_nx, DL.seq_rt, DL.seq_ex, DL.seq_bk, DL.seq_ct, DL.out_nx, DL.out_rt, DL.out_ex, DL.isN_non, DL.isN_tup, DL.isN_str, DL.isN_ref, DL.notN_non, DL.notN_tup, DL.notN_str, DL.notN_ref, DL.atI_zero, DL.atI_one, DL.kit_ss, DL.kit_st, DL.kit_ts, DL.kit_tt, DL.eqD_int, gt]
          have dg : mAll (aCons (mVar 0) (aCons (mC (.int 4)) aNil)) (callN 2 F__law_digit) [some (.ref j), some (.int ((d : Int) + 1)), some (.int sz), some (.str sg), some (.ref S1.length), some (.int (sz - 1)), none] Sx = .ok (.int t) (Sx.set j cell) := by
            simp [DL.fl_if, DL.out_if, DL.bind_if, DL.ofl_if, DL.Out.bind_ok, DL.Out.bind_ex, DL.Out.bind_no, DL.sSeq, DL.sIf, DL.sRet, DL.sRetN, DL.sDrop, DL.sAsg, DL.sNil, DL.sNo, DL.sBrk, DL.sCnt, DL.mVar, DL.mC, DL.mNo, DL.mB1, DL.mB2, DL.mAll, DL.aNil, DL.aCons, DL.tOfB, DL.tAndM, DL.tOrM, DL.tNotM, DL.mIf, DL.mAnd, DL.mOr, DL.runB, DL.callN, DL.g1, DL.g2, DL.gNm, DL.gLen, DL.gIsi, DL.tyN, DL.gEq, DL.gNe, DL.gLt, DL.gLe, DL.gGt, DL.gGe, DL.gAdd, DL.gSub, DL.gIx, DL.gIn, DL.gNotIn, DL.inOf, DL.gNot, DL.gTup, DL.gLst, DL.gNewL, DL.gNewD0, DL.gAllB, DL.gAnyB, DL.gSum, DL.lstOf, DL.gTuple, DL.gList, DL.seqOf, DL.iSeq, DL.seqI, DL.lstI, DL.sFor, DL.mLc, DL.wipeE, DL.tTru, DL.Tgt.put, DL.mApp, DL.gApp, DL.isL, DL.isDc, DL.mGet2, DL.gGet, DL.gTupA, DL.gTupT, DL.gsCons, DL.gsNil, DL.gSubT, DL.gPut, DL.sPar, DL.gInt, DL.gMin, DL.iZp, DL.zipI, DL.fl_ok, DL.fl_ex, DL.fl_no, DL.seq_nx, DL.seq_rt, DL.seq_ex, DL.seq_bk, DL.seq_ct, DL.out_nx, DL.out_rt, DL.out_ex, DL.isN_non, DL.isN_tup, DL.isN_str, DL.isN_ref, DL.notN_non, DL.notN_tup, DL.notN_str, DL.notN_ref, DL.atI_zero, DL.atI_one, DL.kit_ss, DL.kit_st, DL.kit_ts, DL.kit_tt, DL.eqD_int, e]
          unfold iR1 mIf
          rw [tt, Out.bind_ok, if_pos rfl, dg, Out.bind_ok]
          simp only [ro, if_true]
      obtain ⟨t, S2, ht, ht0, hd2, hm2, kp2, er⟩ := parts
      obtain ⟨ρ3, S3, f3, hP⟩ := for_ind (gs := []) (S0 := S2) (g := gNm 6) (b := frmB k)
        (P := fun i ρ S' => ∃ (qs : List Pt) (left : Int) (x6 : Option D), ρ = [some (.ref j), some (.int ((d : Int) + 1)), some (.int sz), some (.str sg), some (.ref S1.length), some (.int left), x6] ∧ left = sz - 1 - Pt.wts qs ∧ 0 ≤ left ∧ qs.length ≤ i ∧ (∀ q ∈ qs, shp lt d q = true ∧ q.ok d = true) ∧ Drw S' j c (n1 - 1 - i * need d) ∧ S'[S1.length]? = some (.lst (qs.map Pt.D)) ∧ ∀ i x, i ≠ j → i ≠ S1.length → S2[i]? = some x → S'[i]? = some x)
        (rngD 0 t) 0 (fun i v ρ S' hi ⟨qs, left, x6, hρ, hl, h0, hlen, hq, hd', hm', hk'⟩ => by
          subst hρ
          have hit : i < t := by
            have := (List.getElem?_eq_some_iff.mp hi).1
            simpa [rngD] using this
          have hd0 : 1 ≤ d := by
            rcases Nat.eq_zero_or_pos d with z | z
            · have := ht0 z; omega
            · exact z
          have hmul : (i : Int) * need d ≤ 2 * need d := Int.mul_le_mul_of_nonneg_right (by omega) (by omega)
          have h0i : (((0 + i : Nat) : Int)) = (i : Int) := by omega
          rw [h0i] at hd'
          obtain ⟨qs', S4, left', e, hd4, hm4, hl4, h04, hq4, hlen4, hk4⟩ := frm_turn (x6 := some v) (by omega) (fun sz n S a b c' => F_form_ok hs hsg d k (by omega) hd0 (by omega) sz n S a b c') hd' (by omega) hne hm' hl h0 hq (by omega)
          refine ⟨okG_none _ _, _, S', rfl, _, S4, .inl e, qs', left', some v, rfl, hl4, h04, by omega, hq4, ?_, hm4, fun a x h1 h2 hx => hk4 a x h1 h2 (hk' a x h1 h2 hx)⟩
          refine drw_le hd4 ?_
          have : (((0 + i + 1 : Nat) : Int)) * need d = (i : Int) * need d + need d := by
            have : (((0 + i + 1 : Nat) : Int)) = (i : Int) + 1 := by omega
            rw [this, Int.add_mul, Int.one_mul]
          omega) (fun _ _ _ => okG_none _ _)
        [some (.ref j), some (.int ((d : Int) + 1)), some (.int sz), some (.str sg), some (.ref S1.length), some (.int (sz - 1)), none] S2 ⟨[], sz - 1, none, rfl, by simp [Pt.wts], by omega, by simp, (fun q h => by cases h), by simpa using hd2, by simpa using hm2, fun _ _ _ _ h => h⟩
      obtain ⟨qs, left, x6, hρ, hl, h0, hlen, hq, hd3, hm3, hk3⟩ := hP
      have lt3 : (rngD 0 t).length = t := by simp [rngD]
      rw [lt3] at hlen hd3
      have hmul : ((t : Int)) * need d ≤ 3 * need d := Int.mul_le_mul_of_nonneg_right (by omega) (by omega)
      have ht' : (((0 + t : Nat) : Int)) = (t : Int) := by omega
      rw [ht'] at hd3
      obtain ⟨w, hw, cell, hd4, ew⟩ := F_word_ok hd3 (by omega)
      have hwk := List.all_eq_true.mp wds_ok w hw
      simp only [Bool.and_eq_true] at hwk
      have hm4 : (S3.set j cell)[S1.length]? = some (.lst (qs.map Pt.D)) := by rw [List.getElem?_set_ne hne]; exact hm3
      have h2 : 2 ≤ big := by unfold big; omega
      refine ⟨.c w qs, S3.set j cell, ⟨?_, ?_, ?_⟩, ?_, drw_le hd4 (by omega), ?_⟩
      · simp only [shp, hwk.1, Bool.true_and, Bool.and_eq_true, decide_eq_true_eq]
        exact ⟨by omega, shps_all fun q h => (hq q h).1⟩
      · simp only [Pt.ok, hwk.2, Bool.true_and, Bool.and_eq_true, decide_eq_true_eq]
        exact ⟨by omega, oks_all fun q h => (hq q h).2⟩
      · simp only [Pt.wt]; omega
      · rw [sSeq_nx s1, sSeq_nx ((sFor_ok er).trans f3), hρ]
        simp [DL.fl_if, DL.out_if, DL.bind_if, DL.ofl_if, DL.Out.bind_ok, DL.Out.bind_ex, DL.Out.bind_no, DL.sSeq, DL.sIf, DL.sRet, DL.sRetN, DL.sDrop, DL.sAsg, DL.sNil, DL.sNo, DL.sBrk, DL.sCnt, DL.mVar, DL.mC, DL.mNo, DL.mB1, DL.mB2, DL.mAll, DL.aNil, DL.aCons, DL.tOfB, DL.tAndM, DL.tOrM, DL.tNotM, DL.mIf, DL.mAnd, DL.mOr, DL.runB, DL.callN, DL.g1, DL.g2, DL.gNm, DL.gLen, DL.gIsi, DL.tyN, DL.gEq, DL.gNe, DL.gLt, DL.gLe, DL.gGt, DL.gGe, DL.gAdd, DL.gSub, DL.gIx, DL.gIn, DL.gNotIn, DL.inOf, DL.gNot, DL.gTup, DL.gLst, DL.gNewL, DL.gNewD0, DL.gAllB, DL.gAnyB, DL.gSum, DL.lstOf, DL.gTuple, DL.gList, DL.seqOf, DL.iSeq, DL.seqI, DL.lstI, DL.sFor, DL.mLc, DL.wipeE, DL.tTru, DL.Tgt.put, DL.mApp, DL.gApp, DL.isL, DL.isDc, DL.mGet2, DL.gGet, DL.gTupA, DL.gTupT, DL.gsCons, DL.gsNil, DL.gSubT, DL.gPut, DL.sPar, DL.gInt, DL.gMin, DL.iZp, DL.zipI, DL.fl_ok, DL.fl_ex, DL.fl_no, DL.seq_nx, DL.seq_rt, DL.seq_ex, DL.seq_bk, DL.seq_ct, DL.out_nx, DL.out_rt, DL.out_ex, DL.isN_non, DL.isN_tup, DL.isN_str, DL.isN_ref, DL.notN_non, DL.notN_tup, DL.notN_str, DL.notN_ref, DL.atI_zero, DL.atI_one, DL.kit_ss, DL.kit_st, DL.kit_ts, DL.kit_tt, DL.eqD_int, ew, hm4, h2, Pt.D, Pt.Ds_map]
      · intro i x h1 hx
        have hx1 := hkp i x h1 hx
        have hx2 := kp2 i x h1 hx1
        have hi : i ≠ S1.length := by have := lt_of_at hx1; omega
        rw [List.getElem?_set_ne (Ne.symm h1)]
        exact hk3 i x h1 hi hx2
    by_cases hemp : sg = ""
    · have t1 : tAndM (tOfB (mB2 (mVar 3) (mC (.str ("" : Str))) gNe)) (tOfB (mB2 (mAll (aCons (mVar 0) (aCons (mC (.int 3)) aNil)) (callN 2 F__law_digit)) (mC (.int 0)) gEq)) [some (.ref j), some (.int ((d : Int) + 1)), some (.int sz), some (.str sg), none, none, none] S = .ok false S := by
        have : (sg == ("" : Str)) = true := by rw [hemp]; simp
        rw [this] at e0
        refine tAnd_f (tOfB_ok ((mB2_ok (d := .str sg) (d' := .str ("" : Str)) (S1 := S) (S2 := S) rfl rfl).trans ?_))
        simp only [gNe, e0, Bool.not_true]
      obtain ⟨p, S', g, e, hd', kp⟩ := fin S n hd (by omega) (by omega) (Kp.refl _ _)
      refine ⟨p, S', g, ?_, drw_le hd' (by simp only [need]; omega), kp⟩
      show Fl.out (sSeq (sIf _ _ _) _ [some (.ref j), some (.int ((d : Int) + 1)), some (.int sz), some (.str sg), none, none, none] S) = _
      rw [sSeq_nx (by rw [sIf_ok t1]; rfl)]
      exact (congrArg Fl.out e).trans rfl
    · obtain ⟨r, cell, r0, r1, hd1, e1⟩ := F_digit_ok hd (by omega) (sp := 3) (by decide) (by decide)
      have hneq : (sg == ("" : Str)) = false := by simpa using hemp
      rw [hneq] at e0
      have t1 : tAndM (tOfB (mB2 (mVar 3) (mC (.str ("" : Str))) gNe)) (tOfB (mB2 (mAll (aCons (mVar 0) (aCons (mC (.int 3)) aNil)) (callN 2 F__law_digit)) (mC (.int 0)) gEq)) [some (.ref j), some (.int ((d : Int) + 1)), some (.int sz), some (.str sg), none, none, none] S = .ok (r == 0) (S.set j cell) := by
        have a := tOfB_ok (k := true) ((mB2_ok (g := gNe) (d := .str sg) (d' := .str ("" : Str)) (ρ := [some (.ref j), some (.int ((d : Int) + 1)), some (.int sz), some (.str sg), none, none, none]) (m := mVar 3) (m' := mC (.str ("" : Str))) (S := S) (S1 := S) (S2 := S) rfl rfl).trans (show gNe (.str sg) (.str ("" : Str)) S = .ok (.bl true) S by simp only [gNe, e0, Bool.not_false]))
        rw [tAnd_t a]
        refine tOfB_ok ((mB2_ok (d := .int r) (d' := .int 0) (S1 := S.set j cell) (S2 := S.set j cell) ((mAll_2 (d := .ref j) (d' := .int 3) (S1 := S) (S2 := S) rfl rfl).trans ((callN_1 rfl).trans e1)) rfl).trans ?_)
        simp only [gEq, eqD_int]
      by_cases hr : r = 0
      · -- a variable
        subst hr
        have hl0 : 0 < sg.length := by
          rcases Nat.eq_zero_or_pos sg.length with z | z
          · exfalso
            apply hemp
            have : sg.cps.toList = [] := by
              have : sg.cps.toList.length = 0 := by simpa [Str.length] using z
              exact List.length_eq_zero_iff.mp this
            have h2 : sg.cps = #[] := by simpa using this
            have : sg = ⟨#[]⟩ := by rw [← h2]
            rw [this]; decide +kernel
          · exact z
        have hl1 := (okS_str hs).2
        obtain ⟨q, cell2, q0, q1, hd2, e2⟩ := F_digit_ok hd1 (by omega) (sp := sg.length) (by omega) (by omega)
        rw [List.set_set] at hd2 e2
        obtain ⟨qn, rfl⟩ := Int.eq_ofNat_of_zero_le q0
        have hqn : qn < sg.cps.toList.length := by
          have : sg.cps.toList.length = sg.length := by simp [Str.length]
          omega
        have hmem := List.getElem_mem hqn
        have hat : atI sg.cps.toList (qn : Int) = some sg.cps.toList[qn] := by
          have h2 : (qn : Int) < (sg.cps.toList.length : Int) := by omega
          have h3 : ¬ ((qn : Int) < 0) := by omega
          have hqn' : qn < sg.cps.size := by simpa using hqn
          simp [atI, ixN, hqn']
        have hb : sg.length ≤ big := by unfold big; omega
        obtain ⟨k1, k2⟩ := hsg _ hmem
        refine ⟨.v ⟨#[sg.cps.toList[qn]]⟩, S.set j cell2, ⟨?_, ?_, ?_⟩, ?_, drw_le hd2 (by simp only [need]; omega), Kp.set _ _ _⟩
        · have hl1 : (⟨#[sg.cps.toList[qn]]⟩ : Str).length = 1 := rfl
          simp only [shp, hl1, k1, decide_true, Bool.and_self]
        · simp only [Pt.ok]; exact k2
        · simp only [Pt.wt]; omega
        · show Fl.out (sSeq (sIf _ (sRet (mB2 (mVar 3) (mAll (aCons (mVar 0) (aCons (mAll (aCons (mVar 3) aNil) (g1 gLen)) aNil)) (callN 2 F__law_digit)) gIx)) _) _ [some (.ref j), some (.int ((d : Int) + 1)), some (.int sz), some (.str sg), none, none, none] S) = _
          have ee : (sRet (mB2 (mVar 3) (mAll (aCons (mVar 0) (aCons (mAll (aCons (mVar 3) aNil) (g1 gLen)) aNil)) (callN 2 F__law_digit)) gIx)) [some (.ref j), some (.int ((d : Int) + 1)), some (.int sz), some (.str sg), none, none, none] (S.set j cell) = .rt (.str ⟨#[sg.cps.toList[qn]]⟩) (S.set j cell2) := by
            simp [DL.fl_if, DL.out_if, DL.bind_if, DL.ofl_if, DL.Out.bind_ok, DL.Out.bind_ex, DL.Out.bind_no, DL.sSeq, DL.sIf, DL.sRet, DL.sRetN, DL.sDrop, DL.sAsg, DL.sNil, DL.sNo, DL.sBrk, DL.sCnt, DL.mVar, DL.mC, DL.mNo, DL.mB1, DL.mB2, DL.mAll, DL.aNil, DL.aCons, DL.tOfB, DL.tAndM, DL.tOrM, DL.tNotM, DL.mIf, DL.mAnd, DL.mOr, DL.runB, DL.callN, DL.g1, DL.g2, DL.gNm, DL.gLen, DL.gIsi, DL.tyN, DL.gEq, DL.gNe, DL.gLt, DL.gLe, DL.gGt, DL.gGe, DL.gAdd, DL.gSub, DL.gIx, DL.gIn, DL.gNotIn, DL.inOf, DL.gNot, DL.gTup, DL.gLst, DL.gNewL, DL.gNewD0, DL.gAllB, DL.gAnyB, DL.gSum, DL.lstOf, DL.gTuple, DL.gList, DL.seqOf, DL.iSeq, DL.seqI, DL.lstI, DL.sFor, DL.mLc, DL.wipeE, DL.tTru, DL.Tgt.put, DL.mApp, DL.gApp, DL.isL, DL.isDc, DL.mGet2, DL.gGet, DL.gTupA, DL.gTupT, DL.gsCons, DL.gsNil, DL.gSubT, DL.gPut, DL.sPar, DL.gInt, DL.gMin, DL.iZp, DL.zipI, DL.fl_ok, DL.fl_ex, DL.fl_no, DL.seq_nx, DL.seq_rt, DL.seq_ex, DL.seq_bk, DL.seq_ct, DL.out_nx, DL.out_rt, DL.out_ex, DL.isN_non, DL.isN_tup, DL.isN_str, DL.isN_ref, DL.notN_non, DL.notN_tup, DL.notN_str, DL.notN_ref, DL.atI_zero, DL.atI_one, DL.kit_ss, DL.kit_st, DL.kit_ts, DL.kit_tt, DL.eqD_int, hb, e2, hat]
          rw [sSeq_rt (by rw [sIf_ok t1]; exact ee)]
          rfl
      · have hf : (r == 0) = false := by simpa using hr
        rw [hf] at t1
        obtain ⟨p, S', g, e, hd', kp⟩ := fin (S.set j cell) (n - 1) hd1 (by omega) (by omega) (Kp.set _ _ _)
        refine ⟨p, S', g, ?_, drw_le hd' (by simp only [need]; omega), kp⟩
        show Fl.out (sSeq (sIf _ _ _) _ [some (.ref j), some (.int ((d : Int) + 1)), some (.int sz), some (.str sg), none, none, none] S) = _
        rw [sSeq_nx (by rw [sIf_ok t1]; rfl)]
        exact (congrArg Fl.out e).trans rfl
end GN

end

/-! ## MX -/
section
set_option Elab.async false
set_option linter.all false
set_option maxRecDepth 100000
/-! # what fits means, by substitutions -/
namespace GN
open PySem PySem.Spec PyProof.Rows L2 DL
mutual
def sub (σ : Str → Pt) : Pt → Pt
  | .v s => σ s
  | .c w l => .c w (subs σ l)
def subs (σ : Str → Pt) : List Pt → List Pt
  | [] => []
  | p :: l => sub σ p :: subs σ l
end
theorem subs_len (σ : Str → Pt) : ∀ l, (subs σ l).length = l.length
  | [] => rfl
  | p :: l => by simp only [subs, List.length_cons, subs_len σ l]
def exts (f : List (Str × Pt)) (σ : Str → Pt) : Prop := ∀ s v, getA f s = some v → σ s = v
theorem getA_snoc_ne {s t : Str} {p : Pt} (h : t ≠ s) : ∀ {f : List (Str × Pt)}, getA (f ++ [(s, p)]) t = getA f t
  | [] => by
    have h' : ¬ s = t := fun z => h z.symm
    simp [getA, h']
  | x :: f => by
    by_cases e : x.1 = t
    · simp [getA, e]
    · have ih := getA_snoc_ne (s := s) (p := p) h (f := f)
      simp only [getA, List.cons_append, List.find?_cons, e, decide_false] at ih ⊢
      exact ih
theorem exts_snoc {f : List (Str × Pt)} {s : Str} {p : Pt} {σ : Str → Pt} (h : getA f s = none) : exts (f ++ [(s, p)]) σ ↔ exts f σ ∧ σ s = p := by
  constructor
  · intro e
    refine ⟨fun t v ht => e t v ?_, e s p (getA_snoc h)⟩
    by_cases hts : t = s
    · subst hts; rw [h] at ht; cases ht
    · rw [getA_snoc_ne hts]; exact ht
  · rintro ⟨e, hs⟩ t v ht
    by_cases hts : t = s
    · subst hts
      rw [getA_snoc h] at ht
      cases ht
      exact hs
    · rw [getA_snoc_ne hts] at ht
      exact e t v ht
theorem clash_sub {w u : Str} {l r : List Pt} {σ : Str → Pt} (h : clashP (.c w l) (.c u r) = true) : sub σ (.c w l) ≠ .c u r := by
  intro e
  simp only [sub, Pt.c.injEq] at e
  obtain ⟨e1, e2⟩ := e
  have hl := subs_len σ l
  rw [e2] at hl
  subst e1
  simp [clashP, hl] at h
theorem fitsL_sub {g : Pt → Pt → List (Str × Pt) → Bool × List (Str × Pt)} {σ : Str → Pt} :
    ∀ (l r : List Pt) (f : List (Str × Pt)), l.length = r.length → (∀ p ∈ l, ∀ q f, ((g p q f).1 = true → (exts (g p q f).2 σ ↔ exts f σ ∧ sub σ p = q)) ∧ ((g p q f).1 = false → exts f σ → sub σ p ≠ q)) →
    ((fitsL g l r f).1 = true → (exts (fitsL g l r f).2 σ ↔ exts f σ ∧ subs σ l = r)) ∧ ((fitsL g l r f).1 = false → exts f σ → subs σ l ≠ r)
  | [], [], f, _, _ => by simp [fitsL, subs]
  | [], _ :: _, f, h, _ => by simp at h
  | _ :: _, [], f, h, _ => by simp at h
  | p :: l, q :: r, f, h, hg => by
    obtain ⟨g1, g2⟩ := hg p (List.mem_cons_self ..) q f
    cases hb : (g p q f).1 with
    | false =>
      simp only [fitsL, hb, Bool.false_eq_true, if_false, false_implies, true_and, true_implies]
      intro he e
      simp only [subs, List.cons.injEq] at e
      exact g2 hb he e.1
    | true =>
      have ih := fitsL_sub (g := g) (σ := σ) l r (g p q f).2 (by simpa using h) (fun x hx => hg x (List.mem_cons_of_mem _ hx))
      simp only [fitsL, hb, if_true, subs, List.cons.injEq]
      refine ⟨fun ht => ?_, fun hf he e => ?_⟩
      · rw [(ih.1 ht), g1 hb]
        exact ⟨fun ⟨⟨a, b⟩, c⟩ => ⟨a, b, c⟩, fun ⟨a, b, c⟩ => ⟨⟨a, b⟩, c⟩⟩
      · obtain ⟨e1, e2⟩ := List.cons.inj e
        exact ih.2 hf ((g1 hb).mpr ⟨he, e1⟩) e2
theorem fits_sub {σ : Str → Pt} : ∀ (k : Nat) (p q : Pt) (f : List (Str × Pt)), p.ok k = true → ((fitsP k p q f).1 = true → (exts (fitsP k p q f).2 σ ↔ exts f σ ∧ sub σ p = q)) ∧ ((fitsP k p q f).1 = false → exts f σ → sub σ p ≠ q)
  | 0, p, q, f, h => by simp [Pt.ok] at h
  | k + 1, .v s, q, f, h => by
    cases hg : getA f s with
    | none =>
      have e : fitsP (k + 1) (.v s) q f = (true, f ++ [(s, q)]) := by simp [fitsP, hg]
      rw [e]
      exact ⟨fun _ => exts_snoc hg, fun z => (by cases z)⟩
    | some r =>
      have e : fitsP (k + 1) (.v s) q f = (r.eq q, f) := by simp [fitsP, hg]
      rw [e]
      refine ⟨fun e => ?_, fun e he z => ?_⟩
      · have e' := (Pt.eq_iff r q).mp e
        subst e'
        exact ⟨fun he => ⟨he, he s r hg⟩, fun he => he.1⟩
      · have h1 := he s r hg
        have h2 : σ s = q := z
        rw [h1] at h2
        rw [(Pt.eq_iff r q).mpr h2] at e
        cases e
  | k + 1, .c w l, .v s, f, h => by
    have ef : fitsP (k + 1) (.c w l) (.v s) f = (false, f) := by simp [fitsP]
    rw [ef]
    exact ⟨fun z => (by cases z), fun _ _ z => by simp [sub] at z⟩
  | k + 1, .c w l, .c u r, f, h => by
    cases hc : clashP (.c w l) (.c u r) with
    | true =>
      have ef : fitsP (k + 1) (.c w l) (.c u r) f = (false, f) := by simp [fitsP, hc]
      rw [ef]
      exact ⟨fun z => (by cases z), fun _ _ => clash_sub hc⟩
    | false =>
      simp only [Pt.ok, Bool.and_eq_true] at h
      have hl : l.length = r.length ∧ w = u := by
        simp only [clashP, Bool.or_eq_false_iff, Bool.not_eq_false', beq_iff_eq] at hc
        exact ⟨hc.2, hc.1⟩
      have ef : fitsP (k + 1) (.c w l) (.c u r) f = fitsL (fitsP k) l r f := by simp [fitsP, hc]
      rw [ef]
      have ih := fitsL_sub (g := fitsP k) (σ := σ) l r f hl.1 (fun p hp q f => fits_sub k p q f (oks_mem h.2 hp))
      refine ⟨fun e => ?_, fun e he z => ?_⟩
      · rw [ih.1 e, hl.2]
        simp only [sub, Pt.c.injEq, true_and]
      · simp only [sub, Pt.c.injEq] at z
        exact ih.2 e he z.2
/-- a substitution that has these values -/
def sigma (f : List (Str × Pt)) (s : Str) : Pt := (getA f s).getD (.v s)
theorem exts_sigma (f : List (Str × Pt)) : exts f (sigma f) := fun s v h => by simp [sigma, h]
theorem fits_iff {k : Nat} {p q : Pt} {f : List (Str × Pt)} (h : p.ok k = true) : (fitsP k p q f).1 = true ↔ ∃ σ, exts f σ ∧ sub σ p = q := by
  constructor
  · intro e
    exact ⟨_, ((fits_sub k p q f h).1 e).mp (exts_sigma _)⟩
  · rintro ⟨σ, he, hs⟩
    cases hb : (fitsP k p q f).1 with
    | true => rfl
    | false => exact absurd hs ((fits_sub (σ := σ) k p q f h).2 hb he)
/-! the other way: pairs that wait -/
def sat (σ : Str → Pt) (f : List (Str × Pt)) (W : List (Pt × Pt)) : Prop := exts f σ ∧ ∀ x ∈ W, sub σ x.1 = x.2
def wtsW : List (Pt × Pt) → Nat
  | [] => 0
  | x :: W => x.1.wt + wtsW W
theorem wtsW_append : ∀ (a b : List (Pt × Pt)), wtsW (a ++ b) = wtsW a + wtsW b
  | [], b => by simp [wtsW]
  | x :: a, b => by simp only [List.cons_append, wtsW, wtsW_append a b]; omega
theorem wtsW_zip : ∀ (l r : List Pt), wtsW (l.zip r) ≤ Pt.wts l
  | [], r => by simp [wtsW]
  | p :: l, [] => by simp [wtsW]
  | p :: l, q :: r => by
    have := wtsW_zip l r
    simp only [List.zip_cons_cons, wtsW, Pt.wts]; omega
theorem subs_zip {σ : Str → Pt} : ∀ {l r : List Pt}, l.length = r.length → ((∀ x ∈ l.zip r, sub σ x.1 = x.2) ↔ subs σ l = r)
  | [], [], _ => by simp [subs]
  | [], _ :: _, h => by simp at h
  | _ :: _, [], h => by simp at h
  | p :: l, q :: r, h => by
    have ih := subs_zip (σ := σ) (l := l) (r := r) (by simpa using h)
    simp only [List.zip_cons_cons, List.mem_cons, forall_eq_or_imp, subs, List.cons.injEq, ih]
/-- putting a value for a name -/
theorem getA_map {s t : Str} {p : Pt} : ∀ {f : List (Str × Pt)}, getA (f.map fun x => if x.1 = s then (x.1, p) else x) t = if t = s then (getA f s).map (fun _ => p) else getA f t
  | [] => by simp [getA]
  | x :: f => by
    have ih := getA_map (s := s) (t := t) (p := p) (f := f)
    by_cases hts : t = s
    · subst hts
      simp only [if_true] at ih ⊢
      by_cases e : x.1 = t
      · simp [getA, e]
      · simp only [List.map_cons, e, if_false, getA, List.find?_cons, decide_false] at ih ⊢
        exact ih
    · simp only [hts, if_false] at ih ⊢
      by_cases e : x.1 = t
      · have e2 : ¬ x.1 = s := fun z => hts (e.symm.trans z)
        simp [getA, e, hts]
      · by_cases e2 : x.1 = s
        · have e3 : ¬ s = t := fun z => hts z.symm
          simp only [List.map_cons, e2, if_true, getA, List.find?_cons, e3, decide_false] at ih ⊢
          exact ih
        · simp only [List.map_cons, e2, if_false, getA, List.find?_cons, e, decide_false] at ih ⊢
          exact ih
theorem any_getA {s : Str} : ∀ {f : List (Str × Pt)}, (f.any fun x => decide (x.1 = s)) = (getA f s).isSome
  | [] => rfl
  | x :: f => by
    have ih := any_getA (s := s) (f := f)
    by_cases e : x.1 = s
    · simp [getA, e]
    · simp only [List.any_cons, e, decide_false, Bool.false_or, getA, List.find?_cons] at ih ⊢
      exact ih
theorem getA_put {s t : Str} {p : Pt} {f : List (Str × Pt)} : getA (putA f s p) t = if t = s then some p else getA f t := by
  unfold putA
  rw [any_getA]
  cases hg : getA f s with
  | none =>
    simp only [Option.isSome_none, Bool.false_eq_true, if_false]
    by_cases hts : t = s
    · subst hts; rw [getA_snoc hg]; simp
    · rw [getA_snoc_ne hts]; simp [hts]
  | some r =>
    simp only [Option.isSome_some, if_true]
    rw [getA_map, hg]
    by_cases hts : t = s <;> simp [hts]
theorem len_put {s : Str} {p : Pt} {f : List (Str × Pt)} : (putA f s p).length ≤ f.length + 1 := by
  unfold putA
  split <;> simp
theorem sat_put {σ : Str → Pt} {f : List (Str × Pt)} {s : Str} {q : Pt} {W : List (Pt × Pt)} (h : ∀ r, getA f s = some r → r = q) : sat σ (putA f s q) W ↔ sat σ f (W ++ [(.v s, q)]) := by
  unfold sat
  have e : exts (putA f s q) σ ↔ exts f σ ∧ σ s = q := by
    constructor
    · intro e
      refine ⟨fun t v ht => e t v ?_, e s q (by rw [getA_put]; simp)⟩
      rw [getA_put]
      by_cases hts : t = s
      · subst hts; rw [h v ht]; simp
      · simp [hts, ht]
    · rintro ⟨e, hs⟩ t v ht
      rw [getA_put] at ht
      by_cases hts : t = s
      · subst hts; simp at ht; rw [← ht]; exact hs
      · simp only [hts, if_false] at ht; exact e t v ht
  rw [e]
  constructor
  · rintro ⟨⟨a, b⟩, c⟩
    refine ⟨a, fun x hx => ?_⟩
    rcases List.mem_append.mp hx with h | h
    · exact c x h
    · rw [List.mem_singleton.mp h]; exact b
  · rintro ⟨a, c⟩
    exact ⟨⟨a, c (.v s, q) (by simp)⟩, fun x hx => c x (List.mem_append_left _ hx)⟩
theorem sat_zip {σ : Str → Pt} {f : List (Str × Pt)} {w u : Str} {l r : List Pt} {W : List (Pt × Pt)} (h : clashP (.c w l) (.c u r) = false) : sat σ f (W ++ l.zip r) ↔ sat σ f (W ++ [(.c w l, .c u r)]) := by
  simp only [clashP, Bool.or_eq_false_iff, Bool.not_eq_false', beq_iff_eq] at h
  have z := subs_zip (σ := σ) h.2
  unfold sat
  constructor
  · rintro ⟨a, c⟩
    refine ⟨a, fun x hx => ?_⟩
    rcases List.mem_append.mp hx with k | k
    · exact c x (List.mem_append_left _ k)
    · rw [List.mem_singleton.mp k]
      simp only [sub, h.1, z.mp fun y hy => c y (List.mem_append_right _ hy)]
  · rintro ⟨a, c⟩
    refine ⟨a, fun x hx => ?_⟩
    rcases List.mem_append.mp hx with k | k
    · exact c x (List.mem_append_left _ k)
    · have e := c (.c w l, .c u r) (by simp)
      simp only [sub, Pt.c.injEq] at e
      exact z.mpr e.2 x k
end GN

end

/-! ## MU -/
section
set_option Elab.async false
set_option linter.all false
set_option maxRecDepth 100000
/-! # pairs that wait: the steps of a law's own match -/
namespace GN
open PySem PySem.Spec PyProof.Rows L2 DL
/-- a while by a measure, up to its end or a return -/
theorem while_ret {t : MT} {b : MS} (P : Nat → DL.Env → Store → Prop) (R : Fl → Prop)
    (h : ∀ n ρ S, P n ρ S → (∃ S1, t ρ S = .ok false S1 ∧ R (.nx ρ S1)) ∨ ∃ S1, t ρ S = .ok true S1 ∧ ((∃ d S2, b ρ S1 = .rt d S2 ∧ R (.rt d S2)) ∨ ∃ m ρ2 S2, m < n ∧ b ρ S1 = .nx ρ2 S2 ∧ P m ρ2 S2)) :
    ∀ (n fu : Nat), n < fu → ∀ ρ S, P n ρ S → R (whileGo t b fu ρ S) := by
  intro n
  induction n using Nat.strongRecOn with
  | ind n ih =>
    intro fu hfu ρ S hP
    match fu, hfu with
    | fu + 1, hfu =>
      unfold whileGo
      rcases h n ρ S hP with ⟨S1, e, r⟩ | ⟨S1, e, ⟨d, S2, e2, r⟩ | ⟨m, ρ2, S2, hm, e2, hP2⟩⟩
      · rw [e, fl_ok]; simpa using r
      · rw [e, fl_ok]; simp only [if_true, e2]; exact r
      · rw [e, fl_ok]; simp only [if_true, e2]
        exact ih m hm fu (by omega) ρ2 S2 hP2
def pairD (x : Pt × Pt) : D := .tup [x.1.D, x.2.D]
theorem zip_pairs : ∀ (l r : List Pt), zipD (Pt.Ds l) (Pt.Ds r) = (l.zip r).map pairD
  | [], r => by simp [Pt.Ds, zipD]
  | p :: l, [] => by simp [Pt.Ds, zipD]
  | p :: l, q :: r => by simp only [Pt.Ds, zipD, List.zip_cons_cons, List.map_cons, zip_pairs l r, pairD]
def okW (W : List (Pt × Pt)) : Prop := ∀ x ∈ W, x.1.ok 6 = true ∧ x.2.ok 6 = true
def pairPy (x : Pt × Pt) : PyData := .tuple [x.1.py, x.2.py]
theorem pairs_py : ∀ W : List (Pt × Pt), DL.D.pyAll (W.map pairD) = some (W.map pairPy)
  | [] => rfl
  | x :: W => by
    have e : (pairD x).py = some (pairPy x) := by simp only [pairD, DL.D.py, DL.D.pyAll, Pt.py_is, Option.map_some, pairPy]
    simp only [List.map_cons, DL.D.pyAll, e, pairs_py W]
theorem pairs_lay : ∀ W : List (Pt × Pt), okW W → PyData.canLayAll0 (W.map pairPy) = true
  | [], _ => rfl
  | x :: W, h => by
    have h1 := h x (List.mem_cons_self ..)
    have e : (pairPy x).canLay0 = true := by simp only [pairPy, PyData.canLay0, PyData.canLayAll0, Pt.lay 6 _ h1.1, Pt.lay 6 _ h1.2, Bool.and_self]
    simp only [List.map_cons, PyData.canLayAll0, e, pairs_lay W fun y hy => h y (List.mem_cons_of_mem _ hy), Bool.and_self]
theorem pairs_deep : ∀ W : List (Pt × Pt), okW W → PyData.depthAll (W.map pairPy) ≤ 13
  | [], _ => by simp [PyData.depthAll]
  | x :: W, h => by
    have h1 := h x (List.mem_cons_self ..)
    have a := Pt.deep 6 _ h1.1
    have b := Pt.deep 6 _ h1.2
    have ih := pairs_deep W fun y hy => h y (List.mem_cons_of_mem _ hy)
    have e : (pairPy x).depth ≤ 13 := by simp only [pairPy, PyData.depth, PyData.depthAll]; omega
    simp only [List.map_cons, PyData.depthAll]; omega
noncomputable def waitT : MT := tOfB (mB2 (mVar 3) (mAll aNil DL.gLst) gNeS)
theorem wait_ok {ρ : DL.Env} {S : Store} {nw : Nat} {W : List (Pt × Pt)} (h3 : ρ[3]? = some (some (.ref nw))) (hS : S[nw]? = some (.lst (W.map pairD))) (hW : okW W) : waitT ρ S = .ok (!W.isEmpty) S := by
  have h0 : 0 ≤ big := Nat.zero_le _
  have d := pairs_deep W hW
  have e0 : (PyData.list (W.map pairPy)).depth = PyData.depthAll (W.map pairPy) + 1 := by simp [PyData.depth]
  have sh : SeqAt.shaped (.list (W.map pairPy)) = true := by
    simp only [SeqAt.shaped, PyData.canLay0, pairs_lay W hW, Bool.true_and, decide_eq_true_eq]
    rw [e0]; omega
  have sh2 : SeqAt.shaped (.list []) = true := by decide
  refine tOfB_ok ((mB2_ok (d := .ref nw) (d' := .lst []) (S1 := S) (S2 := S) (by simp [mVar, h3]) (by simp [mAll, aNil, DL.gLst, h0])).trans ?_)
  have e : eqS S (.ref nw) (.lst []) = some W.isEmpty := by
    unfold eqS
    simp only [pyS, hS, pairs_py, DL.D.py, DL.D.pyAll, Option.map_some, sh, sh2, and_self, if_true, PyData.eqv, Option.some.injEq]
    cases W <;> rfl
  simp only [gNeS, e]
noncomputable def popB : MS := sAsg (mB1 (mVar 3) gPop) (gTupA 2 (gsCons (gNm 4) (gsCons (gNm 5) gsNil)))
theorem pop_ok {e0 e1 e2 x4 x5 : Option D} {S : Store} {nw : Nat} {W : List (Pt × Pt)} {x : Pt × Pt} (hS : S[nw]? = some (.lst ((W ++ [x]).map pairD))) :
    popB [e0, e1, e2, some (.ref nw), x4, x5] S = .nx [e0, e1, e2, some (.ref nw), some x.1.D, some x.2.D] (S.set nw (.lst (W.map pairD))) := by
  have g1 : ((W ++ [x]).map pairD).length - 1 = W.length := by simp
  have g2 : ((W ++ [x]).map pairD)[W.length]? = some (pairD x) := by simp
  have g3 : ((W ++ [x]).map pairD).dropLast = W.map pairD := by simp
  have e : mB1 (mVar 3) gPop [e0, e1, e2, some (.ref nw), x4, x5] S = .ok (pairD x) (S.set nw (.lst (W.map pairD))) := by
    simp only [mB1, mVar, List.getElem?_cons_succ, List.getElem?_cons_zero, Out.bind_ok, gPop, hS, g1, g2, g3]
  exact sAsg_ok e rfl
noncomputable def varB (rv : M) : MS := sSeq (sIf (tOfB (mB2 (mGet2 (mVar 2) (mVar 4) (mVar 5)) (mVar 5) gNe)) (sRet rv) sNil) (sAsg (mVar 5) (gSubT (mVar 2) (mVar 4)))
theorem var_ok {d : D} {e0 e1 e3 : Option D} {S : Store} {nf : Nat} {f : List (Str × Pt)} {s : Str} {q : Pt} (hS : S[nf]? = some (.dct (kvA f))) (hf : okA 6 f) (hq : q.ok 6 = true) (hl : f.length < 2000) :
    varB (mC d) [e0, e1, some (.ref nf), e3, some (.str s), some q.D] S = if ((getA f s).getD q).eq q = true then .nx [e0, e1, some (.ref nf), e3, some (.str s), some q.D] (S.set nf (.dct (kvA (putA f s q)))) else .rt d S := by
  have hb : (kvA f).length < big := by unfold big; simp [kvA]; omega
  have i1 : isDc S (.ref nf) = true := by simp [isDc, hS]
  have g1 : mGet2 (mVar 2) (mVar 4) (mVar 5) [e0, e1, some (.ref nf), e3, some (.str s), some q.D] S = .ok (((getA f s).getD q).D) S := by
    simp only [mGet2, mVar, List.getElem?_cons_succ, List.getElem?_cons_zero, Out.bind_ok, i1, if_true, gGet, hS, keyOf, getD_kv]
    cases getA f s <;> rfl
  have ok1 : ((getA f s).getD q).ok 6 = true := by
    cases hg : getA f s with
    | none => exact hq
    | some r => exact okA_get hf hg
  have e := eqD_pt (n := 6) (m := 6) (by decide) (by decide) ok1 hq
  have t : tOfB (mB2 (mGet2 (mVar 2) (mVar 4) (mVar 5)) (mVar 5) gNe) [e0, e1, some (.ref nf), e3, some (.str s), some q.D] S = .ok (!((getA f s).getD q).eq q) S := by
    refine tOfB_ok ((mB2_ok g1 (d' := q.D) (S2 := S) rfl).trans ?_)
    simp only [gNe, e]
  have st : sAsg (mVar 5) (gSubT (mVar 2) (mVar 4)) [e0, e1, some (.ref nf), e3, some (.str s), some q.D] S = .nx [e0, e1, some (.ref nf), e3, some (.str s), some q.D] (S.set nf (.dct (kvA (putA f s q)))) := by
    simp [DL.fl_if, DL.out_if, DL.bind_if, DL.ofl_if, DL.Out.bind_ok, DL.Out.bind_ex, DL.Out.bind_no, DL.sSeq, DL.sIf, DL.sRet, DL.sRetN, DL.sDrop, DL.sAsg, DL.sNil, DL.sNo, DL.sBrk, DL.sCnt, DL.mVar, DL.mC, DL.mNo, DL.mB1, DL.mB2, DL.mAll, DL.aNil, DL.aCons, DL.tOfB, DL.tAndM, DL.tOrM, DL.tNotM, DL.mIf, DL.mAnd, DL.mOr, DL.runB, DL.callN, DL.g1, DL.g2, DL.gNm, DL.gLen, DL.gIsi, DL.tyN, DL.gEq, DL.gNe, DL.gLt, DL.gLe, DL.gGt, DL.gGe, DL.gAdd, DL.gSub, DL.gIx, DL.gIn, DL.gNotIn, DL.inOf, DL.gNot, DL.gTup, DL.gLst, DL.gNewL, DL.gNewD0, DL.gAllB, DL.gAnyB, DL.gSum, DL.lstOf, DL.gTuple, DL.gList, DL.seqOf, DL.iSeq, DL.seqI, DL.lstI, DL.sFor, DL.mLc, DL.wipeE, DL.tTru, DL.Tgt.put, DL.mApp, DL.gApp, DL.isL, DL.isDc, DL.mGet2, DL.gGet, DL.gTupA, DL.gTupT, DL.gsCons, DL.gsNil, DL.gSubT, DL.gPut, DL.sPar, DL.gInt, DL.gMin, DL.iZp, DL.zipI, DL.fl_ok, DL.fl_ex, DL.fl_no, DL.seq_nx, DL.seq_rt, DL.seq_ex, DL.seq_bk, DL.seq_ct, DL.out_nx, DL.out_rt, DL.out_ex, DL.isN_non, DL.isN_tup, DL.isN_str, DL.isN_ref, DL.notN_non, DL.notN_tup, DL.notN_str, DL.notN_ref, DL.atI_zero, DL.atI_one, DL.kit_ss, DL.kit_st, DL.kit_ts, DL.kit_tt, DL.eqD_int, hS, keyOf, hb, kvA_put]
  unfold varB
  cases hc : ((getA f s).getD q).eq q with
  | true =>
    rw [hc] at t
    rw [sSeq_nx (by rw [sIf_ok t]; rfl), st]; rfl
  | false =>
    rw [hc] at t
    rw [sSeq_rt (by rw [sIf_ok t]; rfl)]; rfl
theorem val_iff {f : List (Str × Pt)} {s : Str} {q : Pt} : ((getA f s).getD q).eq q = true ↔ ∀ r, getA f s = some r → r = q := by
  rw [Pt.eq_iff]
  cases hg : getA f s with
  | none => simp
  | some r => simp
noncomputable def zipB : MS := sAsg (mB2 (mVar 3) (mAll (aCons (mB2 (mVar 4) (mC (.int 1)) gIx) (aCons (mB2 (mVar 5) (mC (.int 1)) gIx) aNil)) gListZ) gAddN) (gNm 3)
theorem zip_ok {e0 e1 e2 : Option D} {S : Store} {nw : Nat} {W : List (Pt × Pt)} {w u : Str} {l r : List Pt} (hS : S[nw]? = some (.lst (W.map pairD))) (hl : l.length ≤ 100) (hr : r.length ≤ 100) (hW : W.length ≤ 2000) :
    zipB [e0, e1, e2, some (.ref nw), some (Pt.c w l).D, some (Pt.c u r).D] S = .nx [e0, e1, e2, some (.ref S.length), some (Pt.c w l).D, some (Pt.c u r).D] (S ++ [.lst ((W ++ l.zip r).map pairD)]) := by
  have i4 : mB2 (mVar 4) (mC (.int 1)) gIx [e0, e1, e2, some (.ref nw), some (Pt.c w l).D, some (Pt.c u r).D] S = .ok (.tup (Pt.Ds l)) S := by simp [DL.fl_if, DL.out_if, DL.bind_if, DL.ofl_if, DL.Out.bind_ok, DL.Out.bind_ex, DL.Out.bind_no, DL.sSeq, DL.sIf, DL.sRet, DL.sRetN, DL.sDrop, DL.sAsg, DL.sNil, DL.sNo, DL.sBrk, DL.sCnt, DL.mVar, DL.mC, DL.mNo, DL.mB1, DL.mB2, DL.mAll, DL.aNil, DL.aCons, DL.tOfB, DL.tAndM, DL.tOrM, DL.tNotM, DL.mIf, DL.mAnd, DL.mOr, DL.runB, DL.callN, DL.g1, DL.g2, DL.gNm, DL.gLen, DL.gIsi, DL.tyN, DL.gEq, DL.gNe, DL.gLt, DL.gLe, DL.gGt, DL.gGe, DL.gAdd, DL.gSub, DL.gIx, DL.gIn, DL.gNotIn, DL.inOf, DL.gNot, DL.gTup, DL.gLst, DL.gNewL, DL.gNewD0, DL.gAllB, DL.gAnyB, DL.gSum, DL.lstOf, DL.gTuple, DL.gList, DL.seqOf, DL.iSeq, DL.seqI, DL.lstI, DL.sFor, DL.mLc, DL.wipeE, DL.tTru, DL.Tgt.put, DL.mApp, DL.gApp, DL.isL, DL.isDc, DL.mGet2, DL.gGet, DL.gTupA, DL.gTupT, DL.gsCons, DL.gsNil, DL.gSubT, DL.gPut, DL.sPar, DL.gInt, DL.gMin, DL.iZp, DL.zipI, DL.fl_ok, DL.fl_ex, DL.fl_no, DL.seq_nx, DL.seq_rt, DL.seq_ex, DL.seq_bk, DL.seq_ct, DL.out_nx, DL.out_rt, DL.out_ex, DL.isN_non, DL.isN_tup, DL.isN_str, DL.isN_ref, DL.notN_non, DL.notN_tup, DL.notN_str, DL.notN_ref, DL.atI_zero, DL.atI_one, DL.kit_ss, DL.kit_st, DL.kit_ts, DL.kit_tt, DL.eqD_int, Pt.D]
  have i5 : mB2 (mVar 5) (mC (.int 1)) gIx [e0, e1, e2, some (.ref nw), some (Pt.c w l).D, some (Pt.c u r).D] S = .ok (.tup (Pt.Ds r)) S := by simp [DL.fl_if, DL.out_if, DL.bind_if, DL.ofl_if, DL.Out.bind_ok, DL.Out.bind_ex, DL.Out.bind_no, DL.sSeq, DL.sIf, DL.sRet, DL.sRetN, DL.sDrop, DL.sAsg, DL.sNil, DL.sNo, DL.sBrk, DL.sCnt, DL.mVar, DL.mC, DL.mNo, DL.mB1, DL.mB2, DL.mAll, DL.aNil, DL.aCons, DL.tOfB, DL.tAndM, DL.tOrM, DL.tNotM, DL.mIf, DL.mAnd, DL.mOr, DL.runB, DL.callN, DL.g1, DL.g2, DL.gNm, DL.gLen, DL.gIsi, DL.tyN, DL.gEq, DL.gNe, DL.gLt, DL.gLe, DL.gGt, DL.gGe, DL.gAdd, DL.gSub, DL.gIx, DL.gIn, DL.gNotIn, DL.inOf, DL.gNot, DL.gTup, DL.gLst, DL.gNewL, DL.gNewD0, DL.gAllB, DL.gAnyB, DL.gSum, DL.lstOf, DL.gTuple, DL.gList, DL.seqOf, DL.iSeq, DL.seqI, DL.lstI, DL.sFor, DL.mLc, DL.wipeE, DL.tTru, DL.Tgt.put, DL.mApp, DL.gApp, DL.isL, DL.isDc, DL.mGet2, DL.gGet, DL.gTupA, DL.gTupT, DL.gsCons, DL.gsNil, DL.gSubT, DL.gPut, DL.sPar, DL.gInt, DL.gMin, DL.iZp, DL.zipI, DL.fl_ok, DL.fl_ex, DL.fl_no, DL.seq_nx, DL.seq_rt, DL.seq_ex, DL.seq_bk, DL.seq_ct, DL.out_nx, DL.out_rt, DL.out_ex, DL.isN_non, DL.isN_tup, DL.isN_str, DL.isN_ref, DL.notN_non, DL.notN_tup, DL.notN_str, DL.notN_ref, DL.atI_zero, DL.atI_one, DL.kit_ss, DL.kit_st, DL.kit_ts, DL.kit_tt, DL.eqD_int, Pt.D]
  have hD : ∀ l : List Pt, (Pt.Ds l).length = l.length := fun l => by rw [Pt.Ds_map, List.length_map]
  have hb : min (Pt.Ds l).length (Pt.Ds r).length ≤ big := by rw [hD, hD]; unfold big; omega
  have ez : mAll (aCons (mB2 (mVar 4) (mC (.int 1)) gIx) (aCons (mB2 (mVar 5) (mC (.int 1)) gIx) aNil)) gListZ [e0, e1, e2, some (.ref nw), some (Pt.c w l).D, some (Pt.c u r).D] S = .ok (.lst ((l.zip r).map pairD)) S := by
    rw [mAll_2 i4 i5]
    simp only [gListZ, seqI, hb, if_true, zip_pairs]
  have hlen : ((W.map pairD).length + ((l.zip r).map pairD).length) ≤ big := by
    simp only [List.length_map, List.length_zip]; unfold big; omega
  refine sAsg_ok ((mB2_ok (d := .ref nw) (S1 := S) rfl ez).trans ?_) rfl
  simp only [gAddN, lstW, hS, hlen, if_true, List.map_append]
theorem words_ne {ρ : DL.Env} {S : Store} {w u : Str} {l r : List Pt} (h4 : ρ[4]? = some (some (Pt.c w l).D)) (h5 : ρ[5]? = some (some (Pt.c u r).D)) (hw : okS w = true) (hu : okS u = true) (hl : l.length ≤ 100) (hr : r.length ≤ 100) :
    tOrM (tOfB (mB2 (mB2 (mVar 4) (mC (.int 0)) gIx) (mB2 (mVar 5) (mC (.int 0)) gIx) gNe)) (tOfB (mB2 (mAll (aCons (mB2 (mVar 4) (mC (.int 1)) gIx) aNil) (g1 gLen)) (mAll (aCons (mB2 (mVar 5) (mC (.int 1)) gIx) aNil) (g1 gLen)) gNe)) ρ S = .ok (clashP (.c w l) (.c u r)) S := by
  have e := eqD_str hw hu
  have hD : ∀ l : List Pt, (Pt.Ds l).length = l.length := fun l => by rw [Pt.Ds_map, List.length_map]
  cases hwu : (w == u) with
  | false =>
    rw [hwu] at e
    simp [DL.fl_if, DL.out_if, DL.bind_if, DL.ofl_if, DL.Out.bind_ok, DL.Out.bind_ex, DL.Out.bind_no, DL.sSeq, DL.sIf, DL.sRet, DL.sRetN, DL.sDrop, DL.sAsg, DL.sNil, DL.sNo, DL.sBrk, DL.sCnt, DL.mVar, DL.mC, DL.mNo, DL.mB1, DL.mB2, DL.mAll, DL.aNil, DL.aCons, DL.tOfB, DL.tAndM, DL.tOrM, DL.tNotM, DL.mIf, DL.mAnd, DL.mOr, DL.runB, DL.callN, DL.g1, DL.g2, DL.gNm, DL.gLen, DL.gIsi, DL.tyN, DL.gEq, DL.gNe, DL.gLt, DL.gLe, DL.gGt, DL.gGe, DL.gAdd, DL.gSub, DL.gIx, DL.gIn, DL.gNotIn, DL.inOf, DL.gNot, DL.gTup, DL.gLst, DL.gNewL, DL.gNewD0, DL.gAllB, DL.gAnyB, DL.gSum, DL.lstOf, DL.gTuple, DL.gList, DL.seqOf, DL.iSeq, DL.seqI, DL.lstI, DL.sFor, DL.mLc, DL.wipeE, DL.tTru, DL.Tgt.put, DL.mApp, DL.gApp, DL.isL, DL.isDc, DL.mGet2, DL.gGet, DL.gTupA, DL.gTupT, DL.gsCons, DL.gsNil, DL.gSubT, DL.gPut, DL.sPar, DL.gInt, DL.gMin, DL.iZp, DL.zipI, DL.fl_ok, DL.fl_ex, DL.fl_no, DL.seq_nx, DL.seq_rt, DL.seq_ex, DL.seq_bk, DL.seq_ct, DL.out_nx, DL.out_rt, DL.out_ex, DL.isN_non, DL.isN_tup, DL.isN_str, DL.isN_ref, DL.notN_non, DL.notN_tup, DL.notN_str, DL.notN_ref, DL.atI_zero, DL.atI_one, DL.kit_ss, DL.kit_st, DL.kit_ts, DL.kit_tt, DL.eqD_int, h4, h5, Pt.D, e, clashP, hwu]
  | true =>
    rw [hwu] at e
    simp [DL.fl_if, DL.out_if, DL.bind_if, DL.ofl_if, DL.Out.bind_ok, DL.Out.bind_ex, DL.Out.bind_no, DL.sSeq, DL.sIf, DL.sRet, DL.sRetN, DL.sDrop, DL.sAsg, DL.sNil, DL.sNo, DL.sBrk, DL.sCnt, DL.mVar, DL.mC, DL.mNo, DL.mB1, DL.mB2, DL.mAll, DL.aNil, DL.aCons, DL.tOfB, DL.tAndM, DL.tOrM, DL.tNotM, DL.mIf, DL.mAnd, DL.mOr, DL.runB, DL.callN, DL.g1, DL.g2, DL.gNm, DL.gLen, DL.gIsi, DL.tyN, DL.gEq, DL.gNe, DL.gLt, DL.gLe, DL.gGt, DL.gGe, DL.gAdd, DL.gSub, DL.gIx, DL.gIn, DL.gNotIn, DL.inOf, DL.gNot, DL.gTup, DL.gLst, DL.gNewL, DL.gNewD0, DL.gAllB, DL.gAnyB, DL.gSum, DL.lstOf, DL.gTuple, DL.gList, DL.seqOf, DL.iSeq, DL.seqI, DL.lstI, DL.sFor, DL.mLc, DL.wipeE, DL.tTru, DL.Tgt.put, DL.mApp, DL.gApp, DL.isL, DL.isDc, DL.mGet2, DL.gGet, DL.gTupA, DL.gTupT, DL.gsCons, DL.gsNil, DL.gSubT, DL.gPut, DL.sPar, DL.gInt, DL.gMin, DL.iZp, DL.zipI, DL.fl_ok, DL.fl_ex, DL.fl_no, DL.seq_nx, DL.seq_rt, DL.seq_ex, DL.seq_bk, DL.seq_ct, DL.out_nx, DL.out_rt, DL.out_ex, DL.isN_non, DL.isN_tup, DL.isN_str, DL.isN_ref, DL.notN_non, DL.notN_tup, DL.notN_str, DL.notN_ref, DL.atI_zero, DL.atI_one, DL.kit_ss, DL.kit_st, DL.kit_ts, DL.kit_tt, DL.eqD_int, h4, h5, Pt.D, e, clashP, hwu, hD]
    rw [Bool.eq_iff_iff]; simp; omega
theorem isi_v {i : Nat} {ρ : DL.Env} {S : Store} {s : Str} (h : ρ[i]? = some (some (Pt.v s).D)) : tOfB (mAll (aCons (mVar i) (aCons (mC (.ty "str")) aNil)) (g2 gIsi)) ρ S = .ok true S := by simp [DL.fl_if, DL.out_if, DL.bind_if, DL.ofl_if, DL.Out.bind_ok, DL.Out.bind_ex, DL.Out.bind_no, DL.sSeq, DL.sIf, DL.sRet, DL.sRetN, DL.sDrop, DL.sAsg, DL.sNil, DL.sNo, DL.sBrk, DL.sCnt, DL.mVar, DL.mC, DL.mNo, DL.mB1, DL.mB2, DL.mAll, DL.aNil, DL.aCons, DL.tOfB, DL.tAndM, DL.tOrM, DL.tNotM, DL.mIf, DL.mAnd, DL.mOr, DL.runB, DL.callN, DL.g1, DL.g2, DL.gNm, DL.gLen, DL.gIsi, DL.tyN, DL.gEq, DL.gNe, DL.gLt, DL.gLe, DL.gGt, DL.gGe, DL.gAdd, DL.gSub, DL.gIx, DL.gIn, DL.gNotIn, DL.inOf, DL.gNot, DL.gTup, DL.gLst, DL.gNewL, DL.gNewD0, DL.gAllB, DL.gAnyB, DL.gSum, DL.lstOf, DL.gTuple, DL.gList, DL.seqOf, DL.iSeq, DL.seqI, DL.lstI, DL.sFor, DL.mLc, DL.wipeE, DL.tTru, DL.Tgt.put, DL.mApp, DL.gApp, DL.isL, DL.isDc, DL.mGet2, DL.gGet, DL.gTupA, DL.gTupT, DL.gsCons, DL.gsNil, DL.gSubT, DL.gPut, DL.sPar, DL.gInt, DL.gMin, DL.iZp, DL.zipI, DL.fl_ok, DL.fl_ex, DL.fl_no, DL.seq_nx, DL.seq_rt, DL.seq_ex, DL.seq_bk, DL.seq_ct, DL.out_nx, DL.out_rt, DL.out_ex, DL.isN_non, DL.isN_tup, DL.isN_str, DL.isN_ref, DL.notN_non, DL.notN_tup, DL.notN_str, DL.notN_ref, DL.atI_zero, DL.atI_one, DL.kit_ss, DL.kit_st, DL.kit_ts, DL.kit_tt, DL.eqD_int, h, Pt.D]
theorem isi_c {i : Nat} {ρ : DL.Env} {S : Store} {w : Str} {l : List Pt} (h : ρ[i]? = some (some (Pt.c w l).D)) : tOfB (mAll (aCons (mVar i) (aCons (mC (.ty "str")) aNil)) (g2 gIsi)) ρ S = .ok false S := by simp [DL.fl_if, DL.out_if, DL.bind_if, DL.ofl_if, DL.Out.bind_ok, DL.Out.bind_ex, DL.Out.bind_no, DL.sSeq, DL.sIf, DL.sRet, DL.sRetN, DL.sDrop, DL.sAsg, DL.sNil, DL.sNo, DL.sBrk, DL.sCnt, DL.mVar, DL.mC, DL.mNo, DL.mB1, DL.mB2, DL.mAll, DL.aNil, DL.aCons, DL.tOfB, DL.tAndM, DL.tOrM, DL.tNotM, DL.mIf, DL.mAnd, DL.mOr, DL.runB, DL.callN, DL.g1, DL.g2, DL.gNm, DL.gLen, DL.gIsi, DL.tyN, DL.gEq, DL.gNe, DL.gLt, DL.gLe, DL.gGt, DL.gGe, DL.gAdd, DL.gSub, DL.gIx, DL.gIn, DL.gNotIn, DL.inOf, DL.gNot, DL.gTup, DL.gLst, DL.gNewL, DL.gNewD0, DL.gAllB, DL.gAnyB, DL.gSum, DL.lstOf, DL.gTuple, DL.gList, DL.seqOf, DL.iSeq, DL.seqI, DL.lstI, DL.sFor, DL.mLc, DL.wipeE, DL.tTru, DL.Tgt.put, DL.mApp, DL.gApp, DL.isL, DL.isDc, DL.mGet2, DL.gGet, DL.gTupA, DL.gTupT, DL.gsCons, DL.gsNil, DL.gSubT, DL.gPut, DL.sPar, DL.gInt, DL.gMin, DL.iZp, DL.zipI, DL.fl_ok, DL.fl_ex, DL.fl_no, DL.seq_nx, DL.seq_rt, DL.seq_ex, DL.seq_bk, DL.seq_ct, DL.out_nx, DL.out_rt, DL.out_ex, DL.isN_non, DL.isN_tup, DL.isN_str, DL.isN_ref, DL.notN_non, DL.notN_tup, DL.notN_str, DL.notN_ref, DL.atI_zero, DL.atI_one, DL.kit_ss, DL.kit_st, DL.kit_ts, DL.kit_tt, DL.eqD_int, h, Pt.D]
/-! which names have a value -/
mutual
def vs : Pt → List Str
  | .v s => [s]
  | .c _ l => vss l
def vss : List Pt → List Str
  | [] => []
  | p :: l => vs p ++ vss l
end
def vsW : List (Pt × Pt) → List Str
  | [] => []
  | x :: W => vs x.1 ++ vsW W
theorem vsW_append : ∀ (a b : List (Pt × Pt)), vsW (a ++ b) = vsW a ++ vsW b
  | [], b => by simp [vsW]
  | x :: a, b => by simp only [List.cons_append, vsW, vsW_append a b, List.append_assoc]
theorem vsW_zip : ∀ {l r : List Pt}, l.length = r.length → vsW (l.zip r) = vss l
  | [], [], _ => rfl
  | [], _ :: _, h => by simp at h
  | _ :: _, [], h => by simp at h
  | p :: l, q :: r, h => by simp only [List.zip_cons_cons, vsW, vss, vsW_zip (l := l) (r := r) (by simpa using h)]
theorem keys_put {s : Str} {p : Pt} {f : List (Str × Pt)} (h : (f.map (·.1)).Nodup) : ((putA f s p).map (·.1)).Nodup := by
  unfold putA
  rw [any_getA]
  cases hg : getA f s with
  | none =>
    simp only [Option.isSome_none, Bool.false_eq_true, if_false, List.map_append, List.map_cons, List.map_nil]
    refine List.nodup_append.mpr ⟨h, by simp, fun a ha b hb => ?_⟩
    rw [List.mem_singleton.mp hb]
    intro e
    subst e
    obtain ⟨x, hx, rfl⟩ := List.mem_map.mp ha
    have : (f.any fun y => decide (y.1 = x.1)) = true := List.any_eq_true.mpr ⟨x, hx, by simp⟩
    rw [any_getA, hg] at this
    cases this
  | some r =>
    simp only [Option.isSome_some, if_true, List.map_map]
    have : (f.map ((fun x => x.1) ∘ fun x => if x.1 = s then (x.1, p) else x)) = f.map (·.1) := by
      apply List.map_congr_left
      intro x _
      simp only [Function.comp]
      split <;> rfl
    rw [this]; exact h
end GN

end

/-! ## MUL -/
section
set_option Elab.async false
set_option linter.all false
set_option maxRecDepth 100000
namespace GN
open PySem PySem.Spec PyProof.Rows L2 DL
theorem len_wts : ∀ W : List (Pt × Pt), W.length ≤ wtsW W
  | [] => by simp [wtsW]
  | x :: W => by
    have := wt_pos' x.1
    have := len_wts W
    simp only [List.length_cons, wtsW]; omega
where wt_pos' : ∀ p : Pt, 0 < p.wt
  | .v _ => by simp [Pt.wt]
  | .c _ l => by simp only [Pt.wt]; omega
/-- what stays of an older store -/
def Old (S0 S : Store) : Prop := ∀ (i : Nat) (x : Cell), S0[i]? = some x → S[i]? = some x
theorem Old.refl (S : Store) : Old S S := fun _ _ h => h
theorem Old.trans {S S1 S2 : Store} (a : Old S S1) (b : Old S1 S2) : Old S S2 := fun i x h => b i x (a i x h)
theorem Old.set {S0 S : Store} (h : Old S0 S) {n : Nat} (hn : S0.length ≤ n) (c : Cell) : Old S0 (S.set n c) := fun i x e => by
  have := lt_of_at e
  rw [List.getElem?_set_ne (by omega)]
  exact h i x e
theorem Old.app {S0 S : Store} (h : Old S0 S) (X : Store) : Old S0 (S ++ X) := fun i x e => by
  have e2 := h i x e
  rw [List.getElem?_append_left (lt_of_at e2)]; exact e2
structure Wait (tm : Pt → Bool) (p q : Pt) (S0 : Store) (e0 e1 : Option D) (n : Nat) (f : List (Str × Pt)) (W : List (Pt × Pt)) (nf nw : Nat) (S : Store) : Prop where
  sf : S[nf]? = some (.dct (kvA f))
  sw : S[nw]? = some (.lst (W.map pairD))
  ne : nf ≠ nw
  lf : S0.length ≤ nf
  lw : S0.length ≤ nw
  wt : wtsW W = n
  ok : okW W
  tms : ∀ x ∈ W, tm x.2 = true
  of : okA 6 f
  len : f.length + n ≤ 1000
  sol : ∀ σ, sat σ f W ↔ sub σ p = q
  nd : (f.map (·.1)).Nodup
  dom : ∀ s, ((getA f s).isSome = true ∨ s ∈ vsW W) ↔ s ∈ vs p
  old : Old S0 S
structure Done (p q : Pt) (S0 : Store) (f : List (Str × Pt)) (nf : Nat) (S : Store) : Prop where
  sf : S[nf]? = some (.dct (kvA f))
  of : okA 6 f
  len : f.length ≤ 1000
  sol : ∀ σ, exts f σ ↔ sub σ p = q
  nd : (f.map (·.1)).Nodup
  dom : ∀ s, (getA f s).isSome = true ↔ s ∈ vs p
  old : Old S0 S
noncomputable def dueB (d : D) (ck : MT) : MS := sSeq popB (sIf (tOfB (mAll (aCons (mVar 4) (aCons (mC (.ty "str")) aNil)) (g2 gIsi))) (varB (mC d)) (sIf ck (sRet (mC d)) zipB))
theorem due_loop {d : D} {ck : MT} {tm : Pt → Bool} {p q : Pt} {S0 : Store} {e0 e1 : Option D} (htm : ∀ u r, tm (.c u r) = true → ∀ x ∈ r, tm x = true)
    (hck : ∀ (ρ : DL.Env) (S : Store) (w : Str) (l : List Pt) (y : Pt), ρ[4]? = some (some (Pt.c w l).D) → ρ[5]? = some (some y.D) → (Pt.c w l).ok 6 = true → y.ok 6 = true → tm y = true → ck ρ S = .ok (clashP (.c w l) y) S) :
    ∀ (n : Nat) (f : List (Str × Pt)) (W : List (Pt × Pt)) (nf nw : Nat) (x4 x5 : Option D) (S : Store), Wait tm p q S0 e0 e1 n f W nf nw S → n < fuel →
    (∃ S', sWhile waitT (dueB d ck) [e0, e1, some (.ref nf), some (.ref nw), x4, x5] S = .rt d S' ∧ (∀ σ, sub σ p ≠ q) ∧ Old S0 S') ∨
    (∃ f' nf' x3' x4' x5' S', sWhile waitT (dueB d ck) [e0, e1, some (.ref nf), some (.ref nw), x4, x5] S = .nx [e0, e1, some (.ref nf'), x3', x4', x5'] S' ∧ Done p q S0 f' nf' S') := by
  intro n f W nf nw x4 x5 S hW hn
  refine while_ret (P := fun n ρ S => ∃ f W nf nw x4 x5, ρ = [e0, e1, some (.ref nf), some (.ref nw), x4, x5] ∧ Wait tm p q S0 e0 e1 n f W nf nw S)
    (R := fun o => (∃ S', o = .rt d S' ∧ (∀ σ, sub σ p ≠ q) ∧ Old S0 S') ∨ (∃ f' nf' x3' x4' x5' S', o = .nx [e0, e1, some (.ref nf'), x3', x4', x5'] S' ∧ Done p q S0 f' nf' S'))
    ?_ n fuel hn _ _ ⟨f, W, nf, nw, x4, x5, rfl, hW⟩
  rintro n ρ S ⟨f, W, nf, nw, x4, x5, rfl, h⟩
  have t := wait_ok (ρ := [e0, e1, some (.ref nf), some (.ref nw), x4, x5]) rfl h.sw h.ok
  rcases List.eq_nil_or_concat W with hnil | ⟨W', x, hx⟩
  · subst hnil
    refine .inl ⟨S, t, .inr ⟨f, nf, _, _, _, S, rfl, h.sf, h.of, by have := h.len; omega, fun σ => ?_, h.nd, fun s => ?_, h.old⟩⟩
    · rw [← h.sol σ]
      exact ⟨fun a => ⟨a, fun _ m => by cases m⟩, fun a => a.1⟩
    · rw [← h.dom s]
      simp [vsW]
  · have hx' : W = W' ++ [x] := by rw [hx, List.concat_eq_append]
    subst hx'
    have hne : (W' ++ [x]).isEmpty = false := by simp
    rw [hne] at t
    refine .inr ⟨S, t, ?_⟩
    have pe := pop_ok (e0 := e0) (e1 := e1) (e2 := some (.ref nf)) (x4 := x4) (x5 := x5) h.sw
    obtain ⟨g, y⟩ := x
    have hxk := h.ok (g, y) (by simp)
    have hxt := h.tms (g, y) (by simp)
    have hwt := h.wt
    rw [wtsW_append] at hwt
    simp only [wtsW] at hwt
    have sf1 : (S.set nw (.lst (W'.map pairD)))[nf]? = some (.dct (kvA f)) := by rw [List.getElem?_set_ne (Ne.symm h.ne)]; exact h.sf
    have sw1 : (S.set nw (.lst (W'.map pairD)))[nw]? = some (.lst (W'.map pairD)) := set_at h.sw
    have old1 : Old S0 (S.set nw (.lst (W'.map pairD))) := h.old.set h.lw _
    have okW' : okW W' := fun z hz => h.ok z (List.mem_append_left _ hz)
    have tmW' : ∀ z ∈ W', tm z.2 = true := fun z hz => h.tms z (List.mem_append_left _ hz)
    cases g with
    | v s =>
      have hv : (Pt.v s).wt = 1 := rfl
      have vo := var_ok (d := d) (e0 := e0) (e1 := e1) (e3 := some (.ref nw)) (s := s) sf1 h.of hxk.2 (by have := h.len; omega)
      have body : dueB d ck [e0, e1, some (.ref nf), some (.ref nw), x4, x5] S = varB (mC d) [e0, e1, some (.ref nf), some (.ref nw), some (.str s), some y.D] (S.set nw (.lst (W'.map pairD))) := by
        unfold dueB
        rw [sSeq_nx pe, sIf_ok (isi_v (i := 4) (s := s) rfl)]
        rfl
      by_cases hc : ((getA f s).getD y).eq y = true
      · rw [if_pos hc] at vo
        have hc' := val_iff.mp hc
        refine .inr ⟨wtsW W', _, _, by omega, body.trans vo, putA f s y, W', nf, nw, _, _, rfl, ?_⟩
        exact {
          sf := set_at sf1
          sw := by rw [List.getElem?_set_ne h.ne]; exact sw1
          ne := h.ne
          lf := h.lf
          lw := h.lw
          wt := rfl
          ok := okW'
          tms := tmW'
          of := fun z hz => by
            unfold putA at hz
            split at hz
            · obtain ⟨a, ha, rfl⟩ := List.mem_map.mp hz
              by_cases e : a.1 = s
              · simp only [e, if_true]; exact hxk.2
              · simp only [e, if_false]; exact h.of a ha
            · rcases List.mem_append.mp hz with k | k
              · exact h.of z k
              · rw [List.mem_singleton.mp k]; exact hxk.2
          len := by have := h.len; have := len_put (s := s) (p := y) (f := f); omega
          sol := fun σ => by rw [← h.sol σ]; exact sat_put hc'
          nd := keys_put h.nd
          dom := fun t => by
            rw [← h.dom t, vsW_append, getA_put]
            simp only [vsW, vs, List.append_nil, List.mem_append, List.mem_singleton]
            by_cases hts : t = s
            · simp [hts]
            · simp [hts]
          old := old1.set h.lf _ }
      · rw [if_neg hc] at vo
        refine .inl ⟨d, _, body.trans vo, .inl ⟨_, rfl, fun σ hs => ?_, old1⟩⟩
        obtain ⟨a, b⟩ := (h.sol σ).mpr hs
        apply hc
        refine val_iff.mpr fun r hr => ?_
        have e1 := a s r hr
        have e2 : σ s = y := b (.v s, y) (by simp)
        rw [← e1, e2]
    | c w l =>
      have hk1 := hxk.1
      have ckv := hck [e0, e1, some (.ref nf), some (.ref nw), some (Pt.c w l).D, some y.D] (S.set nw (.lst (W'.map pairD))) w l y rfl rfl hk1 hxk.2 hxt
      have body : dueB d ck [e0, e1, some (.ref nf), some (.ref nw), x4, x5] S = (sIf ck (sRet (mC d)) zipB) [e0, e1, some (.ref nf), some (.ref nw), some (Pt.c w l).D, some y.D] (S.set nw (.lst (W'.map pairD))) := by
        unfold dueB
        rw [sSeq_nx pe, sIf_ok (isi_c (i := 4) (w := w) (l := l) rfl)]
        rfl
      cases hcl : clashP (.c w l) y with
      | true =>
        rw [hcl] at ckv
        refine .inl ⟨d, S.set nw (.lst (W'.map pairD)), by rw [body, sIf_ok ckv]; rfl, .inl ⟨_, rfl, fun σ hs => ?_, old1⟩⟩
        obtain ⟨a, b⟩ := (h.sol σ).mpr hs
        have e2 : sub σ (.c w l) = y := b (.c w l, y) (by simp)
        cases y with
        | v s => simp [sub] at e2
        | c u r => exact clash_sub hcl e2
      | false =>
        rw [hcl] at ckv
        cases y with
        | v s => simp [clashP] at hcl
        | c u r =>
          have hyk := hxk.2
          simp only [Pt.ok, Bool.and_eq_true, decide_eq_true_eq] at hk1 hyk
          have hlr : l.length = r.length := by
            have := hcl
            simp only [clashP, Bool.or_eq_false_iff, Bool.not_eq_false', beq_iff_eq] at this
            exact this.2
          have hwl : (Pt.c w l).wt = 1 + Pt.wts l := rfl
          have hz := wtsW_zip l r
          have hlW := len_wts W'
          have zo := zip_ok (e0 := e0) (e1 := e1) (e2 := some (.ref nf)) (w := w) (u := u) (l := l) (r := r) sw1 hk1.1.2 hyk.1.2 (by have := h.len; omega)
          refine .inr ⟨wtsW (W' ++ l.zip r), _, _, by rw [wtsW_append]; omega, by rw [body, sIf_ok ckv]; exact zo, f, W' ++ l.zip r, nf, _, _, _, rfl, ?_⟩
          have hll : S0.length ≤ (S.set nw (.lst (W'.map pairD))).length := by
            have := lt_of_at h.sf
            rw [List.length_set]; have := h.lf; omega
          exact {
            sf := by rw [List.getElem?_append_left (lt_of_at sf1)]; exact sf1
            sw := last_at _ _
            ne := fun e => by have := lt_of_at sf1; omega
            lf := h.lf
            lw := hll
            wt := rfl
            ok := fun z hz => by
              rcases List.mem_append.mp hz with k | k
              · exact okW' z k
              · have := List.of_mem_zip k
                exact ⟨Pt.ok_up 5 _ (oks_mem hk1.2 this.1), Pt.ok_up 5 _ (oks_mem hyk.2 this.2)⟩
            tms := fun z hz => by
              rcases List.mem_append.mp hz with k | k
              · exact tmW' z k
              · exact htm u r hxt _ (List.of_mem_zip k).2
            of := h.of
            len := by have := h.len; rw [wtsW_append]; omega
            sol := fun σ => by rw [← h.sol σ]; exact sat_zip hcl
            nd := h.nd
            dom := fun t => by
              rw [← h.dom t, vsW_append, vsW_append, vsW_zip hlr]
              simp only [vsW, vs, List.append_nil]
            old := old1.app _ }
end GN

end

/-! ## MPu -/
section
set_option Elab.async false
set_option linter.all false
set_option maxRecDepth 100000
/-! # a law's own putting in -/
namespace GN
open PySem PySem.Spec PyProof.Rows L2 DL
theorem F_put_ok {j : Nat} {f : List (Str × Pt)} : ∀ (k : Nat) (p : Pt) (S : Store), p.ok k = true → S[j]? = some (.dct (kvA f)) → F__law_put k [p.D, .ref j] S = .ok (fillP f p).D S
  | 0, p, S, hp, _ => by simp [Pt.ok] at hp
  | k + 1, .v s, S, hp, hS => by
    cases hg : getA f s with
    | none => simp [F__law_put, B__law_put, DL.fl_if, DL.out_if, DL.bind_if, DL.ofl_if, DL.Out.bind_ok, DL.Out.bind_ex, DL.Out.bind_no, DL.sSeq, DL.sIf, DL.sRet, DL.sRetN, DL.sDrop, DL.sAsg, DL.sNil, DL.sNo, DL.sBrk, DL.sCnt, DL.mVar, DL.mC, DL.mNo, DL.mB1, DL.mB2, DL.mAll, DL.aNil, DL.aCons, DL.tOfB, DL.tAndM, DL.tOrM, DL.tNotM, DL.mIf, DL.mAnd, DL.mOr, DL.runB, DL.callN, DL.g1, DL.g2, DL.gNm, DL.gLen, DL.gIsi, DL.tyN, DL.gEq, DL.gNe, DL.gLt, DL.gLe, DL.gGt, DL.gGe, DL.gAdd, DL.gSub, DL.gIx, DL.gIn, DL.gNotIn, DL.inOf, DL.gNot, DL.gTup, DL.gLst, DL.gNewL, DL.gNewD0, DL.gAllB, DL.gAnyB, DL.gSum, DL.lstOf, DL.gTuple, DL.gList, DL.seqOf, DL.iSeq, DL.seqI, DL.lstI, DL.sFor, DL.mLc, DL.wipeE, DL.tTru, DL.Tgt.put, DL.mApp, DL.gApp, DL.isL, DL.isDc, DL.mGet2, DL.gGet, DL.gTupA, DL.gTupT, DL.gsCons, DL.gsNil, DL.gSubT, DL.gPut, DL.sPar, DL.gInt, DL.gMin, DL.iZp, DL.zipI, DL.fl_ok, DL.fl_ex, DL.fl_no, DL.seq_nx, DL.seq_rt, DL.seq_ex, DL.seq_bk, DL.seq_ct, DL.out_nx, DL.out_rt, DL.out_ex, DL.isN_non, DL.isN_tup, DL.isN_str, DL.isN_ref, DL.notN_non, DL.notN_tup, DL.notN_str, DL.notN_ref, DL.atI_zero, DL.atI_one, DL.kit_ss, DL.kit_st, DL.kit_ts, DL.kit_tt, DL.eqD_int, Pt.D, hS, keyOf, getD_kv, hg, fillP]
    | some r => simp [F__law_put, B__law_put, DL.fl_if, DL.out_if, DL.bind_if, DL.ofl_if, DL.Out.bind_ok, DL.Out.bind_ex, DL.Out.bind_no, DL.sSeq, DL.sIf, DL.sRet, DL.sRetN, DL.sDrop, DL.sAsg, DL.sNil, DL.sNo, DL.sBrk, DL.sCnt, DL.mVar, DL.mC, DL.mNo, DL.mB1, DL.mB2, DL.mAll, DL.aNil, DL.aCons, DL.tOfB, DL.tAndM, DL.tOrM, DL.tNotM, DL.mIf, DL.mAnd, DL.mOr, DL.runB, DL.callN, DL.g1, DL.g2, DL.gNm, DL.gLen, DL.gIsi, DL.tyN, DL.gEq, DL.gNe, DL.gLt, DL.gLe, DL.gGt, DL.gGe, DL.gAdd, DL.gSub, DL.gIx, DL.gIn, DL.gNotIn, DL.inOf, DL.gNot, DL.gTup, DL.gLst, DL.gNewL, DL.gNewD0, DL.gAllB, DL.gAnyB, DL.gSum, DL.lstOf, DL.gTuple, DL.gList, DL.seqOf, DL.iSeq, DL.seqI, DL.lstI, DL.sFor, DL.mLc, DL.wipeE, DL.tTru, DL.Tgt.put, DL.mApp, DL.gApp, DL.isL, DL.isDc, DL.mGet2, DL.gGet, DL.gTupA, DL.gTupT, DL.gsCons, DL.gsNil, DL.gSubT, DL.gPut, DL.sPar, DL.gInt, DL.gMin, DL.iZp, DL.zipI, DL.fl_ok, DL.fl_ex, DL.fl_no, DL.seq_nx, DL.seq_rt, DL.seq_ex, DL.seq_bk, DL.seq_ct, DL.out_nx, DL.out_rt, DL.out_ex, DL.isN_non, DL.isN_tup, DL.isN_str, DL.isN_ref, DL.notN_non, DL.notN_tup, DL.notN_str, DL.notN_ref, DL.atI_zero, DL.atI_one, DL.kit_ss, DL.kit_st, DL.kit_ts, DL.kit_tt, DL.eqD_int, Pt.D, hS, keyOf, getD_kv, hg, fillP]
  | k + 1, .c w l, S, hp, hS => by
    simp only [Pt.ok, Bool.and_eq_true, decide_eq_true_eq] at hp
    have hb : l.length ≤ big := by unfold big; omega
    have h2 : 2 ≤ big := by unfold big; omega
    have lo := lc_map (S := S) (i := 2) (e := mAll (aCons (mVar 2) (aCons (mVar 1) aNil)) (callN 2 (F__law_put k))) (ρ := [some (.tup [.str w, .tup (l.map Pt.D)]), some (.ref j), none]) (f := Pt.D) (g := fun p => (fillP f p).D) (l := l) (fun q hq => by
      have := F_put_ok k q S (oks_mem hp.2 hq) hS
      simp [DL.fl_if, DL.out_if, DL.bind_if, DL.ofl_if, DL.Out.bind_ok, DL.Out.bind_ex, DL.Out.bind_no, DL.sSeq, DL.sIf, DL.sRet, DL.sRetN, DL.sDrop, DL.sAsg, DL.sNil, DL.sNo, DL.sBrk, DL.sCnt, DL.mVar, DL.mC, DL.mNo, DL.mB1, DL.mB2, DL.mAll, DL.aNil, DL.aCons, DL.tOfB, DL.tAndM, DL.tOrM, DL.tNotM, DL.mIf, DL.mAnd, DL.mOr, DL.runB, DL.callN, DL.g1, DL.g2, DL.gNm, DL.gLen, DL.gIsi, DL.tyN, DL.gEq, DL.gNe, DL.gLt, DL.gLe, DL.gGt, DL.gGe, DL.gAdd, DL.gSub, DL.gIx, DL.gIn, DL.gNotIn, DL.inOf, DL.gNot, DL.gTup, DL.gLst, DL.gNewL, DL.gNewD0, DL.gAllB, DL.gAnyB, DL.gSum, DL.lstOf, DL.gTuple, DL.gList, DL.seqOf, DL.iSeq, DL.seqI, DL.lstI, DL.sFor, DL.mLc, DL.wipeE, DL.tTru, DL.Tgt.put, DL.mApp, DL.gApp, DL.isL, DL.isDc, DL.mGet2, DL.gGet, DL.gTupA, DL.gTupT, DL.gsCons, DL.gsNil, DL.gSubT, DL.gPut, DL.sPar, DL.gInt, DL.gMin, DL.iZp, DL.zipI, DL.fl_ok, DL.fl_ex, DL.fl_no, DL.seq_nx, DL.seq_rt, DL.seq_ex, DL.seq_bk, DL.seq_ct, DL.out_nx, DL.out_rt, DL.out_ex, DL.isN_non, DL.isN_tup, DL.isN_str, DL.isN_ref, DL.notN_non, DL.notN_tup, DL.notN_str, DL.notN_ref, DL.atI_zero, DL.atI_one, DL.kit_ss, DL.kit_st, DL.kit_ts, DL.kit_tt, DL.eqD_int, this])
    simp [F__law_put, B__law_put, DL.fl_if, DL.out_if, DL.bind_if, DL.ofl_if, DL.Out.bind_ok, DL.Out.bind_ex, DL.Out.bind_no, DL.sSeq, DL.sIf, DL.sRet, DL.sRetN, DL.sDrop, DL.sAsg, DL.sNil, DL.sNo, DL.sBrk, DL.sCnt, DL.mVar, DL.mC, DL.mNo, DL.mB1, DL.mB2, DL.mAll, DL.aNil, DL.aCons, DL.tOfB, DL.tAndM, DL.tOrM, DL.tNotM, DL.mIf, DL.mAnd, DL.mOr, DL.runB, DL.callN, DL.g1, DL.g2, DL.gNm, DL.gLen, DL.gIsi, DL.tyN, DL.gEq, DL.gNe, DL.gLt, DL.gLe, DL.gGt, DL.gGe, DL.gAdd, DL.gSub, DL.gIx, DL.gIn, DL.gNotIn, DL.inOf, DL.gNot, DL.gTup, DL.gLst, DL.gNewL, DL.gNewD0, DL.gAllB, DL.gAnyB, DL.gSum, DL.lstOf, DL.gTuple, DL.gList, DL.seqOf, DL.iSeq, DL.seqI, DL.lstI, DL.sFor, DL.mLc, DL.wipeE, DL.tTru, DL.Tgt.put, DL.mApp, DL.gApp, DL.isL, DL.isDc, DL.mGet2, DL.gGet, DL.gTupA, DL.gTupT, DL.gsCons, DL.gsNil, DL.gSubT, DL.gPut, DL.sPar, DL.gInt, DL.gMin, DL.iZp, DL.zipI, DL.fl_ok, DL.fl_ex, DL.fl_no, DL.seq_nx, DL.seq_rt, DL.seq_ex, DL.seq_bk, DL.seq_ct, DL.out_nx, DL.out_rt, DL.out_ex, DL.isN_non, DL.isN_tup, DL.isN_str, DL.isN_ref, DL.notN_non, DL.notN_tup, DL.notN_str, DL.notN_ref, DL.atI_zero, DL.atI_one, DL.kit_ss, DL.kit_st, DL.kit_ts, DL.kit_tt, DL.eqD_int, Pt.D, Pt.Ds_map, fillP, fillPs_map, hb, h2, lo]
theorem getA_mem {f : List (Str × Pt)} {s : Str} {r : Pt} (h : getA f s = some r) : ∃ x ∈ f, x.1 = s ∧ x.2 = r := by
  unfold getA at h
  cases hx : f.find? fun x => decide (x.1 = s) with
  | none => rw [hx] at h; cases h
  | some x =>
    rw [hx] at h; cases h
    exact ⟨x, List.mem_of_find?_eq_some hx, by simpa using List.find?_some hx, rfl⟩
mutual
theorem fill_ok {f : List (Str × Pt)} {e : Nat} (he : 1 ≤ e) (hf : ∀ x ∈ f, x.2.ok e = true) : ∀ (d : Nat) (p : Pt), p.ok d = true → (fillP f p).ok (d + e - 1) = true
  | 0, p, h => by simp [Pt.ok] at h
  | d + 1, .v s, h => by
    unfold fillP
    cases hg : getA f s with
    | none =>
      have : (Pt.v s).ok 1 = true := by simpa [Pt.ok] using h
      exact Pt.ok_le (by omega) this
    | some r =>
      obtain ⟨x, hx, _, rfl⟩ := getA_mem hg
      exact Pt.ok_le (by omega) (hf x hx)
  | d + 1, .c w l, h => by
    simp only [Pt.ok, Bool.and_eq_true, decide_eq_true_eq] at h
    have ih := fills_ok he hf d l h.2
    have hl : (fillPs f l).length = l.length := by rw [fillPs_map, List.length_map]
    have e1 : d + 1 + e - 1 = (d + e - 1) + 1 := by omega
    rw [e1]
    simp only [fillP, Pt.ok, h.1.1, hl, Bool.true_and, Bool.and_eq_true, decide_eq_true_eq]
    exact ⟨h.1.2, ih⟩
theorem fills_ok {f : List (Str × Pt)} {e : Nat} (he : 1 ≤ e) (hf : ∀ x ∈ f, x.2.ok e = true) : ∀ (d : Nat) (l : List Pt), Pt.oks d l = true → Pt.oks (d + e - 1) (fillPs f l) = true
  | d, [], _ => by simp [fillPs, Pt.oks]
  | d, p :: l, h => by
    simp only [Pt.oks, Bool.and_eq_true] at h
    simp only [fillPs, Pt.oks, Bool.and_eq_true]
    exact ⟨fill_ok he hf d p h.1, fills_ok he hf d l h.2⟩
end
mutual
theorem fill_wt {f : List (Str × Pt)} {m : Nat} (hm : 1 ≤ m) (hf : ∀ x ∈ f, x.2.wt ≤ m) : ∀ p : Pt, (fillP f p).wt ≤ p.wt * m
  | .v s => by
    unfold fillP
    cases hg : getA f s with
    | none => simp only [Option.getD_none, Pt.wt]; omega
    | some r =>
      obtain ⟨x, hx, _, rfl⟩ := getA_mem hg
      have := hf x hx
      simp only [Option.getD_some, Pt.wt]; omega
  | .c w l => by
    have ih := fills_wt hm hf l
    simp only [fillP, Pt.wt, Nat.add_mul, Nat.one_mul]
    omega
theorem fills_wt {f : List (Str × Pt)} {m : Nat} (hm : 1 ≤ m) (hf : ∀ x ∈ f, x.2.wt ≤ m) : ∀ l : List Pt, Pt.wts (fillPs f l) ≤ Pt.wts l * m
  | [] => by simp [fillPs, Pt.wts]
  | p :: l => by
    have a := fill_wt hm hf p
    have b := fills_wt hm hf l
    simp only [fillPs, Pt.wts, Nat.add_mul]
    omega
end
end GN

end

/-! ## K5 -/
section
set_option Elab.async false
set_option linter.all false
set_option maxRecDepth 100000
set_option maxHeartbeats 1000000
namespace GN
open PySem PySem.Spec PyProof.Rows L2 DL
theorem inS_empty {s : Str} (h : s.length = 1) : inS s "" = false := by
  have e0 : ("" : Str).length = 0 := by decide +kernel
  unfold inS Builtin.Str.occurrences
  simp [e0, h, Std.Legacy.Range.forIn_eq_forIn_range', Std.Legacy.Range.size, List.range', Id.run]
  rfl
/-! terms have no variables -/
mutual
def termy : Pt → Bool
  | .v _ => false
  | .c _ l => termys l
def termys : List Pt → Bool
  | [] => true
  | p :: l => termy p && termys l
end
theorem termys_mem : ∀ {l : List Pt}, termys l = true → ∀ x ∈ l, termy x = true
  | p :: l, h, x, hx => by
    simp only [termys, Bool.and_eq_true] at h
    rcases List.mem_cons.mp hx with e | hx
    · rw [e]; exact h.1
    · exact termys_mem h.2 x hx
mutual
theorem size_termy : ∀ (n : Nat) (p : Pt), sizeP "" n p ≠ 0 → termy p = true
  | 0, p, h => by simp [sizeP] at h
  | n + 1, .v s, h => by
    exfalso
    apply h
    simp only [sizeP]
    by_cases h1 : s.length = 1
    · simp [inS_empty h1]
    · simp [h1]
  | n + 1, .c w l, h => by
    simp only [sizeP] at h
    split at h
    · simp only [termy]
      exact sizes_termy n l 1 h
    · exact absurd rfl h
theorem sizes_termy : ∀ (n : Nat) (l : List Pt) (a : Nat), sumP (sizeP "" n) l a ≠ 0 → termys l = true
  | n, [], a, _ => rfl
  | n, p :: l, a, h => by
    simp only [sumP] at h
    split at h
    · exact absurd rfl h
    · rename_i h0
      simp only [termys, size_termy n p h0, sizes_termy n l _ h, Bool.and_self]
end
theorem term_termy {p : Pt} (h : isShapeB "" p = true) : termy p = true := by
  simp only [isShapeB, Bool.and_eq_true, decide_eq_true_eq] at h
  exact size_termy 4 p (by omega)
theorem F_due_ok {p q : Pt} (hp : IsPat p) (hq : q.ok 6 = true) (ht : termy q = true) (S : Store) :
    (∃ S', F__law_due [p.D, q.D] S = .ok .non S' ∧ (∀ σ, sub σ p ≠ q) ∧ Old S S') ∨ (∃ f nf S', F__law_due [p.D, q.D] S = .ok (.ref nf) S' ∧ Done p q S f nf S') := by
  have h0 : 1 ≤ big := by unfold big; omega
  have h2 : 2 ≤ big := by unfold big; omega
  have s1 : sPar 2 3 (fun _ S => gNewD0 S) (mAll (aCons (mAll (aCons (mVar 0) (aCons (mVar 1) aNil)) gTup) aNil) gNewL) [some p.D, some q.D, none, none, none, none] S = .nx [some p.D, some q.D, some (.ref S.length), some (.ref (S ++ [Cell.dct []]).length), none, none] (S ++ [Cell.dct []] ++ [.lst [pairD (p, q)]]) := by
    simp [sPar, DL.fl_if, DL.out_if, DL.bind_if, DL.ofl_if, DL.Out.bind_ok, DL.Out.bind_ex, DL.Out.bind_no, DL.sSeq, DL.sIf, DL.sRet, DL.sRetN, DL.sDrop, DL.sAsg, DL.sNil, DL.sNo, DL.sBrk, DL.sCnt, DL.mVar, DL.mC, DL.mNo, DL.mB1, DL.mB2, DL.mAll, DL.aNil, DL.aCons, DL.tOfB, DL.tAndM, DL.tOrM, DL.tNotM, DL.mIf, DL.mAnd, DL.mOr, DL.runB, DL.callN, DL.g1, DL.g2, DL.gNm, DL.gLen, DL.gIsi, DL.tyN, DL.gEq, DL.gNe, DL.gLt, DL.gLe, DL.gGt, DL.gGe, DL.gAdd, DL.gSub, DL.gIx, DL.gIn, DL.gNotIn, DL.inOf, DL.gNot, DL.gTup, DL.gLst, DL.gNewL, DL.gNewD0, DL.gAllB, DL.gAnyB, DL.gSum, DL.lstOf, DL.gTuple, DL.gList, DL.seqOf, DL.iSeq, DL.seqI, DL.lstI, DL.sFor, DL.mLc, DL.wipeE, DL.tTru, DL.Tgt.put, DL.mApp, DL.gApp, DL.isL, DL.isDc, DL.mGet2, DL.gGet, DL.gTupA, DL.gTupT, DL.gsCons, DL.gsNil, DL.gSubT, DL.gPut, DL.sPar, DL.gInt, DL.gMin, DL.iZp, DL.zipI, DL.fl_ok, DL.fl_ex, DL.fl_no, DL.seq_nx, DL.seq_rt, DL.seq_ex, DL.seq_bk, DL.seq_ct, DL.out_nx, DL.out_rt, DL.out_ex, DL.isN_non, DL.isN_tup, DL.isN_str, DL.isN_ref, DL.notN_non, DL.notN_tup, DL.notN_str, DL.notN_ref, DL.atI_zero, DL.atI_one, DL.kit_ss, DL.kit_st, DL.kit_ts, DL.kit_tt, DL.eqD_int, h0, h2, pairD]
  have hw : Wait termy p q S (some p.D) (some q.D) p.wt [] [(p, q)] S.length (S ++ [Cell.dct []]).length (S ++ [Cell.dct []] ++ [.lst [pairD (p, q)]]) := {
    sf := by rw [List.append_assoc]; simp [kvA]
    sw := last_at _ _
    ne := by simp
    lf := by simp
    lw := by simp
    wt := by simp [wtsW]
    ok := fun x hx => by rw [List.mem_singleton.mp hx]; exact ⟨hp.ok, hq⟩
    tms := fun x hx => by rw [List.mem_singleton.mp hx]; exact ht
    of := fun _ m => by cases m
    len := by have := hp.wt; simp; omega
    sol := fun σ => by
      constructor
      · rintro ⟨_, b⟩; exact b (p, q) (by simp)
      · exact fun e => ⟨fun s v h => by simp [getA] at h, fun x hx => by rw [List.mem_singleton.mp hx]; exact e⟩
    nd := by simp
    dom := fun s => by simp [getA, vsW]
    old := (Old.refl S).app _ |>.app _ }
  have lp := due_loop (d := .non) (ck := tOrM (tOfB (mB2 (mB2 (mVar 4) (mC (.int 0)) gIx) (mB2 (mVar 5) (mC (.int 0)) gIx) gNe)) (tOfB (mB2 (mAll (aCons (mB2 (mVar 4) (mC (.int 1)) gIx) aNil) (g1 gLen)) (mAll (aCons (mB2 (mVar 5) (mC (.int 1)) gIx) aNil) (g1 gLen)) gNe)))
    (tm := termy) (fun u r h x hx => termys_mem (by simpa [termy] using h) x hx) (fun ρ S w l y h4 h5 hg hy ht => by
      cases y with
      | v s => simp [termy] at ht
      | c u r =>
        simp only [Pt.ok, Bool.and_eq_true, decide_eq_true_eq] at hg hy
        exact words_ne (S := S) h4 h5 hg.1.1 hy.1.1 hg.1.2 hy.1.2) _ _ _ _ _ none none _ hw (by have := hp.wt; unfold fuel; omega)
  rcases lp with ⟨S', e, hn, ho⟩ | ⟨f', nf', x3, x4, x5, S', e, hd⟩
  · refine .inl ⟨S', ?_, hn, ho⟩
    show Fl.out (sSeq _ (sSeq (sWhile waitT (dueB .non _)) (sRet (mVar 2))) [some p.D, some q.D, none, none, none, none] S) = _
    rw [sSeq_nx s1, sSeq_rt e]
    rfl
  · refine .inr ⟨f', nf', S', ?_, hd⟩
    show Fl.out (sSeq _ (sSeq (sWhile waitT (dueB .non _)) (sRet (mVar 2))) [some p.D, some q.D, none, none, none, none] S) = _
    rw [sSeq_nx s1, sSeq_nx e]
    rfl
/-! both have the same names -/
theorem getA_none_of {f : List (Str × Pt)} {s : Str} (h : getA f s = none) : s ∉ f.map (·.1) := fun m => by
  obtain ⟨x, hx, rfl⟩ := List.mem_map.mp m
  have : (f.any fun y => decide (y.1 = x.1)) = true := List.any_eq_true.mpr ⟨x, hx, by simp⟩
  rw [any_getA, h] at this
  cases this
theorem isSome_mem {f : List (Str × Pt)} {s : Str} : (getA f s).isSome = true ↔ s ∈ f.map (·.1) := by
  constructor
  · intro h
    obtain ⟨r, hr⟩ := Option.isSome_iff_exists.mp h
    obtain ⟨x, hx, e, _⟩ := getA_mem hr
    exact List.mem_map.mpr ⟨x, hx, e⟩
  · intro m
    cases h : getA f s with
    | none => exact absurd m (getA_none_of h)
    | some r => rfl
theorem mem_getA : ∀ {f : List (Str × Pt)}, (f.map (·.1)).Nodup → ∀ {x : Str × Pt}, x ∈ f → getA f x.1 = some x.2
  | y :: f, h, x, hx => by
    simp only [List.map_cons, List.nodup_cons] at h
    rcases List.mem_cons.mp hx with e | hx
    · subst e; simp [getA]
    · have ne : ¬ y.1 = x.1 := fun z => h.1 (by rw [z]; exact List.mem_map.mpr ⟨x, hx, rfl⟩)
      have ih := mem_getA h.2 hx
      simpa [getA, ne] using ih
def DomAt (p : Pt) (f f' : List (Str × Pt)) : Prop := (f.map (·.1)).Nodup → (f'.map (·.1)).Nodup ∧ ∀ s, (getA f' s).isSome = true ↔ ((getA f s).isSome = true ∨ s ∈ vs p)
theorem fitsL_dom {g : Pt → Pt → List (Str × Pt) → Bool × List (Str × Pt)} : ∀ (l r : List Pt) (f : List (Str × Pt)), l.length = r.length → (∀ p ∈ l, ∀ q f, (g p q f).1 = true → DomAt p f (g p q f).2) → (fitsL g l r f).1 = true →
    (f.map (·.1)).Nodup → ((fitsL g l r f).2.map (·.1)).Nodup ∧ ∀ s, (getA (fitsL g l r f).2 s).isSome = true ↔ ((getA f s).isSome = true ∨ s ∈ vss l)
  | [], [], f, _, _, _, h => by simp [fitsL, vss, h]
  | [], _ :: _, f, h, _, _, _ => by simp at h
  | _ :: _, [], f, h, _, _, _ => by simp at h
  | p :: l, q :: r, f, h, hg, ht, hnd => by
    cases hb : (g p q f).1 with
    | false => simp [fitsL, hb] at ht
    | true =>
      simp only [fitsL, hb, if_true] at ht ⊢
      obtain ⟨n1, d1⟩ := hg p (List.mem_cons_self ..) q f hb hnd
      obtain ⟨n2, d2⟩ := fitsL_dom l r _ (by simpa using h) (fun x hx => hg x (List.mem_cons_of_mem _ hx)) ht n1
      refine ⟨n2, fun s => ?_⟩
      rw [d2 s, d1 s]
      simp only [vss, List.mem_append, or_assoc]
theorem fits_dom : ∀ (k : Nat) (p q : Pt) (f : List (Str × Pt)), p.ok k = true → (fitsP k p q f).1 = true → DomAt p f (fitsP k p q f).2
  | 0, p, q, f, h, _ => by simp [Pt.ok] at h
  | k + 1, .v s, q, f, h, ht => by
    intro hnd
    cases hg : getA f s with
    | none =>
      have e : fitsP (k + 1) (.v s) q f = (true, f ++ [(s, q)]) := by simp [fitsP, hg]
      rw [e]
      refine ⟨?_, fun t => ?_⟩
      · simp only [List.map_append, List.map_cons, List.map_nil]
        refine List.nodup_append.mpr ⟨hnd, by simp, fun a ha b hb => ?_⟩
        rw [List.mem_singleton.mp hb]
        intro e; subst e
        exact getA_none_of hg ha
      · rw [isSome_mem, isSome_mem]
        simp [vs]
    | some r =>
      have e : fitsP (k + 1) (.v s) q f = (r.eq q, f) := by simp [fitsP, hg]
      rw [e]
      refine ⟨hnd, fun t => ?_⟩
      simp only [vs, List.mem_singleton]
      constructor
      · exact .inl
      · rintro (a | a)
        · exact a
        · rw [a, hg]; rfl
  | k + 1, .c w l, .v s, f, h, ht => by simp [fitsP] at ht
  | k + 1, .c w l, .c u r, f, h, ht => by
    intro hnd
    cases hc : clashP (.c w l) (.c u r) with
    | true => simp [fitsP, hc] at ht
    | false =>
      have ef : fitsP (k + 1) (.c w l) (.c u r) f = fitsL (fitsP k) l r f := by simp [fitsP, hc]
      rw [ef] at ht ⊢
      simp only [Pt.ok, Bool.and_eq_true] at h
      have hlr : l.length = r.length := by
        have := hc
        simp only [clashP, Bool.or_eq_false_iff, Bool.not_eq_false', beq_iff_eq] at this
        exact this.2
      have := fitsL_dom l r f hlr (fun p hp q f ht => fits_dom k p q f (oks_mem h.2 hp) ht) ht hnd
      simpa [vs] using this
/-! dicts with the same pairs -/
theorem hits_same {f1 f2 : List (Str × Pt)} (h1 : okA 6 f1) (h : ∀ x ∈ f1, getA f2 x.1 = some x.2) : hitsK (kvA f2) (kvA f1) = some true := by
  induction f1 with
  | nil => rfl
  | cons x f ih =>
    have e := h x (List.mem_cons_self ..)
    have k := h1 x (List.mem_cons_self ..)
    have g : getD (kvA f2) (.inr x.1) = some x.2.D := by rw [getD_kv, e]; rfl
    have q := eqD_pt (n := 6) (m := 6) (by decide) (by decide) k k
    rw [(Pt.eq_iff _ _).mpr rfl] at q
    have i := ih (fun y hy => h1 y (List.mem_cons_of_mem _ hy)) (fun y hy => h y (List.mem_cons_of_mem _ hy))
    simp only [kvA, List.map_cons] at i g ⊢
    simp only [hitsK, g, q, i, Bool.and_self]
theorem same_dicts {p q : Pt} {f1 f2 : List (Str × Pt)} (n1 : (f1.map (·.1)).Nodup) (n2 : (f2.map (·.1)).Nodup) (d1 : ∀ s, (getA f1 s).isSome = true ↔ s ∈ vs p) (d2 : ∀ s, (getA f2 s).isSome = true ↔ s ∈ vs p)
    {σ : Str → Pt} (e1 : exts f1 σ) (e2 : exts f2 σ) (o1 : okA 6 f1) : f1.length = f2.length ∧ hitsK (kvA f2) (kvA f1) = some true := by
  have hm : ∀ s, s ∈ f1.map (·.1) ↔ s ∈ f2.map (·.1) := fun s => by rw [← isSome_mem, ← isSome_mem, d1, d2]
  have hp := (List.perm_ext_iff_of_nodup n1 n2).mpr hm
  refine ⟨by simpa using hp.length_eq, hits_same o1 fun x hx => ?_⟩
  have g1 := mem_getA n1 hx
  have m2 : (getA f2 x.1).isSome = true := (d2 _).mpr ((d1 _).mp (by rw [g1]; rfl))
  obtain ⟨r, hr⟩ := Option.isSome_iff_exists.mp m2
  rw [hr, ← e2 _ _ hr, e1 _ _ g1]
theorem fill_sub : ∀ (f : List (Str × Pt)) (p : Pt), fillP f p = sub (sigma f) p
  | f, .v s => rfl
  | f, .c w l => by simp only [fillP, sub, fills_sub f l]
where fills_sub : ∀ (f : List (Str × Pt)) (l : List Pt), fillPs f l = subs (sigma f) l
  | f, [] => rfl
  | f, p :: l => by simp only [fillPs, subs, fill_sub f p, fills_sub f l]
/-! another word, or a part less -/
theorem eqD_pts {l : List Pt} (h : Pt.oks 6 l = true) : eqD (.tup (Pt.Ds l)) (.tup []) = some l.isEmpty := by
  have d := Pt.deeps 6 _ h
  have e0 : (PyData.tuple (Pt.pys l)).depth = PyData.depthAll (Pt.pys l) + 1 := by simp [PyData.depth]
  have sh : SeqAt.shaped (.tuple (Pt.pys l)) = true := by
    simp only [SeqAt.shaped, PyData.canLay0, Pt.lays 6 _ h, Bool.true_and, decide_eq_true_eq]
    rw [e0]; omega
  have sh2 : SeqAt.shaped (.tuple []) = true := by decide
  unfold eqD
  simp only [DL.D.py, DL.D.pyAll, Pt.pys_is, Option.map_some, sh, sh2, and_self, if_true, PyData.eqv, Option.some.injEq]
  cases l <;> rfl
theorem cut_take {l : List D} {i : Nat} (h : i ≤ l.length) : DL.cutD l none (some (i : Int)) = l.take i := by
  unfold DL.cutD
  rw [HT.sIx_none, HT.sIx_nat, List.drop_zero, Nat.sub_zero, Nat.min_eq_left h]
theorem cut_drop {l : List D} {i : Nat} (h : i ≤ l.length) : DL.cutD l (some (i : Int)) none = l.drop i := by
  unfold DL.cutD
  rw [HT.sIx_none, HT.sIx_nat, Nat.min_eq_left h]
  rw [List.take_of_length_le (by rw [List.length_drop]; omega)]
theorem cut_last {l : List D} (h : 0 < l.length) : DL.cutD l none (some (-1)) = l.dropLast := by
  have e : HT.sIx l.length l.length (some (-1)) = l.length - 1 := by
    show (if (-1 : Int) < 0 then ((-1 : Int) + (l.length : Int)).toNat else min (-1 : Int).toNat l.length) = _
    rw [if_pos (by decide)]; omega
  unfold DL.cutD
  rw [HT.sIx_none, e, List.drop_zero, Nat.sub_zero, List.dropLast_eq_take]
theorem wts_take_drop (l : List Pt) (i : Nat) (h : i < l.length) : Pt.wts (l.take i) + (l[i]).wt + Pt.wts (l.drop (i + 1)) = Pt.wts l := by
  induction l generalizing i with
  | nil => simp at h
  | cons p l ih =>
    cases i with
    | zero => simp [Pt.wts]
    | succ i =>
      have := ih i (by simpa using h)
      simp only [List.take_succ_cons, List.drop_succ_cons, List.getElem_cons_succ, Pt.wts]; omega
theorem wts_app : ∀ (a b : List Pt), Pt.wts (a ++ b) = Pt.wts a + Pt.wts b
  | [], b => by simp [Pt.wts]
  | x :: a, b => by simp only [List.cons_append, Pt.wts, wts_app a b]; omega
end GN

end

/-! ## K5B -/
section
set_option Elab.async false
set_option linter.all false
set_option maxRecDepth 100000
set_option maxHeartbeats 1000000
namespace GN
open PySem PySem.Spec PyProof.Rows L2 DL
theorem if_nx {t : MT} {a : MS} {ρ : DL.Env} {S S1 : Store} (h : t ρ S = .ok false S1) : sIf t a sNil ρ S = .nx ρ S1 := by
  rw [sIf_ok h]; rfl
theorem if_rt {t : MT} {a : MS} {ρ : DL.Env} {S S1 S2 : Store} {d : D} (h : t ρ S = .ok true S1) (ha : a ρ S1 = .rt d S2) : sIf t a sNil ρ S = .rt d S2 := by
  rw [sIf_ok h, if_pos rfl, ha]
theorem ret2 {ρ : DL.Env} {a b : M} {S S1 S2 : Store} {d e : D} (ha : a ρ S = .ok d S1) (hb : b ρ S1 = .ok e S2) : sRet (mAll (aCons a (aCons b aNil)) gTup) ρ S = .rt (.tup [d, e]) S2 := by
  have h2 : 2 ≤ big := by unfold big; omega
  refine sRet_ok ((mAll_2 ha hb).trans ?_)
  simp [DL.gTup, h2]
noncomputable def bT : MT := tOrM (tOfB (mAll (aCons (mVar 1) (aCons (mC (.ty "str")) aNil)) (g2 gIsi))) (tOrM (tOfB (mB2 (mB2 (mVar 1) (mC (.int 1)) gIx) (mAll aNil gTup) gEq)) (tOfB (mB2 (mAll (aCons (mVar 0) (aCons (mC (.int 3)) aNil)) (callN 2 F__law_digit)) (mC (.int 0)) gEq)))
noncomputable def bR : MS := sRet (mIf (tNotM (tOfB (mAll (aCons (mVar 1) (aCons (mC (.ty "str")) aNil)) (g2 gIsi)))) (mAll (aCons (mC (.str ("other" : Str))) (aCons (mB2 (mVar 1) (mC (.int 1)) gIx) aNil)) gTup) (mVar 1))
noncomputable def bRest (k : Nat) : MS :=
  (sSeq (sAsg (mAll (aCons (mVar 0) (aCons (mB2 (mAll (aCons (mB2 (mVar 1) (mC (.int 1)) gIx) aNil) (g1 gLen)) (mC (.int 1)) gAdd) aNil)) (callN 2 F__law_digit)) (gNm 2))
  (sSeq (sIf (tOfB (mB2 (mVar 2) (mAll (aCons (mB2 (mVar 1) (mC (.int 1)) gIx) aNil) (g1 gLen)) gEq))
    (sRet (mAll (aCons (mB2 (mVar 1) (mC (.int 0)) gIx) (aCons (mSlA (mB2 (mVar 1) (mC (.int 1)) gIx) oNo (oOf (mB1 (mC (.int 1)) gNeg))) aNil)) gTup))
    sNil)
  (sRet (mAll (aCons (mB2 (mVar 1) (mC (.int 0)) gIx) (aCons (mB2 (mB2 (mSlA (mB2 (mVar 1) (mC (.int 1)) gIx) oNo (oOf (mVar 2))) (mAll (aCons (mAll (aCons (mVar 0) (aCons (mB2 (mB2 (mVar 1) (mC (.int 1)) gIx) (mVar 2) gIx) aNil)) (callN 2 (F__law_bent k))) aNil) gTup) gAdd) (mSlA (mB2 (mVar 1) (mC (.int 1)) gIx) (oOf (mB2 (mVar 2) (mC (.int 1)) gAdd)) oNo) gAdd) aNil)) gTup))))
noncomputable def partsE : M := mB2 (mVar 1) (mC (.int 1)) gIx
theorem parts_ok {e0 x2 : Option D} {w : Str} {l : List Pt} (S : Store) : partsE [e0, some (Pt.c w l).D, x2] S = .ok (.tup (Pt.Ds l)) S := by
  simp [partsE, DL.fl_if, DL.out_if, DL.bind_if, DL.ofl_if, DL.Out.bind_ok, DL.Out.bind_ex, DL.Out.bind_no, DL.sSeq, DL.sIf, DL.sRet, DL.sRetN, DL.sDrop, DL.sAsg, DL.sNil, DL.sNo, DL.sBrk, DL.sCnt, DL.mVar, DL.mC, DL.mNo, DL.mB1, DL.mB2, DL.mAll, DL.aNil, DL.aCons, DL.tOfB, DL.tAndM, DL.tOrM, DL.tNotM, DL.mIf, DL.mAnd, DL.mOr, DL.runB, DL.callN, DL.g1, DL.g2, DL.gNm, DL.gLen, DL.gIsi, DL.tyN, DL.gEq, DL.gNe, DL.gLt, DL.gLe, DL.gGt, DL.gGe, DL.gAdd, DL.gSub, DL.gIx, DL.gIn, DL.gNotIn, DL.inOf, DL.gNot, DL.gTup, DL.gLst, DL.gNewL, DL.gNewD0, DL.gAllB, DL.gAnyB, DL.gSum, DL.lstOf, DL.gTuple, DL.gList, DL.seqOf, DL.iSeq, DL.seqI, DL.lstI, DL.sFor, DL.mLc, DL.wipeE, DL.tTru, DL.Tgt.put, DL.mApp, DL.gApp, DL.isL, DL.isDc, DL.mGet2, DL.gGet, DL.gTupA, DL.gTupT, DL.gsCons, DL.gsNil, DL.gSubT, DL.gPut, DL.sPar, DL.gInt, DL.gMin, DL.iZp, DL.zipI, DL.fl_ok, DL.fl_ex, DL.fl_no, DL.seq_nx, DL.seq_rt, DL.seq_ex, DL.seq_bk, DL.seq_ct, DL.out_nx, DL.out_rt, DL.out_ex, DL.isN_non, DL.isN_tup, DL.isN_str, DL.isN_ref, DL.notN_non, DL.notN_tup, DL.notN_str, DL.notN_ref, DL.atI_zero, DL.atI_one, DL.kit_ss, DL.kit_st, DL.kit_ts, DL.kit_tt, DL.eqD_int, Pt.D]
theorem word_ok {e0 x2 : Option D} {w : Str} {l : List Pt} (S : Store) : mB2 (mVar 1) (mC (.int 0)) gIx [e0, some (Pt.c w l).D, x2] S = .ok (.str w) S := by
  simp [DL.fl_if, DL.out_if, DL.bind_if, DL.ofl_if, DL.Out.bind_ok, DL.Out.bind_ex, DL.Out.bind_no, DL.sSeq, DL.sIf, DL.sRet, DL.sRetN, DL.sDrop, DL.sAsg, DL.sNil, DL.sNo, DL.sBrk, DL.sCnt, DL.mVar, DL.mC, DL.mNo, DL.mB1, DL.mB2, DL.mAll, DL.aNil, DL.aCons, DL.tOfB, DL.tAndM, DL.tOrM, DL.tNotM, DL.mIf, DL.mAnd, DL.mOr, DL.runB, DL.callN, DL.g1, DL.g2, DL.gNm, DL.gLen, DL.gIsi, DL.tyN, DL.gEq, DL.gNe, DL.gLt, DL.gLe, DL.gGt, DL.gGe, DL.gAdd, DL.gSub, DL.gIx, DL.gIn, DL.gNotIn, DL.inOf, DL.gNot, DL.gTup, DL.gLst, DL.gNewL, DL.gNewD0, DL.gAllB, DL.gAnyB, DL.gSum, DL.lstOf, DL.gTuple, DL.gList, DL.seqOf, DL.iSeq, DL.seqI, DL.lstI, DL.sFor, DL.mLc, DL.wipeE, DL.tTru, DL.Tgt.put, DL.mApp, DL.gApp, DL.isL, DL.isDc, DL.mGet2, DL.gGet, DL.gTupA, DL.gTupT, DL.gsCons, DL.gsNil, DL.gSubT, DL.gPut, DL.sPar, DL.gInt, DL.gMin, DL.iZp, DL.zipI, DL.fl_ok, DL.fl_ex, DL.fl_no, DL.seq_nx, DL.seq_rt, DL.seq_ex, DL.seq_bk, DL.seq_ct, DL.out_nx, DL.out_rt, DL.out_ex, DL.isN_non, DL.isN_tup, DL.isN_str, DL.isN_ref, DL.notN_non, DL.notN_tup, DL.notN_str, DL.notN_ref, DL.atI_zero, DL.atI_one, DL.kit_ss, DL.kit_st, DL.kit_ts, DL.kit_tt, DL.eqD_int, Pt.D]
theorem isi1_c {e0 x2 : Option D} {w : Str} {l : List Pt} (S : Store) : tOfB (mAll (aCons (mVar 1) (aCons (mC (.ty "str")) aNil)) (g2 gIsi)) [e0, some (Pt.c w l).D, x2] S = .ok false S := isi_c (i := 1) (w := w) (l := l) rfl
theorem bR_c {e0 x2 : Option D} {w : Str} {l : List Pt} (S : Store) : bR [e0, some (Pt.c w l).D, x2] S = .rt (Pt.c "other" l).D S := by
  have h2 : 2 ≤ big := by unfold big; omega
  refine sRet_ok ?_
  unfold mIf
  rw [tNot_ok (isi1_c S), Out.bind_ok]
  simp only [Bool.not_false, if_true]
  refine (mAll_2 (d := .str "other") (S1 := S) rfl (parts_ok S)).trans ?_
  simp [DL.gTup, h2, Pt.D]
theorem len_D (l : List Pt) : (Pt.Ds l).length = l.length := by rw [Pt.Ds_map, List.length_map]
theorem Ds_app : ∀ a b : List Pt, Pt.Ds (a ++ b) = Pt.Ds a ++ Pt.Ds b := fun a b => by rw [Pt.Ds_map, Pt.Ds_map, Pt.Ds_map, List.map_append]
theorem Ds_take (l : List Pt) (i : Nat) : (Pt.Ds l).take i = Pt.Ds (l.take i) := by rw [Pt.Ds_map, Pt.Ds_map, List.map_take]
theorem Ds_drop (l : List Pt) (i : Nat) : (Pt.Ds l).drop i = Pt.Ds (l.drop i) := by rw [Pt.Ds_map, Pt.Ds_map, List.map_drop]
theorem oks_sub {n : Nat} {l r : List Pt} (h : Pt.oks n l = true) (hs : ∀ x ∈ r, x ∈ l) : Pt.oks n r = true := oks_all fun x hx => oks_mem h (hs x hx)
theorem F_bent_ok {j : Nat} {c : Int} : ∀ (k d : Nat) (p : Pt) (n : Int) (S : Store), d ≤ k → d ≤ 6 → p.ok d = true → Drw S j c n → 2 * (d : Int) ≤ n →
    ∃ (q : Pt) (S' : Store), q.ok d = true ∧ q.wt ≤ p.wt ∧ F__law_bent k [.ref j, p.D] S = .ok q.D S' ∧ Drw S' j c (n - 2 * d) ∧ Kp j S S'
  | 0, d, p, n, S, hk, _, hp, _, _ => by
    have : d = 0 := by omega
    subst this
    simp [Pt.ok] at hp
  | k + 1, 0, p, n, S, _, _, hp, _, _ => by simp [Pt.ok] at hp
  | k + 1, d + 1, .v s, n, S, hk, h6, hp, hd, hn => by
    refine ⟨.v s, S, hp, Nat.le_refl _, ?_, drw_le hd (by omega), Kp.refl _ _⟩
    have e := isi_v (i := 1) (s := s) (ρ := [some (.ref j), some (Pt.v s).D, none]) (S := S) rfl
    have t : bT [some (.ref j), some (Pt.v s).D, none] S = .ok true S := by
      unfold bT tOrM
      rw [e, Out.bind_ok, if_pos rfl]
    show Fl.out (sSeq (sIf bT bR sNil) (bRest k) [some (.ref j), some (Pt.v s).D, none] S) = _
    have r : bR [some (.ref j), some (Pt.v s).D, none] S = .rt (Pt.v s).D S := by
      refine sRet_ok ?_
      unfold mIf
      rw [tNot_ok e, Out.bind_ok]
      rfl
    rw [sSeq_rt (if_rt t r)]
    rfl
  | k + 1, d + 1, .c w l, n, S, hk, h6, hp, hd, hn => by
    have hp' := hp
    simp only [Pt.ok, Bool.and_eq_true, decide_eq_true_eq] at hp'
    obtain ⟨⟨hw, hlen⟩, hl⟩ := hp'
    have hl6 : Pt.oks 6 l = true := oks_all fun x hx => Pt.ok_le (by omega) (oks_mem hl hx)
    have hoth : (Pt.c "other" l).ok (d + 1) = true := by
      have : okS ("other" : Str) = true := by decide +kernel
      simp only [Pt.ok, this, hlen, hl, decide_true, Bool.and_self]
    have e := isi1_c (e0 := some (.ref j)) (x2 := none) (w := w) (l := l) S
    have ee := eqD_pts hl6
    have h00 : 0 ≤ big := Nat.zero_le _
    have t2 : tOfB (mB2 (mB2 (mVar 1) (mC (.int 1)) gIx) (mAll aNil gTup) gEq) [some (.ref j), some (Pt.c w l).D, none] S = .ok l.isEmpty S := by
      refine tOfB_ok ((mB2_ok (parts_ok S) (d' := .tup []) (S2 := S) (by simp [mAll, aNil, DL.gTup, h00])).trans ?_)
      simp only [gEq, ee]
    show ∃ (q : Pt) (S' : Store), _ ∧ _ ∧ Fl.out (sSeq (sIf bT bR sNil) (bRest k) [some (.ref j), some (Pt.c w l).D, none] S) = _ ∧ _
    by_cases hem : l = []
    · have t : bT [some (.ref j), some (Pt.c w l).D, none] S = .ok true S := by
        unfold bT tOrM
        rw [e, Out.bind_ok]
        simp only [Bool.false_eq_true, if_false]
        rw [t2, hem, Out.bind_ok]
        rfl
      exact ⟨.c "other" l, S, hoth, by simp [Pt.wt], by rw [sSeq_rt (if_rt t (bR_c S))]; rfl, drw_le hd (by omega), Kp.refl _ _⟩
    · have hne : l.isEmpty = false := by simpa using hem
      rw [hne] at t2
      have hl0 : 0 < l.length := List.length_pos_iff.mpr hem
      obtain ⟨r, cell, r0, r1, hd1, e1⟩ := F_digit_ok hd (by omega) (sp := 3) (by decide) (by decide)
      have t : bT [some (.ref j), some (Pt.c w l).D, none] S = .ok (r == 0) (S.set j cell) := by
        unfold bT
        have t3 : tOfB (mB2 (mAll (aCons (mVar 0) (aCons (mC (.int 3)) aNil)) (callN 2 F__law_digit)) (mC (.int 0)) gEq) [some (.ref j), some (Pt.c w l).D, none] S = .ok (r == 0) (S.set j cell) := by
          simp [DL.fl_if, DL.out_if, DL.bind_if, DL.ofl_if, DL.Out.bind_ok, DL.Out.bind_ex, DL.Out.bind_no, DL.sSeq, DL.sIf, DL.sRet, DL.sRetN, DL.sDrop, DL.sAsg, DL.sNil, DL.sNo, DL.sBrk, DL.sCnt, DL.mVar, DL.mC, DL.mNo, DL.mB1, DL.mB2, DL.mAll, DL.aNil, DL.aCons, DL.tOfB, DL.tAndM, DL.tOrM, DL.tNotM, DL.mIf, DL.mAnd, DL.mOr, DL.runB, DL.callN, DL.g1, DL.g2, DL.gNm, DL.gLen, DL.gIsi, DL.tyN, DL.gEq, DL.gNe, DL.gLt, DL.gLe, DL.gGt, DL.gGe, DL.gAdd, DL.gSub, DL.gIx, DL.gIn, DL.gNotIn, DL.inOf, DL.gNot, DL.gTup, DL.gLst, DL.gNewL, DL.gNewD0, DL.gAllB, DL.gAnyB, DL.gSum, DL.lstOf, DL.gTuple, DL.gList, DL.seqOf, DL.iSeq, DL.seqI, DL.lstI, DL.sFor, DL.mLc, DL.wipeE, DL.tTru, DL.Tgt.put, DL.mApp, DL.gApp, DL.isL, DL.isDc, DL.mGet2, DL.gGet, DL.gTupA, DL.gTupT, DL.gsCons, DL.gsNil, DL.gSubT, DL.gPut, DL.sPar, DL.gInt, DL.gMin, DL.iZp, DL.zipI, DL.fl_ok, DL.fl_ex, DL.fl_no, DL.seq_nx, DL.seq_rt, DL.seq_ex, DL.seq_bk, DL.seq_ct, DL.out_nx, DL.out_rt, DL.out_ex, DL.isN_non, DL.isN_tup, DL.isN_str, DL.isN_ref, DL.notN_non, DL.notN_tup, DL.notN_str, DL.notN_ref, DL.atI_zero, DL.atI_one, DL.kit_ss, DL.kit_st, DL.kit_ts, DL.kit_tt, DL.eqD_int, e1]
        unfold tOrM
        rw [e, Out.bind_ok]
        simp only [Bool.false_eq_true, if_false]
        rw [t2, Out.bind_ok]
        simp only [Bool.false_eq_true, if_false]
        exact t3
      by_cases hr : r = 0
      · have hrb : (r == 0) = true := by simpa using hr
        rw [hrb] at t
        exact ⟨.c "other" l, S.set j cell, hoth, by simp [Pt.wt], by rw [sSeq_rt (if_rt t (bR_c _))]; rfl, drw_le hd1 (by omega), Kp.set _ _ _⟩
      · have hrb : (r == 0) = false := by simpa using hr
        rw [hrb] at t
        obtain ⟨a, cell2, a0, a1, hd2, e2⟩ := F_digit_ok hd1 (by omega) (sp := (l.length : Int) + 1) (by omega) (by omega)
        rw [List.set_set] at hd2 e2
        obtain ⟨i, rfl⟩ := Int.eq_ofNat_of_zero_le a0
        have hgl : ∀ S : Store, mAll (aCons partsE aNil) (g1 gLen) [some (.ref j), some (Pt.c w l).D, none] S = .ok (.int l.length) S := fun S => by
          refine (mAll_1 (parts_ok S)).trans ?_
          simp [g1, gLen, seqOf, len_D]
        have hgl2 : ∀ (x : Option D) (S : Store), mAll (aCons partsE aNil) (g1 gLen) [some (.ref j), some (Pt.c w l).D, x] S = .ok (.int l.length) S := fun x S => by
          refine (mAll_1 (parts_ok S)).trans ?_
          simp [g1, gLen, seqOf, len_D]
        have s2 : sAsg (mAll (aCons (mVar 0) (aCons (mB2 (mAll (aCons (mB2 (mVar 1) (mC (.int 1)) gIx) aNil) (g1 gLen)) (mC (.int 1)) gAdd) aNil)) (callN 2 F__law_digit)) (gNm 2) [some (.ref j), some (Pt.c w l).D, none] (S.set j cell) = .nx [some (.ref j), some (Pt.c w l).D, some (.int (i : Int))] (S.set j cell2) := by
          refine sAsg_ok ((mAll_2 (d := .ref j) (d' := .int ((l.length : Int) + 1)) (S1 := S.set j cell) (S2 := S.set j cell) rfl ?_).trans ((callN_1 rfl).trans e2)) rfl
          exact (mB2_ok (hgl _) (d' := .int 1) (S2 := S.set j cell) rfl).trans rfl
        have t4 : tOfB (mB2 (mVar 2) (mAll (aCons (mB2 (mVar 1) (mC (.int 1)) gIx) aNil) (g1 gLen)) gEq) [some (.ref j), some (Pt.c w l).D, some (.int (i : Int))] (S.set j cell2) = .ok ((i : Int) == (l.length : Int)) (S.set j cell2) := by
          refine tOfB_ok ((mB2_ok (d := .int (i : Int)) (S1 := S.set j cell2) rfl (hgl2 _ _)).trans ?_)
          simp only [gEq, eqD_int]
        by_cases hi : i = l.length
        · have hib : ((i : Int) == (l.length : Int)) = true := by simp [hi]
          rw [hib] at t4
          have hin : ∀ x ∈ l.dropLast, x ∈ l := fun x hx => (List.dropLast_sublist l).subset hx
          refine ⟨.c w l.dropLast, S.set j cell2, ?_, ?_, ?_, drw_le hd2 (by omega), Kp.set _ _ _⟩
          · simp only [Pt.ok, hw, oks_sub hl hin, Bool.true_and, Bool.and_true, decide_eq_true_eq, List.length_dropLast]; omega
          · have := wts_take_drop l (l.length - 1) (by omega)
            rw [← List.dropLast_eq_take] at this
            simp only [Pt.wt]; omega
          · rw [sSeq_nx (if_nx t), bRest, sSeq_nx s2, sSeq_rt (if_rt t4 (ret2 (word_ok _) (e := .tup (Pt.Ds l.dropLast)) (S2 := S.set j cell2) ?_))]
            · rfl
            · have o1 : oOf (mB1 (mC (.int 1)) gNeg) [some (.ref j), some (Pt.c w l).D, some (.int (i : Int))] (S.set j cell2) = .ok (some (-1)) (S.set j cell2) := by simp [oOf, DL.fl_if, DL.out_if, DL.bind_if, DL.ofl_if, DL.Out.bind_ok, DL.Out.bind_ex, DL.Out.bind_no, DL.sSeq, DL.sIf, DL.sRet, DL.sRetN, DL.sDrop, DL.sAsg, DL.sNil, DL.sNo, DL.sBrk, DL.sCnt, DL.mVar, DL.mC, DL.mNo, DL.mB1, DL.mB2, DL.mAll, DL.aNil, DL.aCons, DL.tOfB, DL.tAndM, DL.tOrM, DL.tNotM, DL.mIf, DL.mAnd, DL.mOr, DL.runB, DL.callN, DL.g1, DL.g2, DL.gNm, DL.gLen, DL.gIsi, DL.tyN, DL.gEq, DL.gNe, DL.gLt, DL.gLe, DL.gGt, DL.gGe, DL.gAdd, DL.gSub, DL.gIx, DL.gIn, DL.gNotIn, DL.inOf, DL.gNot, DL.gTup, DL.gLst, DL.gNewL, DL.gNewD0, DL.gAllB, DL.gAnyB, DL.gSum, DL.lstOf, DL.gTuple, DL.gList, DL.seqOf, DL.iSeq, DL.seqI, DL.lstI, DL.sFor, DL.mLc, DL.wipeE, DL.tTru, DL.Tgt.put, DL.mApp, DL.gApp, DL.isL, DL.isDc, DL.mGet2, DL.gGet, DL.gTupA, DL.gTupT, DL.gsCons, DL.gsNil, DL.gSubT, DL.gPut, DL.sPar, DL.gInt, DL.gMin, DL.iZp, DL.zipI, DL.fl_ok, DL.fl_ex, DL.fl_no, DL.seq_nx, DL.seq_rt, DL.seq_ex, DL.seq_bk, DL.seq_ct, DL.out_nx, DL.out_rt, DL.out_ex, DL.isN_non, DL.isN_tup, DL.isN_str, DL.isN_ref, DL.notN_non, DL.notN_tup, DL.notN_str, DL.notN_ref, DL.atI_zero, DL.atI_one, DL.kit_ss, DL.kit_st, DL.kit_ts, DL.kit_tt, DL.eqD_int, gNeg]
              unfold mSlA
              have pe := parts_ok (e0 := some (.ref j)) (x2 := some (.int (i : Int))) (w := w) (l := l) (S.set j cell2)
              unfold partsE at pe
              rw [pe, Out.bind_ok]
              simp only [oNo, Out.bind_ok, o1, gSlA, gSl]
              rw [cut_last (by rw [len_D]; exact hl0)]
              congr 2
              rw [Pt.Ds_map, Pt.Ds_map, List.map_dropLast]
        · have hib : ((i : Int) == (l.length : Int)) = false := by
            have : ¬ ((i : Int) = (l.length : Int)) := by omega
            simpa using this
          rw [hib] at t4
          have hil : i < l.length := by omega
          have hmem := List.getElem_mem hil
          obtain ⟨q, S3, q6, qw, e3, hd3, kp3⟩ := F_bent_ok k d l[i] (n - 1 - 1) (S.set j cell2) (by omega) (by omega) (oks_mem hl hmem) hd2 (by omega)
          have hset : ∀ x ∈ l.take i ++ [q] ++ l.drop (i + 1), x.ok d = true := fun x hx => by
            rcases List.mem_append.mp hx with h | h
            · rcases List.mem_append.mp h with h | h
              · exact oks_mem hl (List.mem_of_mem_take h)
              · rw [List.mem_singleton.mp h]; exact q6
            · exact oks_mem hl (List.mem_of_mem_drop h)
          refine ⟨.c w (l.take i ++ [q] ++ l.drop (i + 1)), S3, ?_, ?_, ?_, drw_le hd3 (by omega), (Kp.set _ _ _).trans kp3⟩
          · simp only [Pt.ok, hw, oks_all hset, Bool.true_and, Bool.and_true, decide_eq_true_eq, List.length_append, List.length_take, List.length_drop, List.length_cons, List.length_nil]; omega
          · have := wts_take_drop l i hil
            simp only [Pt.wt, wts_app, Pt.wts]; omega
          · have hb1 : 1 ≤ big := by unfold big; omega
            have ix : mB2 (mB2 (mVar 1) (mC (.int 1)) gIx) (mVar 2) gIx [some (.ref j), some (Pt.c w l).D, some (.int (i : Int))] (S.set j cell2) = .ok l[i].D (S.set j cell2) := by
              refine (mB2_ok (parts_ok _) (d' := .int (i : Int)) (S2 := S.set j cell2) rfl).trans ?_
              have hat : atI (Pt.Ds l) (i : Int) = some l[i].D := by
                have h2 : (i : Int) < ((Pt.Ds l).length : Int) := by rw [len_D]; omega
                have h3 : ¬ ((i : Int) < 0) := by omega
                have hi' : i < (Pt.Ds l).length := by rw [len_D]; exact hil
                have e5 : (Pt.Ds l)[i]? = some l[i].D := by rw [Pt.Ds_map, List.getElem?_map, List.getElem?_eq_getElem hil]; rfl
                simp [atI, ixN, h2, e5]
              simp only [gIx, hat]
            have m1 : mAll (aCons (mVar 0) (aCons (mB2 (mB2 (mVar 1) (mC (.int 1)) gIx) (mVar 2) gIx) aNil)) (callN 2 (F__law_bent k)) [some (.ref j), some (Pt.c w l).D, some (.int (i : Int))] (S.set j cell2) = .ok q.D S3 :=
              (mAll_2 (d := .ref j) (S1 := S.set j cell2) rfl ix).trans ((callN_1 rfl).trans e3)
            have m2 : mAll (aCons (mAll (aCons (mVar 0) (aCons (mB2 (mB2 (mVar 1) (mC (.int 1)) gIx) (mVar 2) gIx) aNil)) (callN 2 (F__law_bent k))) aNil) gTup [some (.ref j), some (Pt.c w l).D, some (.int (i : Int))] (S.set j cell2) = .ok (.tup [q.D]) S3 := by
              refine (mAll_1 m1).trans ?_
              simp [DL.gTup, hb1]
            have sl1 : ∀ S : Store, mSlA (mB2 (mVar 1) (mC (.int 1)) gIx) oNo (oOf (mVar 2)) [some (.ref j), some (Pt.c w l).D, some (.int (i : Int))] S = .ok (.tup (Pt.Ds (l.take i))) S := fun S => by
              have o1 : oOf (mVar 2) [some (.ref j), some (Pt.c w l).D, some (.int (i : Int))] S = .ok (some (i : Int)) S := by simp [oOf, DL.fl_if, DL.out_if, DL.bind_if, DL.ofl_if, DL.Out.bind_ok, DL.Out.bind_ex, DL.Out.bind_no, DL.sSeq, DL.sIf, DL.sRet, DL.sRetN, DL.sDrop, DL.sAsg, DL.sNil, DL.sNo, DL.sBrk, DL.sCnt, DL.mVar, DL.mC, DL.mNo, DL.mB1, DL.mB2, DL.mAll, DL.aNil, DL.aCons, DL.tOfB, DL.tAndM, DL.tOrM, DL.tNotM, DL.mIf, DL.mAnd, DL.mOr, DL.runB, DL.callN, DL.g1, DL.g2, DL.gNm, DL.gLen, DL.gIsi, DL.tyN, DL.gEq, DL.gNe, DL.gLt, DL.gLe, DL.gGt, DL.gGe, DL.gAdd, DL.gSub, DL.gIx, DL.gIn, DL.gNotIn, DL.inOf, DL.gNot, DL.gTup, DL.gLst, DL.gNewL, DL.gNewD0, DL.gAllB, DL.gAnyB, DL.gSum, DL.lstOf, DL.gTuple, DL.gList, DL.seqOf, DL.iSeq, DL.seqI, DL.lstI, DL.sFor, DL.mLc, DL.wipeE, DL.tTru, DL.Tgt.put, DL.mApp, DL.gApp, DL.isL, DL.isDc, DL.mGet2, DL.gGet, DL.gTupA, DL.gTupT, DL.gsCons, DL.gsNil, DL.gSubT, DL.gPut, DL.sPar, DL.gInt, DL.gMin, DL.iZp, DL.zipI, DL.fl_ok, DL.fl_ex, DL.fl_no, DL.seq_nx, DL.seq_rt, DL.seq_ex, DL.seq_bk, DL.seq_ct, DL.out_nx, DL.out_rt, DL.out_ex, DL.isN_non, DL.isN_tup, DL.isN_str, DL.isN_ref, DL.notN_non, DL.notN_tup, DL.notN_str, DL.notN_ref, DL.atI_zero, DL.atI_one, DL.kit_ss, DL.kit_st, DL.kit_ts, DL.kit_tt, DL.eqD_int]
              unfold mSlA
              have pe := parts_ok (e0 := some (.ref j)) (x2 := some (.int (i : Int))) (w := w) (l := l) S
              unfold partsE at pe
              rw [pe, Out.bind_ok]
              simp only [oNo, Out.bind_ok, o1, gSlA, gSl]
              rw [cut_take (by rw [len_D]; omega), Ds_take]
            have sl2 : ∀ S : Store, mSlA (mB2 (mVar 1) (mC (.int 1)) gIx) (oOf (mB2 (mVar 2) (mC (.int 1)) gAdd)) oNo [some (.ref j), some (Pt.c w l).D, some (.int (i : Int))] S = .ok (.tup (Pt.Ds (l.drop (i + 1)))) S := fun S => by
              have o1 : oOf (mB2 (mVar 2) (mC (.int 1)) gAdd) [some (.ref j), some (Pt.c w l).D, some (.int (i : Int))] S = .ok (some ((i + 1 : Nat) : Int)) S := by
                simp [oOf, DL.fl_if, DL.out_if, DL.bind_if, DL.ofl_if, DL.Out.bind_ok, DL.Out.bind_ex, DL.Out.bind_no, DL.sSeq, DL.sIf, DL.sRet, DL.sRetN, DL.sDrop, DL.sAsg, DL.sNil, DL.sNo, DL.sBrk, DL.sCnt, DL.mVar, DL.mC, DL.mNo, DL.mB1, DL.mB2, DL.mAll, DL.aNil, DL.aCons, DL.tOfB, DL.tAndM, DL.tOrM, DL.tNotM, DL.mIf, DL.mAnd, DL.mOr, DL.runB, DL.callN, DL.g1, DL.g2, DL.gNm, DL.gLen, DL.gIsi, DL.tyN, DL.gEq, DL.gNe, DL.gLt, DL.gLe, DL.gGt, DL.gGe, DL.gAdd, DL.gSub, DL.gIx, DL.gIn, DL.gNotIn, DL.inOf, DL.gNot, DL.gTup, DL.gLst, DL.gNewL, DL.gNewD0, DL.gAllB, DL.gAnyB, DL.gSum, DL.lstOf, DL.gTuple, DL.gList, DL.seqOf, DL.iSeq, DL.seqI, DL.lstI, DL.sFor, DL.mLc, DL.wipeE, DL.tTru, DL.Tgt.put, DL.mApp, DL.gApp, DL.isL, DL.isDc, DL.mGet2, DL.gGet, DL.gTupA, DL.gTupT, DL.gsCons, DL.gsNil, DL.gSubT, DL.gPut, DL.sPar, DL.gInt, DL.gMin, DL.iZp, DL.zipI, DL.fl_ok, DL.fl_ex, DL.fl_no, DL.seq_nx, DL.seq_rt, DL.seq_ex, DL.seq_bk, DL.seq_ct, DL.out_nx, DL.out_rt, DL.out_ex, DL.isN_non, DL.isN_tup, DL.isN_str, DL.isN_ref, DL.notN_non, DL.notN_tup, DL.notN_str, DL.notN_ref, DL.atI_zero, DL.atI_one, DL.kit_ss, DL.kit_st, DL.kit_ts, DL.kit_tt, DL.eqD_int]
              unfold mSlA
              have pe := parts_ok (e0 := some (.ref j)) (x2 := some (.int (i : Int))) (w := w) (l := l) S
              unfold partsE at pe
              rw [pe, Out.bind_ok]
              simp only [oNo, Out.bind_ok, o1, gSlA, gSl]
              rw [cut_drop (by rw [len_D]; omega), Ds_drop]
            have big1 : (Pt.Ds (l.take i)).length + [q.D].length ≤ big := by rw [len_D]; simp only [List.length_take, List.length_cons, List.length_nil]; unfold big; omega
            have big2 : (Pt.Ds (l.take i) ++ [q.D]).length + (Pt.Ds (l.drop (i + 1))).length ≤ big := by
              rw [List.length_append, len_D, len_D]; simp only [List.length_take, List.length_drop, List.length_cons, List.length_nil]; unfold big; omega
            have ad : mB2 (mB2 (mSlA (mB2 (mVar 1) (mC (.int 1)) gIx) oNo (oOf (mVar 2))) (mAll (aCons (mAll (aCons (mVar 0) (aCons (mB2 (mB2 (mVar 1) (mC (.int 1)) gIx) (mVar 2) gIx) aNil)) (callN 2 (F__law_bent k))) aNil) gTup) gAdd) (mSlA (mB2 (mVar 1) (mC (.int 1)) gIx) (oOf (mB2 (mVar 2) (mC (.int 1)) gAdd)) oNo) gAdd [some (.ref j), some (Pt.c w l).D, some (.int (i : Int))] (S.set j cell2) = .ok (.tup (Pt.Ds (l.take i ++ [q] ++ l.drop (i + 1)))) S3 := by
              have a1 := (mB2_ok (g := gAdd) (sl1 (S.set j cell2)) m2).trans (show gAdd (.tup (Pt.Ds (l.take i))) (.tup [q.D]) S3 = .ok (.tup (Pt.Ds (l.take i) ++ [q.D])) S3 by simp only [gAdd, big1, if_true])
              refine (mB2_ok a1 (sl2 S3)).trans ?_
              simp only [gAdd, big2, if_true, Ds_app, Pt.Ds]
            rw [sSeq_nx (if_nx t), bRest, sSeq_nx s2, sSeq_nx (if_nx t4), ret2 (word_ok _) ad]
            rfl
end GN

end

/-! ## K5C -/
section
set_option Elab.async false
set_option linter.all false
set_option maxRecDepth 100000
set_option maxHeartbeats 1000000
namespace GN
open PySem PySem.Spec PyProof.Rows L2 DL
theorem sg_TXT : ∀ c ∈ ("TXT" : Str).cps.toList, inS ⟨#[c]⟩ VARS = true ∧ okS ⟨#[c]⟩ = true := by decide +kernel
theorem sg_nil : ∀ c ∈ ("" : Str).cps.toList, inS ⟨#[c]⟩ "" = true ∧ okS ⟨#[c]⟩ = true := by decide +kernel
theorem need2 : need 2 = 16 := rfl
theorem need3 : need 3 = 52 := rfl
theorem nTX : ¬ (("T" : Str) = "X") := by decide +kernel
theorem form_p {j : Nat} {c n : Int} {S : Store} (hd : Drw S j c n) (hn : 52 ≤ n) : ∃ p S', Gd VARS 3 6 p ∧ F__law_drawn_form 6 [.ref j, .int 3, .int 6, .str "TXT"] S = .ok p.D S' ∧ Drw S' j c (n - 52) ∧ Kp j S S' := by
  have := F_form_ok (j := j) (c := c) (lt := VARS) (sg := "TXT") (by decide +kernel) sg_TXT 3 6 (by decide) (by decide) (by decide) 6 n S (by decide) hd (by rw [need3]; omega)
  rw [need3] at this
  exact this
theorem form_t {j : Nat} {c n : Int} {S : Store} (hd : Drw S j c n) (hn : 52 ≤ n) : ∃ p S', Gd "" 3 6 p ∧ F__law_drawn_form 6 [.ref j, .int 3, .int 6, .str ""] S = .ok p.D S' ∧ Drw S' j c (n - 52) ∧ Kp j S S' := by
  have := F_form_ok (j := j) (c := c) (lt := "") (sg := "") (by decide +kernel) sg_nil 3 6 (by decide) (by decide) (by decide) 6 n S (by decide) hd (by rw [need3]; omega)
  rw [need3] at this
  exact this
theorem form_v {j : Nat} {c n : Int} {S : Store} (hd : Drw S j c n) (hn : 16 ≤ n) : ∃ p S', Gd "" 2 3 p ∧ F__law_drawn_form 6 [.ref j, .int 2, .int 3, .str ""] S = .ok p.D S' ∧ Drw S' j c (n - 16) ∧ Kp j S S' := by
  have := F_form_ok (j := j) (c := c) (lt := "") (sg := "") (by decide +kernel) sg_nil 2 6 (by decide) (by decide) (by decide) 3 n S (by decide) hd (by rw [need2]; omega)
  rw [need2] at this
  exact this
theorem eqT_pt {p q : Pt} (hp : p.ok 6 = true) (hq : q.ok 6 = true) (S : Store) : DL.eqT S p.D q.D = some (p.eq q) := by
  have hn : ∀ p : Pt, dctAt S p.D = none := fun p => by cases p <;> rfl
  have hs : ∀ p : Pt, pyS S p.D = some p.py := fun p => by rw [← Pt.py_is]; cases p <;> rfl
  unfold DL.eqT
  rw [hn p, hn q]
  simp only [eqS, hs, Pt.shaped (n := 6) (by decide) hp, Pt.shaped (n := 6) (by decide) hq, and_self, if_true, Pt.eqv]
noncomputable def finB : MS := (sSeq (sAsg (mAll (aCons (mVar 5) (aCons (mVar 7) aNil)) (callN 2 F_match)) (gNm 9))
        (sIf (tOrM (tOfB (mB2 (mVar 9) (mAll (aCons (mVar 5) (aCons (mVar 7) aNil)) (callN 2 F__law_due)) gNeT)) (tAndM (tOfB (mB2 (mVar 9) (mC .non) gNotN)) (tOfB (mB2 (mAll (aCons (mVar 5) (aCons (mVar 9) aNil)) (callN 2 (F__law_put 6))) (mVar 7) gNeT))))
          (sRet (mC (.bl false)))
          sNil))
theorem call2 {i j : Nat} {ρ : DL.Env} {F : List D → Store → Out D} {d d' : D} {S : Store} {r : Out D} (hi : mVar i ρ S = .ok d S) (hj : mVar j ρ S = .ok d' S) (h : F [d, d'] S = r) : mAll (aCons (mVar i) (aCons (mVar j) aNil)) (callN 2 F) ρ S = r :=
  Eq.trans (mAll_2 hi hj) (Eq.trans (callN_1 rfl) h)
theorem fin_ev {p q m d r : D} {S S1 S2 : Store} {e0 e1 e2 e3 e4 e6 e8 x9 : Option D} (hm : F_match [p, q] S = .ok m S1) (hd : F__law_due [p, q] S1 = .ok d S2) (hne : DL.eqT S2 m d = some true)
    (hc : m = .non ∨ ((∃ n, m = .ref n) ∧ F__law_put 6 [p, m] S2 = .ok r S2 ∧ DL.eqT S2 r q = some true)) :
    finB [e0, e1, e2, e3, e4, some p, e6, some q, e8, x9] S = .nx [e0, e1, e2, e3, e4, some p, e6, some q, e8, some m] S2 := by
  have s1 : sAsg (mAll (aCons (mVar 5) (aCons (mVar 7) aNil)) (callN 2 F_match)) (gNm 9) [e0, e1, e2, e3, e4, some p, e6, some q, e8, x9] S = .nx [e0, e1, e2, e3, e4, some p, e6, some q, e8, some m] S1 :=
    sAsg_ok (call2 rfl rfl hm) rfl
  have g1 : gNeT m d S2 = .ok (.bl false) S2 := by simp only [gNeT, hne, Bool.not_true]
  have v9 : ∀ T, mVar 9 [e0, e1, e2, e3, e4, some p, e6, some q, e8, some m] T = .ok m T := fun _ => rfl
  have v5 : ∀ T, mVar 5 [e0, e1, e2, e3, e4, some p, e6, some q, e8, some m] T = .ok p T := fun _ => rfl
  have v7 : ∀ T, mVar 7 [e0, e1, e2, e3, e4, some p, e6, some q, e8, some m] T = .ok q T := fun _ => rfl
  have t1 : tOfB (mB2 (mVar 9) (mAll (aCons (mVar 5) (aCons (mVar 7) aNil)) (callN 2 F__law_due)) gNeT) [e0, e1, e2, e3, e4, some p, e6, some q, e8, some m] S1 = .ok false S2 :=
    tOfB_ok (Eq.trans (mB2_ok (v9 S1) (call2 (v5 S1) (v7 S1) hd)) g1)
  have t2 : tAndM (tOfB (mB2 (mVar 9) (mC .non) gNotN)) (tOfB (mB2 (mAll (aCons (mVar 5) (aCons (mVar 9) aNil)) (callN 2 (F__law_put 6))) (mVar 7) gNeT)) [e0, e1, e2, e3, e4, some p, e6, some q, e8, some m] S2 = .ok false S2 := by
    have c0 : ∀ T, mC .non [e0, e1, e2, e3, e4, some p, e6, some q, e8, some m] T = .ok .non T := fun _ => rfl
    rcases hc with h | ⟨⟨n, h⟩, hp, he⟩
    · have g0 : gNotN m .non S2 = .ok (.bl false) S2 := by rw [h]; rfl
      exact tAnd_f (tOfB_ok (Eq.trans (mB2_ok (v9 S2) (c0 S2)) g0))
    · have g0 : gNotN m .non S2 = .ok (.bl true) S2 := by rw [h]; rfl
      have g2 : gNeT r q S2 = .ok (.bl false) S2 := by simp only [gNeT, he, Bool.not_true]
      exact Eq.trans (tAnd_t (tOfB_ok (Eq.trans (mB2_ok (v9 S2) (c0 S2)) g0))) (tOfB_ok (Eq.trans (mB2_ok (call2 (v5 S2) (v9 S2) hp) (v7 S2)) g2))
  unfold finB
  rw [sSeq_nx s1]
  refine if_nx ?_
  unfold tOrM
  rw [t1, Out.bind_ok]
  exact t2
theorem fin_ok {p q : Pt} {e0 e1 e2 e3 e4 e6 e8 x9 : Option D} (hp : IsPat p) (hq : q.ok 6 = true) (hs : isShapeB "" q = true) (S : Store) :
    ∃ S' x9', finB [e0, e1, e2, e3, e4, some p.D, e6, some q.D, e8, x9] S = .nx [e0, e1, e2, e3, e4, some p.D, e6, some q.D, e8, x9'] S' ∧ Old S S' := by
  have hm := F_match_ok hp hq hs S
  have hfi := fits_iff (k := 6) (p := p) (q := q) (f := []) hp.ok
  have e0' : ∀ σ, exts [] σ := fun σ s v h => by simp [getA] at h
  have hT0 : Old S (S ++ [.dct (kvA (fitsP 6 p q []).2)]) := (Old.refl S).app _
  have hS1 : (S ++ [.dct (kvA (fitsP 6 p q []).2)] : Store)[S.length]? = some (.dct (kvA (fitsP 6 p q []).2)) := last_at _ _
  generalize (S ++ [.dct (kvA (fitsP 6 p q []).2)] : Store) = T at hm hT0 hS1
  cases hb : (fitsP 6 p q []).1 with
  | false =>
    rw [hb] at hm hfi
    simp only [Bool.false_eq_true, if_false] at hm
    rcases F_due_ok hp hq (term_termy hs) T with ⟨S', e, hn, ho⟩ | ⟨f, nf, S', e, hd⟩
    · exact ⟨S', some .non, fin_ev (r := .non) hm e rfl (.inl rfl), hT0.trans ho⟩
    · exfalso
      have := hfi.mpr ⟨_, e0' _, (hd.sol _).mp (exts_sigma f)⟩
      cases this
  | true =>
    rw [hb] at hm
    simp only [if_true] at hm
    obtain ⟨_, hoa, hlen⟩ := F_fits_ok (n := 6) (by decide) (j := S.length) 6 (by decide) p q [] (S ++ [.dct []]) hp.ok hq (fun _ m => by cases m) (by have := hp.wt; simp; omega) (by simp [kvA])
    have hfs := fun σ => (fits_sub (σ := σ) 6 p q [] hp.ok).1 hb
    obtain ⟨n1, d1⟩ := fits_dom 6 p q [] hp.ok hb (by simp)
    have d1' : ∀ s, (getA (fitsP 6 p q []).2 s).isSome = true ↔ s ∈ vs p := fun s => by rw [d1 s]; simp [getA]
    rcases F_due_ok hp hq (term_termy hs) T with ⟨S', e, hn, ho⟩ | ⟨f, nf, S', e, hd⟩
    · exfalso
      obtain ⟨σ, _, h⟩ := hfi.mp hb
      exact hn σ h
    · have hS2 := hd.old _ _ hS1
      have hsf := hd.sf
      obtain ⟨hl, hh⟩ := same_dicts (p := p) (q := q) (f1 := (fitsP 6 p q []).2) (f2 := f) n1 hd.nd d1' hd.dom (σ := sigma f) ((hfs _).mpr ⟨e0' _, (hd.sol _).mp (exts_sigma f)⟩) (exts_sigma f) hoa
      have l2 : (kvA (fitsP 6 p q []).2).length = (kvA f).length := by simp [kvA, hl]
      have heq : DL.eqT S' (.ref S.length) (.ref nf) = some true := by
        unfold DL.eqT
        simp only [dctAt, hS2, hsf, l2, if_true, hh]
      have pe := F_put_ok (f := (fitsP 6 p q []).2) 6 p S' hp.ok hS2
      have hfill : fillP (fitsP 6 p q []).2 p = q := by
        rw [fill_sub]
        exact ((hfs _).mp (exts_sigma _)).2
      rw [hfill] at pe
      have eq2 := eqT_pt hq hq S'
      rw [(Pt.eq_iff q q).mpr rfl] at eq2
      exact ⟨S', some (.ref S.length), fin_ev hm e heq (.inr ⟨⟨_, rfl⟩, pe, eq2⟩), hT0.trans hd.old⟩
noncomputable def valD : M := mNewD (pCons (.inr ("T" : Str)) (mAll (aCons (mVar 3) (aCons (mC (.int 2)) (aCons (mC (.int 3)) (aCons (mC (.str ("" : Str))) aNil)))) (callN 4 (F__law_drawn_form 6))) (pCons (.inr ("X" : Str)) (mAll (aCons (mVar 3) (aCons (mC (.int 2)) (aCons (mC (.int 3)) (aCons (mC (.str ("" : Str))) aNil)))) (callN 4 (F__law_drawn_form 6))) pNil))
noncomputable def wayB : MS := (sIf (tOfB (mB2 (mVar 8) (mC (.int 0)) gEq))
        (sAsg (mAll (aCons (mVar 3) (aCons (mVar 7) aNil)) (callN 2 (F__law_bent 6))) (gNm 7))
        (sIf (tOfB (mB2 (mVar 8) (mC (.int 1)) gEq))
          (sAsg (mAll (aCons (mVar 3) (aCons (mC (.int 3)) (aCons (mC (.int 6)) (aCons (mC (.str ("" : Str))) aNil)))) (callN 4 (F__law_drawn_form 6))) (gNm 7))
          sNil))
noncomputable def trnB : MS :=
      (sSeq (sAsg (mAll (aCons (mVar 3) (aCons (mC (.int 3)) (aCons (mC (.int 6)) (aCons (mC (.str ("TXT" : Str))) aNil)))) (callN 4 (F__law_drawn_form 6))) (gNm 5))
      (sSeq (sAsg valD (gNm 6))
      (sSeq (sAsg (mAll (aCons (mVar 5) (aCons (mVar 6) aNil)) (callN 2 (F__law_put 6))) (gNm 7))
      (sSeq (sAsg (mAll (aCons (mVar 3) (aCons (mC (.int 4)) aNil)) (callN 2 F__law_digit)) (gNm 8))
      (sSeq wayB
      (sIf (tOfB (mAll (aCons (mVar 7) aNil) (callN 1 F_is_term)))
        finB
        sNil))))))
theorem way_ok {j : Nat} {c n w : Int} {q0 : Pt} {e0 e1 e2 e4 e5 e6 x9 : Option D} {S : Store} (hd : Drw S j c n) (hn : 52 ≤ n) (h6 : q0.ok 6 = true) (hw : q0.wt ≤ 500) :
    ∃ (q : Pt) (S' : Store), q.ok 6 = true ∧ q.wt ≤ 500 ∧ wayB [e0, e1, e2, some (.ref j), e4, e5, e6, some q0.D, some (.int w), x9] S = .nx [e0, e1, e2, some (.ref j), e4, e5, e6, some q.D, some (.int w), x9] S' ∧ Drw S' j c (n - 52) ∧ Kp j S S' := by
  have t0 : tOfB (mB2 (mVar 8) (mC (.int 0)) gEq) [e0, e1, e2, some (.ref j), e4, e5, e6, some q0.D, some (.int w), x9] S = .ok (w == 0) S := by simp [DL.fl_if, DL.out_if, DL.bind_if, DL.ofl_if, DL.Out.bind_ok, DL.Out.bind_ex, DL.Out.bind_no, DL.sSeq, DL.sIf, DL.sRet, DL.sRetN, DL.sDrop, DL.sAsg, DL.sNil, DL.sNo, DL.sBrk, DL.sCnt, DL.mVar, DL.mC, DL.mNo, DL.mB1, DL.mB2, DL.mAll, DL.aNil, DL.aCons, DL.tOfB, DL.tAndM, DL.tOrM, DL.tNotM, DL.mIf, DL.mAnd, DL.mOr, DL.runB, DL.callN, DL.g1, DL.g2, DL.gNm, DL.gLen, DL.gIsi, DL.tyN, DL.gEq, DL.gNe, DL.gLt, DL.gLe, DL.gGt, DL.gGe, DL.gAdd, DL.gSub, DL.gIx, DL.gIn, DL.gNotIn, DL.inOf, DL.gNot, DL.gTup, DL.gLst, DL.gNewL, DL.gNewD0, DL.gAllB, DL.gAnyB, DL.gSum, DL.lstOf, DL.gTuple, DL.gList, DL.seqOf, DL.iSeq, DL.seqI, DL.lstI, DL.sFor, DL.mLc, DL.wipeE, DL.tTru, DL.Tgt.put, DL.mApp, DL.gApp, DL.isL, DL.isDc, DL.mGet2, DL.gGet, DL.gTupA, DL.gTupT, DL.gsCons, DL.gsNil, DL.gSubT, DL.gPut, DL.sPar, DL.gInt, DL.gMin, DL.iZp, DL.zipI, DL.fl_ok, DL.fl_ex, DL.fl_no, DL.seq_nx, DL.seq_rt, DL.seq_ex, DL.seq_bk, DL.seq_ct, DL.out_nx, DL.out_rt, DL.out_ex, DL.isN_non, DL.isN_tup, DL.isN_str, DL.isN_ref, DL.notN_non, DL.notN_tup, DL.notN_str, DL.notN_ref, DL.atI_zero, DL.atI_one, DL.kit_ss, DL.kit_st, DL.kit_ts, DL.kit_tt, DL.eqD_int]
  have t1 : tOfB (mB2 (mVar 8) (mC (.int 1)) gEq) [e0, e1, e2, some (.ref j), e4, e5, e6, some q0.D, some (.int w), x9] S = .ok (w == 1) S := by simp [DL.fl_if, DL.out_if, DL.bind_if, DL.ofl_if, DL.Out.bind_ok, DL.Out.bind_ex, DL.Out.bind_no, DL.sSeq, DL.sIf, DL.sRet, DL.sRetN, DL.sDrop, DL.sAsg, DL.sNil, DL.sNo, DL.sBrk, DL.sCnt, DL.mVar, DL.mC, DL.mNo, DL.mB1, DL.mB2, DL.mAll, DL.aNil, DL.aCons, DL.tOfB, DL.tAndM, DL.tOrM, DL.tNotM, DL.mIf, DL.mAnd, DL.mOr, DL.runB, DL.callN, DL.g1, DL.g2, DL.gNm, DL.gLen, DL.gIsi, DL.tyN, DL.gEq, DL.gNe, DL.gLt, DL.gLe, DL.gGt, DL.gGe, DL.gAdd, DL.gSub, DL.gIx, DL.gIn, DL.gNotIn, DL.inOf, DL.gNot, DL.gTup, DL.gLst, DL.gNewL, DL.gNewD0, DL.gAllB, DL.gAnyB, DL.gSum, DL.lstOf, DL.gTuple, DL.gList, DL.seqOf, DL.iSeq, DL.seqI, DL.lstI, DL.sFor, DL.mLc, DL.wipeE, DL.tTru, DL.Tgt.put, DL.mApp, DL.gApp, DL.isL, DL.isDc, DL.mGet2, DL.gGet, DL.gTupA, DL.gTupT, DL.gsCons, DL.gsNil, DL.gSubT, DL.gPut, DL.sPar, DL.gInt, DL.gMin, DL.iZp, DL.zipI, DL.fl_ok, DL.fl_ex, DL.fl_no, DL.seq_nx, DL.seq_rt, DL.seq_ex, DL.seq_bk, DL.seq_ct, DL.out_nx, DL.out_rt, DL.out_ex, DL.isN_non, DL.isN_tup, DL.isN_str, DL.isN_ref, DL.notN_non, DL.notN_tup, DL.notN_str, DL.notN_ref, DL.atI_zero, DL.atI_one, DL.kit_ss, DL.kit_st, DL.kit_ts, DL.kit_tt, DL.eqD_int]
  unfold wayB
  rw [sIf_ok t0]
  by_cases h0 : w = 0
  · have hb : (w == 0) = true := by simpa using h0
    rw [hb]
    obtain ⟨q, S', q6, qw, e, hd1, kp⟩ := F_bent_ok 6 6 q0 n S (by decide) (by decide) h6 hd (by omega)
    refine ⟨q, S', q6, by omega, ?_, drw_le hd1 (by omega), kp⟩
    rw [if_pos rfl]
    exact sAsg_ok (call2 rfl rfl e) rfl
  · have hb : (w == 0) = false := by simpa using h0
    rw [hb]
    simp only [Bool.false_eq_true, if_false]
    rw [sIf_ok t1]
    by_cases h1 : w = 1
    · have hb1 : (w == 1) = true := by simpa using h1
      rw [hb1]
      obtain ⟨q, S', g, e, hd1, kp⟩ := form_t hd hn
      have gw := g.wt
      refine ⟨q, S', Pt.ok_le (by decide) g.ok, by omega, ?_, hd1, kp⟩
      rw [if_pos rfl]
      simp [DL.fl_if, DL.out_if, DL.bind_if, DL.ofl_if, DL.Out.bind_ok, DL.Out.bind_ex, DL.Out.bind_no, DL.sSeq, DL.sIf, DL.sRet, DL.sRetN, DL.sDrop, DL.sAsg, DL.sNil, DL.sNo, DL.sBrk, DL.sCnt, DL.mVar, DL.mC, DL.mNo, DL.mB1, DL.mB2, DL.mAll, DL.aNil, DL.aCons, DL.tOfB, DL.tAndM, DL.tOrM, DL.tNotM, DL.mIf, DL.mAnd, DL.mOr, DL.runB, DL.callN, DL.g1, DL.g2, DL.gNm, DL.gLen, DL.gIsi, DL.tyN, DL.gEq, DL.gNe, DL.gLt, DL.gLe, DL.gGt, DL.gGe, DL.gAdd, DL.gSub, DL.gIx, DL.gIn, DL.gNotIn, DL.inOf, DL.gNot, DL.gTup, DL.gLst, DL.gNewL, DL.gNewD0, DL.gAllB, DL.gAnyB, DL.gSum, DL.lstOf, DL.gTuple, DL.gList, DL.seqOf, DL.iSeq, DL.seqI, DL.lstI, DL.sFor, DL.mLc, DL.wipeE, DL.tTru, DL.Tgt.put, DL.mApp, DL.gApp, DL.isL, DL.isDc, DL.mGet2, DL.gGet, DL.gTupA, DL.gTupT, DL.gsCons, DL.gsNil, DL.gSubT, DL.gPut, DL.sPar, DL.gInt, DL.gMin, DL.iZp, DL.zipI, DL.fl_ok, DL.fl_ex, DL.fl_no, DL.seq_nx, DL.seq_rt, DL.seq_ex, DL.seq_bk, DL.seq_ct, DL.out_nx, DL.out_rt, DL.out_ex, DL.isN_non, DL.isN_tup, DL.isN_str, DL.isN_ref, DL.notN_non, DL.notN_tup, DL.notN_str, DL.notN_ref, DL.atI_zero, DL.atI_one, DL.kit_ss, DL.kit_st, DL.kit_ts, DL.kit_tt, DL.eqD_int, e]
    · have hb1 : (w == 1) = false := by simpa using h1
      rw [hb1]
      exact ⟨q0, S, h6, hw, rfl, drw_le hd (by omega), Kp.refl _ _⟩
theorem trn_ok {j : Nat} {c n : Int} {e0 e1 e2 e4 x5 x6 x7 x8 x9 : Option D} {S : Store} (hd : Drw S j c n) (hn : 140 ≤ n) : ∃ S' y5 y6 y7 y8 y9, trnB [e0, e1, e2, some (.ref j), e4, x5, x6, x7, x8, x9] S = .nx [e0, e1, e2, some (.ref j), e4, y5, y6, y7, y8, y9] S' ∧ Drw S' j c (n - 140) := by
  obtain ⟨p, S1, gp, e1', hd1, k1⟩ := form_p hd (by omega)
  obtain ⟨t1, S2, g1, e2', hd2, k2⟩ := form_v hd1 (by omega)
  obtain ⟨t2, S3, g2, e3', hd3, k3⟩ := form_v hd2 (by omega)
  have s5 : sAsg (mAll (aCons (mVar 3) (aCons (mC (.int 3)) (aCons (mC (.int 6)) (aCons (mC (.str ("TXT" : Str))) aNil)))) (callN 4 (F__law_drawn_form 6))) (gNm 5) [e0, e1, e2, some (.ref j), e4, x5, x6, x7, x8, x9] S = .nx [e0, e1, e2, some (.ref j), e4, some p.D, x6, x7, x8, x9] S1 := by
    simp [DL.fl_if, DL.out_if, DL.bind_if, DL.ofl_if, DL.Out.bind_ok, DL.Out.bind_ex, DL.Out.bind_no, DL.sSeq, DL.sIf, DL.sRet, DL.sRetN, DL.sDrop, DL.sAsg, DL.sNil, DL.sNo, DL.sBrk, DL.sCnt, DL.mVar, DL.mC, DL.mNo, DL.mB1, DL.mB2, DL.mAll, DL.aNil, DL.aCons, DL.tOfB, DL.tAndM, DL.tOrM, DL.tNotM, DL.mIf, DL.mAnd, DL.mOr, DL.runB, DL.callN, DL.g1, DL.g2, DL.gNm, DL.gLen, DL.gIsi, DL.tyN, DL.gEq, DL.gNe, DL.gLt, DL.gLe, DL.gGt, DL.gGe, DL.gAdd, DL.gSub, DL.gIx, DL.gIn, DL.gNotIn, DL.inOf, DL.gNot, DL.gTup, DL.gLst, DL.gNewL, DL.gNewD0, DL.gAllB, DL.gAnyB, DL.gSum, DL.lstOf, DL.gTuple, DL.gList, DL.seqOf, DL.iSeq, DL.seqI, DL.lstI, DL.sFor, DL.mLc, DL.wipeE, DL.tTru, DL.Tgt.put, DL.mApp, DL.gApp, DL.isL, DL.isDc, DL.mGet2, DL.gGet, DL.gTupA, DL.gTupT, DL.gsCons, DL.gsNil, DL.gSubT, DL.gPut, DL.sPar, DL.gInt, DL.gMin, DL.iZp, DL.zipI, DL.fl_ok, DL.fl_ex, DL.fl_no, DL.seq_nx, DL.seq_rt, DL.seq_ex, DL.seq_bk, DL.seq_ct, DL.out_nx, DL.out_rt, DL.out_ex, DL.isN_non, DL.isN_tup, DL.isN_str, DL.isN_ref, DL.notN_non, DL.notN_tup, DL.notN_str, DL.notN_ref, DL.atI_zero, DL.atI_one, DL.kit_ss, DL.kit_st, DL.kit_ts, DL.kit_tt, DL.eqD_int, e1']
  have fE : ∀ (S S' : Store) (t : Pt), F__law_drawn_form 6 [.ref j, .int 2, .int 3, .str ""] S = .ok t.D S' → mAll (aCons (mVar 3) (aCons (mC (.int 2)) (aCons (mC (.int 3)) (aCons (mC (.str ("" : Str))) aNil)))) (callN 4 (F__law_drawn_form 6)) [e0, e1, e2, some (.ref j), e4, some p.D, x6, x7, x8, x9] S = .ok t.D S' := fun S S' t e => by
    simp [DL.fl_if, DL.out_if, DL.bind_if, DL.ofl_if, DL.Out.bind_ok, DL.Out.bind_ex, DL.Out.bind_no, DL.sSeq, DL.sIf, DL.sRet, DL.sRetN, DL.sDrop, DL.sAsg, DL.sNil, DL.sNo, DL.sBrk, DL.sCnt, DL.mVar, DL.mC, DL.mNo, DL.mB1, DL.mB2, DL.mAll, DL.aNil, DL.aCons, DL.tOfB, DL.tAndM, DL.tOrM, DL.tNotM, DL.mIf, DL.mAnd, DL.mOr, DL.runB, DL.callN, DL.g1, DL.g2, DL.gNm, DL.gLen, DL.gIsi, DL.tyN, DL.gEq, DL.gNe, DL.gLt, DL.gLe, DL.gGt, DL.gGe, DL.gAdd, DL.gSub, DL.gIx, DL.gIn, DL.gNotIn, DL.inOf, DL.gNot, DL.gTup, DL.gLst, DL.gNewL, DL.gNewD0, DL.gAllB, DL.gAnyB, DL.gSum, DL.lstOf, DL.gTuple, DL.gList, DL.seqOf, DL.iSeq, DL.seqI, DL.lstI, DL.sFor, DL.mLc, DL.wipeE, DL.tTru, DL.Tgt.put, DL.mApp, DL.gApp, DL.isL, DL.isDc, DL.mGet2, DL.gGet, DL.gTupA, DL.gTupT, DL.gsCons, DL.gsNil, DL.gSubT, DL.gPut, DL.sPar, DL.gInt, DL.gMin, DL.iZp, DL.zipI, DL.fl_ok, DL.fl_ex, DL.fl_no, DL.seq_nx, DL.seq_rt, DL.seq_ex, DL.seq_bk, DL.seq_ct, DL.out_nx, DL.out_rt, DL.out_ex, DL.isN_non, DL.isN_tup, DL.isN_str, DL.isN_ref, DL.notN_non, DL.notN_tup, DL.notN_str, DL.notN_ref, DL.atI_zero, DL.atI_one, DL.kit_ss, DL.kit_st, DL.kit_ts, DL.kit_tt, DL.eqD_int, e]
  have nXT : ¬ (("X" : Str) = "T") := fun z => nTX z.symm
  have vd : valD [e0, e1, e2, some (.ref j), e4, some p.D, x6, x7, x8, x9] S1 = .ok (.ref S3.length) (S3 ++ [.dct (kvA [("T", t1), ("X", t2)])]) := by
    unfold valD mNewD pCons
    rw [fE _ _ _ e2', Out.bind_ok]
    show ((((mAll _ _ _ S2).bind _).bind _).bind _) = _
    rw [fE _ _ _ e3', Out.bind_ok]
    simp [pNil, putD, kvA, nTX, nXT]
  have s6 := sAsg_ok (g := gNm 6) (ρ1 := [e0, e1, e2, some (.ref j), e4, some p.D, some (.ref S3.length), x7, x8, x9]) vd rfl
  have p6 : p.ok 6 = true := Pt.ok_le (by decide) gp.ok
  have gpw := gp.wt
  have g1w := g1.wt
  have g2w := g2.wt
  have pe := F_put_ok (f := [("T", t1), ("X", t2)]) 6 p (S3 ++ [.dct (kvA [("T", t1), ("X", t2)])]) p6 (last_at _ _)
  have hf : ∀ x ∈ [(("T" : Str), t1), (("X" : Str), t2)], x.2.ok 2 = true ∧ x.2.wt ≤ 3 := fun x hx => by
    rcases List.mem_cons.mp hx with h | h
    · rw [h]; exact ⟨g1.ok, by show t1.wt ≤ 3; omega⟩
    · rw [List.mem_singleton.mp h]; exact ⟨g2.ok, by show t2.wt ≤ 3; omega⟩
  have q6 : (fillP [("T", t1), ("X", t2)] p).ok 6 = true := Pt.ok_le (by decide) (fill_ok (e := 2) (by decide) (fun x hx => (hf x hx).1) 3 p gp.ok)
  have qw : (fillP [("T", t1), ("X", t2)] p).wt ≤ 500 := by
    have := fill_wt (m := 3) (by decide) (fun x hx => (hf x hx).2) p
    omega
  have s7 : sAsg (mAll (aCons (mVar 5) (aCons (mVar 6) aNil)) (callN 2 (F__law_put 6))) (gNm 7) [e0, e1, e2, some (.ref j), e4, some p.D, some (.ref S3.length), x7, x8, x9] (S3 ++ [.dct (kvA [("T", t1), ("X", t2)])]) = .nx [e0, e1, e2, some (.ref j), e4, some p.D, some (.ref S3.length), some (fillP [("T", t1), ("X", t2)] p).D, x8, x9] (S3 ++ [.dct (kvA [("T", t1), ("X", t2)])]) :=
    sAsg_ok ((mAll_2 (d := p.D) (d' := .ref S3.length) (S1 := S3 ++ [.dct (kvA [("T", t1), ("X", t2)])]) (S2 := S3 ++ [.dct (kvA [("T", t1), ("X", t2)])]) rfl rfl).trans ((callN_1 rfl).trans pe)) rfl
  have hd3' := drw_app hd3 [.dct (kvA [("T", t1), ("X", t2)])]
  obtain ⟨w, cell, w0, w1, hd4, e4'⟩ := F_digit_ok hd3' (by omega) (sp := 4) (by decide) (by decide)
  have s8 : sAsg (mAll (aCons (mVar 3) (aCons (mC (.int 4)) aNil)) (callN 2 F__law_digit)) (gNm 8) [e0, e1, e2, some (.ref j), e4, some p.D, some (.ref S3.length), some (fillP [("T", t1), ("X", t2)] p).D, x8, x9] (S3 ++ [.dct (kvA [("T", t1), ("X", t2)])]) = .nx [e0, e1, e2, some (.ref j), e4, some p.D, some (.ref S3.length), some (fillP [("T", t1), ("X", t2)] p).D, some (.int w), x9] ((S3 ++ [Cell.dct (kvA [("T", t1), ("X", t2)])]).set j cell) :=
    sAsg_ok ((mAll_2 (d := .ref j) (d' := .int 4) (S1 := S3 ++ [.dct (kvA [("T", t1), ("X", t2)])]) (S2 := S3 ++ [.dct (kvA [("T", t1), ("X", t2)])]) rfl rfl).trans ((callN_1 rfl).trans e4')) rfl
  obtain ⟨q, S5, q6', qw', s9, hd5, _⟩ := way_ok (e0 := e0) (e1 := e1) (e2 := e2) (e4 := e4) (e5 := some p.D) (e6 := some (.ref S3.length)) (x9 := x9) (w := w) hd4 (by omega) q6 qw
  have et := F_is_term_ok q6' S5
  have t := tOfB_ok ((mAll_1 (f := callN 1 F_is_term) (ρ := [e0, e1, e2, some (.ref j), e4, some p.D, some (.ref S3.length), some q.D, some (.int w), x9]) (m := mVar 7) (d := q.D) (S := S5) (S1 := S5) rfl).trans ((callN_1 rfl).trans et))
  unfold trnB
  rw [sSeq_nx s5, sSeq_nx s6, sSeq_nx s7, sSeq_nx s8, sSeq_nx s9, sIf_ok t]
  have hpat : IsPat p := ⟨p6, shape_of (shp_le (by decide) gp.sh) (by omega), by omega⟩
  cases hc : isShapeB "" q with
  | false => exact ⟨S5, some p.D, some (.ref S3.length), some q.D, some (.int w), x9, rfl, drw_le hd5 (by omega)⟩
  | true =>
    obtain ⟨S6, y9, e, ho⟩ := fin_ok (e0 := e0) (e1 := e1) (e2 := e2) (e3 := some (.ref j)) (e4 := e4) (e6 := some (.ref S3.length)) (e8 := some (.int w)) (x9 := x9) hpat q6' hc S5
    refine ⟨S6, some p.D, some (.ref S3.length), some q.D, some (.int w), y9, ?_, ?_⟩
    · rw [if_pos rfl]; exact e
    · have hd6 := drw_le hd5 (show n - 140 ≤ _ by omega)
      obtain ⟨a, t', x, r⟩ := hd6.ex
      exact ⟨a, t', ho _ _ x, r⟩
noncomputable def celB : MS :=
    (sSeq (sAsg (mAll (aCons (mVar 2) (aCons (mVar 1) aNil)) (callN 2 F__law_draw)) (gNm 3))
    (sFor (iR1 (mC (.int 8))) (gNm 4) trnB))
theorem cel_ok {k c : Int} {e0 x3 x4 x5 x6 x7 x8 x9 : Option D} {S : Store} (hk0 : 0 ≤ k) (hk : k ≤ 900) :
    ∃ S' y3 y4 y5 y6 y7 y8 y9, celB [e0, some (.int k), some (.int c), x3, x4, x5, x6, x7, x8, x9] S = .nx [e0, some (.int k), some (.int c), y3, y4, y5, y6, y7, y8, y9] S' := by
  obtain ⟨cell, ed, hd⟩ := F_draw_ok (c := c) hk0 hk S
  have s1 : sAsg (mAll (aCons (mVar 2) (aCons (mVar 1) aNil)) (callN 2 F__law_draw)) (gNm 3) [e0, some (.int k), some (.int c), x3, x4, x5, x6, x7, x8, x9] S = .nx [e0, some (.int k), some (.int c), some (.ref S.length), x4, x5, x6, x7, x8, x9] (S ++ [cell]) := by
    simp [DL.fl_if, DL.out_if, DL.bind_if, DL.ofl_if, DL.Out.bind_ok, DL.Out.bind_ex, DL.Out.bind_no, DL.sSeq, DL.sIf, DL.sRet, DL.sRetN, DL.sDrop, DL.sAsg, DL.sNil, DL.sNo, DL.sBrk, DL.sCnt, DL.mVar, DL.mC, DL.mNo, DL.mB1, DL.mB2, DL.mAll, DL.aNil, DL.aCons, DL.tOfB, DL.tAndM, DL.tOrM, DL.tNotM, DL.mIf, DL.mAnd, DL.mOr, DL.runB, DL.callN, DL.g1, DL.g2, DL.gNm, DL.gLen, DL.gIsi, DL.tyN, DL.gEq, DL.gNe, DL.gLt, DL.gLe, DL.gGt, DL.gGe, DL.gAdd, DL.gSub, DL.gIx, DL.gIn, DL.gNotIn, DL.inOf, DL.gNot, DL.gTup, DL.gLst, DL.gNewL, DL.gNewD0, DL.gAllB, DL.gAnyB, DL.gSum, DL.lstOf, DL.gTuple, DL.gList, DL.seqOf, DL.iSeq, DL.seqI, DL.lstI, DL.sFor, DL.mLc, DL.wipeE, DL.tTru, DL.Tgt.put, DL.mApp, DL.gApp, DL.isL, DL.isDc, DL.mGet2, DL.gGet, DL.gTupA, DL.gTupT, DL.gsCons, DL.gsNil, DL.gSubT, DL.gPut, DL.sPar, DL.gInt, DL.gMin, DL.iZp, DL.zipI, DL.fl_ok, DL.fl_ex, DL.fl_no, DL.seq_nx, DL.seq_rt, DL.seq_ex, DL.seq_bk, DL.seq_ct, DL.out_nx, DL.out_rt, DL.out_ex, DL.isN_non, DL.isN_tup, DL.isN_str, DL.isN_ref, DL.notN_non, DL.notN_tup, DL.notN_str, DL.notN_ref, DL.atI_zero, DL.atI_one, DL.kit_ss, DL.kit_st, DL.kit_ts, DL.kit_tt, DL.eqD_int, ed]
  have hr : rOk 8 = true := by decide
  have ei : iR1 (mC (.int 8)) [e0, some (.int k), some (.int c), some (.ref S.length), x4, x5, x6, x7, x8, x9] (S ++ [cell]) = .ok (rngD 0 8, []) (S ++ [cell]) := by
    unfold iR1 mC
    rw [Out.bind_ok]
    simp only [hr, if_true]
    rfl
  obtain ⟨ρ', S', f, y4, y5, y6, y7, y8, y9, hρ, _⟩ := for_ind (gs := []) (S0 := S ++ [cell]) (g := gNm 4) (b := trnB)
    (P := fun i ρ S' => ∃ y4 y5 y6 y7 y8 y9, ρ = [e0, some (.int k), some (.int c), some (.ref S.length), y4, y5, y6, y7, y8, y9] ∧ Drw S' S.length c (10000 - 140 * (i : Int)))
    (rngD 0 8) 0 (fun i d ρ S' hi ⟨y4, y5, y6, y7, y8, y9, hρ, hd'⟩ => by
      subst hρ
      have hi9 : i < 8 := by
        have := (List.getElem?_eq_some_iff.mp hi).1
        simpa [rngD] using this
      obtain ⟨S2, z5, z6, z7, z8, z9, e, hd2⟩ := trn_ok (e0 := e0) (e1 := some (.int k)) (e2 := some (.int c)) (e4 := some d) (x5 := y5) (x6 := y6) (x7 := y7) (x8 := y8) (x9 := y9) hd' (by omega)
      exact ⟨okG_none _ _, _, S', rfl, _, S2, .inl e, some d, z5, z6, z7, z8, z9, rfl, drw_le hd2 (by omega)⟩)
    (fun _ _ _ => okG_none _ _) _ _ ⟨x4, x5, x6, x7, x8, x9, rfl, by simpa using hd⟩
  refine ⟨S', some (.ref S.length), y4, y5, y6, y7, y8, y9, ?_⟩
  unfold celB
  rw [sSeq_nx s1, (sFor_ok ei).trans f, hρ]
theorem cut_ints (ns : List Int) : ∃ ks : List Int, DL.cutD (ns.map D.int) none (some 6) = ks.map D.int ∧ ks.length ≤ ns.length := by
  refine ⟨(ns.drop (HT.sIx ns.length 0 none)).take (HT.sIx ns.length ns.length (some 6) - HT.sIx ns.length 0 none), ?_, ?_⟩
  · unfold DL.cutD
    rw [List.length_map, List.map_take, List.map_drop]
  · rw [List.length_take, List.length_drop]; omega
theorem ints_map : ∀ ns : List Int, intsOf (ns.map D.int) = some ns
  | [] => rfl
  | n :: ns => by simp only [List.map_cons, intsOf, ints_map ns, Option.map_some]
theorem enum_at : ∀ (l : List Int) (a i : Nat) (d : D), (enumD (l.map D.int) a)[i]? = some d → ∃ c, d = .tup [.int ((a + i : Nat) : Int), .int c] ∧ i < l.length
  | [], a, i, d, h => by simp [enumD] at h
  | c :: l, a, 0, d, h => by
    simp only [List.map_cons, enumD, List.getElem?_cons_zero, Option.some.injEq] at h
    exact ⟨c, h.symm, by simp⟩
  | c :: l, a, i + 1, d, h => by
    simp only [List.map_cons, enumD, List.getElem?_cons_succ] at h
    obtain ⟨c', e, hi⟩ := enum_at l (a + 1) i d h
    refine ⟨c', ?_, by simp; omega⟩
    rw [e]
    congr 3
    omega
theorem law_true (ns : List Int) (hl : ns.length ≤ 63) : ∃ S, F_law [.frz (ns.map D.int)] [] = .ok (.bl true) S := by
  obtain ⟨ks, ek, hk⟩ := cut_ints ns
  have h1 : 1 ≤ big := by unfold big; omega
  have hk2 : ks.length + 1 ≤ big := by unfold big; omega
  obtain ⟨ρ', S', f, hP⟩ := for_ind (gs := []) (S0 := []) (g := gTupA 2 (gsCons (gNm 1) (gsCons (gNm 2) gsNil))) (b := celB)
    (P := fun i ρ S' => ∃ x1 x2 x3 x4 x5 x6 x7 x8 x9, ρ = [some (.frz (ns.map D.int)), x1, x2, x3, x4, x5, x6, x7, x8, x9])
    (enumD ((ks ++ [ns.sum]).map D.int) 0) 0 (fun i d ρ S' hi ⟨x1, x2, x3, x4, x5, x6, x7, x8, x9, hρ⟩ => by
      subst hρ
      obtain ⟨c, rfl, hil⟩ := enum_at _ _ _ _ hi
      simp only [List.length_append, List.length_cons, List.length_nil] at hil
      obtain ⟨S2, y3, y4, y5, y6, y7, y8, y9, e⟩ := cel_ok (k := ((0 + i : Nat) : Int)) (c := c) (e0 := some (.frz (ns.map D.int))) (x3 := x3) (x4 := x4) (x5 := x5) (x6 := x6) (x7 := x7) (x8 := x8) (x9 := x9) (S := S') (by omega) (by omega)
      exact ⟨okG_none _ _, _, S', rfl, _, _, .inl e, _, _, y3, y4, y5, y6, y7, y8, y9, rfl⟩)
    (fun _ _ _ => okG_none _ _) [some (.frz (ns.map D.int)), none, none, none, none, none, none, none, none, none] [] ⟨none, none, none, none, none, none, none, none, none, rfl⟩
  refine ⟨S', ?_⟩
  have ei : iEnm (mB2 (mSlA (mVar 0) oNo (oOf (mC (.int 6)))) (mAll (aCons (mAll (aCons (mVar 0) aNil) (g1 gSum)) aNil) DL.gLst) gAdd) [some (.frz (ns.map D.int)), none, none, none, none, none, none, none, none, none] [] = .ok (enumD ((ks ++ [ns.sum]).map D.int) 0, []) [] := by
    simp [DL.fl_if, DL.out_if, DL.bind_if, DL.ofl_if, DL.Out.bind_ok, DL.Out.bind_ex, DL.Out.bind_no, DL.sSeq, DL.sIf, DL.sRet, DL.sRetN, DL.sDrop, DL.sAsg, DL.sNil, DL.sNo, DL.sBrk, DL.sCnt, DL.mVar, DL.mC, DL.mNo, DL.mB1, DL.mB2, DL.mAll, DL.aNil, DL.aCons, DL.tOfB, DL.tAndM, DL.tOrM, DL.tNotM, DL.mIf, DL.mAnd, DL.mOr, DL.runB, DL.callN, DL.g1, DL.g2, DL.gNm, DL.gLen, DL.gIsi, DL.tyN, DL.gEq, DL.gNe, DL.gLt, DL.gLe, DL.gGt, DL.gGe, DL.gAdd, DL.gSub, DL.gIx, DL.gIn, DL.gNotIn, DL.inOf, DL.gNot, DL.gTup, DL.gLst, DL.gNewL, DL.gNewD0, DL.gAllB, DL.gAnyB, DL.gSum, DL.lstOf, DL.gTuple, DL.gList, DL.seqOf, DL.iSeq, DL.seqI, DL.lstI, DL.sFor, DL.mLc, DL.wipeE, DL.tTru, DL.Tgt.put, DL.mApp, DL.gApp, DL.isL, DL.isDc, DL.mGet2, DL.gGet, DL.gTupA, DL.gTupT, DL.gsCons, DL.gsNil, DL.gSubT, DL.gPut, DL.sPar, DL.gInt, DL.gMin, DL.iZp, DL.zipI, DL.fl_ok, DL.fl_ex, DL.fl_no, DL.seq_nx, DL.seq_rt, DL.seq_ex, DL.seq_bk, DL.seq_ct, DL.out_nx, DL.out_rt, DL.out_ex, DL.isN_non, DL.isN_tup, DL.isN_str, DL.isN_ref, DL.notN_non, DL.notN_tup, DL.notN_str, DL.notN_ref, DL.atI_zero, DL.atI_one, DL.kit_ss, DL.kit_st, DL.kit_ts, DL.kit_tt, DL.eqD_int, mSlA, oNo, oOf, gSlA, gSl, ek, ints_map, h1, hk2, iEnm]
  show Fl.out (sSeq (sFor _ _ celB) (sRet (mC (.bl true))) [some (.frz (ns.map D.int)), none, none, none, none, none, none, none, none, none] []) = _
  rw [sSeq_nx ((sFor_ok ei).trans f)]
  rfl
end GN

end

open PySem PySem.W PyProof.Rows in
set_option maxRecDepth 100000 in
set_option maxHeartbeats 0 in
theorem PySem.Challenge.cw_wirebox_k05_matching_holds : PySem.Challenge.rw_wirebox_k05_matching.Holds := by
  w_on; o_law; k_head; (case hw => w_witness2)
  k_fill
  refine DL.walkG (l := PySem.Challenge.rw_wirebox_k05_matching) (n := 63) (k := 15) (x := "script") (sp := fun w => DL.spF _ (fun _ => 0) 1 GN.F_law) rfl (by decide) rfl ⟨rfl, by decide, by decide⟩ (fun w h Y => PySem.W.kIn_of Y) ?F (fun _ H a ns hl hS => DL.law_sp (GN.law_true ns hl) hS)
  case F =>
    intro w mg fa h KX G hmg
    refine' GN.all_mk KX G hmg ?a0 ?l0 ?c0 ?k0 ?a1 ?l1 ?c1 ?k1 ?a2 ?l2 ?c2 ?k2 ?a3 ?l3 ?c3 ?k3 ?a4 ?l4 ?c4 ?k4 ?a5 ?l5 ?c5 ?k5 ?a6 ?l6 ?c6 ?k6 ?a7 ?l7 ?c7 ?k7 ?a8 ?l8 ?c8 ?k8 ?a9 ?l9 ?c9 ?k9 ?a10 ?l10 ?c10 ?k10 ?a11 ?l11 ?c11 ?k11 ?a12 ?l12 ?c12 ?k12 ?a13 ?l13 ?c13 ?k13 ?a14 ?l14 ?c14 ?k14 ?a15 ?l15 ?c15 ?k15 ?a16 ?l16 ?c16 ?k16 ?a17 ?l17 ?c17 ?k17 ?a18 ?l18 ?c18 ?k18 ?a19 ?l19 ?c19 ?k19 ?a20 ?l20 ?c20 ?k20 ?z_all ?z_enumerate ?z_int ?z_isinstance ?z_len ?z_list ?z_min ?z_range ?z_str ?z_sum ?z_tuple ?z_zip ?v_LETTERS ?v_MOST_DEPTH ?v_MOST_PARTS ?v_MOST_SIGNS ?v_MOST_SIZE ?v_SIGNS ?v_VARIABLES
    (case a0 => k_is)
    (case l0 => k_is)
    (case c0 => k_is)
    (case k0 => k_is)
    (case a1 => k_is)
    (case l1 => k_is)
    (case c1 => k_is)
    (case k1 => k_is)
    (case a2 => k_is)
    (case l2 => k_is)
    (case c2 => k_is)
    (case k2 => k_is)
    (case a3 => k_is)
    (case l3 => k_is)
    (case c3 => k_is)
    (case k3 => k_is)
    (case a4 => k_is)
    (case l4 => k_is)
    (case c4 => k_is)
    (case k4 => k_is)
    (case a5 => k_is)
    (case l5 => k_is)
    (case c5 => k_is)
    (case k5 => k_is)
    (case a6 => k_is)
    (case l6 => k_is)
    (case c6 => k_is)
    (case k6 => k_is)
    (case a7 => k_is)
    (case l7 => k_is)
    (case c7 => k_is)
    (case k7 => k_is)
    (case a8 => k_is)
    (case l8 => k_is)
    (case c8 => k_is)
    (case k8 => k_is)
    (case a9 => k_is)
    (case l9 => k_is)
    (case c9 => k_is)
    (case k9 => k_is)
    (case a10 => k_is)
    (case l10 => k_is)
    (case c10 => k_is)
    (case k10 => k_is)
    (case a11 => k_is)
    (case l11 => k_is)
    (case c11 => k_is)
    (case k11 => k_is)
    (case a12 => k_is)
    (case l12 => k_is)
    (case c12 => k_is)
    (case k12 => k_is)
    (case a13 => k_is)
    (case l13 => k_is)
    (case c13 => k_is)
    (case k13 => k_is)
    (case a14 => k_is)
    (case l14 => k_is)
    (case c14 => k_is)
    (case k14 => k_is)
    (case a15 => k_is)
    (case l15 => k_is)
    (case c15 => k_is)
    (case k15 => k_is)
    (case a16 => k_is)
    (case l16 => k_is)
    (case c16 => k_is)
    (case k16 => k_is)
    (case a17 => k_is)
    (case l17 => k_is)
    (case c17 => k_is)
    (case k17 => k_is)
    (case a18 => k_is)
    (case l18 => k_is)
    (case c18 => k_is)
    (case k18 => k_is)
    (case a19 => k_is)
    (case l19 => k_is)
    (case c19 => k_is)
    (case k19 => k_is)
    (case a20 => k_is)
    (case l20 => k_is)
    (case c20 => k_is)
    (case k20 => k_is)
    (case z_all => k_is)
    (case z_enumerate => k_is)
    (case z_int => k_is)
    (case z_isinstance => k_is)
    (case z_len => k_is)
    (case z_list => k_is)
    (case z_min => k_is)
    (case z_range => k_is)
    (case z_str => k_is)
    (case z_sum => k_is)
    (case z_tuple => k_is)
    (case z_zip => k_is)
    (case v_LETTERS => k_is)
    (case v_MOST_DEPTH => k_is)
    (case v_MOST_PARTS => k_is)
    (case v_MOST_SIGNS => k_is)
    (case v_MOST_SIZE => k_is)
    (case v_SIGNS => k_is)
    (case v_VARIABLES => k_is)
