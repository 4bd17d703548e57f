import PyProof.Rows.All
import Wide.All
import OpenK.AllK
import Wide.FinOn
import HandS.ForMost
import KE.KeyNested
import KE.KDictKeyed
import HandS.Wide
import HandS.Flow
import HandS.NoneIn
import HandS.IsInst
import HandS.More
import HandS.Deep
import HandS.Text
import HandS.TupAny
import HandS.TupLen
import HandS.TupLe
import HandS.EndBits
import KE.SortData
import KE.DataMinMax
import KE.DataFind
import HandS.SetFor
import HandS.Defaults
import HandS.MakeKw
import HandS.MakeKwOnly
import HandS.Conv
import HandS.Property
import KE.DataCmp
import KE.KDictSum
import KE.KDictList
import HandS.TupMul
import HandS.Iter
import HandS.DictComp
import KE.KDictPairs
import HandS.List
import HandS.Zip
import PySem.Challenge.RW_ringloosed_k26_bodies_and_messages
set_option Elab.async false
set_option linter.all false
set_option maxRecDepth 100000
set_option maxHeartbeats 4000000
/-! RF: a functional layer over the hand layer: a piece of Python is simulated by a Lean function over data and a store -/
namespace RF
open PySem L2

/-- data: tuples by value, lists, dicts and instances by their place in the store -/
inductive D where
  | non | bl (b : Bool) | int (i : Int) | str (x : Str) | ref (n : Nat) | rl (xs : List D) | tup (xs : List D)
  | kt (xs : List D)
inductive Cell where
  | lst (xs : List D) | dk (kvs : List (Key × D)) | dt (kvs : List (List Key × D)) | ins (C : Addr) (fs : List (Str × D))
  | dn (w : World) (kvs : List (NestedKey × D))
  | df (w : World) (kvs : List (NestedKey × D))
  | tp (xs : List D)
abbrev Sto := List Cell
abbrev Lc := List (Option D)
/-- an outcome: a value and the store; an own exception of the class at c; anything else -/
inductive R (α : Type) where
  | ok (a : α) (S : Sto) | ex (c : Addr) (S : Sto) | bad
def R.bind {α β : Type} (x : R α) (k : α → Sto → R β) : R β := match x with
  | .ok a S => k a S
  | .ex c S => .ex c S
  | .bad => .bad
@[simp] theorem R.bind_ok {α β : Type} (a : α) (S : Sto) (k : α → Sto → R β) : (R.ok a S).bind k = k a S := (rfl)
@[simp] theorem R.bind_ex {α β : Type} (c : Addr) (S : Sto) (k : α → Sto → R β) : (R.ex c S : R α).bind k = .ex c S := (rfl)
@[simp] theorem R.bind_bad {α β : Type} (k : α → Sto → R β) : (R.bad : R α).bind k = .bad := (rfl)

/-! ### what stands for what -/
mutual
inductive RD (K : PySem.W.Frag) (L : List Addr) (H : Hp) : V → D → Prop
  | non : RD K L H .non .non
  | bl (b : Bool) : RD K L H (.bl b) (.bl b)
  | int (i : Int) : RD K L H (.int i) (.int i)
  | str (x : Str) : RD K L H (.str x) (.str x)
  | ref {a : Addr} {n : Nat} : L[n]? = some a → RD K L H (.ref a) (.ref n)
  | rl {a : Addr} {vs : List V} {ds : List D} : (∀ H1 : Hp, (∀ o xs, H a = some (.frz o (.lst xs)) → H1 a = some (.frz o (.lst xs))) → SqL K H1 a vs) → RDs K L H vs ds → RD K L H (.ref a) (.rl ds)
  | tup {a : Addr} {vs : List V} {ds : List D} : H a = some (.tup vs) → RDs K L H vs ds → RD K L H (.ref a) (.tup ds)
  | kt {a : Addr} {vs : List V} {ds : List D} : (∀ H1 : Hp, SqT K H1 a vs) → RDs K L H vs ds → RD K L H (.ref a) (.kt ds)
inductive RDs (K : PySem.W.Frag) (L : List Addr) (H : Hp) : List V → List D → Prop
  | nil : RDs K L H [] []
  | cons {v : V} {vs : List V} {d : D} {ds : List D} : RD K L H v d → RDs K L H vs ds → RDs K L H (v :: vs) (d :: ds)
end
/-- the store and what is tracked may have grown or changed within the store -/
structure Gr (L : List Addr) (H : Hp) (L1 : List Addr) (H1 : Hp) : Prop where
  px : ∀ (n : Nat) a, L[n]? = some a → L1[n]? = some a
  tp : ∀ a xs, H a = some (.tup xs) → H1 a = some (.tup xs)
  fz : ∀ a o xs, H a = some (.frz o (.lst xs)) → H1 a = some (.frz o (.lst xs))
structure Ex (L : List Addr) (H : Hp) (L1 : List Addr) (H1 : Hp) : Prop where
  px : ∀ (n : Nat) a, L[n]? = some a → L1[n]? = some a
  nw : ∀ a ∈ L1, a ∈ L ∨ H a = none
  fr : ∀ a o, a ∉ L → H a = some o → H1 a = some o
  tp : ∀ a xs, H a = some (.tup xs) → H1 a = some (.tup xs)
  fz : ∀ a o u, H a = some (.frz o u) → H1 a = some (.frz o u)
theorem Ex.gr {L L1 : List Addr} {H H1 : Hp} (e : Ex L H L1 H1) : Gr L H L1 H1 := ⟨e.px, e.tp, fun a o _ => e.fz a o _⟩
theorem Ex.refl (L : List Addr) (H : Hp) : Ex L H L H := ⟨fun _ _ h => h, fun _ h => .inl h, fun _ _ _ h => h, fun _ _ h => h, fun _ _ _ h => h⟩
theorem Ex.trans {L L1 L2 : List Addr} {H H1 H2 : Hp} (a : Ex L H L1 H1) (b : Ex L1 H1 L2 H2) : Ex L H L2 H2 where
  px := fun n x h => b.px n x (a.px n x h)
  nw := fun x h => by
    rcases b.nw x h with h | h
    · exact a.nw x h
    · by_cases hx : x ∈ L
      · exact .inl hx
      · refine .inr ?_
        cases q : H x with
        | none => rfl
        | some o => rw [a.fr x o hx q] at h; cases h
  fr := fun x o hx h => by
    refine b.fr x o (fun z => ?_) (a.fr x o hx h)
    rcases a.nw x z with z | z
    · exact hx z
    · rw [h] at z; cases z
  tp := fun x xs h => b.tp x xs (a.tp x xs h)
  fz := fun x o u h => b.fz x o u (a.fz x o u h)
mutual
theorem RD.grow {K : PySem.W.Frag} {L L1 : List Addr} {H H1 : Hp} (e : Gr L H L1 H1) : ∀ {v : V} {d : D}, RD K L H v d → RD K L1 H1 v d
  | _, _, .non => .non
  | _, _, .bl b => .bl b
  | _, _, .int i => .int i
  | _, _, .str x => .str x
  | _, _, .ref h => .ref (e.px _ _ h)
  | _, _, .rl h r => .rl (fun H2 k => h H2 fun o xs q => k o xs (e.fz _ o xs q)) (RDs.grow e r)
  | _, _, .tup h r => .tup (e.tp _ _ h) (RDs.grow e r)
  | _, _, .kt h r => .kt h (RDs.grow e r)
theorem RDs.grow {K : PySem.W.Frag} {L L1 : List Addr} {H H1 : Hp} (e : Gr L H L1 H1) : ∀ {v : List V} {d : List D}, RDs K L H v d → RDs K L1 H1 v d
  | _, _, .nil => .nil
  | _, _, .cons a b => .cons (RD.grow e a) (RDs.grow e b)
end
theorem RD.mono {K : PySem.W.Frag} {L L1 : List Addr} {H H1 : Hp} (e : Ex L H L1 H1) {v : V} {d : D} (h : RD K L H v d) : RD K L1 H1 v d := RD.grow e.gr h
theorem RDs.mono {K : PySem.W.Frag} {L L1 : List Addr} {H H1 : Hp} (e : Ex L H L1 H1) {v : List V} {d : List D} (h : RDs K L H v d) : RDs K L1 H1 v d := RDs.grow e.gr h
theorem RDs.length {K : PySem.W.Frag} {L : List Addr} {H : Hp} : ∀ {vs : List V} {ds : List D}, RDs K L H vs ds → vs.length = ds.length
  | _, _, .nil => rfl
  | _, _, .cons _ b => by rw [List.length_cons, List.length_cons, b.length]
theorem RDs.get {K : PySem.W.Frag} {L : List Addr} {H : Hp} : ∀ {vs : List V} {ds : List D} {i : Nat} {d : D}, RDs K L H vs ds → ds[i]? = some d → ∃ v, vs[i]? = some v ∧ RD K L H v d
  | _, _, _, _, .nil, h => by simp at h
  | _, _, 0, _, .cons a b, h => by simp at h; subst h; exact ⟨_, rfl, a⟩
  | _, _, i + 1, _, .cons a b, h => by
    obtain ⟨v, h1, h2⟩ := RDs.get (i := i) b (by simpa using h)
    exact ⟨v, by simpa using h1, h2⟩
theorem RDs.append {K : PySem.W.Frag} {L : List Addr} {H : Hp} : ∀ {vs ws : List V} {ds es : List D}, RDs K L H vs ds → RDs K L H ws es → RDs K L H (vs ++ ws) (ds ++ es)
  | _, _, _, _, .nil, h => h
  | _, _, _, _, .cons a b, h => .cons a (RDs.append b h)
theorem RDs.set {K : PySem.W.Frag} {L : List Addr} {H : Hp} {v : V} {d : D} (r : RD K L H v d) : ∀ {vs : List V} {ds : List D} (i : Nat), RDs K L H vs ds → RDs K L H (vs.set i v) (ds.set i d)
  | _, _, _, .nil => .nil
  | _, _, 0, .cons _ b => .cons r b
  | _, _, i + 1, .cons a b => .cons a (RDs.set r i b)
theorem RDs.take {K : PySem.W.Frag} {L : List Addr} {H : Hp} : ∀ {vs : List V} {ds : List D} (n : Nat), RDs K L H vs ds → RDs K L H (vs.take n) (ds.take n)
  | _, _, 0, _ => .nil
  | _, _, _ + 1, .nil => .nil
  | _, _, n + 1, .cons a b => .cons a (RDs.take n b)
theorem RDs.drop {K : PySem.W.Frag} {L : List Addr} {H : Hp} : ∀ {vs : List V} {ds : List D} (n : Nat), RDs K L H vs ds → RDs K L H (vs.drop n) (ds.drop n)
  | _, _, 0, h => h
  | _, _, _ + 1, .nil => .nil
  | _, _, n + 1, .cons _ b => RDs.drop n b
theorem RDs.eraseIdx {K : PySem.W.Frag} {L : List Addr} {H : Hp} : ∀ {vs : List V} {ds : List D} (n : Nat), RDs K L H vs ds → RDs K L H (vs.eraseIdx n) (ds.eraseIdx n)
  | _, _, _, .nil => .nil
  | _, _, 0, .cons _ b => b
  | _, _, n + 1, .cons a b => .cons a (RDs.eraseIdx n b)
/-- named parts -/
def RK {κ : Type} (K : PySem.W.Frag) (L : List Addr) (H : Hp) : List (κ × V) → List (κ × D) → Prop
  | [], [] => True
  | p :: ps, q :: qs => p.1 = q.1 ∧ RD K L H p.2 q.2 ∧ RK K L H ps qs
  | _, _ => False
theorem RK.grow {κ : Type} {K : PySem.W.Frag} {L L1 : List Addr} {H H1 : Hp} (e : Gr L H L1 H1) : ∀ {ps : List (κ × V)} {qs : List (κ × D)}, RK K L H ps qs → RK K L1 H1 ps qs
  | [], [], _ => trivial
  | p :: ps, q :: qs, ⟨a, b, c⟩ => ⟨a, b.grow e, RK.grow e c⟩
  | [], _ :: _, h => h.elim
  | _ :: _, [], h => h.elim
theorem RK.mono {κ : Type} {K : PySem.W.Frag} {L L1 : List Addr} {H H1 : Hp} (e : Ex L H L1 H1) {ps : List (κ × V)} {qs : List (κ × D)} (h : RK K L H ps qs) : RK K L1 H1 ps qs := RK.grow e.gr h
theorem RK.length {κ : Type} {K : PySem.W.Frag} {L : List Addr} {H : Hp} : ∀ {ps : List (κ × V)} {qs : List (κ × D)}, RK K L H ps qs → ps.length = qs.length
  | [], [], _ => rfl
  | p :: ps, q :: qs, ⟨_, _, c⟩ => by rw [List.length_cons, List.length_cons, RK.length c]
  | [], _ :: _, h => h.elim
  | _ :: _, [], h => h.elim
theorem RK.lookup {κ : Type} [BEq κ] [LawfulBEq κ] {K : PySem.W.Frag} {L : List Addr} {H : Hp} (k : κ) : ∀ {ps : List (κ × V)} {qs : List (κ × D)}, RK K L H ps qs → (qs.lookup k = none ∧ ps.lookup k = none) ∨ ∃ v d, qs.lookup k = some d ∧ ps.lookup k = some v ∧ RD K L H v d
  | [], [], _ => .inl ⟨rfl, rfl⟩
  | (a, v) :: ps, (b, d) :: qs, ⟨e, r, c⟩ => by
    have e : a = b := e
    subst e
    rw [List.lookup_cons, List.lookup_cons]
    cases q : k == a with
    | true => exact .inr ⟨v, d, rfl, rfl, r⟩
    | false => exact RK.lookup k c
  | [], _ :: _, h => h.elim
  | _ :: _, [], h => h.elim

/-! ### dicts whose keys are tuples, nested -/
mutual
/-- the value is the key, by what is tracked -/
inductive NK (H : Hp) : NestedKey → V → Prop
  | none : NK H .none .non
  | num (i : Int) : NK H (.num i) (.int i)
  | text (x : Str) : NK H (.text x) (.str x)
  | tup {a : Addr} {vs : List V} {ks : List NestedKey} : H a = some (.tup vs) → NKs H ks vs → NK H (.tup ks) (.ref a)
inductive NKs (H : Hp) : List NestedKey → List V → Prop
  | nil : NKs H [] []
  | cons {k : NestedKey} {v : V} {ks : List NestedKey} {vs : List V} : NK H k v → NKs H ks vs → NKs H (k :: ks) (v :: vs)
end
mutual
theorem NK.grow {H H1 : Hp} (e : ∀ a xs, H a = some (.tup xs) → H1 a = some (.tup xs)) : ∀ {k : NestedKey} {v : V}, NK H k v → NK H1 k v
  | _, _, .none => .none
  | _, _, .num i => .num i
  | _, _, .text x => .text x
  | _, _, .tup h r => .tup (e _ _ h) (NKs.grow e r)
theorem NKs.grow {H H1 : Hp} (e : ∀ a xs, H a = some (.tup xs) → H1 a = some (.tup xs)) : ∀ {ks : List NestedKey} {vs : List V}, NKs H ks vs → NKs H1 ks vs
  | _, _, .nil => .nil
  | _, _, .cons a b => .cons (NK.grow e a) (NKs.grow e b)
end
abbrev ZN := NestedKey × Addr × V
def ZX (p : ZN) (q : NestedKey × Addr × Value) : Prop := p.1 = q.1 ∧ p.2.1 = q.2.1 ∧ RelV p.2.2 q.2.2
/-- a dict with such keys, by its one object -/
def dnO (w : World) (a : Addr) (zs : List ZN) : HO := .ext fun h => (a == sysModules) = false ∧ zs.length ≤ sizeLine ∧ ∃ xs : List (NestedKey × Addr × Value), Paired ZX zs xs ∧
  ∃ o es ep, h.get? a = some o ∧ o.ExactDict ∧ o.data = .dict es ep ∧ es.toList = xs.map (fun x => (⟨x.1.hash w, .ref x.2.1, x.2.2⟩ : DictEntry)) ∧ (xs.map (·.1)).Nodup
/-- a tuple of which the whole object is known -/
def tpO (a : Addr) (vs : List V) : HO := .ext fun h => vs.length ≤ sizeLine ∧ ∃ its : List Value, Vals vs its ∧ h.get? a = some { cls := .type "tuple", data := .seq its.toArray }
/-- its entries -/
def RN (K : PySem.W.Frag) (L : List Addr) (H : Hp) : List ZN → List (NestedKey × D) → Prop
  | [], [] => True
  | p :: ps, q :: qs => p.1 = q.1 ∧ (NK H p.1 (.ref p.2.1) ∧ p.1.depth ≤ 8) ∧ RD K L H p.2.2 q.2 ∧ RN K L H ps qs
  | _, _ => False
theorem RN.grow {K : PySem.W.Frag} {L L1 : List Addr} {H H1 : Hp} (e : Gr L H L1 H1) : ∀ {ps : List ZN} {qs : List (NestedKey × D)}, RN K L H ps qs → RN K L1 H1 ps qs
  | [], [], _ => trivial
  | p :: ps, q :: qs, ⟨a, b, c, d⟩ => ⟨a, ⟨b.1.grow e.tp, b.2⟩, c.grow e, RN.grow e d⟩
  | [], _ :: _, h => h.elim
  | _ :: _, [], h => h.elim

/-- what stands at the address of a cell -/
def RC (K : PySem.W.Frag) (L : List Addr) (H : Hp) (a : Addr) : Cell → Prop
  | .lst ds => ∃ vs, H a = some (.lst vs) ∧ RDs K L H vs ds
  | .dk kvs => ∃ ws, H a = some (.dK ws) ∧ RK K L H ws kvs
  | .dt kvs => ∃ ws, H a = some (.dT ws) ∧ RK K L H ws kvs
  | .ins C fs => ∃ dx ws, H a = some (.ins C dx ws) ∧ RK K L H ws fs
  | .dn w kvs => ∃ zs, H a = some (dnO w a zs) ∧ RN K L H zs kvs
  | .df w kvs => ∃ od zs, H a = some (.frz od (dnO w a zs)) ∧ RN K L H zs kvs
  | .tp ds => ∃ vs, H a = some (tpO a vs) ∧ RDs K L H vs ds
structure Rep (K : PySem.W.Frag) (L : List Addr) (H : Hp) (S : Sto) : Prop where
  len : L.length = S.length
  nd : L.Nodup
  cel : ∀ (n : Nat) a c, L[n]? = some a → S[n]? = some c → RC K L H a c
section
variable {K : PySem.W.Frag} {L L1 : List Addr} {H H1 : Hp} {S S1 : Sto} {a p : Addr} {o : HO} {c : Cell} {n : Nat} {E : XK}
theorem RC.some (r : RC K L H a c) : ∃ o, H a = some o ∧ ∀ xs, o ≠ .tup xs := by
  cases c with
  | lst _ => obtain ⟨_, h, _⟩ := r; exact ⟨_, h, fun _ z => nomatch z⟩
  | dk _ => obtain ⟨_, h, _⟩ := r; exact ⟨_, h, fun _ z => nomatch z⟩
  | dt _ => obtain ⟨_, h, _⟩ := r; exact ⟨_, h, fun _ z => nomatch z⟩
  | ins _ _ => obtain ⟨_, _, h, _⟩ := r; exact ⟨_, h, fun _ z => nomatch z⟩
  | dn _ _ => obtain ⟨_, h, _⟩ := r; exact ⟨_, h, fun _ z => nomatch z⟩
  | df _ _ => obtain ⟨_, _, h, _⟩ := r; exact ⟨_, h, fun _ z => nomatch z⟩
  | tp _ => obtain ⟨_, h, _⟩ := r; exact ⟨_, h, fun _ z => nomatch z⟩
/-- what may be written -/
def Wr (H : Hp) (a : Addr) : Prop := ∃ u, H a = some u ∧ Mut (some u)
theorem RC.grow (r : RC K L H a c) (e : Gr L H L1 H1) (h : H1 a = H a) : RC K L1 H1 a c := by
  cases c with
  | lst _ => obtain ⟨vs, q, t⟩ := r; exact ⟨vs, h.trans q, t.grow e⟩
  | dk _ => obtain ⟨vs, q, t⟩ := r; exact ⟨vs, h.trans q, t.grow e⟩
  | dt _ => obtain ⟨vs, q, t⟩ := r; exact ⟨vs, h.trans q, t.grow e⟩
  | ins _ _ => obtain ⟨dx, vs, q, t⟩ := r; exact ⟨dx, vs, h.trans q, t.grow e⟩
  | dn _ _ => obtain ⟨vs, q, t⟩ := r; exact ⟨vs, h.trans q, t.grow e⟩
  | df _ _ => obtain ⟨od, vs, q, t⟩ := r; exact ⟨od, vs, h.trans q, t.grow e⟩
  | tp _ => obtain ⟨vs, q, t⟩ := r; exact ⟨vs, h.trans q, t.grow e⟩
theorem RC.mono (r : RC K L H a c) (e : Ex L H L1 H1) (h : H1 a = H a) : RC K L1 H1 a c := r.grow e.gr h
theorem Rep.adr (r : Rep K L H S) (h : L[n]? = some a) : ∃ c, S[n]? = some c ∧ RC K L H a c := by
  have hn : n < S.length := by rw [← r.len]; exact (List.getElem?_eq_some_iff.mp h).1
  exact ⟨S[n], List.getElem?_eq_getElem hn, r.cel n a _ h (List.getElem?_eq_getElem hn)⟩
theorem Rep.at (r : Rep K L H S) (h : S[n]? = some c) : ∃ a, L[n]? = some a ∧ RC K L H a c := by
  have hn : n < L.length := by rw [r.len]; exact (List.getElem?_eq_some_iff.mp h).1
  exact ⟨L[n], List.getElem?_eq_getElem hn, r.cel n _ c (List.getElem?_eq_getElem hn) h⟩
theorem Rep.there (r : Rep K L H S) (h : a ∈ L) : ∃ o, H a = some o ∧ ∀ xs, o ≠ .tup xs := by
  obtain ⟨n, hn, rfl⟩ := List.mem_iff_getElem.mp h
  obtain ⟨c, _, q⟩ := r.adr (List.getElem?_eq_getElem hn)
  exact q.some
theorem Rep.fresh (r : Rep K L H S) (h : H p = none) : p ∉ L := fun z => by
  obtain ⟨o, q, _⟩ := r.there z
  rw [h] at q; cases q
theorem Wr.of {u : HO} (h : H a = some u) (m : Mut (some u)) : Wr H a := ⟨u, h, m⟩
theorem Wr.notup (h : Wr H a) : (∀ xs, H a ≠ some (.tup xs)) ∧ ∀ o u, H a ≠ some (.frz o u) := by
  obtain ⟨o, q, m⟩ := h
  refine ⟨fun xs z => ?_, fun o' u z => ?_⟩
  · rw [q] at z; cases z; exact m
  · rw [q] at z; cases z; exact m
/-- a new object that is no cell -/
theorem Ex.new (h : H p = none) : Ex L H L (upd H p o) :=
  ⟨fun _ _ h => h, fun _ h => .inl h, fun b u _ q => (upd_ne (ne_of_none q h)).trans q, fun b xs q => (upd_ne (ne_of_none q h)).trans q, fun b ob u q => (upd_ne (ne_of_none q h)).trans q⟩
theorem Ex.newc (h : H p = none) : Ex L H (L ++ [p]) (upd H p o) where
  px := fun n b q => by
    have hn := (List.getElem?_eq_some_iff.mp q).1
    rw [List.getElem?_append_left hn]; exact q
  nw := fun b q => by
    rcases List.mem_append.mp q with q | q
    · exact .inl q
    · rw [List.mem_singleton.mp q]; exact .inr h
  fr := fun b u _ q => (upd_ne (ne_of_none q h)).trans q
  tp := fun b xs q => (upd_ne (ne_of_none q h)).trans q
  fz := fun b ob u q => (upd_ne (ne_of_none q h)).trans q
theorem Ex.wr (r : Wr H a) (h : a ∈ L) : Ex L H L (upd H a o) where
  px := fun _ _ q => q
  nw := fun _ q => .inl q
  fr := fun b u hb q => (upd_ne (fun z => hb (by rw [z]; exact h))).trans q
  tp := fun b xs q => (upd_ne (fun z => r.notup.1 xs (by rw [← z]; exact q))).trans q
  fz := fun b ob u q => (upd_ne (fun z => r.notup.2 ob u (by rw [← z]; exact q))).trans q
theorem Rep.new (r : Rep K L H S) (h : H p = none) : Rep K L (upd H p o) S :=
  ⟨r.len, r.nd, fun n b c h1 h2 => (r.cel n b c h1 h2).mono (Ex.new h) (upd_ne fun z => r.fresh h (z ▸ List.mem_of_getElem? h1))⟩
theorem Rep.newc (r : Rep K L H S) (h : H p = none) (hc : RC K (L ++ [p]) (upd H p o) p c) : Rep K (L ++ [p]) (upd H p o) (S ++ [c]) where
  len := by rw [List.length_append, List.length_append, r.len]; rfl
  nd := by
    rw [List.nodup_append]
    refine ⟨r.nd, by simp, fun b hb d hd e => ?_⟩
    rw [List.mem_singleton] at hd
    subst hd; subst e
    exact r.fresh h hb
  cel := fun n b c' h1 h2 => by
    by_cases hn : n < L.length
    · rw [List.getElem?_append_left hn] at h1
      rw [List.getElem?_append_left (by rw [← r.len]; exact hn)] at h2
      exact (r.cel n b c' h1 h2).mono (Ex.newc h) (upd_ne fun z => r.fresh h (z ▸ List.mem_of_getElem? h1))
    · rw [List.getElem?_append_right (Nat.le_of_not_lt hn)] at h1
      rw [List.getElem?_append_right (by rw [← r.len]; exact Nat.le_of_not_lt hn)] at h2
      rw [← r.len] at h2
      have e : n - L.length = 0 := by
        have := (List.getElem?_eq_some_iff.mp h1).1
        simp at this; omega
      rw [e] at h1 h2
      simp at h1 h2
      subst h1; subst h2
      exact hc
theorem Rep.wr (r : Rep K L H S) (hmw : Wr H a) (h : L[n]? = some a) (hc : RC K L (upd H a o) a c) : Rep K L (upd H a o) (S.set n c) where
  len := by rw [List.length_set, r.len]
  nd := r.nd
  cel := fun m b c' h1 h2 => by
    by_cases hm : n = m
    · subst hm
      rw [h] at h1; cases h1
      have hn : n < S.length := by rw [← r.len]; exact (List.getElem?_eq_some_iff.mp h).1
      rw [List.getElem?_set_self hn] at h2
      cases h2
      exact hc
    · rw [List.getElem?_set_ne hm] at h2
      refine (r.cel m b c' h1 h2).mono (Ex.wr hmw (List.mem_of_getElem? h)) (upd_ne fun z => hm ?_)
      obtain ⟨l1, e1⟩ := List.getElem?_eq_some_iff.mp h
      obtain ⟨l2, e2⟩ := List.getElem?_eq_some_iff.mp h1
      exact (List.getElem_inj r.nd).mp (e1.trans (z.symm.trans e2.symm))

/-! ### outcomes -/
def End {α : Type} (K : PySem.W.Frag) (E : XK) (L : List Addr) (H : Hp) (Q : α → Sto → List Addr → Hp → Prop) : R α → Prop
  | .ok a S => ∀ L1 H1, Ex L H L1 H1 → Rep K L1 H1 S → Q a S L1 H1
  | .ex c S => ∀ L1 H1, Ex L H L1 H1 → Rep K L1 H1 S → E (.ref c) none H1
  | .bad => False
variable {α β : Type} {Q Q' : α → Sto → List Addr → Hp → Prop} {x : R α}
theorem End.later (h : End K E L H Q x) (e : Ex L H L1 H1) : End K E L1 H1 Q x := by
  cases x with
  | ok b T => exact fun L2 H2 e2 r => h L2 H2 (e.trans e2) r
  | ex b T => exact fun L2 H2 e2 r => h L2 H2 (e.trans e2) r
  | bad => exact h
theorem End.imp (h : End K E L H Q x) (k : ∀ a S1 L1 H1, Ex L H L1 H1 → Rep K L1 H1 S1 → Q a S1 L1 H1 → Q' a S1 L1 H1) : End K E L H Q' x := by
  cases x with
  | ok b T => exact fun L2 H2 e2 r => k _ _ _ _ e2 r (h L2 H2 e2 r)
  | ex b T => exact h
  | bad => exact h
theorem End.imp' (h : End K E L H Q x) (k : ∀ a S1 L1 H1, x = .ok a S1 → Ex L H L1 H1 → Rep K L1 H1 S1 → Q a S1 L1 H1 → Q' a S1 L1 H1) : End K E L H Q' x := by
  cases x with
  | ok b T => exact fun L2 H2 e2 r => k _ _ _ _ rfl e2 r (h L2 H2 e2 r)
  | ex b T => exact h
  | bad => exact h
theorem End.bind {Q : β → Sto → List Addr → Hp → Prop} {k : α → Sto → R β} (h : End K E L H Q (x.bind k)) : End K E L H (fun a S1 L1 H1 => End K E L1 H1 Q (k a S1)) x := by
  cases x with
  | ok b T => exact fun L2 H2 e2 r => End.later h e2
  | ex b T => exact h
  | bad => exact h
/-- a value comes back -/
abbrev EndV (K : PySem.W.Frag) (E : XK) (L : List Addr) (H : Hp) (Q : VK) (x : R D) : Prop := End K E L H (fun d _ L1 H1 => ∀ v, RD K L1 H1 v d → Q v H1) x
theorem EndV.val {Q : VK} {d : D} {v : V} (h : EndV K E L H Q (.ok d S)) (r : Rep K L H S) (rv : RD K L H v d) : Q v H := h L H (Ex.refl L H) r v rv
end

/-- the names' values -/
structure RE (K : PySem.W.Frag) (L : List Addr) (H : Hp) (σ : St) (env : Lc) : Prop where
  len : σ.length = env.length
  val : ∀ (i : Nat) d, env[i]? = some (some d) → ∃ v, σ[i]? = some (some v) ∧ RD K L H v d
section
variable {K : PySem.W.Frag} {L L1 : List Addr} {H H1 : Hp} {σ : St} {env : Lc}
theorem RE.mono (r : RE K L H σ env) (e : Ex L H L1 H1) : RE K L1 H1 σ env := ⟨r.len, fun i d h => let ⟨v, h1, h2⟩ := r.val i d h; ⟨v, h1, h2.mono e⟩⟩
theorem RE.set {i : Nat} {v : V} {d : D} (r : RE K L H σ env) (rv : RD K L H v d) : RE K L H (σ.set i (some v)) (env.set i (some d)) := by
  refine ⟨by rw [List.length_set, List.length_set, r.len], fun j e h => ?_⟩
  by_cases hj : i = j
  · subst hj
    by_cases hi : i < env.length
    · rw [List.getElem?_set_self hi] at h
      cases h
      exact ⟨v, List.getElem?_set_self (by rw [r.len]; exact hi), rv⟩
    · rw [List.getElem?_eq_none (by rw [List.length_set]; exact Nat.le_of_not_lt hi)] at h
      cases h
  · rw [List.getElem?_set_ne hj] at h ⊢
    exact r.val j e h
end
end RF

namespace RF
open PySem L2

abbrev EF := Lc → Sto → R D
abbrev BF := Lc → Sto → R Bool
abbrev AF := Lc → Sto → R (List D)
inductive Fl where
  | nx (e : Lc) | rt (d : D) | bk (e : Lc) | ct (e : Lc)
abbrev SF := Lc → Sto → R Fl

def tE (K : PySem.W.Frag) (E : XK) (f : EF) : TE := fun σ H Q => ∃ L env S, Rep K L H S ∧ RE K L H σ env ∧ EndV K E L H Q (f env S)
def tT (K : PySem.W.Frag) (E : XK) (f : BF) : TT := fun σ H Q => ∃ L env S, Rep K L H S ∧ RE K L H σ env ∧ End K E L H (fun b _ _ H1 => Q b H1) (f env S)
def tA (K : PySem.W.Frag) (E : XK) (f : AF) : TA := fun σ H Q => ∃ L env S, Rep K L H S ∧ RE K L H σ env ∧ End K E L H (fun ds _ L1 H1 => ∀ vs, RDs K L1 H1 vs ds → Q vs H1) (f env S)
def FlQ (K : PySem.W.Frag) (D : Ends) (L : List Addr) (H : Hp) : Fl → Prop
  | .nx env => ∀ σ, RE K L H σ env → D.nx σ H
  | .rt d => ∀ v, RD K L H v d → D.rt v H
  | .bk env => ∀ σ, RE K L H σ env → D.bk σ H
  | .ct env => ∀ σ, RE K L H σ env → D.ct σ H
def tS (K : PySem.W.Frag) (E : XK) (f : SF) : TS := fun D σ H => ∃ L env S, Rep K L H S ∧ RE K L H σ env ∧ End K E L H (fun fl _ L1 H1 => FlQ K D L1 H1 fl) (f env S)

section
variable {X : Cx} {e : Expr} {st : Stmt} {sts : List Stmt} {es : List Expr}
theorem monoE {t t' : TE} (h : PE X e t) (k : ∀ σ H Q, t' σ H Q → t σ H Q) : PE X e t' := ⟨fun pins s σ H Q I q => h.run pins s σ H Q I (k σ H Q q)⟩
theorem monoT {t t' : TT} (h : PT X e t) (k : ∀ σ H Q, t' σ H Q → t σ H Q) : PT X e t' := ⟨fun pins s σ H Q I q => h.run pins s σ H Q I (k σ H Q q)⟩
theorem monoW {t t' : TT} (h : PW X e t) (k : ∀ σ H Q, t' σ H Q → t σ H Q) : PW X e t' := ⟨fun w pins s σ H Q I q => h.run w pins s σ H Q I (k σ H Q q)⟩
theorem monoA {t t' : TA} (h : PA X es t) (k : ∀ σ H Q, t' σ H Q → t σ H Q) : PA X es t' := ⟨fun pos pins s σ H Q I q => h.run pos pins s σ H Q I (k σ H Q q)⟩
theorem monoS {t t' : TS} (h : PS X st t) (k : ∀ D σ H, t' D σ H → t D σ H) : PS X st t' := ⟨fun pins s σ H D I q => h.run pins s σ H D I (k D σ H q)⟩
theorem monoSs {t t' : TS} (h : PSs X sts t) (k : ∀ D σ H, t' D σ H → t D σ H) : PSs X sts t' := ⟨fun pins s σ H D I q => h.run pins s σ H D I (k D σ H q)⟩
end

/-! ### expressions -/
def fVar (i : Nat) : EF := fun env S => match env[i]? with | some (some d) => .ok d S | _ => .bad
def fC (d : D) : EF := fun _ S => .ok d S
abbrev Op2 := D → D → Sto → R D
abbrev Op1 := D → Sto → R D
abbrev OpN := List D → Sto → R D
def fBin (o : Op2) (fa fb : EF) : EF := fun env S => (fa env S).bind fun x S1 => (fb env S1).bind fun y S2 => o x y S2
def fUn (o : Op1) (fa : EF) : EF := fun env S => (fa env S).bind fun x S1 => o x S1
def fApp (o : OpN) (fs : AF) : EF := fun env S => (fs env S).bind fun xs S1 => o xs S1
def fNil : AF := fun _ S => .ok [] S
def fCons (fa : EF) (fs : AF) : AF := fun env S => (fa env S).bind fun x S1 => (fs env S1).bind fun xs S2 => .ok (x :: xs) S2
def fTup (fs : AF) : EF := fun env S => (fs env S).bind fun xs S1 => if xs.length ≤ 100000 then .ok (.tup xs) S1 else .bad
def fLst (fs : AF) : EF := fun env S => (fs env S).bind fun xs S1 => if xs.length ≤ 100000 then .ok (.ref S1.length) (S1 ++ [.lst xs]) else .bad
def fTest (fa : EF) : BF := fun env S => (fa env S).bind fun x S1 => match x with | .bl b => .ok b S1 | _ => .bad
def fVal (ft : BF) : EF := fun env S => (ft env S).bind fun b S1 => .ok (.bl b) S1
def fAnd (f g : BF) : BF := fun env S => (f env S).bind fun b S1 => if b = true then g env S1 else .ok false S1
def fOr (f g : BF) : BF := fun env S => (f env S).bind fun b S1 => if b = true then .ok true S1 else g env S1
def fNot (f : BF) : BF := fun env S => (f env S).bind fun b S1 => .ok (!b) S1
def fAndV (f g : EF) : EF := fun env S => (f env S).bind fun x S1 => match x with | .bl b => (if b = true then g env S1 else .ok (.bl false) S1) | _ => .bad
def fOrV (f g : EF) : EF := fun env S => (f env S).bind fun x S1 => match x with | .bl b => (if b = true then .ok (.bl true) S1 else g env S1) | _ => .bad
def fNotV (f : EF) : EF := fun env S => (f env S).bind fun x S1 => match x with | .bl b => .ok (.bl (!b)) S1 | _ => .bad
def fIfE (c : BF) (f g : EF) : EF := fun env S => (c env S).bind fun b S1 => if b = true then f env S1 else g env S1
def fChain (o o' : Op2) (fa fb fc : EF) : EF := fun env S => (fa env S).bind fun x S1 => (fb env S1).bind fun y S2 => (o x y S2).bind fun z S3 => match z with
  | .bl b => if b = true then (fc env S3).bind fun w S4 => o' y w S4 else .ok (.bl false) S3
  | _ => .bad

/-- an operator by values, simulated -/
def OpF (K : PySem.W.Frag) (E : XK) (r : R2) (o : Op2) : Prop := ∀ L H S x y d1 d2 Q, Rep K L H S → RD K L H x d1 → RD K L H y d2 → EndV K E L H Q (o d1 d2 S) → r x y H Q
def UnF (K : PySem.W.Frag) (E : XK) (r : V → Hp → VK → Prop) (o : Op1) : Prop := ∀ L H S x d1 Q, Rep K L H S → RD K L H x d1 → EndV K E L H Q (o d1 S) → r x H Q
def CaF (K : PySem.W.Frag) (E : XK) (r : List V → Hp → VK → Prop) (o : OpN) : Prop := ∀ L H S xs ds Q, Rep K L H S → RDs K L H xs ds → EndV K E L H Q (o ds S) → r xs H Q
/-- a built-in method by values -/
def MtF (K : PySem.W.Frag) (E : XK) (r : V → List V → Hp → VK → Prop) (o : D → List D → Sto → R D) : Prop := ∀ L H S x xs d ds Q, Rep K L H S → RD K L H x d → RDs K L H xs ds → EndV K E L H Q (o d ds S) → r x xs H Q

theorem sz5 {n : Nat} (h : n ≤ 100000) : n ≤ sizeLine := Nat.le_trans h (by rw [sizeLine_eq]; decide)
theorem sz5l {n : Nat} (h : n < 100000) : n < sizeLine := Nat.lt_of_lt_of_le h (by rw [sizeLine_eq]; decide)

section
variable {X : Cx} {E : XK} {a b c e : Expr} {es : List Expr} {pos : Pos} {fa fb fc : EF} {fs : AF} {ft fu : BF}

theorem xVar (i : Nat) {x : Str} (hN : X.N[i]? = some x := by rfl) (hv : Vis X.env.scope x := by first | exact Or.inl rfl | exact Or.inr (Or.inl rfl) | exact Or.inr (Or.inr rfl)) (hd : (x == ("__debug__" : Str)) = false := by decide)
    (hcd : (x == ("__classdict__" : Str)) = false := by decide) : PE X (.Name x pos) (tE X.K E (fVar i)) :=
  monoE (pe_var (i := i) hN hv hd hcd) fun σ H Q h => by
    obtain ⟨L, env, S, rep, re, h⟩ := h
    unfold fVar at h
    cases q : env[i]? with
    | none => rw [q] at h; exact h.elim
    | some o =>
      cases o with
      | none => rw [q] at h; exact h.elim
      | some d =>
        rw [q] at h
        obtain ⟨v, h1, h2⟩ := re.val i d q
        exact ⟨v, h1, EndV.val h rep h2⟩
theorem xConst {v : V} {d : D} (he : PE X e (tC v)) (h : ∀ L H, RD X.K L H v d) : PE X e (tE X.K E (fC d)) :=
  monoE he fun σ H Q ⟨L, env, S, rep, re, q⟩ => EndV.val q rep (h L H)
theorem xInt {i : Int} {j : Nat} : PE X (.Constant (.int i) j pos) (tE X.K E (fC (.int i))) := xConst pe_int fun _ _ => .int i
theorem xBl {i : Bool} {j : Nat} : PE X (.Constant (.bool i) j pos) (tE X.K E (fC (.bl i))) := xConst pe_bl fun _ _ => .bl i
theorem xNon {j : Nat} : PE X (.Constant .none j pos) (tE X.K E (fC .non)) := xConst pe_non fun _ _ => .non
theorem xStr {x y : Str} {j : Nat} (h : x = y) : PE X (.Constant (.str x) j pos) (tE X.K E (fC (.str y))) := by subst h; exact xConst pe_str fun _ _ => .str x
theorem xGlob {x : Str} {v : V} {u : Value} {d : D} (hg : Gl X x) (hm : X.mg x = some u) (r : RelV v u) (h : ∀ L H, RD X.K L H v d) (hd : (x == ("__debug__" : Str)) = false := by decide) : PE X (.Name x pos) (tE X.K E (fC d)) := xConst (pe_glob hg hm r hd) h

theorem bin_of {K : PySem.W.Frag} {r : R2} {o : Op2} (hf : OpF K E r o) {σ : St} {H : Hp} {Q : VK} (h : tE K E (fBin o fa fb) σ H Q) : tOp r (tE K E fa) (tE K E fb) σ H Q := by
  obtain ⟨L, env, S, rep, re, h⟩ := h
  refine ⟨L, env, S, rep, re, (End.bind h).imp fun x S1 L1 H1 e1 rep1 h1 v rv => ?_⟩
  refine ⟨L1, env, S1, rep1, re.mono e1, (End.bind h1).imp fun y S2 L2 H2 e2 rep2 h2 w rw => ?_⟩
  exact hf L2 H2 S2 _ _ _ _ _ rep2 (rv.mono e2) rw h2
theorem xOp {op : Operator} {r : R2} {o : Op2} (ho : OpR X (binaryOp op) r) (hf : OpF X.K E r o) (ha : PE X a (tE X.K E fa)) (hb : PE X b (tE X.K E fb)) : PE X (.BinOp a op b pos) (tE X.K E (fBin o fa fb)) :=
  monoE (pe_op ho ha hb) fun _ _ _ h => bin_of hf h
theorem xCmp {op : CmpOp} {r : R2} {o : Op2} (ho : OpR X (compareOp op) r) (hf : OpF X.K E r o) (hm : behindInMarks op b = false) (ha : PE X a (tE X.K E fa)) (hb : PE X b (tE X.K E fb)) : PE X (.Compare a [op] [b] pos) (tE X.K E (fBin o fa fb)) :=
  monoE (pe_cmpR ho ha hb hm) fun _ _ _ h => bin_of hf h
theorem test_of {K : PySem.W.Frag} {σ : St} {H : Hp} {Q : Bool → Hp → Prop} (h : tT K E (fTest fa) σ H Q) : tE K E fa σ H fun x H1 => ∃ c, x = .bl c ∧ Q c H1 := by
  obtain ⟨L, env, S, rep, re, h⟩ := h
  refine ⟨L, env, S, rep, re, (End.bind h).imp fun x S1 L1 H1 e1 rep1 h1 v rv => ?_⟩
  cases x with
  | bl c => cases rv; exact ⟨c, rfl, h1 L1 H1 (Ex.refl _ _) rep1⟩
  | _ => exact h1.elim
theorem xCmpT {op : CmpOp} {r : R2} {o : Op2} (ho : OpR X (compareOp op) r) (hf : OpF X.K E r o) (hm : behindInMarks op b = false) (ha : PE X a (tE X.K E fa)) (hb : PE X b (tE X.K E fb)) : PT X (.Compare a [op] [b] pos) (tT X.K E (fTest (fBin o fa fb))) :=
  monoT (pt_cmpR ho ha hb hm) fun _ _ _ h => bin_of hf (test_of h)
theorem xUn {op : UnaryOp} {r : V → Hp → VK → Prop} {o : Op1} (ho : UnR X (unaryOp op) r) (hf : UnF X.K E r o) (ha : PE X a (tE X.K E fa)) : PE X (.UnaryOp op a pos) (tE X.K E (fUn o fa)) :=
  monoE (pe_un ho ha) fun σ H Q h => by
    obtain ⟨L, env, S, rep, re, h⟩ := h
    exact ⟨L, env, S, rep, re, (End.bind h).imp fun x S1 L1 H1 e1 rep1 h1 v rv => hf L1 H1 S1 _ _ _ rep1 rv h1⟩
theorem xVal (he : PE X e (tE X.K E fa)) (hp : ∀ whole, isTrue e X.env whole = (do let v ← whole; standAt e.pos; holding [v] (truthy v)) := by intro _; rfl) : PT X e (tT X.K E (fTest fa)) :=
  monoT (pt_val he hp) fun _ _ _ h => test_of h
theorem xAnd1 (ha : PT X a (tT X.K E ft)) : PW X (.BoolOp .And [a] pos) (tT X.K E ft) := pw_and1 ha
theorem xOr1 (ha : PT X a (tT X.K E ft)) : PW X (.BoolOp .Or [a] pos) (tT X.K E ft) := pw_or1 ha
theorem xAnd (ha : PT X a (tT X.K E ft)) (hb : PW X (.BoolOp .And (b :: es) pos) (tT X.K E fu)) : PW X (.BoolOp .And (a :: b :: es) pos) (tT X.K E (fAnd ft fu)) :=
  monoW (pw_and ha hb) fun σ H Q h => by
    obtain ⟨L, env, S, rep, re, h⟩ := h
    refine ⟨L, env, S, rep, re, (End.bind h).imp fun x S1 L1 H1 e1 rep1 h1 => ?_⟩
    cases x with
    | true => exact iteT ⟨L1, env, S1, rep1, re.mono e1, h1⟩
    | false => exact iteF (h1 L1 H1 (Ex.refl _ _) rep1)
theorem xOr (ha : PT X a (tT X.K E ft)) (hb : PW X (.BoolOp .Or (b :: es) pos) (tT X.K E fu)) : PW X (.BoolOp .Or (a :: b :: es) pos) (tT X.K E (fOr ft fu)) :=
  monoW (pw_or ha hb) fun σ H Q h => by
    obtain ⟨L, env, S, rep, re, h⟩ := h
    refine ⟨L, env, S, rep, re, (End.bind h).imp fun x S1 L1 H1 e1 rep1 h1 => ?_⟩
    cases x with
    | true => exact iteT (h1 L1 H1 (Ex.refl _ _) rep1)
    | false => exact iteF ⟨L1, env, S1, rep1, re.mono e1, h1⟩
theorem xNot (ha : PT X a (tT X.K E ft)) : PT X (.UnaryOp .Not a pos) (tT X.K E (fNot ft)) :=
  monoT (pt_not ha) fun σ H Q h => by
    obtain ⟨L, env, S, rep, re, h⟩ := h
    exact ⟨L, env, S, rep, re, (End.bind h).imp fun x S1 L1 H1 e1 rep1 h1 => h1 L1 H1 (Ex.refl _ _) rep1⟩
theorem xOneV {op : BoolOp} (h : PE X a (tE X.K E fa)) : PE X (.BoolOp op [a] pos) (tE X.K E fa) := pe_one h
theorem xAndV (ha : PE X a (tE X.K E fa)) (hb : PE X (.BoolOp .And (b :: es) pos) (tE X.K E fb)) : PE X (.BoolOp .And (a :: b :: es) pos) (tE X.K E (fAndV fa fb)) :=
  monoE (pe_and ha hb) fun σ H Q h => by
    obtain ⟨L, env, S, rep, re, h⟩ := h
    refine ⟨L, env, S, rep, re, (End.bind h).imp fun x S1 L1 H1 e1 rep1 h1 v rv => ?_⟩
    cases x with
    | bl c =>
      cases rv
      refine ⟨c, rfl, ?_⟩
      cases c with
      | true => exact iteT ⟨L1, env, S1, rep1, re.mono e1, h1⟩
      | false => exact iteF (EndV.val (d := .bl false) h1 rep1 (.bl false))
    | _ => exact h1.elim
theorem xNotV (ha : PE X a (tE X.K E fa)) : PE X (.UnaryOp .Not a pos) (tE X.K E (fNotV fa)) :=
  monoE (pe_not ha) fun σ H Q h => by
    obtain ⟨L, env, S, rep, re, h⟩ := h
    refine ⟨L, env, S, rep, re, (End.bind h).imp fun x S1 L1 H1 e1 rep1 h1 v rv => ?_⟩
    cases x with
    | bl c =>
      cases rv
      exact ⟨c, rfl, EndV.val h1 rep1 (.bl _)⟩
    | _ => exact h1.elim
theorem chain_of {K : PySem.W.Frag} {r r' : R2} {o o' : Op2} (hf : OpF K E r o) (hf' : OpF K E r' o') {σ : St} {H : Hp} {Q : VK} (h : tE K E (fChain o o' fa fb fc) σ H Q) :
    tChain r r' (tE K E fa) (tE K E fb) (tE K E fc) σ H Q := by
  obtain ⟨L, env, S, rep, re, h⟩ := h
  refine ⟨L, env, S, rep, re, (End.bind h).imp fun x S1 L1 H1 e1 rep1 h1 v rv => ?_⟩
  refine ⟨L1, env, S1, rep1, re.mono e1, (End.bind h1).imp fun y S2 L2 H2 e2 rep2 h2 w rw => ?_⟩
  refine hf L2 H2 S2 _ _ _ _ _ rep2 (rv.mono e2) rw ((End.bind h2).imp fun z S3 L3 H3 e3 rep3 h3 u ru => ?_)
  cases z with
  | bl k =>
    cases ru
    refine ⟨k, rfl, ?_⟩
    cases k with
    | true =>
      refine iteT ⟨L3, env, S3, rep3, re.mono ((e1.trans e2).trans e3), (End.bind h3).imp fun z S4 L4 H4 e4 rep4 h4 t rt => ?_⟩
      exact hf' L4 H4 S4 _ _ _ _ _ rep4 (rw.mono (e3.trans e4)) rt h4
    | false => exact iteF (EndV.val (d := .bl false) h3 rep3 (.bl false))
  | _ => exact h3.elim
theorem xChain {op op' : CmpOp} {r r' : R2} {o o' : Op2} (ho : OpR X (compareOp op) r) (ho' : OpR X (compareOp op') r') (hf : OpF X.K E r o) (hf' : OpF X.K E r' o')
    (ha : PE X a (tE X.K E fa)) (hb : PE X b (tE X.K E fb)) (hc : PE X c (tE X.K E fc)) (hm : lastMarks [op, op'] [b, c] = false := by rfl) : PE X (.Compare a [op, op'] [b, c] pos) (tE X.K E (fChain o o' fa fb fc)) :=
  monoE (pe_chain ho ho' ha hb hc hm) fun _ _ _ h => chain_of hf hf' h
theorem xChainT {op op' : CmpOp} {r r' : R2} {o o' : Op2} (ho : OpR X (compareOp op) r) (ho' : OpR X (compareOp op') r') (hf : OpF X.K E r o) (hf' : OpF X.K E r' o')
    (ha : PE X a (tE X.K E fa)) (hb : PE X b (tE X.K E fb)) (hc : PE X c (tE X.K E fc)) (hm : lastMarks [op, op'] [b, c] = false := by rfl) : PT X (.Compare a [op, op'] [b, c] pos) (tT X.K E (fTest (fChain o o' fa fb fc))) :=
  monoT (pt_chain ho ho' ha hb hc hm) fun _ _ _ h => chain_of hf hf' (test_of h)

/-! ### lists of expressions -/
theorem xNil : PA X [] (tA X.K E fNil) := monoA pa_nil fun σ H Q ⟨L, env, S, rep, re, h⟩ => h L H (Ex.refl _ _) rep [] .nil
theorem xCons (ha : PE X e (tE X.K E fa)) (hr : PA X es (tA X.K E fs)) (hs : starEach (e :: es) X.env = (false, eval e X.env) :: starEach es X.env := by rfl) : PA X (e :: es) (tA X.K E (fCons fa fs)) :=
  monoA (pa_cons ha hr hs) fun σ H Q h => by
    obtain ⟨L, env, S, rep, re, h⟩ := h
    refine ⟨L, env, S, rep, re, (End.bind h).imp fun x S1 L1 H1 e1 rep1 h1 v rv => ?_⟩
    refine ⟨L1, env, S1, rep1, re.mono e1, (End.bind h1).imp fun xs S2 L2 H2 e2 rep2 h2 vs rvs => ?_⟩
    exact h2 L2 H2 (Ex.refl _ _) rep2 _ (.cons (rv.mono e2) rvs)
theorem xTup {x1} (h : PA X es (tA X.K E fs)) : PE X (.Tuple es x1 pos) (tE X.K E (fTup fs)) :=
  monoE (pe_tup h) fun σ H Q h => by
    obtain ⟨L, env, S, rep, re, h⟩ := h
    refine ⟨L, env, S, rep, re, (End.bind h).imp fun xs S1 L1 H1 e1 rep1 h1 vs rvs => ?_⟩
    by_cases hl : xs.length ≤ 100000
    · rw [if_pos hl] at h1
      refine ⟨by rw [rvs.length]; exact sz5 hl, fun p hp => ?_⟩
      exact EndV.val (h1.later (Ex.new hp)) (rep1.new hp) (.tup upd_same (rvs.mono (Ex.new hp)))
    · rw [if_neg hl] at h1; exact h1.elim
theorem newList {K : PySem.W.Frag} {L : List Addr} {H : Hp} {S : Sto} {Q : VK} {vs : List V} {ds : List D} (h : EndV K E L H Q (.ok (.ref S.length) (S ++ [.lst ds]))) (rep : Rep K L H S) (r : RDs K L H vs ds) (p : Addr) (hp : H p = none) : Q (.ref p) (upd H p (.lst vs)) := by
  have ex := Ex.newc (L := L) (o := .lst vs) hp
  refine EndV.val (h.later ex) (rep.newc hp ⟨vs, upd_same, r.mono ex⟩) (.ref ?_)
  rw [← rep.len, List.getElem?_append_right (Nat.le_refl _)]
  simp
theorem xLst (h : PA X es (tA X.K E fs)) : PE X (.List es pos) (tE X.K E (fLst fs)) :=
  monoE (pe_lst h) fun σ H Q h => by
    obtain ⟨L, env, S, rep, re, h⟩ := h
    refine ⟨L, env, S, rep, re, (End.bind h).imp fun xs S1 L1 H1 e1 rep1 h1 vs rvs => ?_⟩
    by_cases hl : xs.length ≤ 100000
    · rw [if_pos hl] at h1
      exact ⟨by rw [rvs.length]; exact sz5 hl, fun p hp => newList h1 rep1 rvs p hp⟩
    · rw [if_neg hl] at h1; exact h1.elim
theorem app_of {K : PySem.W.Frag} {r : List V → Hp → VK → Prop} {o : OpN} (hf : CaF K E r o) {σ : St} {H : Hp} {Q : VK} (h : tE K E (fApp o fs) σ H Q) : tCB r (tA K E fs) σ H Q := by
  obtain ⟨L, env, S, rep, re, h⟩ := h
  exact ⟨L, env, S, rep, re, (End.bind h).imp fun xs S1 L1 H1 e1 rep1 h1 vs rvs => hf L1 H1 S1 _ _ _ rep1 rvs h1⟩
theorem xCB {x : Str} {id : String} {r : List V → Hp → VK → Prop} {o : OpN} {p : Pos} (hc : CallR X (.builtin id) r) (hf : CaF X.K E r o) (hg : Gl X x) (hm : X.mg x = none) (hv : bootBuiltins x = some (.builtin id)) (ha : PA X (e :: es) (tA X.K E fs)) (hn : x ≠ "__name__" := by decide) (hdb : (x == ("__debug__" : Str)) = false := by decide)
    (he : starEach (e :: es) X.env = (false, eval e X.env) :: starEach es X.env := by rfl) (hpl : (backTo pos (starEach es X.env)).any (·.1) = false := by rfl) : PE X (.Call (.Name x p) (e :: es) [] pos) (tE X.K E (fApp o fs)) :=
  monoE (pe_callB hc hg hm hv ha hn hdb he hpl) fun _ _ _ h => app_of hf h
theorem xCT {x : Str} {T : String} {r : List V → Hp → VK → Prop} {o : OpN} {p : Pos} (hc : CallR X (.type T) r) (hf : CaF X.K E r o) (hg : Gl X x) (hm : X.mg x = none) (hv : bootBuiltins x = some (.type T)) (ha : PA X (e :: es) (tA X.K E fs)) (hn : x ≠ "__name__" := by decide) (hdb : (x == ("__debug__" : Str)) = false := by decide)
    (he : starEach (e :: es) X.env = (false, eval e X.env) :: starEach es X.env := by rfl) (hpl : (backTo pos (starEach es X.env)).any (·.1) = false := by rfl) : PE X (.Call (.Name x p) (e :: es) [] pos) (tE X.K E (fApp o fs)) :=
  monoE (pe_callTy hc hg hm hv ha hn hdb he hpl) fun _ _ _ h => app_of hf h
end

/-! ### statements -/
def fSkip : SF := fun env S => .ok (.nx env) S
def fSeq (f g : SF) : SF := fun env S => (f env S).bind fun fl S1 => match fl with | .nx e => g e S1 | .rt d => .ok (.rt d) S1 | .bk e => .ok (.bk e) S1 | .ct e => .ok (.ct e) S1
def fIf (c : BF) (f g : SF) : SF := fun env S => (c env S).bind fun b S1 => if b = true then f env S1 else g env S1
def fRet (f : EF) : SF := fun env S => (f env S).bind fun d S1 => .ok (.rt d) S1
def fRetN : SF := fun _ S => .ok (.rt .non) S
def fDrop (f : EF) : SF := fun env S => (f env S).bind fun _ S1 => .ok (.nx env) S1
abbrev GF := D → Lc → Sto → R Lc
def gN (i : Nat) : GF := fun d env S => .ok (env.set i (some d)) S
def fAsg (f : EF) (g : GF) : SF := fun env S => (f env S).bind fun d S1 => (g d env S1).bind fun env1 S2 => .ok (.nx env1) S2
def fBrk : SF := fun env S => .ok (.bk env) S
def fCnt : SF := fun env S => .ok (.ct env) S
abbrev GsF := List D → Lc → Sto → R Lc
def gNil' : GsF := fun ds env S => match ds with | [] => .ok env S | _ => .bad
def gCons' (g : GF) (gs : GsF) : GsF := fun ds env S => match ds with | d :: r => (g d env S).bind fun env1 S1 => gs r env1 S1 | [] => .bad
def gTup' (n : Nat) (gs : GsF) : GF := fun d env S => match d with | .tup ds => if ds.length = n then gs ds env S else .bad | _ => .bad
/-- a, b = a list of that length -/
def tG (K : PySem.W.Frag) (E : XK) (g : GF) : TG := fun v σ H Q => ∃ L env S d, Rep K L H S ∧ RE K L H σ env ∧ RD K L H v d ∧ End K E L H (fun env1 _ L1 H1 => ∀ σ1, RE K L1 H1 σ1 env1 → Q σ1 H1) (g d env S)
def tGs (K : PySem.W.Frag) (E : XK) (g : GsF) : TGs := fun vs σ H Q => ∃ L env S ds, Rep K L H S ∧ RE K L H σ env ∧ RDs K L H vs ds ∧ End K E L H (fun env1 _ L1 H1 => ∀ σ1, RE K L1 H1 σ1 env1 → Q σ1 H1) (g ds env S)

section
variable {X : Cx} {E : XK} {a b c e : Expr} {es : List Expr} {pos : Pos} {fa fb fc : EF} {fs : AF} {ft fu : BF} {st : Stmt} {rest : List Stmt} {f g : SF}
theorem xSkip : PSs X [] (tS X.K E fSkip) := monoSs pss_nil fun D σ H ⟨L, env, S, rep, re, h⟩ => h L H (Ex.refl _ _) rep σ re
theorem xOne (h : PS X st (tS X.K E f)) : PSs X [st] (tS X.K E f) := pss_one h
theorem xSeq (h1 : PS X st (tS X.K E f)) (h2 : PSs X rest (tS X.K E g)) : PSs X (st :: rest) (tS X.K E (fSeq f g)) :=
  monoSs (pss_cons h1 h2) fun D σ H h => by
    obtain ⟨L, env, S, rep, re, h⟩ := h
    refine ⟨L, env, S, rep, re, (End.bind h).imp fun fl S1 L1 H1 e1 rep1 h1 => ?_⟩
    cases fl with
    | nx env1 => exact fun σ1 r1 => ⟨L1, env1, S1, rep1, r1, h1⟩
    | rt d => exact h1 L1 H1 (Ex.refl _ _) rep1
    | bk d => exact h1 L1 H1 (Ex.refl _ _) rep1
    | ct d => exact h1 L1 H1 (Ex.refl _ _) rep1
theorem xIf {sa sb : List Stmt} (hc : PT X c (tT X.K E ft)) (ha : PSs X sa (tS X.K E f)) (hb : PSs X sb (tS X.K E g)) : PS X (.If c sa sb pos) (tS X.K E (fIf ft f g)) :=
  monoS (ps_if hc ha hb) fun D σ H h => by
    obtain ⟨L, env, S, rep, re, h⟩ := h
    refine ⟨L, env, S, rep, re, (End.bind h).imp fun b S1 L1 H1 e1 rep1 h1 => ?_⟩
    cases b with
    | true => exact iteT ⟨L1, env, S1, rep1, re.mono e1, h1⟩
    | false => exact iteF ⟨L1, env, S1, rep1, re.mono e1, h1⟩
theorem xRet (he : PE X e (tE X.K E fa)) : PS X (.Return (some e) pos) (tS X.K E (fRet fa)) :=
  monoS (ps_ret he) fun D σ H h => by
    obtain ⟨L, env, S, rep, re, h⟩ := h
    exact ⟨L, env, S, rep, re, (End.bind h).imp fun d S1 L1 H1 e1 rep1 h1 v rv => h1 L1 H1 (Ex.refl _ _) rep1 v rv⟩
theorem xExpr (he : PE X e (tE X.K E fa)) (hs : swapsWith e none pos.line X.env = pure false := by rfl) : PS X (.Expr e pos) (tS X.K E (fDrop fa)) :=
  monoS (ps_expr he hs) fun D σ H h => by
    obtain ⟨L, env, S, rep, re, h⟩ := h
    exact ⟨L, env, S, rep, re, (End.bind h).imp fun d S1 L1 H1 e1 rep1 h1 v rv => h1 L1 H1 (Ex.refl _ _) rep1 σ (re.mono e1)⟩
theorem xgN {i : Nat} {x : Str} (hN : X.N.Nodup) (hi : X.N[i]? = some x) (hx : Loc X.env.scope x) (hf : X.fn x = true ∨ X.env.scope.names.lookup x = some .local := by first | exact .inl rfl | exact .inr rfl | assumption) : PG X (.Name x pos) (tG X.K E (gN i)) := by
  have h := pg_name (pos := pos) hN hi hx hf
  refine ⟨fun pins s σ H v u Q I r q => h.run pins s σ H v u Q I r ?_⟩
  obtain ⟨L, env, S, d, rep, re, rd, q⟩ := q
  exact q L H (Ex.refl _ _) rep _ (re.set rd)
theorem xAsg {tg : Expr} {gf : GF} (he : PE X e (tE X.K E fa)) (hg : PG X tg (tG X.K E gf)) (hs : swapsWithSole [tg] e pos.line X.env = pure false := by rfl) (hw : swappedStores [tg] e X.env = pure none := by rfl) (h1 : (assignEach [tg] X.env).map (·.2) = [assign tg X.env] := by rfl) : PS X (.Assign [tg] e pos) (tS X.K E (fAsg fa gf)) :=
  monoS (ps_asg he hg hs hw h1) fun D σ H h => by
    obtain ⟨L, env, S, rep, re, h⟩ := h
    refine ⟨L, env, S, rep, re, (End.bind h).imp fun d S1 L1 H1 e1 rep1 h1 v rv => ?_⟩
    exact ⟨L1, env, S1, d, rep1, re.mono e1, rv, (End.bind h1).imp fun env1 S2 L2 H2 e2 rep2 h2 σ1 r1 => h2 L2 H2 (Ex.refl _ _) rep2 σ1 r1⟩
theorem xSet {i : Nat} {x : Str} {pos' : Pos} (hN : X.N.Nodup) (hi : X.N[i]? = some x) (hx : Loc X.env.scope x) (he : PE X e (tE X.K E fa)) (hs : swapsWith e (some (.Name x pos')) pos.line X.env = pure false := by rfl) (hf : X.fn x = true ∨ X.env.scope.names.lookup x = some .local := by first | exact .inl rfl | exact .inr rfl | assumption) :
    PS X (.Assign [.Name x pos'] e pos) (tS X.K E (fAsg fa (gN i))) :=
  monoS (ps_set hN hi hx he hs hf) fun D σ H h => by
    obtain ⟨L, env, S, rep, re, h⟩ := h
    refine ⟨L, env, S, rep, re, (End.bind h).imp fun d S1 L1 H1 e1 rep1 h1 v rv => ?_⟩
    exact h1 L1 H1 (Ex.refl _ _) rep1 _ ((re.mono e1).set rv)
end
end RF

namespace RF
open PySem L2

/-- what a loop goes over: fixed items, or the list at a place as it stands at each turn -/
inductive It' where
  | fix (xs : List D) | live (n : Nat) (xs : List D)
def ItOk (K : PySem.W.Frag) (L : List Addr) (H : Hp) (J : It) : It' → Prop
  | .fix xs => ∀ (i : Nat) L1 H1 S1, Ex L H L1 H1 → Rep K L1 H1 S1 → (∀ d, xs[i]? = some d → J.go i H1 ∧ ∀ x H2, J.yld i H1 x H2 → Ex L1 H1 L1 H2 ∧ Rep K L1 H2 S1 ∧ RD K L1 H2 x d) ∧ (xs.length ≤ i → J.stop i H1)
  | .live n _ => ∀ (i : Nat) L1 H1 S1 ys, Ex L H L1 H1 → Rep K L1 H1 S1 → S1[n]? = some (.lst ys) → (∀ d, ys[i]? = some d → J.go i H1 ∧ ∀ x H2, J.yld i H1 x H2 → Ex L1 H1 L1 H2 ∧ Rep K L1 H2 S1 ∧ RD K L1 H2 x d) ∧ (ys.length ≤ i → J.stop i H1)
abbrev IF := Lc → Sto → R It'
def tI (K : PySem.W.Frag) (E : XK) (f : IF) : TI := fun σ H R => ∃ L env S, Rep K L H S ∧ RE K L H σ env ∧ End K E L H (fun it _ L1 H1 => ∀ J, ItOk K L1 H1 J it → R J H1) (f env S)

def fIter (fa : EF) : IF := fun env S => (fa env S).bind fun d S1 => match d with
  | .rl xs => .ok (.fix xs) S1
  | .tup xs => .ok (.fix xs) S1
  | .kt xs => .ok (.fix xs) S1
  | .ref n => match S1[n]? with
    | some (.lst xs) => .ok (.live n xs) S1
    | _ => .bad
  | _ => .bad
def rngD (lo : Int) (n : Nat) : List D := (List.range n).map fun k => .int (lo + (k : Nat))
def fRng1 (fs : AF) : IF := fun env S => (fs env S).bind fun ds S1 => match ds with
  | [.int j] => if -(2 ^ 62) ≤ j ∧ j < 2 ^ 62 then .ok (.fix (rngD 0 j.toNat)) S1 else .bad
  | _ => .bad
def fRng2 (fs : AF) : IF := fun env S => (fs env S).bind fun ds S1 => match ds with
  | [.int i, .int j] => if -(2 ^ 62) ≤ i ∧ i < 2 ^ 62 ∧ -(2 ^ 62) ≤ j ∧ j < 2 ^ 62 then .ok (.fix (rngD i (j - i).toNat)) S1 else .bad
  | _ => .bad
def loopX (g : GF) (body : SF) : List D → Lc → Sto → R Fl
  | [], env, S => .ok (.nx env) S
  | d :: xs, env, S => (g d env S).bind fun env1 S1 => (body env1 S1).bind fun fl S2 => match fl with
    | .nx e => loopX g body xs e S2
    | .ct e => loopX g body xs e S2
    | .bk e => .ok (.nx e) S2
    | .rt d => .ok (.rt d) S2
def loopL (n : Nat) (g : GF) (body : SF) : List D → Nat → Lc → Sto → R Fl
  | [], i, env, S => match S[n]? with
    | some (.lst ys) => if ys.length ≤ i then .ok (.nx env) S else .bad
    | _ => .bad
  | _ :: xs, i, env, S => match S[n]? with
    | some (.lst ys) => match ys[i]? with
      | none => .ok (.nx env) S
      | some d => (g d env S).bind fun env1 S1 => (body env1 S1).bind fun fl S2 => match fl with
        | .nx e => loopL n g body xs (i + 1) e S2
        | .ct e => loopL n g body xs (i + 1) e S2
        | .bk e => .ok (.nx e) S2
        | .rt d => .ok (.rt d) S2
    | _ => .bad
def fFor (fi : IF) (g : GF) (body : SF) : SF := fun env S => (fi env S).bind fun it S1 => match it with
  | .fix xs => loopX g body xs env S1
  | .live n xs => loopL n g body xs 0 env S1

section
variable {X : Cx} {E : XK} {tg l iter a b : Expr} {fa fb : EF} {fs : AF} {pos : Pos}
theorem xIter (h : PE X l (tE X.K E fa)) : PI X tg l (tI X.K E (fIter fa)) := by
  have h1 := pi_list (tg := tg) h
  have h2 := pi_tup (tg := tg) h
  refine ⟨fun pins s σ H R I q => ?_⟩
  obtain ⟨L, env, S, rep, re, q⟩ := q
  have key : iList X.K (tE X.K E fa) σ H R ∨ iTup X.K (tE X.K E fa) σ H R := by
    have q' := End.bind q
    cases e : fa env S with
    | bad => rw [e] at q'; exact q'.elim
    | ex c S1 =>
      rw [e] at q'
      refine .inl ⟨L, env, S, rep, re, ?_⟩
      rw [e]; exact q'
    | ok d S1 =>
      rw [e] at q'
      have step : ∀ {Q : VK}, (∀ L1 H1, Ex L H L1 H1 → Rep X.K L1 H1 S1 → ∀ v, RD X.K L1 H1 v d → Q v H1) → tE X.K E fa σ H Q := fun k => ⟨L, env, S, rep, re, by rw [e]; exact k⟩
      cases d with
      | tup xs =>
        refine .inr (step fun L1 H1 e1 rep1 v rv => ?_)
        have q1 := (q' L1 H1 e1 rep1) L1 H1 (Ex.refl _ _) rep1
        cases rv with
        | @tup a vs _ hs rs =>
          refine ⟨a, rfl, ⟨vs, .of hs⟩, q1 _ fun i L2 H2 S2 e2 rep2 => ?_⟩
          have t2 : SqT X.K H2 a vs := .of (e2.tp _ _ hs)
          have r2 := rs.mono e2
          refine ⟨fun d hd => ?_, fun hl => ⟨vs, t2, by rw [rs.length]; exact hl⟩⟩
          obtain ⟨x, hx, rx⟩ := r2.get hd
          refine ⟨⟨vs, x, t2, hx⟩, fun y H3 hy => ?_⟩
          obtain ⟨rfl, hy⟩ := hy
          have := hy vs t2
          rw [hx] at this; cases this
          exact ⟨Ex.refl _ _, rep2, rx⟩
      | kt xs =>
        refine .inr (step fun L1 H1 e1 rep1 v rv => ?_)
        have q1 := (q' L1 H1 e1 rep1) L1 H1 (Ex.refl _ _) rep1
        cases rv with
        | @kt a vs _ hs rs =>
          refine ⟨a, rfl, ⟨vs, hs _⟩, q1 _ fun i L2 H2 S2 e2 rep2 => ?_⟩
          have t2 : SqT X.K H2 a vs := hs _
          have r2 := rs.mono e2
          refine ⟨fun d hd => ?_, fun hl => ⟨vs, t2, by rw [rs.length]; exact hl⟩⟩
          obtain ⟨x, hx, rx⟩ := r2.get hd
          refine ⟨⟨vs, x, t2, hx⟩, fun y H3 hy => ?_⟩
          obtain ⟨rfl, hy⟩ := hy
          have := hy vs t2
          rw [hx] at this; cases this
          exact ⟨Ex.refl _ _, rep2, rx⟩
      | rl xs =>
        refine .inl (step fun L1 H1 e1 rep1 v rv => ?_)
        have q1 := (q' L1 H1 e1 rep1) L1 H1 (Ex.refl _ _) rep1
        cases rv with
        | @rl a vs _ hs rs =>
          refine ⟨a, rfl, ⟨vs, hs _ fun _ _ z => z⟩, q1 _ fun i L2 H2 S2 e2 rep2 => ?_⟩
          have t2 : SqL X.K H2 a vs := hs _ fun o _ => e2.fz _ o _
          have r2 := rs.mono e2
          refine ⟨fun d hd => ?_, fun hl => ⟨vs, t2, by rw [rs.length]; exact hl⟩⟩
          obtain ⟨x, hx, rx⟩ := r2.get hd
          refine ⟨⟨vs, x, t2, hx⟩, fun y H3 hy => ?_⟩
          obtain ⟨rfl, hy⟩ := hy
          have := hy vs t2
          rw [hx] at this; cases this
          exact ⟨Ex.refl _ _, rep2, rx⟩
      | ref n =>
        refine .inl (step fun L1 H1 e1 rep1 v rv => ?_)
        have q0 := q' L1 H1 e1 rep1
        cases rv with
        | @ref a _ ha =>
          obtain ⟨c, hc, rc⟩ := rep1.adr ha
          simp only [hc] at q0
          cases c with
          | lst xs =>
            have q1 := q0 L1 H1 (Ex.refl _ _) rep1
            obtain ⟨vs, hv, rvs⟩ := rc
            refine ⟨a, rfl, ⟨vs, .of hv⟩, q1 _ fun i L2 H2 S2 ys e2 rep2 hy => ?_⟩
            obtain ⟨a', ha', vs2, hv2, rvs2⟩ := rep2.at hy
            rw [e2.px _ _ ha] at ha'; cases ha'
            refine ⟨fun d hd => ?_, fun hl => ⟨vs2, .of hv2, by rw [rvs2.length]; exact hl⟩⟩
            obtain ⟨x, hx, rx⟩ := rvs2.get hd
            refine ⟨⟨vs2, x, .of hv2, hx⟩, fun y H3 hy => ?_⟩
            obtain ⟨rfl, hy⟩ := hy
            have := hy vs2 (.of hv2)
            rw [hx] at this; cases this
            exact ⟨Ex.refl _ _, rep2, rx⟩
          | _ => exact q0.elim
      | _ => exact .inl (step fun L1 H1 e1 rep1 v rv => False.elim (q' L1 H1 e1 rep1))
  rcases key with k | k
  · exact h1.run pins s σ H R I k
  · exact h2.run pins s σ H R I k
theorem rngD_get {lo : Int} {n i : Nat} {d : D} (h : (rngD lo n)[i]? = some d) : i < n ∧ d = .int (lo + (i : Nat)) := by
  unfold rngD at h
  rw [List.getElem?_map] at h
  by_cases hi : i < n
  · rw [List.getElem?_eq_getElem (by rw [List.length_range]; exact hi)] at h
    simp at h
    exact ⟨hi, h.symm⟩
  · rw [List.getElem?_eq_none (by rw [List.length_range]; omega)] at h
    simp at h
theorem rngD_len {lo : Int} {n : Nat} : (rngD lo n).length = n := by unfold rngD; rw [List.length_map, List.length_range]
theorem itr_ok {K : PySem.W.Frag} {L : List Addr} {H : Hp} (lo : Int) (n : Nat) : ItOk K L H (Itr lo n) (.fix (rngD lo n)) := fun i L1 H1 S1 e1 rep1 => by
  refine ⟨fun d hd => ?_, fun hl => by rw [rngD_len] at hl; exact hl⟩
  obtain ⟨h1, rfl⟩ := rngD_get hd
  refine ⟨h1, fun x H2 y => ?_⟩
  obtain ⟨rfl, rfl⟩ := y
  exact ⟨Ex.refl _ _, rep1, .int _⟩
theorem xRng1 {p : Pos} (hg : Gl X "range") (hm : X.mg "range" = none) (ha : PA X [a] (tA X.K E fs)) (hs : starEach [a] X.env = [(false, eval a X.env)] := by rfl) : PI X tg (.Call (.Name "range" p) [a] [] pos) (tI X.K E (fRng1 fs)) := by
  refine ⟨fun pins s σ H R I q => (pi_range1 hg hm ha hs).run pins s σ H R I ?_⟩
  obtain ⟨L, env, S, rep, re, q⟩ := q
  refine ⟨L, env, S, rep, re, (End.bind q).imp fun ds S1 L1 H1 e1 rep1 h1 vs rvs => ?_⟩
  cases rvs with
  | nil => exact h1.elim
  | cons r1 r2 =>
    cases r1 with
    | int j =>
      cases r2 with
      | cons _ _ => exact h1.elim
      | nil =>
        have h1 : End X.K E L1 H1 (fun it _ L1 H1 => ∀ J, ItOk X.K L1 H1 J it → R J H1) (if -(2 ^ 62) ≤ j ∧ j < 2 ^ 62 then .ok (.fix (rngD 0 j.toNat)) S1 else .bad) := h1
        by_cases hj : -(2 ^ 62) ≤ j ∧ j < 2 ^ 62
        · rw [if_pos hj] at h1
          exact ⟨j, rfl, hj.1, hj.2, h1 L1 H1 (Ex.refl _ _) rep1 _ (itr_ok 0 _)⟩
        · rw [if_neg hj] at h1; exact h1.elim
    | _ => exact h1.elim
theorem xRng2 {p : Pos} (hg : Gl X "range") (hm : X.mg "range" = none) (ha : PA X [a, b] (tA X.K E fs)) (hs : starEach [a, b] X.env = [(false, eval a X.env), (false, eval b X.env)] := by rfl) (hs2 : starEach [b] X.env = [(false, eval b X.env)] := by rfl) : PI X tg (.Call (.Name "range" p) [a, b] [] pos) (tI X.K E (fRng2 fs)) := by
  refine ⟨fun pins s σ H R I q => (pi_range2 hg hm ha hs hs2).run pins s σ H R I ?_⟩
  obtain ⟨L, env, S, rep, re, q⟩ := q
  refine ⟨L, env, S, rep, re, (End.bind q).imp fun ds S1 L1 H1 e1 rep1 h1 vs rvs => ?_⟩
  cases rvs with
  | nil => exact h1.elim
  | cons r1 r2 =>
    cases r1 with
    | int i =>
      cases r2 with
      | nil => exact h1.elim
      | cons r2 r3 =>
        cases r2 with
        | int j =>
          cases r3 with
          | cons _ _ => exact h1.elim
          | nil =>
            have h1 : End X.K E L1 H1 (fun it _ L1 H1 => ∀ J, ItOk X.K L1 H1 J it → R J H1) (if -(2 ^ 62) ≤ i ∧ i < 2 ^ 62 ∧ -(2 ^ 62) ≤ j ∧ j < 2 ^ 62 then .ok (.fix (rngD i (j - i).toNat)) S1 else .bad) := h1
            by_cases hj : -(2 ^ 62) ≤ i ∧ i < 2 ^ 62 ∧ -(2 ^ 62) ≤ j ∧ j < 2 ^ 62
            · rw [if_pos hj] at h1
              exact ⟨i, j, rfl, hj, h1 L1 H1 (Ex.refl _ _) rep1 _ (itr_ok i _)⟩
            · rw [if_neg hj] at h1; exact h1.elim
        | _ => exact h1.elim
    | _ => exact h1.elim
/-- behind a turn -/
theorem turn_of {K : PySem.W.Frag} {D : Ends} {L : List Addr} {H : Hp} {nxt : Lc → Sto → R Fl} {N : St → Hp → Prop} {fl : Fl} {S : Sto} (rep : Rep K L H S) (hN : ∀ env σ, RE K L H σ env → End K E L H (fun fl _ L1 H1 => FlQ K D L1 H1 fl) (nxt env S) → N σ H)
    (h : End K E L H (fun fl _ L1 H1 => FlQ K D L1 H1 fl) (match fl with
      | .nx e => nxt e S
      | .ct e => nxt e S
      | .bk e => .ok (.nx e) S
      | .rt d => .ok (.rt d) S)) : FlQ K { D with nx := N, ct := N, bk := D.nx } L H fl := by
  cases fl with
  | nx e => exact fun σ r => hN e σ r h
  | ct e => exact fun σ r => hN e σ r h
  | bk e => exact fun σ r => h L H (Ex.refl _ _) rep σ r
  | rt d => exact fun v r => h L H (Ex.refl _ _) rep v r
theorem xFor {body : List Stmt} {fi : IF} {g : GF} {fb : SF} (hp : PassesOwn (model X.prog X.w) X.A X.env X.xe) (hc : X.calm = true) (hi : PI X tg iter (tI X.K E fi)) (hg : PG X tg (tG X.K E g)) (hb : PSs X body (tS X.K E fb))
    (hs : ∀ x, foldedSetIterable iter X.env x = pure x := by intro _; rfl) : PS X (.For tg iter body [] pos) (tS X.K E (fFor fi g fb)) :=
  monoS (ps_for hp hc hi hg hb hs) fun D σ H h => by
    obtain ⟨L, env, S, rep, re, h⟩ := h
    refine ⟨L, env, S, rep, re, (End.bind h).imp fun it S1 L1 H1 e1 rep1 h1 J hJ => ?_⟩
    cases it with
    | fix xs =>
      refine ⟨fun i m σ H => m = xs.length - i ∧ i ≤ xs.length ∧ ∃ L2 env S, Ex L1 H1 L2 H ∧ Rep X.K L2 H S ∧ RE X.K L2 H σ env ∧ End X.K E L2 H (fun fl _ L1 H1 => FlQ X.K D L1 H1 fl) (loopX g fb (xs.drop i) env S),
        ⟨xs.length, by simp, Nat.zero_le _, L1, env, S1, Ex.refl _ _, rep1, re.mono e1, h1⟩, ?_⟩
      rintro i m σ2 H2 ⟨rfl, hi, L2, env2, S2, e2, rep2, re2, h2⟩
      have ok := hJ i L2 H2 S2 e2 rep2
      by_cases hlt : i < xs.length
      · have hd : xs[i]? = some xs[i] := List.getElem?_eq_getElem hlt
        obtain ⟨hgo, hy⟩ := ok.1 _ hd
        rw [List.drop_eq_getElem_cons hlt] at h2
        refine .inr ⟨hgo, fun σ3 H3 => ∃ L2 env S, Ex L1 H1 L2 H3 ∧ Rep X.K L2 H3 S ∧ RE X.K L2 H3 σ3 env ∧ End X.K E L2 H3 (fun fl _ L1 H1 => FlQ X.K D L1 H1 fl) (loopX g fb (xs.drop (i + 1)) env S),
          fun σ3 H3 q => ⟨_, by omega, rfl, hlt, q⟩, fun x H3 y => ?_⟩
        obtain ⟨e3, rep3, rx⟩ := hy x H3 y
        refine ⟨L2, env2, S2, _, rep3, re2.mono e3, rx, (End.bind (h2.later e3)).imp fun env4 S4 L4 H4 e4 rep4 h4 σ4 r4 => ?_⟩
        refine ⟨L4, env4, S4, rep4, r4, (End.bind h4).imp fun fl S5 L5 H5 e5 rep5 h5 => ?_⟩
        exact turn_of (nxt := fun e S => loopX g fb (xs.drop (i + 1)) e S) rep5 (fun env6 σ6 r6 h6 => ⟨L5, env6, S5, ((e2.trans e3).trans e4).trans e5, rep5, r6, h6⟩) h5
      · have e : i = xs.length := by omega
        refine .inl ⟨ok.2 (by omega), ?_⟩
        rw [List.drop_eq_nil_of_le (by omega)] at h2
        exact h2 L2 H2 (Ex.refl _ _) rep2 σ2 re2
    | live n xs =>
      refine ⟨fun i m σ H => ∃ rest L2 env S, m = List.length rest ∧ Ex L1 H1 L2 H ∧ Rep X.K L2 H S ∧ RE X.K L2 H σ env ∧ End X.K E L2 H (fun fl _ L1 H1 => FlQ X.K D L1 H1 fl) (loopL n g fb rest i env S),
        ⟨xs.length, xs, L1, env, S1, rfl, Ex.refl _ _, rep1, re.mono e1, h1⟩, ?_⟩
      rintro i m σ2 H2 ⟨rest, L2, env2, S2, rfl, e2, rep2, re2, h2⟩
      have fin : ∀ ys, S2[n]? = some (.lst ys) → ys.length ≤ i → End X.K E L2 H2 (fun fl _ L1 H1 => FlQ X.K D L1 H1 fl) (.ok (.nx env2) S2) → (J.stop i H2 ∧ D.nx σ2 H2) := fun ys q hl h =>
        ⟨(hJ i L2 H2 S2 ys e2 rep2 q).2 hl, h L2 H2 (Ex.refl _ _) rep2 σ2 re2⟩
      cases rest with
      | nil =>
        unfold loopL at h2
        cases q : S2[n]? with
        | none => rw [q] at h2; exact h2.elim
        | some c =>
          cases c with
          | lst ys =>
            rw [q] at h2
            simp only at h2
            by_cases hl : ys.length ≤ i
            · rw [if_pos hl] at h2
              exact .inl (fin ys q hl h2)
            · rw [if_neg hl] at h2; exact h2.elim
          | _ => rw [q] at h2; exact h2.elim
      | cons r0 rest =>
        unfold loopL at h2
        cases q : S2[n]? with
        | none => rw [q] at h2; exact h2.elim
        | some c =>
          cases c with
          | lst ys =>
            rw [q] at h2
            simp only at h2
            cases hd : ys[i]? with
            | none =>
              rw [hd] at h2
              exact .inl (fin ys q (List.getElem?_eq_none_iff.mp hd) h2)
            | some d =>
              rw [hd] at h2
              simp only at h2
              obtain ⟨hgo, hy⟩ := (hJ i L2 H2 S2 ys e2 rep2 q).1 _ hd
              refine .inr ⟨hgo, fun σ3 H3 => ∃ L2 env S, Ex L1 H1 L2 H3 ∧ Rep X.K L2 H3 S ∧ RE X.K L2 H3 σ3 env ∧ End X.K E L2 H3 (fun fl _ L1 H1 => FlQ X.K D L1 H1 fl) (loopL n g fb rest (i + 1) env S),
                fun σ3 H3 ⟨L5, env5, S5, q1, q2, q3, q4⟩ => ⟨_, by simp, rest, L5, env5, S5, rfl, q1, q2, q3, q4⟩, fun x H3 y => ?_⟩
              obtain ⟨e3, rep3, rx⟩ := hy x H3 y
              refine ⟨L2, env2, S2, _, rep3, re2.mono e3, rx, (End.bind (h2.later e3)).imp fun env4 S4 L4 H4 e4 rep4 h4 σ4 r4 => ?_⟩
              refine ⟨L4, env4, S4, rep4, r4, (End.bind h4).imp fun fl S5 L5 H5 e5 rep5 h5 => ?_⟩
              exact turn_of (nxt := fun e S => loopL n g fb rest (i + 1) e S) rep5 (fun env6 σ6 r6 h6 => ⟨L5, env6, S5, ((e2.trans e3).trans e4).trans e5, rep5, r6, h6⟩) h5
          | _ => rw [q] at h2; exact h2.elim
end
end RF

namespace RF
open PySem L2

/-! ### list comprehensions: one name as the target -/
def R.nox {α : Type} : R α → R α
  | .ok a S => .ok a S
  | _ => .bad
@[simp] theorem R.nox_ok {α : Type} (a : α) (S : Sto) : (R.ok a S).nox = .ok a S := (rfl)
abbrev D' := D
abbrev E0' : XK := fun _ _ _ => False
def compX (i : Nat) (ft : BF) (fe : EF) (env : Lc) : List D → List D → Sto → R D
  | [], acc, S => .ok (.ref S.length) (S ++ [.lst acc])
  | d :: xs, acc, S => (ft (env.set i (some d)) S).nox.bind fun b S1 => if b = true then ((fe (env.set i (some d)) S1).nox.bind fun y S2 => if acc.length < 100000 then compX i ft fe env xs (acc ++ [y]) S2 else .bad) else compX i ft fe env xs acc S1
def compL (n i : Nat) (ft : BF) (fe : EF) (env : Lc) : List D → Nat → List D → Sto → R D
  | [], j, acc, S => match S[n]? with
    | some (.lst ys) => if ys.length ≤ j then .ok (.ref S.length) (S ++ [.lst acc]) else .bad
    | _ => .bad
  | _ :: xs, j, acc, S => match S[n]? with
    | some (.lst ys) => match ys[j]? with
      | none => .ok (.ref S.length) (S ++ [.lst acc])
      | some d => (ft (env.set i (some d)) S).nox.bind fun b S1 => if b = true then ((fe (env.set i (some d)) S1).nox.bind fun y S2 => if acc.length < 100000 then compL n i ft fe env xs (j + 1) (acc ++ [y]) S2 else .bad) else compL n i ft fe env xs (j + 1) acc S1
    | _ => .bad
def fComp (fi : IF) (i : Nat) (ft : BF) (fe : EF) : EF := fun env S => (fi env S).bind fun it S1 => match it with
  | .fix xs => compX i ft fe (env.set i none) xs [] S1
  | .live n xs => compL n i ft fe (env.set i none) xs 0 [] S1
def fYes : BF := fun _ S => .ok true S

section
variable {K : PySem.W.Frag} {L L1 : List Addr} {H H1 : Hp} {S S1 : Sto} {E : XK} {α β : Type}
theorem End.keep {Q : β → Sto → List Addr → Hp → Prop} {x : R α} {k : α → Sto → R β} (h : End K E L H Q (x.nox.bind k)) : End K E0' L1 H1 (fun a S2 _ _ => End K E L H Q (k a S2)) x := by
  cases x with
  | ok a S => exact fun _ _ _ _ => h
  | ex c S => exact h.elim
  | bad => exact h.elim
/-- a list that was made outside of the store comes into it -/
theorem Rep.adopt {D : Addr} {vs : List V} {ds : List D'} (r : Rep K L H S) (hD : H D = some (.lst vs)) (hn : D ∉ L) (rd : RDs K L H vs ds) : Rep K (L ++ [D]) H (S ++ [.lst ds]) := by
  have gr : Gr L H (L ++ [D]) H := ⟨fun n a h => by rw [List.getElem?_append_left (List.getElem?_eq_some_iff.mp h).1]; exact h, fun _ _ h => h, fun _ _ _ h => h⟩
  refine ⟨by rw [List.length_append, List.length_append, r.len]; rfl, ?_, fun n b c' h1 h2 => ?_⟩
  · rw [List.nodup_append]
    refine ⟨r.nd, by simp, fun b hb d hd e => ?_⟩
    rw [List.mem_singleton] at hd
    subst hd; subst e
    exact hn hb
  · by_cases hl : n < L.length
    · rw [List.getElem?_append_left hl] at h1
      rw [List.getElem?_append_left (by rw [← r.len]; exact hl)] at h2
      exact (r.cel n b c' h1 h2).grow gr rfl
    · rw [List.getElem?_append_right (Nat.le_of_not_lt hl)] at h1
      rw [List.getElem?_append_right (by rw [← r.len]; exact Nat.le_of_not_lt hl)] at h2
      rw [← r.len] at h2
      have e : n - L.length = 0 := by
        have := (List.getElem?_eq_some_iff.mp h1).1
        simp at this; omega
      rw [e] at h1 h2
      simp at h1 h2
      subst h1; subst h2
      exact ⟨vs, hD, rd.grow gr⟩
theorem adopt_val {D : Addr} {vs : List V} {ds : List D'} {L0 : List Addr} {H0 : Hp} {Q : VK} (h : EndV K E L0 H0 Q (.ok (.ref S.length) (S ++ [.lst ds]))) (r : Rep K L H S) (hD : H D = some (.lst vs)) (hn : D ∉ L) (hf : H0 D = none) (ex : Ex L0 H0 L H) (rd : RDs K L H vs ds) : Q (.ref D) H := by
  refine h (L ++ [D]) H ⟨fun n a q => ?_, fun a q => ?_, ex.fr, ex.tp, ex.fz⟩ (r.adopt hD hn rd) _ (.ref ?_)
  · rw [List.getElem?_append_left (List.getElem?_eq_some_iff.mp (ex.px n a q)).1]; exact ex.px n a q
  · rcases List.mem_append.mp q with q | q
    · exact ex.nw a q
    · rw [List.mem_singleton.mp q]; exact .inr hf
  · rw [← r.len, List.getElem?_append_right (Nat.le_refl _)]; simp
/-- what stands outside of the store stays so -/
theorem Ex.outside {D : Addr} {o : HO} (e : Ex L H L1 H1) (hn : D ∉ L) (h : H D = some o) : D ∉ L1 ∧ H1 D = some o := by
  refine ⟨fun z => ?_, e.fr D o hn h⟩
  rcases e.nw D z with z | z
  · exact hn z
  · rw [h] at z; cases z
/-- an object outside of the store changes -/
theorem Gr.out {D : Addr} {o u : HO} (h : H D = some u) (h1 : ∀ xs, u ≠ .tup xs) (h2 : ∀ o w, u ≠ .frz o w) : Gr L H L (upd H D o) :=
  ⟨fun _ _ q => q, fun b xs q => by rw [upd_ne (fun z => by rw [z, h] at q; exact h1 xs (Option.some.inj q))]; exact q, fun b o' w q => by rw [upd_ne (fun z => by rw [z, h] at q; exact h2 o' (.lst w) (Option.some.inj q))]; exact q⟩
theorem Rep.out {D : Addr} {o u : HO} (r : Rep K L H S) (hn : D ∉ L) (h : H D = some u) (h1 : ∀ xs, u ≠ .tup xs) (h2 : ∀ o w, u ≠ .frz o w) : Rep K L (upd H D o) S :=
  ⟨r.len, r.nd, fun n b c q1 q2 => (r.cel n b c q1 q2).grow (Gr.out h h1 h2) (upd_ne fun z => hn (z ▸ List.mem_of_getElem? q1))⟩
theorem Ex.out {D : Addr} {o u : HO} {L0 : List Addr} {H0 : Hp} (e : Ex L0 H0 L H) (hf : H0 D = none) (h : H D = some u) : Ex L0 H0 L (upd H D o) :=
  have ne : ∀ {b : Addr} {w : HO}, H0 b = some w → b ≠ D := fun q z => by rw [z, hf] at q; cases q
  ⟨e.px, e.nw, fun b w hb q => (upd_ne (ne q)).trans (e.fr b w hb q), fun b xs q => (upd_ne (ne q)).trans (e.tp b xs q), fun b o' w q => (upd_ne (ne q)).trans (e.fz b o' w q)⟩
end
theorem RE.wipe {K : PySem.W.Frag} {L : List Addr} {H : Hp} {σ : St} {env : Lc} (r : RE K L H σ env) (i : Nat) : RE K L H (wipe σ [i]) (env.set i none) := by
  refine ⟨by rw [wipe_length, List.length_set, r.len], fun j d h => ?_⟩
  by_cases hj : i = j
  · subst hj
    by_cases hi : i < env.length
    · rw [List.getElem?_set_self hi] at h; cases h
    · rw [List.getElem?_eq_none (by rw [List.length_set]; exact Nat.le_of_not_lt hi)] at h; cases h
  · rw [List.getElem?_set_ne hj] at h
    show ∃ v, (σ.set i none)[j]? = _ ∧ _
    rw [List.getElem?_set_ne hj]
    exact r.val j d h
theorem wipe_set {σ : St} {i : Nat} {x : V} : wipe ((wipe σ [i]).set i (some x)) [i] = wipe σ [i] := by
  show (((σ.set i none).set i (some x)).set i none) = σ.set i none
  rw [List.set_set, List.set_set]
section
variable {X : Cx} {E : XK} {tg l iter elt : Expr} {fa fe : EF} {ft : BF} {fi : IF} {pos : Pos}
/-- the turns of a comprehension -/
theorem comp_of {K : PySem.W.Frag} {i : Nat} {σ : St} {H : Hp} {Q : VK} (h : tE K E (fComp fi i ft fe) σ H Q) : tLc (tI K E fi) (gName i) (tT K E0' ft) (tE K E0' fe) [i] σ H Q := by
  obtain ⟨L, env, S, rep, re, h⟩ := h
  refine ⟨L, env, S, rep, re, (End.bind h).imp fun it S1 L1 H1 e1 rep1 h1 J hJ D hD => ?_⟩
  have re1 := (re.mono e1).wipe i
  have exD : Ex L1 H1 L1 (upd H1 D (.lst [])) := Ex.new hD
  have nD : D ∉ L1 := rep1.fresh hD
  -- one turn, whatever follows
  have turn : ∀ {fin : List D' → Sto → R D'} {Nx : Hp → Prop} {L2 : List Addr} {H2 : Hp} {S2 : Sto} {d : D'} {x : V} {H3 : Hp} {acc : List D'} {vs : List V}, Ex L1 H1 L2 H2 → Rep K L2 H2 S2 → D ∉ L2 → H2 D = some (.lst vs) → RDs K L2 H2 vs acc →
      Ex L2 H2 L2 H3 → Rep K L2 H3 S2 → RD K L2 H3 x d →
      (∀ {L4 : List Addr} {H4 : Hp} {S4 : Sto} {ws : List V} {acc2 : List D'}, Ex L1 H1 L4 H4 → Rep K L4 H4 S4 → D ∉ L4 → H4 D = some (.lst ws) → RDs K L4 H4 ws acc2 → EndV K E L1 H1 Q (fin acc2 S4) → Nx H4) →
      EndV K E L1 H1 Q ((ft ((env.set i none).set i (some d)) S2).nox.bind fun b S1 => if b = true then ((fe ((env.set i none).set i (some d)) S1).nox.bind fun y S2 => if acc.length < 100000 then fin (acc ++ [y]) S2 else .bad) else fin acc S1) →
      gName i x (wipe σ [i]) H3 fun σ2 H2 => wipe σ2 [i] = wipe σ [i] ∧ (tT K E0' ft) σ2 H2 fun b H3 =>
        if b = true then (tE K E0' fe) σ2 H3 fun y H4 => ∃ acc, H4 D = some (.lst acc) ∧ acc.length < sizeLine ∧ Nx (upd H4 D (.lst (acc ++ [y]))) else Nx H3 := by
    intro fin Nx L2 H2 S2 d x H3 acc vs e2 rep2 n2 hD2 rd2 e3 rep3 rx hN hq
    refine ⟨wipe_set, ?_⟩
    have re3 : RE K L2 H3 ((wipe σ [i]).set i (some x)) ((env.set i none).set i (some d)) := ((re1.mono e2).mono e3).set rx
    obtain ⟨n3, hD3⟩ := e3.outside n2 hD2
    refine ⟨L2, _, S2, rep3, re3, (End.keep hq).imp fun b S4 L4 H4 e4 rep4 q4 => ?_⟩
    obtain ⟨n4, hD4⟩ := e4.outside n3 hD3
    cases b with
    | false => exact iteF (hN ((e2.trans e3).trans e4) rep4 n4 hD4 ((rd2.mono e3).mono e4) q4)
    | true =>
      refine iteT ⟨L4, _, S4, rep4, re3.mono e4, (End.keep q4).imp fun y S5 L5 H5 e5 rep5 q5 v rv => ?_⟩
      obtain ⟨n5, hD5⟩ := e5.outside n4 hD4
      by_cases hl : acc.length < 100000
      · rw [if_pos hl] at q5
        have rl : vs.length = acc.length := rd2.length
        have gr : Gr L5 H5 L5 (upd H5 D (.lst (vs ++ [v]))) := Gr.out hD5 (fun _ z => nomatch z) (fun _ _ z => nomatch z)
        refine ⟨vs, hD5, by rw [rl]; exact sz5l hl, ?_⟩
        refine hN (Ex.out (((e2.trans e3).trans e4).trans e5) hD hD5) (rep5.out n5 hD5 (fun _ z => nomatch z) (fun _ _ z => nomatch z)) n5 upd_same ?_ q5
        exact RDs.append ((((rd2.mono e3).mono e4).mono e5).grow gr) (.cons (rv.grow gr) .nil)
      · rw [if_neg hl] at q5; exact q5.elim
  cases it with
  | fix xs =>
    refine ⟨fun j m H => m = xs.length - j ∧ j ≤ xs.length ∧ ∃ L2 S2 acc vs, Ex L1 H1 L2 H ∧ Rep K L2 H S2 ∧ D ∉ L2 ∧ H D = some (.lst vs) ∧ RDs K L2 H vs acc ∧ EndV K E L1 H1 Q (compX i ft fe (env.set i none) (xs.drop j) acc S2),
      ⟨xs.length, by simp, Nat.zero_le _, L1, S1, [], [], exD, rep1.new hD, nD, upd_same, .nil, h1⟩, ?_⟩
    rintro j m H2 ⟨rfl, hj, L2, S2, acc, vs, e2, rep2, n2, hD2, rd2, h2⟩
    have ok := hJ j L2 H2 S2 e2 rep2
    by_cases hlt : j < xs.length
    · have hd : xs[j]? = some xs[j] := List.getElem?_eq_getElem hlt
      obtain ⟨hgo, hy⟩ := ok.1 _ hd
      rw [List.drop_eq_getElem_cons hlt] at h2
      refine .inr ⟨hgo, fun H3 => ∃ L2 S2 acc vs, Ex L1 H1 L2 H3 ∧ Rep K L2 H3 S2 ∧ D ∉ L2 ∧ H3 D = some (.lst vs) ∧ RDs K L2 H3 vs acc ∧ EndV K E L1 H1 Q (compX i ft fe (env.set i none) (xs.drop (j + 1)) acc S2),
        fun H3 q => ⟨_, by omega, rfl, hlt, q⟩, fun x H3 y => ?_⟩
      obtain ⟨e3, rep3, rx⟩ := hy x H3 y
      exact turn (fin := fun a s => compX i ft fe (env.set i none) (xs.drop (j + 1)) a s) e2 rep2 n2 hD2 rd2 e3 rep3 rx (fun q1 q2 q3 q4 q5 q6 => ⟨_, _, _, _, q1, q2, q3, q4, q5, q6⟩) h2
    · refine .inl ⟨ok.2 (by omega), ?_⟩
      rw [List.drop_eq_nil_of_le (by omega)] at h2
      exact adopt_val h2 rep2 hD2 n2 hD e2 rd2
  | live n xs =>
    refine ⟨fun j m H => ∃ rest L2 S2 acc vs, m = List.length rest ∧ Ex L1 H1 L2 H ∧ Rep K L2 H S2 ∧ D ∉ L2 ∧ H D = some (.lst vs) ∧ RDs K L2 H vs acc ∧ EndV K E L1 H1 Q (compL n i ft fe (env.set i none) rest j acc S2),
      ⟨xs.length, xs, L1, S1, [], [], rfl, exD, rep1.new hD, nD, upd_same, .nil, h1⟩, ?_⟩
    rintro j m H2 ⟨rest, L2, S2, acc, vs, rfl, e2, rep2, n2, hD2, rd2, h2⟩
    cases rest with
    | nil =>
      unfold compL at h2
      cases q : S2[n]? with
      | none => rw [q] at h2; exact h2.elim
      | some c =>
        cases c with
        | lst ys =>
          rw [q] at h2
          simp only at h2
          by_cases hl : ys.length ≤ j
          · rw [if_pos hl] at h2
            exact .inl ⟨(hJ j L2 H2 S2 ys e2 rep2 q).2 hl, adopt_val h2 rep2 hD2 n2 hD e2 rd2⟩
          · rw [if_neg hl] at h2; exact h2.elim
        | _ => rw [q] at h2; exact h2.elim
    | cons r0 rest =>
      unfold compL at h2
      cases q : S2[n]? with
      | none => rw [q] at h2; exact h2.elim
      | some c =>
        cases c with
        | lst ys =>
          rw [q] at h2
          simp only at h2
          cases hd : ys[j]? with
          | none =>
            rw [hd] at h2
            exact .inl ⟨(hJ j L2 H2 S2 ys e2 rep2 q).2 (List.getElem?_eq_none_iff.mp hd), adopt_val h2 rep2 hD2 n2 hD e2 rd2⟩
          | some d =>
            rw [hd] at h2
            simp only at h2
            obtain ⟨hgo, hy⟩ := (hJ j L2 H2 S2 ys e2 rep2 q).1 _ hd
            refine .inr ⟨hgo, fun H3 => ∃ L2 S2 acc vs, Ex L1 H1 L2 H3 ∧ Rep K L2 H3 S2 ∧ D ∉ L2 ∧ H3 D = some (.lst vs) ∧ RDs K L2 H3 vs acc ∧ EndV K E L1 H1 Q (compL n i ft fe (env.set i none) rest (j + 1) acc S2),
              fun H3 ⟨q0, q1, q2, q3, q4⟩ => ⟨_, by simp, rest, q0, q1, q2, q3, rfl, q4⟩, fun x H3 y => ?_⟩
            obtain ⟨e3, rep3, rx⟩ := hy x H3 y
            exact turn (fin := fun a s => compL n i ft fe (env.set i none) rest (j + 1) a s) e2 rep2 n2 hD2 rd2 e3 rep3 rx (fun q1 q2 q3 q4 q5 q6 => ⟨_, _, _, _, q1, q2, q3, q4, q5, q6⟩) h2
        | _ => rw [q] at h2; exact h2.elim
theorem xYes {Y : Cx} : PTs Y [] (tT Y.K E fYes) := ⟨fun pins s σ H Q I ⟨L, env, S, rep, re, h⟩ => pts_nil.run pins s σ H Q I (h L H (Ex.refl _ _) rep)⟩
theorem xTst {Y : Cx} {c : Expr} (h : PT Y c (tT Y.K E ft)) : PTs Y [c] (tT Y.K E ft) := pts_one h
/-- [elt for x in iter], [elt for x in iter if c], x in slot i -/
theorem xComp {x : Str} {i : Nat} {px : Pos} {ifs : List Expr} {scope : Scope} (hc : X.calm = true) (hN : X.N.Nodup) (hi : PI X (.Name x px) iter (tI X.K E fi)) (ok : BlkOk X.N X.env.scope scope [(x, i)])
    (hg : ∀ (s : Shared) (H : Hp) (C : Addr) (cl : List (Str × Addr)) (fp : List Addr), PG (X.blk s H scope (compEnvC scope cl C X.env) fp) (.Name x px) (gName i)) (ht : ∀ (s : Shared) (H : Hp) (C : Addr) (cl : List (Str × Addr)) (fp : List Addr), PTs (X.blk s H scope (compEnvC scope cl C X.env) fp) ifs (tT X.K E0' ft))
    (he : ∀ (s : Shared) (H : Hp) (C : Addr) (cl : List (Str × Addr)) (fp : List Addr), PE (X.blk s H scope (compEnvC scope cl C X.env) fp) elt (tE X.K E0' fe)) (hs : ∀ x, foldedSetIterable iter X.env x = pure x := by intro _; rfl) :
    PE X (.ListComp elt [⟨.Name x px, iter, ifs, 0⟩] scope pos) (tE X.K E (fComp fi i ft fe)) :=
  monoE (pe_lc (own := [(x, i)]) hc hN hi ok hg ht he hs) fun σ H Q h => comp_of h
end
end RF

namespace RF
open PySem L2

/-! ### subscripts -/
def keyD : D → Option Key
  | .int i => some (.inl i)
  | .str x => some (.inr x)
  | _ => none
def keysD : D → Option (List Key)
  | .tup ds => ds.mapM keyD
  | _ => none
def valK {κ β : Type} [DecidableEq κ] (kvs : List (κ × β)) (k : κ) : Option β := (kvs.find? fun kv => decide (kv.1 = k)).map (·.2)
def putKD {κ β : Type} [DecidableEq κ] (kvs : List (κ × β)) (k : κ) (v : β) : List (κ × β) :=
  if (kvs.any fun kv => decide (kv.1 = k)) = true then kvs.map (fun kv => if kv.1 = k then (kv.1, v) else kv) else kvs ++ [(k, v)]
def dropKD {κ β : Type} [DecidableEq κ] (kvs : List (κ × β)) (k : κ) : List (κ × β) := kvs.filter fun kv => decide (kv.1 ≠ k)
def isDict (S : Sto) : D → Bool
  | .ref n => match S[n]? with
    | some (.dk _) => true
    | some (.dt _) => true
    | _ => false
  | _ => false
def retO (S : Sto) : Option D → R D
  | some d => .ok d S
  | none => .bad
def oGetL (x y : D) (S : Sto) : R D := match x, y with
  | .tup xs, .int i => retO S (atI xs i)
  | .rl xs, .int i => retO S (atI xs i)
  | .str z, .int i => if z.length ≤ 100000 then retO S ((atI z.cps.toList i).map fun c => .str ⟨#[c]⟩) else .bad
  | .ref n, .int i => match S[n]? with
    | some (.lst xs) => retO S (atI xs i)
    | _ => .bad
  | _, _ => .bad
/-- what a dict holds: none if it is no dict or no key -/
def lookD (S : Sto) (x y : D) : Option (Option D) := match x with
  | .ref n => match S[n]? with
    | some (.dk kvs) => (keyD y).map fun k => valK kvs k
    | some (.dt kvs) => (keysD y).map fun k => valK kvs k
    | _ => none
  | _ => none
def oGetD (x y : D) (S : Sto) : R D := match lookD S x y with
  | some (some d) => .ok d S
  | _ => .bad
def fIx (fa fb : EF) : EF := fun env S => (fa env S).bind fun x S1 => if isDict S1 x = true then (fb env S1).bind fun y S2 => oGetD x y S2 else (fb env S1).bind fun y S2 => oGetL x y S2
def oSet (x y d : D) (S : Sto) : R Unit := match x with
  | .ref n => match S[n]? with
    | some (.lst xs) => match y with
      | .int i => match ixN xs.length i with
        | some j => .ok () (S.set n (.lst (xs.set j d)))
        | none => .bad
      | _ => .bad
    | some (.dk kvs) => match keyD y with
      | some k => if kvs.length < 100000 then .ok () (S.set n (.dk (putKD kvs k d))) else .bad
      | none => .bad
    | some (.dt kvs) => match keysD y with
      | some k => if kvs.length < 100000 then .ok () (S.set n (.dt (putKD kvs k d))) else .bad
      | none => .bad
    | _ => .bad
  | _ => .bad
def gSub' (fo fi : EF) : GF := fun d env S => (fo env S).bind fun x S1 => (fi env S1).bind fun y S2 => (oSet x y d S2).bind fun _ S3 => .ok env S3

section
variable {K : PySem.W.Frag} {L : List Addr} {H : Hp} {S : Sto}
theorem RD.key {v : V} {d : D} {k : Key} (r : RD K L H v d) (h : keyD d = some k) : v = kV k := by
  cases r with
  | int i => cases h; rfl
  | str i => cases h; rfl
  | _ => cases h
theorem RDs.keys : ∀ {vs : List V} {ds : List D} {ks : List Key}, RDs K L H vs ds → ds.mapM keyD = some ks → vs = ks.map kV
  | _, _, _, .nil, h => by
    simp at h
    subst h; rfl
  | _, _, ks, .cons (d := d) a b, h => by
    rw [List.mapM_cons] at h
    cases q : keyD d with
    | none => rw [q] at h; cases h
    | some k =>
      rw [q] at h
      cases q2 : (List.mapM keyD _ : Option (List Key)) with
      | none => rw [q2] at h; cases h
      | some ks' =>
        rw [q2] at h
        cases h
        rw [List.map_cons, ← a.key q, ← RDs.keys b q2]
theorem RD.keys {v : V} {d : D} {ks : List Key} (r : RD K L H v d) (h : keysD d = some ks) : ∃ b, v = .ref b ∧ H b = some (.tup (ks.map kV)) := by
  cases r with
  | tup hs rs => exact ⟨_, rfl, by rw [hs, rs.keys h]⟩
  | _ => cases h
theorem RK.valK {κ : Type} [DecidableEq κ] (k : κ) : ∀ {ps : List (κ × V)} {qs : List (κ × D)}, RK K L H ps qs → (RF.valK qs k = none ∧ valV ps k = none) ∨ ∃ v d, RF.valK qs k = some d ∧ valV ps k = some v ∧ RD K L H v d
  | [], [], _ => .inl ⟨rfl, rfl⟩
  | (a, v) :: ps, (b, d) :: qs, ⟨e, r, c⟩ => by
    have e : a = b := e
    subst e
    unfold RF.valK valV
    rw [List.find?_cons, List.find?_cons]
    cases q : decide (a = k) with
    | true => exact .inr ⟨v, d, rfl, rfl, r⟩
    | false => exact RK.valK k c
  | [], _ :: _, h => h.elim
  | _ :: _, [], h => h.elim
theorem RK.any {κ : Type} (p : κ → Bool) : ∀ {ps : List (κ × V)} {qs : List (κ × D)}, RK K L H ps qs → (ps.any fun kv => p kv.1) = qs.any fun kv => p kv.1
  | [], [], _ => rfl
  | (a, v) :: ps, (b, d) :: qs, ⟨e, r, c⟩ => by
    have e : a = b := e
    subst e
    rw [List.any_cons, List.any_cons, RK.any p c]
  | [], _ :: _, h => h.elim
  | _ :: _, [], h => h.elim
theorem RK.mapput {κ : Type} [DecidableEq κ] {k : κ} {v : V} {d : D} (rv : RD K L H v d) : ∀ {ps : List (κ × V)} {qs : List (κ × D)}, RK K L H ps qs → RK K L H (ps.map fun kv => if kv.1 = k then (kv.1, v) else kv) (qs.map fun kv => if kv.1 = k then (kv.1, d) else kv)
  | [], [], _ => trivial
  | (a, w) :: ps, (b, x) :: qs, ⟨e, r, c⟩ => by
    have e : a = b := e
    subst e
    rw [List.map_cons, List.map_cons]
    by_cases h : a = k
    · simp only [if_pos h]
      exact ⟨rfl, rv, RK.mapput rv c⟩
    · simp only [if_neg h]
      exact ⟨rfl, r, RK.mapput rv c⟩
  | [], _ :: _, h => h.elim
  | _ :: _, [], h => h.elim
theorem RK.append {κ : Type} {ps2 : List (κ × V)} {qs2 : List (κ × D)} (h2 : RK K L H ps2 qs2) : ∀ {ps : List (κ × V)} {qs : List (κ × D)}, RK K L H ps qs → RK K L H (ps ++ ps2) (qs ++ qs2)
  | [], [], _ => h2
  | (a, w) :: ps, (b, x) :: qs, ⟨e, r, c⟩ => ⟨e, r, RK.append h2 c⟩
  | [], _ :: _, h => h.elim
  | _ :: _, [], h => h.elim
theorem RK.put {κ : Type} [DecidableEq κ] {k : κ} {v : V} {d : D} (rv : RD K L H v d) {ps : List (κ × V)} {qs : List (κ × D)} (h : RK K L H ps qs) : RK K L H (putK ps k v) (putKD qs k d) := by
  unfold putK putKD
  rw [RK.any (fun x => decide (x = k)) h]
  split
  · exact RK.mapput rv h
  · exact RK.append (ps2 := [(k, v)]) (qs2 := [(k, d)]) ⟨rfl, rv, trivial⟩ h
theorem RK.drop {κ : Type} [DecidableEq κ] {k : κ} : ∀ {ps : List (κ × V)} {qs : List (κ × D)}, RK K L H ps qs → RK K L H (dropK ps k) (dropKD qs k)
  | [], [], _ => trivial
  | (a, w) :: ps, (b, x) :: qs, ⟨e, r, c⟩ => by
    have e : a = b := e
    subst e
    unfold dropK dropKD
    rw [List.filter_cons, List.filter_cons]
    by_cases h : a = k
    · simp only [h, ne_eq, not_true_eq_false, decide_false, Bool.false_eq_true, if_false]
      exact RK.drop c
    · have e : decide (¬ a = k) = true := decide_eq_true h
      simp only [ne_eq, e, if_true]
      exact ⟨rfl, r, RK.drop c⟩
  | [], _ :: _, h => h.elim
  | _ :: _, [], h => h.elim
theorem RDs.atI {vs : List V} {ds : List D} {i : Int} {d : D} (r : RDs K L H vs ds) (h : L2.atI ds i = some d) : ∃ v, L2.atI vs i = some v ∧ RD K L H v d := by
  unfold L2.atI at h ⊢
  rw [r.length]
  cases q : ixN ds.length i with
  | none => rw [q] at h; cases h
  | some j =>
    rw [q] at h
    exact r.get h
theorem lookD_of {x y : D} {v w : V} {o : Option D} (rep : Rep K L H S) (rx : RD K L H v x) (ry : RD K L H w y) (h : lookD S x y = some o) : ∃ a, v = .ref a ∧ ((o = none ∧ DGet H a w none) ∨ ∃ d u, o = some d ∧ DGet H a w (some u) ∧ RD K L H u d) := by
  unfold lookD at h
  cases rx with
  | @ref a n ha =>
    obtain ⟨c, hc, rc⟩ := rep.adr ha
    simp only [hc] at h
    refine ⟨a, rfl, ?_⟩
    cases c with
    | dk kvs =>
      simp only at h
      cases q : keyD y with
      | none => rw [q] at h; cases h
      | some k =>
        rw [q] at h
        obtain ⟨ws, hw, rk⟩ := rc
        obtain rfl := ry.key q
        have h : RF.valK kvs k = o := Option.some.inj h
        rcases rk.valK k with ⟨h1, h2⟩ | ⟨u, d, h1, h2, r⟩
        · exact .inl ⟨h.symm.trans h1, by rw [← h2]; exact DGet.k hw⟩
        · exact .inr ⟨d, u, h.symm.trans h1, by rw [← h2]; exact DGet.k hw, r⟩
    | dt kvs =>
      simp only at h
      cases q : keysD y with
      | none => rw [q] at h; cases h
      | some k =>
        rw [q] at h
        obtain ⟨ws, hw, rk⟩ := rc
        obtain ⟨b, rfl, hb⟩ := ry.keys q
        have h : RF.valK kvs k = o := Option.some.inj h
        rcases rk.valK k with ⟨h1, h2⟩ | ⟨u, d, h1, h2, r⟩
        · exact .inl ⟨h.symm.trans h1, by rw [← h2]; exact DGet.t hw hb⟩
        · exact .inr ⟨d, u, h.symm.trans h1, by rw [← h2]; exact DGet.t hw hb, r⟩
    | _ => cases h
  | _ => cases h
variable {E : XK}
theorem retO_of {Q : VK} {o : Option D} (rep : Rep K L H S) (h : EndV K E L H Q (retO S o)) : ∃ d, o = some d ∧ ∀ v, RD K L H v d → Q v H := by
  cases o with
  | none => exact h.elim
  | some d => exact ⟨d, rfl, fun v rv => EndV.val h rep rv⟩
theorem opF_getL : OpF K E (rIx K) oGetL := by
  intro L H S x y d1 d2 Q rep r1 r2 h
  cases r1 with
  | tup hs rs =>
    cases r2 with
    | int i =>
      obtain ⟨d, e, k⟩ := retO_of rep h
      obtain ⟨v, hv, rv⟩ := rs.atI e
      exact .inr (.inl ⟨_, _, i, v, rfl, rfl, .of hs, hv, k v rv⟩)
    | _ => exact h.elim
  | rl hs rs =>
    cases r2 with
    | int i =>
      obtain ⟨d, e, k⟩ := retO_of rep h
      obtain ⟨v, hv, rv⟩ := rs.atI e
      exact .inl ⟨_, _, i, v, rfl, rfl, hs H fun _ _ z => z, hv, k v rv⟩
    | _ => exact h.elim
  | str z =>
    cases r2 with
    | int i =>
      have h : EndV K E L H Q (if z.length ≤ 100000 then retO S ((atI z.cps.toList i).map fun c => .str ⟨#[c]⟩) else .bad) := h
      by_cases hl : z.length ≤ 100000
      · rw [if_pos hl] at h
        obtain ⟨d, e, k⟩ := retO_of rep h
        obtain ⟨c, hc, rfl⟩ := Option.map_eq_some_iff.mp e
        exact .inr (.inr ⟨z, i, c, rfl, rfl, sz5 hl, hc, k _ (.str _)⟩)
      · rw [if_neg hl] at h; exact h.elim
    | _ => exact h.elim
  | ref ha =>
    cases r2 with
    | int i =>
      obtain ⟨c, hc, rc⟩ := rep.adr ha
      unfold oGetL at h
      simp only [hc] at h
      cases c with
      | lst xs =>
        obtain ⟨d, e, k⟩ := retO_of rep h
        obtain ⟨vs, hv, rvs⟩ := rc
        obtain ⟨v, hv2, rv⟩ := rvs.atI e
        exact .inl ⟨_, _, i, v, rfl, rfl, .of hv, hv2, k v rv⟩
      | _ => exact h.elim
    | _ => exact h.elim
  | _ => exact h.elim
/-- a cell is written -/
theorem Rep.write {n : Nat} {a : Addr} {c : Cell} {o : HO} (rep : Rep K L H S) (ha : L[n]? = some a) (hc : RC K L (upd H a o) a c) (hm : Wr H a := by (apply Wr.of; assumption; trivial)) : Ex L H L (upd H a o) ∧ Rep K L (upd H a o) (S.set n c) := ⟨Ex.wr hm (List.mem_of_getElem? ha), rep.wr hm ha hc⟩
theorem Gr.wr {n : Nat} {a : Addr} {o : HO} (rep : Rep K L H S) (ha : L[n]? = some a) (hm : Wr H a := by (apply Wr.of; assumption; trivial)) : Gr L H L (upd H a o) := (Ex.wr hm (List.mem_of_getElem? ha)).gr
theorem setF {Q : Hp → Prop} {x y d : D} {v w u : V} (rep : Rep K L H S) (rx : RD K L H v x) (ry : RD K L H w y) (rd : RD K L H u d) (h : End K E L H (fun _ _ _ H1 => Q H1) (oSet x y d S)) : rSetL v w u H Q ∨ ∃ a H1, v = .ref a ∧ DPut H a w u H1 ∧ Q H1 := by
  unfold oSet at h
  cases rx with
  | @ref a n ha =>
    obtain ⟨c, hc, rc⟩ := rep.adr ha
    simp only [hc] at h
    cases c with
    | lst xs =>
      simp only at h
      cases ry with
      | int i =>
        simp only at h
        cases q : ixN xs.length i with
        | none => rw [q] at h; exact h.elim
        | some j =>
          rw [q] at h
          obtain ⟨vs, hv, rvs⟩ := rc
          have gr : Gr L H L (upd H a (.lst (vs.set j u))) := Gr.wr rep ha
          obtain ⟨ex, rep2⟩ := rep.write (o := .lst (vs.set j u)) (c := .lst (xs.set j d)) ha ⟨_, upd_same, (rvs.set rd j).grow gr⟩
          exact .inl ⟨a, vs, i, j, rfl, rfl, hv, by rw [rvs.length]; exact q, h _ _ ex rep2⟩
      | _ => exact h.elim
    | dk kvs =>
      simp only at h
      cases q : keyD y with
      | none => rw [q] at h; exact h.elim
      | some k =>
        rw [q] at h
        obtain ⟨ws, hw, rk⟩ := rc
        obtain rfl := ry.key q
        by_cases hl : kvs.length < 100000
        · simp only [if_pos hl] at h
          have gr : Gr L H L (upd H a (.dK (putK ws k u))) := Gr.wr rep ha
          obtain ⟨ex, rep2⟩ := rep.write (o := .dK (putK ws k u)) (c := .dk (putKD kvs k d)) ha ⟨_, upd_same, (rk.put rd).grow gr⟩
          exact .inr ⟨a, _, rfl, DPut.k hw (by rw [rk.length]; exact sz5l hl), h _ _ ex rep2⟩
        · simp only [if_neg hl] at h; exact h.elim
    | dt kvs =>
      simp only at h
      cases q : keysD y with
      | none => rw [q] at h; exact h.elim
      | some k =>
        rw [q] at h
        obtain ⟨ws, hw, rk⟩ := rc
        obtain ⟨b, rfl, hb⟩ := ry.keys q
        by_cases hl : kvs.length < 100000
        · simp only [if_pos hl] at h
          have gr : Gr L H L (upd H a (.dT (putK ws k u))) := Gr.wr rep ha
          obtain ⟨ex, rep2⟩ := rep.write (o := .dT (putK ws k u)) (c := .dt (putKD kvs k d)) ha ⟨_, upd_same, (rk.put rd).grow gr⟩
          exact .inr ⟨a, _, rfl, DPut.t hw hb (by rw [rk.length]; exact sz5l hl), h _ _ ex rep2⟩
        · simp only [if_neg hl] at h; exact h.elim
    | _ => exact h.elim
  | _ => exact h.elim
end
section
variable {X : Cx} {E : XK} {a b o i : Expr} {fa fb fo fi : EF} {pos : Pos}
theorem xIx (hu : X.A.units + 1 < cLine) (ha : PE X a (tE X.K E fa)) (hb : PE X b (tE X.K E fb)) (hs : PlainIx b) : PE X (.Subscript a b pos) (tE X.K E (fIx fa fb)) := by
  have h1 := pe_ix (pos := pos) ix_seq ha hb hs
  have h2 := pe_dget (pos := pos) hu ha hb hs
  refine ⟨fun pins s σ H Q I q => ?_⟩
  have key : tOp (rIx X.K) (tE X.K E fa) (tE X.K E fb) σ H Q ∨ tDGet (tE X.K E fa) (tE X.K E fb) σ H Q := by
    obtain ⟨L, env, S, rep, re, q⟩ := q
    have q' := End.bind q
    by_cases hd : ∃ x S1, fa env S = .ok x S1 ∧ isDict S1 x = true
    · refine .inr ⟨L, env, S, rep, re, q'.imp' fun x S1 L1 H1 e0 e1 rep1 h1 v rv => ?_⟩
      have hx : isDict S1 x = true := by
        obtain ⟨x', S1', e, hx'⟩ := hd
        rw [e0] at e; cases e; exact hx'
      rw [if_pos hx] at h1
      refine ⟨L1, env, S1, rep1, re.mono e1, (End.bind h1).imp fun y S2 L2 H2 e2 rep2 h2 w rw' => ?_⟩
      unfold oGetD at h2
      cases q2 : lookD S2 x y with
      | none => rw [q2] at h2; exact h2.elim
      | some r =>
        rw [q2] at h2
        cases r with
        | none => exact h2.elim
        | some d =>
          obtain ⟨a, rfl, k⟩ := lookD_of rep2 (rv.mono e2) rw' q2
          rcases k with ⟨k, _⟩ | ⟨d', u, k1, k2, k3⟩
          · cases k
          · cases k1
            exact ⟨a, u, rfl, k2, EndV.val h2 rep2 k3⟩
    · refine .inl ⟨L, env, S, rep, re, q'.imp' fun x S1 L1 H1 e0 e1 rep1 h1 v rv => ?_⟩
      have hx : ¬ isDict S1 x = true := fun z => hd ⟨x, S1, e0, z⟩
      rw [if_neg hx] at h1
      refine ⟨L1, env, S1, rep1, re.mono e1, (End.bind h1).imp fun y S2 L2 H2 e2 rep2 h2 w rw' => ?_⟩
      exact opF_getL L2 H2 S2 _ _ _ _ _ rep2 (rv.mono e2) rw' h2
  rcases key with k | k
  · exact h1.run pins s σ H Q I k
  · exact h2.run pins s σ H Q I k
theorem pset_dict (hu : X.A.units + 1 < cLine) : PSet X (fun o i v H Q => ∃ a H1, o = .ref a ∧ DPut H a i v H1 ∧ Q H1) := by
  intro pins s σ H o i v ov iv r Q I ro ri rv h
  obtain ⟨a, H1, rfl, g, q⟩ := h
  obtain rfl : ov = Value.ref a := ro
  exact d_setItem hu I g ri rv fun s1 I1 => ⟨H1, I1, q⟩
theorem pset_both (hu : X.A.units + 1 < cLine) : PSet X (fun o i v H Q => rSetL o i v H Q ∨ ∃ a H1, o = .ref a ∧ DPut H a i v H1 ∧ Q H1) := by
  intro pins s σ H o i v ov iv r Q I ro ri rv h
  rcases h with h | h
  · exact set_list pins s σ H o i v ov iv r Q I ro ri rv h
  · exact pset_dict hu pins s σ H o i v ov iv r Q I ro ri rv h
theorem xgSub (hu : X.A.units + 1 < cLine) (ho : PE X o (tE X.K E fo)) (hi : PE X i (tE X.K E fi)) (ha : ∀ v, assign (.Subscript o i pos) X.env v = (do
      let ov ← holding [v] (eval o X.env)
      let iv ← holding [v, ov] (eval i X.env)
      standAt pos
      holding [v, ov, iv] (setItem ov iv v)
      release [v, ov, iv] []) := by intro _; rfl) : PG X (.Subscript o i pos) (tG X.K E (gSub' fo fi)) := by
  refine ⟨fun pins s σ H v u Q I r q => (pg_sub ho hi (pset_both hu) ha).run pins s σ H v u Q I r ?_⟩
  obtain ⟨L, env, S, d, rep, re, rd, q⟩ := q
  refine ⟨L, env, S, rep, re, (End.bind q).imp fun x S1 L1 H1 e1 rep1 h1 v rv => ?_⟩
  refine ⟨L1, env, S1, rep1, re.mono e1, (End.bind h1).imp fun y S2 L2 H2 e2 rep2 h2 w rw' => ?_⟩
  refine setF rep2 (rv.mono e2) rw' ((rd.mono e1).mono e2) ((End.bind h2).imp fun _ S3 L3 H3 e3 rep3 h3 => ?_)
  exact h3 L3 H3 (Ex.refl _ _) rep3 σ (((re.mono e1).mono e2).mono e3)

/-! ### instances -/
def putD (f : Str) (v : D) : List (Str × D) → List (Str × D)
  | [] => [(f, v)]
  | (g, x) :: r => if g = f then (g, v) :: r else (g, x) :: putD f v r
def fldsOf (C : Addr) (S : Sto) : D → Option (Nat × List (Str × D))
  | .ref n => match S[n]? with
    | some (.ins C' fs) => if C' = C then some (n, fs) else none
    | _ => none
  | _ => none
def fFld (C : Addr) (f : Str) (fo : EF) : EF := fun env S => (fo env S).bind fun x S1 => match fldsOf C S1 x with
  | some (_, fs) => retO S1 (fs.lookup f)
  | none => .bad
def oPut (C : Addr) (f : Str) (x d : D) (S : Sto) : R Unit := match fldsOf C S x with
  | some (n, fs) => if fs.length < 900 then .ok () (S.set n (.ins C (putD f d fs))) else .bad
  | none => .bad
def fSetFld (C : Addr) (f : Str) (fo fv : EF) : SF := fun env S => (fv env S).bind fun d S1 => (fo env S1).bind fun x S2 => (oPut C f x d S2).bind fun _ S3 => .ok (.nx env) S3
end
section
variable {K : PySem.W.Frag} {L : List Addr} {H : Hp} {S : Sto} {E : XK} {C : Addr}
end
section
variable {X : Cx} {E : XK} {o e : Expr} {fo fv : EF} {pos pos' : Pos} {C : Addr} {f : Str}
end

/-! ### calls -/
abbrev FF := List D → Sto → R D
def spF (K : PySem.W.Frag) (n : Nat) (F : FF) : Sp := fun vs H Q _ => vs.length = n ∧ ∃ L ds S, Rep K L H S ∧ RDs K L H vs ds ∧ EndV K E0' L H Q (F ds S)
def fCall (F : FF) (n : Nat) (dds : List D) (fs : AF) : EF := fun env S => (fs env S).bind fun ds S1 => if ds.length + dds.length = n then (F (ds ++ dds) S1).nox else .bad
def fMeth (C : Addr) (m : Str) (F : FF) (n : Nat) (dds : List D) (fo : EF) (fs : AF) : EF := fun env S => (fo env S).bind fun x S1 => match fldsOf C S1 x with
  | some (_, fl) => if (fl.lookup m).isNone = true then (fs env S1).bind fun ds S2 => if ds.length + 1 + dds.length = n then (F (x :: (ds ++ dds)) S2).nox else .bad else .bad
  | none => .bad
def fMake (C : Addr) (F : FF) (n : Nat) (dds : List D) (fs : AF) : EF := fun env S => (fs env S).bind fun ds S1 => if ds.length + 1 + dds.length = n then (F (.ref S1.length :: (ds ++ dds)) (S1 ++ [.ins C []])).nox.bind fun r S2 => match r with
  | .non => .ok (.ref S1.length) S2
  | _ => .bad
  else .bad
def fProp (C : Addr) (F : FF) (n : Nat) (fo : EF) : EF := fun env S => (fo env S).bind fun x S1 => match fldsOf C S1 x with
  | some _ => if 1 = n then (F [x] S1).nox else .bad
  | none => .bad
def fnF (m : Nat) (fb : SF) : FF := fun ds S => (fb (ds.map some ++ List.replicate (m - ds.length) none) S).bind fun fl S1 => match fl with
  | .nx _ => .ok .non S1
  | .rt d => .ok d S1
  | _ => .bad
section
variable {K : PySem.W.Frag} {L : List Addr} {H : Hp} {S : Sto} {E : XK}
theorem EndV.nox {Q : VK} {x : R D} (h : EndV K E L H Q x.nox) : EndV K E0' L H Q x := by
  cases x with
  | ok a S => exact h
  | ex c S => exact h.elim
  | bad => exact h.elim
theorem RE.start : ∀ {vs : List V} {ds : List D} (N : List Str), RDs K L H vs ds → RE K L H (L2.start N vs) (ds.map some ++ List.replicate (N.length - ds.length) none) := by
  intro vs ds N r
  refine ⟨by show (vs.map some ++ List.replicate (N.length - vs.length) none).length = _; simp [r.length], fun i d h => ?_⟩
  by_cases hi : i < ds.length
  · rw [List.getElem?_append_left (by simpa using hi), List.getElem?_map] at h
    cases q : ds[i]? with
    | none => rw [q] at h; cases h
    | some d' =>
      rw [q] at h
      have e : d' = d := by simpa using h
      subst e
      obtain ⟨v, h1, h2⟩ := r.get q
      refine ⟨v, ?_, h2⟩
      show (vs.map some ++ List.replicate (N.length - vs.length) none)[i]? = some (some v)
      rw [List.getElem?_append_left (by rw [List.length_map, r.length]; exact hi), List.getElem?_map, h1]
      rfl
  · rw [List.getElem?_append_right (by simpa using hi)] at h
    by_cases hj : i - (ds.map some).length < N.length - ds.length
    · rw [List.getElem?_replicate_of_lt hj] at h; cases h
    · rw [List.getElem?_eq_none (by rw [List.length_replicate]; omega)] at h; cases h
end
section
variable {P : Program} {w : World} {K : PySem.W.Frag} {mg : Str → Option Value} {base : Heap}
/-- a def, from its body -/
theorem fn_ok {x qual : Str} {st : Stmt} {f : Addr} {fd : FuncData} {N ps : List Str} {k m : Nat} {fb : SF} (F : Fun K x qual st f fd) (Sc : FnScope N ps (defScope st)) (hm : N.length = m)
    (hb : ∀ (cdv : Value) (A : Around) (outer : List PySem.Env) (s : Shared) (H : Hp) (E : XK), Room k (A.deeper (PyProof.Rows.envOfC qual (defScope st) s.heap.objs.size f cdv)) →
      PSs (cxOf CX0 P w K mg base N qual (defScope st) f cdv A outer s H E).nox (defBody st) (tS K E0' fb)) : FnOk P w K mg base CX0 (k + 1) f fd ps (spF K ps.length (fnF m fb)) := by
  subst hm
  refine F.ok Sc (fun vs H Q E h => h.1) (fun cdv A outer s H vs Q E hr h => ⟨_, hb cdv A outer s H E hr, ?_⟩)
  obtain ⟨hl, L, ds, S, rep, rd, h⟩ := h
  refine ⟨L, _, S, rep, RE.start N rd, (End.bind h).imp fun fl S1 L1 H1 e1 rep1 h1 => ?_⟩
  cases fl with
  | nx e => exact fun σ _ => EndV.val h1 rep1 .non
  | rt d => exact fun v rv => EndV.val h1 rep1 rv
  | bk e => exact h1.elim
  | ct e => exact h1.elim
end
section
variable {X : Cx} {E : XK} {k n : Nat} {f C : Addr} {fd : FuncData} {ps : List Str} {F : FF} {dvs : List V} {ds : List Value} {dds : List D} {x m : Str} {p pos apos : Pos} {e o : Expr} {es : List Expr} {fo : EF} {fs : AF}
theorem call_of {K : PySem.W.Frag} {σ : St} {H : Hp} {Q : VK} (hdd : ∀ L H, RDs K L H dvs dds) (h : tE K E (fCall F n dds fs) σ H Q) : tCall (spF K n F) dvs E0 (tA K E fs) σ H Q := by
  obtain ⟨L, env, S, rep, re, h⟩ := h
  refine ⟨L, env, S, rep, re, (End.bind h).imp fun xs S1 L1 H1 e1 rep1 h1 vs rvs => ?_⟩
  by_cases hl : xs.length + dds.length = n
  · rw [if_pos hl] at h1
    exact ⟨by rw [List.length_append, rvs.length, (hdd L1 H1).length]; exact hl, L1, xs ++ dds, S1, rep1, rvs.append (hdd L1 H1), EndV.nox h1⟩
  · rw [if_neg hl] at h1; exact h1.elim
theorem xCallD (Fo : FnOk X.prog X.w X.K X.mg X.base CX0 k f fd ps (spF X.K n F)) (hr : Room k X.A) (hg : Gl X x) (hm : X.mg x = some (.ref f)) (hk : PySem.W.keepIn X.K (.ref f) = true) (hb : Binds X.K fd ps ds) (hd : Vals dvs ds) (hdd : ∀ L H, RDs X.K L H dvs dds)
    (ha : PA X (e :: es) (tA X.K E fs)) (hdb : (x == ("__debug__" : Str)) = false := by decide) (he : starEach (e :: es) X.env = (false, eval e X.env) :: starEach es X.env := by rfl) (hpl : (backTo pos (starEach es X.env)).any (·.1) = false := by rfl) :
    PE X (.Call (.Name x p) (e :: es) [] pos) (tE X.K E (fCall F n dds fs)) := monoE (pe_call Fo hr hg hm hk hb hd pass0 ha hdb he hpl) fun _ _ _ h => call_of hdd h
theorem xCall (Fo : FnOk X.prog X.w X.K X.mg X.base CX0 k f fd ps (spF X.K n F)) (hr : Room k X.A) (hg : Gl X x) (hm : X.mg x = some (.ref f)) (hk : PySem.W.keepIn X.K (.ref f) = true) (hb : Binds X.K fd ps [])
    (ha : PA X (e :: es) (tA X.K E fs)) (hdb : (x == ("__debug__" : Str)) = false := by decide) (he : starEach (e :: es) X.env = (false, eval e X.env) :: starEach es X.env := by rfl) (hpl : (backTo pos (starEach es X.env)).any (·.1) = false := by rfl) :
    PE X (.Call (.Name x p) (e :: es) [] pos) (tE X.K E (fCall F n [] fs)) := xCallD Fo hr hg hm hk hb .nil (fun _ _ => .nil) ha hdb he hpl
end
end RF

namespace RF
open PySem L2

/-! ### whole numbers -/
def oI (C : Int → Int → Bool) (g : Int → Int → Int) : Op2 := fun x y S => match x, y with
  | .int i, .int j => if C i j = true then .ok (.int (g i j)) S else .bad
  | _, _ => .bad
def oC (g : Int → Int → Bool) : Op2 := fun x y S => match x, y with
  | .int i, .int j => .ok (.bl (g i j)) S
  | _, _ => .bad
section
variable {K : PySem.W.Frag} {L : List Addr} {H : Hp} {S : Sto} {E : XK}
theorem opF_I {C : Int → Int → Bool} {P : Int → Int → Prop} {g : Int → Int → Int} (h : ∀ i j, C i j = true → P i j) : OpF K E (rI P fun i j => .int (g i j)) (oI C g) := by
  intro L H S x y d1 d2 Q rep r1 r2 q
  cases r1 with
  | int i =>
    cases r2 with
    | int j =>
      have q : EndV K E L H Q (if C i j = true then .ok (.int (g i j)) S else .bad) := q
      by_cases hc : C i j = true
      · rw [if_pos hc] at q
        exact ⟨i, j, rfl, rfl, h i j hc, EndV.val q rep (.int _)⟩
      · rw [if_neg hc] at q; exact q.elim
    | _ => exact q.elim
  | _ => exact q.elim
theorem opF_I0 {g : Int → Int → Int} : OpF K E (rI0 fun i j => .int (g i j)) (oI (fun _ _ => true) g) := by
  intro L H S x y d1 d2 Q rep r1 r2 q
  cases r1 with
  | int i =>
    cases r2 with
    | int j => exact ⟨i, j, rfl, rfl, EndV.val (d := .int (g i j)) q rep (.int _)⟩
    | _ => exact q.elim
  | _ => exact q.elim
theorem opF_C {g : Int → Int → Bool} : OpF K E (rI0 fun i j => .bl (g i j)) (oC g) := by
  intro L H S x y d1 d2 Q rep r1 r2 q
  cases r1 with
  | int i =>
    cases r2 with
    | int j => exact ⟨i, j, rfl, rfl, EndV.val (d := .bl (g i j)) q rep (.bl _)⟩
    | _ => exact q.elim
  | _ => exact q.elim
end
def oSub : Op2 := oI (fun _ _ => true) fun i j => i - j
def cMul (i j : Int) : Bool := decide ((-(2 ^ 64) < i ∧ i < 2 ^ 64) ∨ (-(2 ^ 64) < j ∧ j < 2 ^ 64))
def oMul : Op2 := oI cMul fun i j => i * j
def oMod : Op2 := oI (fun _ j => decide (0 < j)) fun i j => i % j
def cDiv (_ j : Int) : Bool := decide (0 < j ∧ j < 2 ^ 100)
def oDiv : Op2 := oI cDiv fun i j => i / j
def cPow (i j : Int) : Bool := decide (0 ≤ j ∧ j ≤ 1000 ∧ i.natAbs < 2 ^ 64)
def oPow : Op2 := oI cPow fun i j => i ^ j.toNat
def oLt : Op2 := oC fun i j => decide (i < j)
def oLe : Op2 := oC fun i j => decide (i ≤ j)
def oGt : Op2 := oC fun i j => decide (j < i)
def oGe : Op2 := oC fun i j => decide (j ≤ i)
def oNeg : Op1 := fun x S => match x with | .int i => .ok (.int (-i)) S | _ => .bad
section
variable {X : Cx} {K : PySem.W.Frag} {E : XK}
theorem f_sub : OpF K E (rI0 fun i j => .int (i - j)) oSub := opF_I0
theorem f_mul : OpF K E (rI CMul fun i j => .int (i * j)) oMul := opF_I fun i j h => by
  have h : (-(2 ^ 64) < i ∧ i < 2 ^ 64) ∨ (-(2 ^ 64) < j ∧ j < 2 ^ 64) := of_decide_eq_true h
  exact h
theorem f_mod : OpF K E (rI (fun _ j => 0 < j) fun i j => .int (i % j)) oMod := opF_I fun _ _ h => of_decide_eq_true h
theorem f_div : OpF K E (rI CDivW fun i j => .int (i / j)) oDiv := opF_I fun i j h => by
  have h : 0 < j ∧ j < 2 ^ 100 := of_decide_eq_true h
  exact wide_div (b := 100) h.1 (by omega) (by decide) (by decide)
theorem f_pow : OpF K E (rI CPow fun i j => .int (i ^ j.toNat)) oPow := opF_I fun i j h => by
  have h : 0 ≤ j ∧ j ≤ 1000 ∧ i.natAbs < 2 ^ 64 := of_decide_eq_true h
  exact ⟨h.1, by omega, h.2.2⟩
theorem f_lt : OpF K E (rI0 fun i j => .bl (decide (i < j))) oLt := opF_C
theorem f_le : OpF K E (rI0 fun i j => .bl (decide (i ≤ j))) oLe := opF_C
theorem f_gt : OpF K E (rI0 fun i j => .bl (decide (j < i))) oGt := opF_C
theorem f_ge : OpF K E (rI0 fun i j => .bl (decide (j ≤ i))) oGe := opF_C
theorem f_neg : UnF K E (rU fun i => .int (-i)) oNeg := by
  intro L H S x d Q rep r q
  cases r with
  | int i => exact ⟨i, rfl, EndV.val (d := .int (-i)) q rep (.int _)⟩
  | _ => exact q.elim
end

/-! ### sums of whole numbers, texts, tuples, lists -/
def oAdd : Op2 := fun x y S => match x, y with
  | .int i, .int j => .ok (.int (i + j)) S
  | .str i, .str j => if i.length + j.length ≤ 100000 then .ok (.str (i ++ j)) S else .bad
  | .tup xs, .tup ys => if xs.length + ys.length ≤ 100000 then .ok (.tup (xs ++ ys)) S else .bad
  | .ref n, .ref m => match S[n]?, S[m]? with
    | some (.lst xs), some (.lst ys) => if xs.length + ys.length ≤ 100000 then .ok (.ref S.length) (S ++ [.lst (xs ++ ys)]) else .bad
    | _, _ => .bad
  | _, _ => .bad
def rAddS : R2 := fun x y H Q => ∃ i j, x = .str i ∧ y = .str j ∧ i.length + j.length ≤ sizeLine ∧ Q (.str (i ++ j)) H
def rAddA (K : PySem.W.Frag) : R2 := fun x y H Q => (rI0 (fun i j => .int (i + j)) x y H Q ∨ rAddS x y H Q) ∨ (rCatA K x y H Q ∨ rCat x y H Q)
theorem op_addA {X : Cx} : OpR X (binaryOp .Add) (rAddA X.K) := (op_add.or op_add_str).or (op_catA.or op_cat)
theorem f_add {K : PySem.W.Frag} {E : XK} : OpF K E (rAddA K) oAdd := by
  intro L H S x y d1 d2 Q rep r1 r2 q
  cases r1 with
  | int i =>
    cases r2 with
    | int j => exact .inl (.inl ⟨i, j, rfl, rfl, EndV.val (d := .int (i + j)) q rep (.int _)⟩)
    | _ => exact q.elim
  | str i =>
    cases r2 with
    | str j =>
      have q : EndV K E L H Q (if i.length + j.length ≤ 100000 then .ok (.str (i ++ j)) S else .bad) := q
      by_cases hl : i.length + j.length ≤ 100000
      · rw [if_pos hl] at q
        exact .inl (.inr ⟨i, j, rfl, rfl, sz5 hl, EndV.val q rep (.str _)⟩)
      · rw [if_neg hl] at q; exact q.elim
    | _ => exact q.elim
  | @tup a vs xs hs rs =>
    cases r2 with
    | @tup b ws ys hs2 rs2 =>
      have q : EndV K E L H Q (if xs.length + ys.length ≤ 100000 then .ok (.tup (xs ++ ys)) S else .bad) := q
      by_cases hl : xs.length + ys.length ≤ 100000
      · rw [if_pos hl] at q
        refine .inr (.inl ⟨a, b, vs, ws, rfl, rfl, .of hs, .of hs2, by rw [rs.length, rs2.length]; exact sz5 hl, ?_, ?_, ?_⟩)
        · intro z
          subst z
          cases rs
          exact EndV.val q rep (.tup hs2 rs2)
        · intro _ z
          subst z
          cases rs2
          rw [List.append_nil] at q
          exact EndV.val q rep (.tup hs rs)
        · intro _ _ p hp
          exact EndV.val (q.later (Ex.new hp)) (rep.new hp) (.tup upd_same ((rs.append rs2).mono (Ex.new hp)))
      · rw [if_neg hl] at q; exact q.elim
    | _ => exact q.elim
  | @ref a n ha =>
    cases r2 with
    | @ref b m hb =>
      obtain ⟨c, hc, rc⟩ := rep.adr ha
      obtain ⟨c2, hc2, rc2⟩ := rep.adr hb
      unfold oAdd at q
      simp only [hc, hc2] at q
      cases c with
      | lst xs =>
        cases c2 with
        | lst ys =>
          simp only at q
          obtain ⟨vs, hv, rv⟩ := rc
          obtain ⟨ws, hw, rw'⟩ := rc2
          by_cases hl : xs.length + ys.length ≤ 100000
          · rw [if_pos hl] at q
            exact .inr (.inr ⟨a, b, vs, ws, rfl, rfl, hv, hw, by rw [rv.length, rw'.length]; exact sz5 hl, fun p hp => newList q rep (rv.append rw') p hp⟩)
          · rw [if_neg hl] at q; exact q.elim
        | _ => exact q.elim
      | _ => exact q.elim
    | _ => exact q.elim
  | _ => exact q.elim

/-! ### == of data -/
def leafP : D → Option PyData
  | .non => some .none
  | .bl b => some (.bool b)
  | .int i => some (.int i)
  | .str x => if PyData.strOk x = true then some (.str x) else none
  | _ => none
def toP (S : Sto) : Nat → D → Option PyData
  | 0, d => leafP d
  | k + 1, d => match d with
    | .tup xs => (xs.mapM (toP S k)).map .tuple
    | .rl xs => (xs.mapM (toP S k)).map .list
    | .ref n => match S[n]? with
      | some (.lst xs) => (xs.mapM (toP S k)).map .list
      | _ => none
    | d => leafP d
def P1 (k : Nat) (p : PyData) : Prop := p.canLay0 = true ∧ p.depth ≤ k
section
variable {K : PySem.W.Frag} {L : List Addr} {H : Hp} {S : Sto} {E : XK}
theorem leafP_of {v : V} {d : D} {p : PyData} (k : Nat) (r : RD K L H v d) (h : leafP d = some p) : Dp K H v p ∧ P1 k p := by
  cases r with
  | non => cases h; exact ⟨.non, by simp [P1, PyData.canLay0, PyData.depth]⟩
  | bl b => cases h; exact ⟨.bl b, by simp [P1, PyData.canLay0, PyData.depth]⟩
  | int b => cases h; exact ⟨.int b, by simp [P1, PyData.canLay0, PyData.depth]⟩
  | str b =>
    have h : (if PyData.strOk b = true then some (PyData.str b) else none) = some p := h
    by_cases hb : PyData.strOk b = true
    · rw [if_pos hb] at h
      cases h
      exact ⟨.str b, by simp [P1, PyData.canLay0, PyData.depth, hb]⟩
    · rw [if_neg hb] at h; cases h
  | _ => cases h
theorem mapM_cons_some {α β : Type} {f : α → Option β} {a : α} {as : List α} {bs : List β} (h : (a :: as).mapM f = some bs) : ∃ b bs', f a = some b ∧ as.mapM f = some bs' ∧ bs = b :: bs' := by
  rw [List.mapM_cons] at h
  cases q : f a with
  | none => rw [q] at h; cases h
  | some b =>
    rw [q] at h
    cases q2 : as.mapM f with
    | none => rw [q2] at h; cases h
    | some bs' =>
      rw [q2] at h
      exact ⟨b, bs', rfl, rfl, (Option.some.inj h).symm⟩
def PA1 (k : Nat) (ps : List PyData) : Prop := PyData.canLayAll0 ps = true ∧ PyData.depthAll ps ≤ k
theorem toPs_of (k : Nat) (ih : ∀ v d p, RD K L H v d → toP S k d = some p → Dp K H v p ∧ P1 k p) : ∀ {vs : List V} {ds : List D} {ps : List PyData}, RDs K L H vs ds → ds.mapM (toP S k) = some ps → DpAll K H vs ps ∧ PA1 k ps
  | _, _, _, .nil, h => by
    simp at h
    subst h
    exact ⟨.nil, by simp [PA1, PyData.canLayAll0, PyData.depthAll]⟩
  | _, _, _, .cons a b, h => by
    obtain ⟨p, ps, h1, h2, rfl⟩ := mapM_cons_some h
    obtain ⟨x1, x2, x3⟩ := ih _ _ _ a h1
    obtain ⟨y1, y2, y3⟩ := toPs_of k ih b h2
    exact ⟨.cons x1 y1, by simp [PyData.canLayAll0, x2, y2], by simp only [PyData.depthAll]; omega⟩
theorem toP_of (rep : Rep K L H S) : ∀ (k : Nat) (v : V) (d : D) (p : PyData), RD K L H v d → toP S k d = some p → Dp K H v p ∧ P1 k p
  | 0, _, _, _, r, h => leafP_of 0 r h
  | k + 1, _, _, _, r, h => by
    have many : ∀ {vs : List V} {ds : List D} {ps : List PyData}, RDs K L H vs ds → ds.mapM (toP S k) = some ps → DpAll K H vs ps ∧ PA1 k ps := toPs_of k fun v d p r h => toP_of rep k v d p r h
    cases r with
    | @tup a vs ds hs rs =>
      obtain ⟨ps, h1, rfl⟩ := Option.map_eq_some_iff.mp (show (ds.mapM (toP S k)).map PyData.tuple = some _ from h)
      obtain ⟨x1, x2, x3⟩ := many rs h1
      exact ⟨.tup (.of hs) x1, by simp only [PyData.canLay0]; exact x2, by simp only [PyData.depth]; omega⟩
    | @rl a vs ds hs rs =>
      obtain ⟨ps, h1, rfl⟩ := Option.map_eq_some_iff.mp (show (ds.mapM (toP S k)).map PyData.list = some _ from h)
      obtain ⟨x1, x2, x3⟩ := many rs h1
      exact ⟨.lst (hs H fun _ _ z => z) x1, by simp only [PyData.canLay0]; exact x2, by simp only [PyData.depth]; omega⟩
    | @ref a n ha =>
      obtain ⟨c, hc, rc⟩ := rep.adr ha
      unfold toP at h
      simp only [hc] at h
      cases c with
      | lst xs =>
        obtain ⟨ps, h1, rfl⟩ := Option.map_eq_some_iff.mp h
        obtain ⟨vs, hv, rv⟩ := rc
        obtain ⟨x1, x2, x3⟩ := many rv h1
        exact ⟨.lst (.of hv) x1, by simp only [PyData.canLay0]; exact x2, by simp only [PyData.depth]; omega⟩
      | _ => cases h
    | kt hs rs => exact nomatch (show (none : Option PyData) = some _ from h)
    | non => exact leafP_of (L := L) (k + 1) .non h
    | bl b => exact leafP_of (L := L) (k + 1) (.bl b) h
    | int b => exact leafP_of (L := L) (k + 1) (.int b) h
    | str b => exact leafP_of (L := L) (k + 1) (.str b) h
theorem P1.shaped {k : Nat} {p : PyData} (h : P1 k p) (hk : k ≤ 64) : SeqAt.shaped p = true := by
  unfold SeqAt.shaped
  rw [h.1, decide_eq_true (Nat.le_trans h.2 hk)]
  rfl
end
def oEq : Op2 := fun x y S => match toP S 20 x, toP S 20 y with
  | some p, some q => .ok (.bl (PyData.eqv p q)) S
  | _, _ => .bad
def oNe : Op2 := fun x y S => match toP S 20 x, toP S 20 y with
  | some p, some q => .ok (.bl (!PyData.eqv p q)) S
  | _, _ => .bad
def oInL (neg : Bool) : Op2 := fun x y S => match toP S 20 x, toP S 20 y with
  | some p, some (.list qs) => .ok (.bl (if neg = true then !(qs.any fun z => PyData.eqv z p) else qs.any fun z => PyData.eqv z p)) S
  | _, _ => .bad
def isNonD : D → Bool
  | .non => true
  | _ => false
def oIsN : Op2 := fun x y S => match y with
  | .non => .ok (.bl (isNonD x)) S
  | _ => .bad
def oNotN : Op2 := fun x y S => match y with
  | .non => .ok (.bl (!isNonD x)) S
  | _ => .bad
def oIsB : Op2 := fun x y S => match x, y with
  | .bl a, .bl b => .ok (.bl (decide (a = b))) S
  | _, _ => .bad
/-- one sign in a text -/
def oInS (neg : Bool) : Op2 := fun x y S => match x, y with
  | .str ⟨⟨[c]⟩⟩, .str z => .ok (.bl (if neg = true then !decide (c ∈ z.cps.toList) else decide (c ∈ z.cps.toList))) S
  | _, _ => .bad
def oLeS : Op2 := fun x y S => match x, y with
  | .str i, .str j => .ok (.bl (!decide (j.cps.toList < i.cps.toList))) S
  | _, _ => .bad
section
variable {X : Cx} {K : PySem.W.Frag} {E : XK}
theorem f_eq : OpF K E (rEqD K) oEq := by
  intro L H S x y d1 d2 Q rep r1 r2 q
  unfold oEq at q
  cases h1 : toP S 20 d1 with
  | none => rw [h1] at q; exact q.elim
  | some p1 =>
    cases h2 : toP S 20 d2 with
    | none => rw [h1, h2] at q; exact q.elim
    | some p2 =>
      rw [h1, h2] at q
      obtain ⟨a1, a2⟩ := toP_of rep 20 _ _ _ r1 h1
      obtain ⟨b1, b2⟩ := toP_of rep 20 _ _ _ r2 h2
      exact ⟨p1, p2, a1, b1, a2.shaped (by decide), b2.shaped (by decide), EndV.val q rep (.bl _)⟩
theorem f_ne : OpF K E (rNeD K) oNe := by
  intro L H S x y d1 d2 Q rep r1 r2 q
  unfold oNe at q
  cases h1 : toP S 20 d1 with
  | none => rw [h1] at q; exact q.elim
  | some p1 =>
    cases h2 : toP S 20 d2 with
    | none => rw [h1, h2] at q; exact q.elim
    | some p2 =>
      rw [h1, h2] at q
      obtain ⟨a1, a2⟩ := toP_of rep 20 _ _ _ r1 h1
      obtain ⟨b1, b2⟩ := toP_of rep 20 _ _ _ r2 h2
      exact ⟨p1, p2, a1, b1, a2.shaped (by decide), b2.shaped (by decide), EndV.val q rep (.bl _)⟩
theorem f_notInL : OpF K E (rNotInD K) (oInL true) := by
  intro L H S x y d1 d2 Q rep r1 r2 q
  unfold oInL at q
  cases h1 : toP S 20 d1 with
  | none => rw [h1] at q; exact q.elim
  | some p1 =>
    cases h2 : toP S 20 d2 with
    | none => rw [h1, h2] at q; exact q.elim
    | some p2 =>
      rw [h1, h2] at q
      obtain ⟨a1, a2⟩ := toP_of rep 20 _ _ _ r1 h1
      obtain ⟨b1, b2⟩ := toP_of rep 20 _ _ _ r2 h2
      cases p2 with
      | list ps => exact ⟨p1, ps, a1, b1, a2.shaped (by decide), b2.shaped (by decide), EndV.val q rep (.bl _)⟩
      | _ => exact q.elim
theorem RD.isN {K : PySem.W.Frag} {L : List Addr} {H : Hp} {v : V} {d : D} (r : RD K L H v d) : decide (v = .non) = isNonD d := by
  cases r <;> rfl
theorem f_notInS : OpF K E (fun x y H Q => ∃ (c : Nat) (z : Str), x = .str ⟨#[c]⟩ ∧ y = .str z ∧ Q (.bl (!decide (c ∈ z.cps.toList))) H) (oInS true) := by
  intro L H S x y d1 d2 Q rep r1 r2 q
  unfold oInS at q
  cases r1 with
  | str i =>
    cases r2 with
    | str z =>
      obtain ⟨⟨l⟩⟩ := i
      match l, q with
      | [c], q => exact ⟨c, z, rfl, rfl, EndV.val (d := .bl _) q rep (.bl _)⟩
      | [], q => exact q.elim
      | _ :: _ :: _, q => exact q.elim
    | _ => split at q <;> first | exact q.elim | (rename_i h1 h2; cases h2)
  | _ => exact q.elim
theorem f_leS : OpF K E (fun x y H Q => ∃ i j, x = .str i ∧ y = .str j ∧ Q (.bl (!decide (j.cps.toList < i.cps.toList))) H) oLeS := by
  intro L H S x y d1 d2 Q rep r1 r2 q
  cases r1 with
  | str i =>
    cases r2 with
    | str j => exact ⟨i, j, rfl, rfl, EndV.val (d := .bl _) q rep (.bl _)⟩
    | _ => exact q.elim
  | _ => exact q.elim
theorem f_isB : OpF K E (fun x y H Q => ∃ a b, x = .bl a ∧ y = .bl b ∧ Q (.bl (decide (a = b))) H) oIsB := by
  intro L H S x y d1 d2 Q rep r1 r2 q
  cases r1 with
  | bl i =>
    cases r2 with
    | bl j => exact ⟨i, j, rfl, rfl, EndV.val (d := .bl _) q rep (.bl _)⟩
    | _ => exact q.elim
  | _ => exact q.elim
end
end RF

namespace RF
open PySem L2

/-! ### built-in functions -/
def lenD (S : Sto) : D → Option Nat
  | .tup xs => some xs.length
  | .rl xs => some xs.length
  | .str z => if z.length ≤ 100000 then some z.length else none
  | .ref n => match S[n]? with
    | some (.lst xs) => some xs.length
    | some (.dk kvs) => some kvs.length
    | some (.dt kvs) => some kvs.length
    | _ => none
  | _ => none
def oLen : OpN := fun ds S => match ds with
  | [x] => match lenD S x with
    | some n => .ok (.int (n : Nat)) S
    | none => .bad
  | _ => .bad
def oMin2 : OpN := fun ds S => match ds with
  | [.int i, .int j] => .ok (.int (if j < i then j else i)) S
  | _ => .bad
def oMax2 : OpN := fun ds S => match ds with
  | [.int i, .int j] => .ok (.int (if j > i then j else i)) S
  | _ => .bad
def oInt : OpN := fun ds S => match ds with
  | [.int i] => .ok (.int i) S
  | [.bl k] => .ok (.int (if k = true then 1 else 0)) S
  | _ => .bad
def seqD (S : Sto) : D → Option (List D)
  | .tup xs => some xs
  | .rl xs => some xs
  | .ref n => match S[n]? with
    | some (.lst xs) => some xs
    | _ => none
  | _ => none
def oList : OpN := fun ds S => match ds with
  | [x] => match seqD S x with
    | some xs => .ok (.ref S.length) (S ++ [.lst xs])
    | none => .bad
  | _ => .bad
def oTuple : OpN := fun ds S => match ds with
  | [x] => match seqD S x with
    | some xs => .ok (.tup xs) S
    | none => .bad
  | _ => .bad
def blsD : List D → Option (List Bool)
  | [] => some []
  | .bl b :: ds => (blsD ds).map (b :: ·)
  | _ => none
def lstD (S : Sto) : D → Option (List D)
  | .rl xs => some xs
  | .ref n => match S[n]? with
    | some (.lst xs) => some xs
    | _ => none
  | _ => none
def oAll : OpN := fun ds S => match ds with
  | [x] => match lstD S x with
    | some xs => match blsD xs with
      | some bs => .ok (.bl (bs.all id)) S
      | none => .bad
    | none => .bad
  | _ => .bad
def oAny : OpN := fun ds S => match ds with
  | [x] => match lstD S x with
    | some xs => match blsD xs with
      | some bs => .ok (.bl (bs.any id)) S
      | none => .bad
    | none => .bad
  | _ => .bad
def rLenA (K : PySem.W.Frag) : List V → Hp → VK → Prop := fun xs H Q => (∃ x n, xs = [x] ∧ LenV K x H n ∧ Q (.int n) H) ∨ ((∃ a kvs, xs = [V.ref a] ∧ H a = some (.dK kvs) ∧ Q (.int kvs.length) H) ∨ rLenT xs H Q)
theorem call_lenA {X : Cx} : CallR X (.builtin "len") (rLenA X.K) := call_len.or (call_lenD.or call_len_dT)
section
variable {X : Cx} {K : PySem.W.Frag} {E : XK} {L : List Addr} {H : Hp} {S : Sto}
theorem RDs.one {xs : List V} {d : D} (r : RDs K L H xs [d]) : ∃ x, xs = [x] ∧ RD K L H x d := by
  cases r with
  | cons a b => cases b; exact ⟨_, rfl, a⟩
theorem RDs.two {xs : List V} {d e : D} (r : RDs K L H xs [d, e]) : ∃ x y, xs = [x, y] ∧ RD K L H x d ∧ RD K L H y e := by
  cases r with
  | cons a b =>
    obtain ⟨y, rfl, r2⟩ := b.one
    exact ⟨_, _, rfl, a, r2⟩
theorem f_len : CaF K E (rLenA K) oLen := by
  intro L H S xs ds Q rep rs q
  match ds, rs, q with
  | [], _, q => exact q.elim
  | _ :: _ :: _, _, q => exact q.elim
  | [d], rs, q =>
    obtain ⟨x, rfl, r⟩ := rs.one
    unfold oLen at q
    simp only at q
    cases h : lenD S d with
    | none => rw [h] at q; exact q.elim
    | some n =>
      rw [h] at q
      have fin : Q (.int (n : Nat)) H := EndV.val q rep (.int _)
      cases r with
      | tup hs rs2 => cases h; exact .inl ⟨_, _, rfl, .inr ⟨_, .of hs, rfl⟩, by rw [rs2.length]; exact fin⟩
      | rl hs rs2 => cases h; exact .inl ⟨_, _, rfl, .inl ⟨_, hs H fun _ _ z => z, rfl⟩, by rw [rs2.length]; exact fin⟩
      | str z =>
        have h : (if z.length ≤ 100000 then some z.length else none) = some n := h
        by_cases hz : z.length ≤ 100000
        · rw [if_pos hz] at h
          cases h
          exact .inl ⟨_, _, rfl, ⟨sz5 hz, rfl⟩, fin⟩
        · rw [if_neg hz] at h; cases h
      | @ref a m ha =>
        obtain ⟨c, hc, rc⟩ := rep.adr ha
        unfold lenD at h
        simp only [hc] at h
        cases c with
        | lst ys =>
          cases h
          obtain ⟨vs, hv, rv⟩ := rc
          exact .inl ⟨_, _, rfl, .inl ⟨_, .of hv, rfl⟩, by rw [rv.length]; exact fin⟩
        | dk kvs =>
          cases h
          obtain ⟨ws, hw, rk⟩ := rc
          exact .inr (.inl ⟨_, _, rfl, hw, by rw [rk.length]; exact fin⟩)
        | dt kvs =>
          cases h
          obtain ⟨ws, hw, rk⟩ := rc
          exact .inr (.inr ⟨_, _, rfl, hw, by rw [rk.length]; exact fin⟩)
        | _ => cases h
      | _ => cases h
theorem int2 {xs : List V} {i j : Int} (r : RDs K L H xs [.int i, .int j]) : xs = [.int i, .int j] := by
  obtain ⟨x, y, rfl, r1, r2⟩ := r.two
  cases r1; cases r2; rfl
theorem f_min2 : CaF K E (fun xs H Q => ∃ i j, xs = [.int i, .int j] ∧ Q (.int (if j < i then j else i)) H) oMin2 := by
  intro L H S xs ds Q rep rs q
  unfold oMin2 at q
  split at q
  · exact ⟨_, _, int2 rs, EndV.val q rep (.int _)⟩
  · exact q.elim
theorem f_max2 : CaF K E (fun xs H Q => ∃ i j, xs = [.int i, .int j] ∧ Q (.int (if j > i then j else i)) H) oMax2 := by
  intro L H S xs ds Q rep rs q
  unfold oMax2 at q
  split at q
  · exact ⟨_, _, int2 rs, EndV.val q rep (.int _)⟩
  · exact q.elim
theorem f_int : CaF K E (fun xs H Q => (∃ i, xs = [.int i] ∧ Q (.int i) H) ∨ ∃ k, xs = [.bl k] ∧ Q (.int (if k then 1 else 0)) H) oInt := by
  intro L H S xs ds Q rep rs q
  unfold oInt at q
  split at q
  · obtain ⟨x, rfl, r⟩ := rs.one
    cases r
    exact .inl ⟨_, rfl, EndV.val q rep (.int _)⟩
  · obtain ⟨x, rfl, r⟩ := rs.one
    cases r
    exact .inr ⟨_, rfl, EndV.val q rep (.int _)⟩
  · exact q.elim
theorem seqD_of {v : V} {d : D} {xs : List D} (rep : Rep K L H S) (r : RD K L H v d) (h : seqD S d = some xs) : ∃ a vs, v = .ref a ∧ RDs K L H vs xs ∧ ((SqL K H a vs ∧ d ≠ .tup xs) ∨ (H a = some (.tup vs) ∧ d = .tup xs)) := by
  cases r with
  | tup hs rs => cases h; exact ⟨_, _, rfl, rs, .inr ⟨hs, rfl⟩⟩
  | rl hs rs => cases h; exact ⟨_, _, rfl, rs, .inl ⟨hs H fun _ _ z => z, fun z => nomatch z⟩⟩
  | @ref a m ha =>
    obtain ⟨c, hc, rc⟩ := rep.adr ha
    unfold seqD at h
    simp only [hc] at h
    cases c with
    | lst ys =>
      cases h
      obtain ⟨vs, hv, rv⟩ := rc
      exact ⟨_, _, rfl, rv, .inl ⟨.of hv, fun z => nomatch z⟩⟩
    | _ => cases h
  | _ => cases h
theorem f_list : CaF K E (fun xs H Q => ∃ p ys, xs = [.ref p] ∧ (SqL K H p ys ∨ SqT K H p ys) ∧ ∀ l, H l = none → Q (.ref l) (upd H l (.lst ys))) oList := by
  intro L H S xs ds Q rep rs q
  match ds, rs, q with
  | [], _, q => exact q.elim
  | _ :: _ :: _, _, q => exact q.elim
  | [d], rs, q =>
    obtain ⟨x, rfl, r⟩ := rs.one
    unfold oList at q
    simp only at q
    cases h : seqD S d with
    | none => rw [h] at q; exact q.elim
    | some ys =>
      rw [h] at q
      obtain ⟨a, vs, rfl, rv, k⟩ := seqD_of rep r h
      refine ⟨a, vs, rfl, ?_, fun p hp => newList q rep rv p hp⟩
      rcases k with ⟨k, _⟩ | ⟨k, _⟩
      · exact .inl k
      · exact .inr (.of k)
theorem f_tuple : CaF K E (fun xs H Q => ∃ p ys, xs = [.ref p] ∧ ((SqL K H p ys ∧ ∀ l, H l = none → Q (.ref l) (upd H l (.tup ys))) ∨ (SqT K H p ys ∧ Q (.ref p) H))) oTuple := by
  intro L H S xs ds Q rep rs q
  match ds, rs, q with
  | [], _, q => exact q.elim
  | _ :: _ :: _, _, q => exact q.elim
  | [d], rs, q =>
    obtain ⟨x, rfl, r⟩ := rs.one
    unfold oTuple at q
    simp only at q
    cases h : seqD S d with
    | none => rw [h] at q; exact q.elim
    | some ys =>
      rw [h] at q
      obtain ⟨a, vs, rfl, rv, k⟩ := seqD_of rep r h
      refine ⟨a, vs, rfl, ?_⟩
      rcases k with ⟨k, _⟩ | ⟨k, _⟩
      · exact .inl ⟨k, fun p hp => EndV.val (q.later (Ex.new hp)) (rep.new hp) (.tup upd_same (rv.mono (Ex.new hp)))⟩
      · exact .inr ⟨.of k, EndV.val q rep (.tup k rv)⟩
theorem bls_of : ∀ {ds : List D} {vs : List V} {bs : List Bool}, RDs K L H vs ds → blsD ds = some bs → vs = bs.map V.bl
  | [], _, _, .nil, h => by cases h; rfl
  | .bl b :: ds, _, _, .cons a r, h => by
    obtain ⟨bs', h1, rfl⟩ := Option.map_eq_some_iff.mp (show (blsD ds).map (b :: ·) = some _ from h)
    cases a
    rw [bls_of r h1]
    rfl
  | .non :: _, _, _, _, h => by cases h
  | .int _ :: _, _, _, _, h => by cases h
  | .str _ :: _, _, _, _, h => by cases h
  | .ref _ :: _, _, _, _, h => by cases h
  | .rl _ :: _, _, _, _, h => by cases h
  | .tup _ :: _, _, _, _, h => by cases h
theorem lstD_of {v : V} {d : D} {xs : List D} (rep : Rep K L H S) (r : RD K L H v d) (h : lstD S d = some xs) : ∃ a vs, v = .ref a ∧ RDs K L H vs xs ∧ SqL K H a vs := by
  cases r with
  | rl hs rs => cases h; exact ⟨_, _, rfl, rs, hs H fun _ _ z => z⟩
  | @ref a m ha =>
    obtain ⟨c, hc, rc⟩ := rep.adr ha
    unfold lstD at h
    simp only [hc] at h
    cases c with
    | lst ys =>
      cases h
      obtain ⟨vs, hv, rv⟩ := rc
      exact ⟨_, _, rfl, rv, .of hv⟩
    | _ => cases h
  | _ => cases h
theorem f_all : CaF K E (rAll K) oAll := by
  intro L H S xs ds Q rep rs q
  match ds, rs, q with
  | [], _, q => exact q.elim
  | _ :: _ :: _, _, q => exact q.elim
  | [d], rs, q =>
    obtain ⟨x, rfl, r⟩ := rs.one
    unfold oAll at q
    simp only at q
    cases h : lstD S d with
    | none => rw [h] at q; exact q.elim
    | some ys =>
      rw [h] at q
      simp only at q
      cases h2 : blsD ys with
      | none => rw [h2] at q; exact q.elim
      | some bs =>
        rw [h2] at q
        obtain ⟨a, vs, rfl, rv, k⟩ := lstD_of rep r h
        obtain rfl := bls_of rv h2
        exact ⟨a, bs, rfl, k, EndV.val q rep (.bl _)⟩
end

/-! ### types -/
/-- the built-in type of a value -/
def tyD (S : Sto) : D → Option String
  | .non => some "NoneType"
  | .bl _ => some "bool"
  | .int _ => some "int"
  | .str _ => some "str"
  | .tup _ => some "tuple"
  | .rl _ => some "list"
  | .kt _ => none
  | .ref n => match S[n]? with
    | some (.lst _) => some "list"
    | some (.dk _) => some "dict"
    | some (.dt _) => some "dict"
    | _ => none
/-- isinstance of one of the types by which we ask -/
def isiD (t T : String) : Option Bool :=
  if T = "int" then some (decide (t = "int" ∨ t = "bool")) else if T = "bool" ∨ T = "str" ∨ T = "tuple" ∨ T = "list" ∨ T = "dict" then some (decide (t = T)) else none
def fIsi (T : String) (fa : EF) : EF := fun env S => (fa env S).bind fun x S1 => match tyD S1 x with
  | some t => match isiD t T with
    | some b => .ok (.bl b) S1
    | none => .bad
  | none => .bad
def fTyIs (T : String) (neg : Bool) (fa : EF) : EF := fun env S => (fa env S).bind fun x S1 => match tyD S1 x with
  | some t => .ok (.bl (if neg = true then !decide (t = T) else decide (t = T))) S1
  | none => .bad
section
variable {X : Cx} {K : PySem.W.Frag} {E : XK} {L : List Addr} {H : Hp} {S : Sto}
theorem tyD_of {v : V} {d : D} {t : String} (rep : Rep K L H S) (r : RD K L H v d) (h : tyD S d = some t) : TyX K H v (.type t) := by
  cases r with
  | kt hs rs => exact nomatch (show (none : Option String) = some _ from h)
  | non => cases h; exact .base .non
  | bl b => cases h; exact .base (.bl b)
  | int b => cases h; exact .base (.int b)
  | str b => cases h; exact .base (.str b)
  | tup hs rs => cases h; exact .base (.tup hs)
  | rl hs rs =>
    cases h
    rcases hs H fun _ _ z => z with (z | ⟨o, z⟩) | ⟨o, its, n, z1, z2, _⟩
    · exact .base (.lst z)
    · exact .base (.frz z)
    · exact .kList z1 z2
  | @ref a n ha =>
    obtain ⟨c, hc, rc⟩ := rep.adr ha
    unfold tyD at h
    simp only [hc] at h
    cases c with
    | lst ys =>
      cases h
      obtain ⟨vs, hv, rv⟩ := rc
      exact .base (.lst hv)
    | dk ys =>
      cases h
      obtain ⟨vs, hv, rv⟩ := rc
      exact .base (.dK hv)
    | dt ys =>
      cases h
      obtain ⟨vs, hv, rv⟩ := rc
      exact .base (.dT hv)
    | _ => cases h
theorem tyD_mem {d : D} {t : String} (h : tyD S d = some t) : t = "NoneType" ∨ t = "bool" ∨ t = "int" ∨ t = "str" ∨ t = "tuple" ∨ t = "list" ∨ t = "dict" := by
  cases d with
  | ref n =>
    unfold tyD at h
    simp only at h
    split at h <;> cases h <;> simp
  | kt xs => exact nomatch (show (none : Option String) = some _ from h)
  | _ => cases h; simp
theorem isi_all : ∀ t ∈ ["NoneType", "bool", "int", "str", "tuple", "list", "dict"], ∀ T ∈ ["int", "bool", "str", "tuple", "list", "dict"], kitB t T = isiD t T := by decide +kernel
theorem isi_kit {t T : String} {b : Bool} (ht : t = "NoneType" ∨ t = "bool" ∨ t = "int" ∨ t = "str" ∨ t = "tuple" ∨ t = "list" ∨ t = "dict") (h : isiD t T = some b) : PySem.W.kitOne K (.type t) (.type T) = some b := by
  refine kit_ty ?_
  have hT : T ∈ ["int", "bool", "str", "tuple", "list", "dict"] := by
    unfold isiD at h
    by_cases h1 : T = "int"
    · rw [h1]; simp
    · rw [if_neg h1] at h
      by_cases h2 : T = "bool" ∨ T = "str" ∨ T = "tuple" ∨ T = "list" ∨ T = "dict"
      · simp only [List.mem_cons, List.not_mem_nil, or_false]
        exact .inr h2
      · rw [if_neg h2] at h; cases h
  rw [isi_all t (by simpa using ht) T hT]
  exact h
theorem xIsi {e : Expr} {fa : EF} {T : String} {x : Str} {p q pos : Pos} (he : PE X e (tE X.K E fa)) (hT : bootBuiltins x = some (.type T)) (hgT : Gl X x) (hmT : X.mg x = none) (hg : Gl X "isinstance") (hm : X.mg "isinstance" = none)
    (hn : x ≠ "__name__" := by decide) (hd : (x == ("__debug__" : Str)) = false := by decide)
    (s1 : starEach [e, .Name x q] X.env = (false, eval e X.env) :: starEach [.Name x q] X.env := by rfl) (s2 : starEach [.Name x q] X.env = (false, eval (.Name x q) X.env) :: starEach [] X.env := by rfl) (hpl : (backTo pos (starEach [.Name x q] X.env)).any (·.1) = false := by rfl) :
    PE X (.Call (.Name "isinstance" p) [e, .Name x q] [] pos) (tE X.K E (fIsi T fa)) :=
  monoE (pe_callB call_isi hg hm (by decide +kernel) (pa_cons he (pa_cons (pe_bltn (v := .ty T) hgT hmT hT rfl hn hd) pa_nil s2) s1) (he := s1) (hpl := hpl)) fun σ H Q h => by
    obtain ⟨L, env, S, rep, re, h⟩ := h
    refine ⟨L, env, S, rep, re, (End.bind h).imp fun x S1 L1 H1 e1 rep1 h1 v rv => ?_⟩
    cases h2 : tyD S1 x with
    | none => rw [h2] at h1; exact h1.elim
    | some t =>
      rw [h2] at h1
      simp only at h1
      cases h3 : isiD t T with
      | none => rw [h3] at h1; exact h1.elim
      | some b =>
        rw [h3] at h1
        exact ⟨v, .ty T, _, _, b, rfl, .ty T, tyD_of rep1 rv h2, isi_kit (tyD_mem h2) h3, EndV.val h1 rep1 (.bl b)⟩
def rTyX (K : PySem.W.Frag) : List V → Hp → VK → Prop := fun xs H Q => (rTyp K xs H Q) ∨ ∃ a kvs, xs = [.ref a] ∧ H a = some (.dT kvs) ∧ Q (.ty "dict") H
theorem call_typeX : CallR X (.type "type") (rTyX X.K) := by
  refine call_type1.or ?_
  intro pins s σ H xs us Q I r h
  obtain ⟨a, kvs, rfl, ha, q⟩ := h
  obtain ⟨u, rfl, rx⟩ := vals1 r
  cases (show u = Value.ref a from rx)
  obtain ⟨_, _, xs, _, o, es, ep, h1, h2, _⟩ := (show ObjOk X.prog X.w H s.heap a (.dT kvs) from I.hok a _ ha)
  exact PySem.call_type_of (Tx := "dict") ⟨o, h1, h2.1⟩ (by decide +kernel) ⟨.ty "dict", H, I, rfl, q⟩
theorem type_of {v : V} {d : D} {t : String} {Q : VK} (rep : Rep K L H S) (r : RD K L H v d) (h : tyD S d = some t) (q : Q (.ty t) H) : rTyX K [v] H Q := by
  cases r with
  | kt hs rs => exact nomatch (show (none : Option String) = some _ from h)
  | non => cases h; exact .inl ⟨_, _, rfl, .non, q⟩
  | bl b => cases h; exact .inl ⟨_, _, rfl, .bl b, q⟩
  | int b => cases h; exact .inl ⟨_, _, rfl, .int b, q⟩
  | str b => cases h; exact .inl ⟨_, _, rfl, .str b, q⟩
  | tup hs rs => cases h; exact .inl ⟨_, _, rfl, .tup (.of hs), q⟩
  | rl hs rs => cases h; exact .inl ⟨_, _, rfl, .lst (hs H fun _ _ z => z), q⟩
  | @ref a n ha =>
    obtain ⟨c, hc, rc⟩ := rep.adr ha
    unfold tyD at h
    simp only [hc] at h
    cases c with
    | lst ys =>
      cases h
      obtain ⟨vs, hv, rv⟩ := rc
      exact .inl ⟨_, _, rfl, .lst (.of hv), q⟩
    | dk ys =>
      cases h
      obtain ⟨vs, hv, rv⟩ := rc
      exact .inl ⟨_, _, rfl, .dK hv, q⟩
    | dt ys =>
      cases h
      obtain ⟨vs, hv, rv⟩ := rc
      exact .inr ⟨_, _, rfl, hv, q⟩
    | _ => cases h
/-- type(e) is T -/
theorem xTyIs {e : Expr} {fa : EF} {T : String} {x : Str} {p q pos pos' : Pos} (he : PE X e (tE X.K E fa)) (hT : bootBuiltins x = some (.type T)) (hgT : Gl X x) (hmT : X.mg x = none) (hg : Gl X "type") (hm : X.mg "type" = none)
    (hn : x ≠ "__name__" := by decide) (hd : (x == ("__debug__" : Str)) = false := by decide)
    (s1 : starEach [e] X.env = (false, eval e X.env) :: starEach [] X.env := by rfl) :
    PE X (.Compare (.Call (.Name "type" p) [e] [] pos) [.Is] [.Name x q] pos') (tE X.K E (fTyIs T false fa)) :=
  monoE (pe_cmpR op_isTyB (pe_callTy call_typeX hg hm (by decide +kernel) (pa_cons he pa_nil s1) (he := s1)) (pe_bltn (v := .ty T) hgT hmT hT rfl hn hd) (nomark _)) fun σ H Q h => by
    obtain ⟨L, env, S, rep, re, h⟩ := h
    refine ⟨L, env, S, rep, re, (End.bind h).imp fun x S1 L1 H1 e1 rep1 h1 v rv => ?_⟩
    cases h2 : tyD S1 x with
    | none => rw [h2] at h1; exact h1.elim
    | some t =>
      rw [h2] at h1
      exact type_of rep1 rv h2 ⟨t, T, rfl, rfl, EndV.val h1 rep1 (.bl _)⟩
end

/-! ### slices -/
abbrev PF := Lc → Sto → R (Option Int)
def pNo : PF := fun _ S => .ok none S
def pSo (fa : EF) : PF := fun env S => (fa env S).bind fun x S1 => match x with
  | .int i => .ok (some i) S1
  | _ => .bad
def cutD {α : Type} (xs : List α) (lo hi : Option Int) : List α := (xs.drop (HT.sIx xs.length 0 lo)).take (HT.sIx xs.length xs.length hi - HT.sIx xs.length 0 lo)
def oSl (x : D) (lo hi : Option Int) (S : Sto) : R D := match x with
  | .tup xs => .ok (.tup (cutD xs lo hi)) S
  | .str z => if z.length ≤ 100000 then .ok (.str ⟨(cutD z.cps.toList lo hi).toArray⟩) S else .bad
  | .rl xs => .ok (.ref S.length) (S ++ [.lst (cutD xs lo hi)])
  | .ref n => match S[n]? with
    | some (.lst xs) => .ok (.ref S.length) (S ++ [.lst (cutD xs lo hi)])
    | _ => .bad
  | _ => .bad
def fSl (fa : EF) (pl ph : PF) : EF := fun env S => (fa env S).bind fun x S1 => (pl env S1).bind fun l S2 => (ph env S2).bind fun h S3 => oSl x l h S3
def tP (K : PySem.W.Frag) (E : XK) (f : PF) : TO := fun σ H Q => ∃ L env S, Rep K L H S ∧ RE K L H σ env ∧ End K E L H (fun o _ _ H1 => Q o H1) (f env S)
def rSlA' (K : PySem.W.Frag) : V → Option Int → Option Int → Hp → VK → Prop := fun x lo hi H Q => (rSlA K x lo hi H Q ∨ rSlS x lo hi H Q) ∨ rSlL K x lo hi H Q
section
variable {X : Cx} {K : PySem.W.Frag} {E : XK} {L : List Addr} {H : Hp} {S : Sto}
theorem xPNo : PO X none (tP X.K E pNo) := ⟨fun pins s σ H Q I ⟨L, env, S, rep, re, h⟩ => po_none.run pins s σ H Q I (h L H (Ex.refl _ _) rep)⟩
theorem xPSo {e : Expr} {fa : EF} (he : PE X e (tE X.K E fa)) : PO X (some e) (tP X.K E (pSo fa)) := ⟨fun pins s σ H Q I ⟨L, env, S, rep, re, h⟩ => (po_some he).run pins s σ H Q I ⟨L, env, S, rep, re, (End.bind h).imp fun x S1 L1 H1 e1 rep1 h1 v rv => by
  cases rv with
  | int i => exact ⟨i, rfl, h1 L1 H1 (Ex.refl _ _) rep1⟩
  | _ => exact h1.elim⟩⟩
theorem cut_rd {vs : List V} {ds : List D} {lo hi : Option Int} (r : RDs K L H vs ds) : RDs K L H (cutV vs lo hi) (cutD ds lo hi) := by
  unfold cutV cutD
  rw [r.length]
  exact (r.drop _).take _
theorem cut_all {ds : List D} {lo hi : Option Int} (h1 : HT.sIx ds.length 0 lo = 0) (h2 : HT.sIx ds.length ds.length hi = ds.length) : cutD ds lo hi = ds := by
  unfold cutD
  rw [h1, h2]
  simp
theorem slF {x : V} {d : D} {lo hi : Option Int} {Q : VK} (rep : Rep K L H S) (r : RD K L H x d) (q : EndV K E L H Q (oSl d lo hi S)) : rSlA' K x lo hi H Q := by
  cases r with
  | @tup a vs ds hs rs =>
    refine .inl (.inl ⟨a, vs, rfl, .of hs, fun ⟨h1, h2⟩ => ?_, fun _ p hp => ?_⟩)
    · rw [rs.length] at h1 h2
      have q : EndV K E L H Q (.ok (.tup (cutD ds lo hi)) S) := q
      rw [cut_all h1 h2] at q
      exact EndV.val q rep (.tup hs rs)
    · have q : EndV K E L H Q (.ok (.tup (cutD ds lo hi)) S) := q
      exact EndV.val (q.later (Ex.new hp)) (rep.new hp) (.tup upd_same ((cut_rd rs).mono (Ex.new hp)))
  | str z =>
    have q : EndV K E L H Q (if z.length ≤ 100000 then .ok (.str ⟨(cutD z.cps.toList lo hi).toArray⟩) S else .bad) := q
    by_cases hz : z.length ≤ 100000
    · rw [if_pos hz] at q
      exact .inl (.inr ⟨z, rfl, sz5 hz, EndV.val (d := .str (cutS z lo hi)) (by
        have e : (⟨(cutD z.cps.toList lo hi).toArray⟩ : Str) = cutS z lo hi := by
          unfold cutD cutS
          rw [show z.cps.toList.length = z.length from by simp [Str.length]]
        rw [← e]; exact q) rep (.str _)⟩)
    · rw [if_neg hz] at q; exact q.elim
  | @rl a vs ds hs rs =>
    exact .inr ⟨a, vs, rfl, hs H fun _ _ z => z, fun p hp => newList q rep (cut_rd rs) p hp⟩
  | @ref a n ha =>
    obtain ⟨c, hc, rc⟩ := rep.adr ha
    unfold oSl at q
    simp only [hc] at q
    cases c with
    | lst ys =>
      obtain ⟨vs, hv, rv⟩ := rc
      exact .inr ⟨a, vs, rfl, .of hv, fun p hp => newList q rep (cut_rd rv) p hp⟩
    | _ => exact q.elim
  | _ => exact q.elim
theorem xSl {e : Expr} {lo hi : Option Expr} {fa : EF} {pl ph : PF} {p2 pos : Pos} (he : PE X e (tE X.K E fa)) (hl : PO X lo (tP X.K E pl)) (hh : PO X hi (tP X.K E ph)) : PE X (.Subscript e (.Slice lo hi none p2) pos) (tE X.K E (fSl fa pl ph)) :=
  monoE (pe_slice (r := rSlA' X.K) ((sl_tupA.or sl_str).or sl_list) he hl hh) fun σ H Q h => by
    obtain ⟨L, env, S, rep, re, h⟩ := h
    refine ⟨L, env, S, rep, re, (End.bind h).imp fun x S1 L1 H1 e1 rep1 h1 v rv => ?_⟩
    refine ⟨L1, env, S1, rep1, re.mono e1, (End.bind h1).imp fun l S2 L2 H2 e2 rep2 h2 => ?_⟩
    refine ⟨L2, env, S2, rep2, (re.mono e1).mono e2, (End.bind h2).imp fun h S3 L3 H3 e3 rep3 h3 => ?_⟩
    exact slF rep3 ((rv.mono e2).mono e3) h3
end

/-! ### methods of lists, texts, dicts -/
def tyIn (T : String) (S : Sto) : D → Bool
  | .str _ => decide (T = "str")
  | .rl _ => decide (T = "list")
  | .ref n => match S[n]? with
    | some (.lst _) => decide (T = "list")
    | some (.dk _) => decide (T = "dict")
    | some (.dt _) => decide (T = "dict")
    | _ => false
  | _ => false
abbrev OpM := D → List D → Sto → R D
def fBm (T : String) (o : OpM) (fo : EF) (fs : AF) : EF := fun env S => (fo env S).bind fun x S1 => if tyIn T S1 x = true then (fs env S1).bind fun ds S2 => o x ds S2 else .bad
def fBm0 (T : String) (o : OpM) (fo : EF) : EF := fun env S => (fo env S).bind fun x S1 => if tyIn T S1 x = true then o x [] S1 else .bad
section
variable {X : Cx} {K : PySem.W.Frag} {E : XK} {L : List Addr} {H : Hp} {S : Sto} {T : String}
theorem tyIn_of {v : V} {d : D} (rep : Rep K L H S) (r : RD K L H v d) (h : tyIn T S d = true) : tyV K T v H := by
  cases r with
  | str z =>
    have h : decide (T = "str") = true := h
    show T = "str"
    exact of_decide_eq_true h
  | rl hs rs => exact .inl ⟨of_decide_eq_true h, _, hs H fun _ _ z => z⟩
  | @ref a n ha =>
    obtain ⟨c, hc, rc⟩ := rep.adr ha
    unfold tyIn at h
    simp only [hc] at h
    cases c with
    | lst ys =>
      obtain ⟨vs, hv, rv⟩ := rc
      exact .inl ⟨of_decide_eq_true h, vs, .of hv⟩
    | dk ys =>
      obtain ⟨vs, hv, rv⟩ := rc
      exact .inr (.inr (.inl ⟨of_decide_eq_true h, .inl ⟨_, hv⟩⟩))
    | dt ys =>
      obtain ⟨vs, hv, rv⟩ := rc
      exact .inr (.inr (.inl ⟨of_decide_eq_true h, .inr ⟨_, hv⟩⟩))
    | _ => cases h
  | _ => cases h
theorem xBm {o e : Expr} {es : List Expr} {name : Str} {id : String} {r : V → List V → Hp → VK → Prop} {om : OpM} {fo : EF} {fs : AF} {apos cpos : Pos} (pa : PlainAttrs T) (slot : Slot T name id) (hty : typeOf (.builtin id) = pure (.type "method_descriptor")) (hm : MtR X id r) (hf : MtF X.K E r om)
    (ho : PE X o (tE X.K E fo)) (ha : PA X (e :: es) (tA X.K E fs))
    (hbase : attributeBase o name X.env (eval o X.env) = eval o X.env := by rfl)
    (hfew : ((backTo cpos (starEach (e :: es) X.env)).all (fun x => !x.1) && (backToKw cpos (keywordEach [] X.env)).all (fun x => x.1.isSome)
      && decide ((e :: es).length + ([] : List Keyword).length + (if ([] : List Keyword).isEmpty then 0 else 1) < 30)) = true := by rfl)
    (hline : (apos.endLine == cpos.line) = true := by rfl) (hs : starEach (e :: es) X.env = (false, eval e X.env) :: starEach es X.env := by rfl) (hplain : (backTo cpos (starEach es X.env)).any (·.1) = false := by rfl) :
    PE X (.Call (.Attribute o name apos) (e :: es) [] cpos) (tE X.K E (fBm T om fo fs)) :=
  monoE (pe_bm pa slot hty hm ho ha hbase hfew hline hs hplain) fun σ H Q h => by
    obtain ⟨L, env, S, rep, re, h⟩ := h
    refine ⟨L, env, S, rep, re, (End.bind h).imp fun x S1 L1 H1 e1 rep1 h1 v rv => ?_⟩
    by_cases ht : tyIn T S1 x = true
    · rw [if_pos ht] at h1
      exact ⟨tyIn_of rep1 rv ht, L1, env, S1, rep1, re.mono e1, (End.bind h1).imp fun xs S2 L2 H2 e2 rep2 h2 vs rvs => hf L2 H2 S2 _ _ _ _ _ rep2 (rv.mono e2) rvs h2⟩
    · rw [if_neg ht] at h1; exact h1.elim
def mAppend : OpM := fun x ds S => match x, ds with
  | .ref n, [d] => match S[n]? with
    | some (.lst xs) => if xs.length < 100000 then .ok .non (S.set n (.lst (xs ++ [d]))) else .bad
    | _ => .bad
  | _, _ => .bad
theorem f_append : MtF K E rAppend mAppend := by
  intro L H S x xs d ds Q rep r rs q
  unfold mAppend at q
  split at q
  · rename_i n y
    cases r with
    | @ref a _ ha =>
      obtain ⟨w, rfl, rw'⟩ := rs.one
      obtain ⟨c, hc, rc⟩ := rep.adr ha
      simp only [hc] at q
      cases c with
      | lst ys =>
        simp only at q
        obtain ⟨vs, hv, rv⟩ := rc
        by_cases hl : ys.length < 100000
        · rw [if_pos hl] at q
          have gr : Gr L H L (upd H a (.lst (vs ++ [w]))) := Gr.wr rep ha
          obtain ⟨ex, rep2⟩ := rep.write (o := .lst (vs ++ [w])) (c := .lst (ys ++ [y])) ha ⟨_, upd_same, (rv.append (.cons rw' .nil)).grow gr⟩
          exact ⟨a, vs, w, rfl, rfl, hv, by rw [rv.length]; exact sz5l hl, q L _ ex rep2 _ .non⟩
        · rw [if_neg hl] at q; exact q.elim
      | _ => exact q.elim
  · exact q.elim
def strsD : List D → Option (List Str)
  | [] => some []
  | .str b :: ds => (strsD ds).map (b :: ·)
  | _ => none
def mJoin : OpM := fun x ds S => match x, ds with
  | .str a, [y] => match seqD S y with
    | some xs => match strsD xs with
      | some ys => if (ys.map (·.length)).sum + ys.length * a.length ≤ 100000 then .ok (.str (Txt.join a ys)) S else .bad
      | none => .bad
    | none => .bad
  | _, _ => .bad
theorem strs_of : ∀ {ds : List D} {vs : List V} {bs : List Str}, RDs K L H vs ds → strsD ds = some bs → vs = bs.map V.str
  | [], _, _, .nil, h => by cases h; rfl
  | .str b :: ds, _, _, .cons a r, h => by
    obtain ⟨bs', h1, rfl⟩ := Option.map_eq_some_iff.mp (show (strsD ds).map (b :: ·) = some _ from h)
    cases a
    rw [strs_of r h1]
    rfl
  | .non :: _, _, _, _, h => by cases h
  | .int _ :: _, _, _, _, h => by cases h
  | .bl _ :: _, _, _, _, h => by cases h
  | .ref _ :: _, _, _, _, h => by cases h
  | .rl _ :: _, _, _, _, h => by cases h
  | .tup _ :: _, _, _, _, h => by cases h
theorem f_join : MtF K E (fun x xs H Q => ∃ a p, ∃ ys : List Str, x = .str a ∧ xs = [.ref p] ∧ (SqL K H p (ys.map V.str) ∨ SqT K H p (ys.map V.str)) ∧ (ys.map (·.length)).sum + ys.length * a.length ≤ 16777216 ∧ Q (.str (Txt.join a ys)) H) mJoin := by
  intro L H S x xs d ds Q rep r rs q
  unfold mJoin at q
  split at q
  · rename_i a y
    cases r
    obtain ⟨w, rfl, rw'⟩ := rs.one
    cases h : seqD S y with
    | none => rw [h] at q; exact q.elim
    | some zs =>
      rw [h] at q
      simp only at q
      cases h2 : strsD zs with
      | none => rw [h2] at q; exact q.elim
      | some ys =>
        rw [h2] at q
        simp only at q
        obtain ⟨p, vs, rfl, rv, k⟩ := seqD_of rep rw' h
        obtain rfl := strs_of rv h2
        by_cases hl : (ys.map (·.length)).sum + ys.length * a.length ≤ 100000
        · rw [if_pos hl] at q
          refine ⟨a, p, ys, rfl, rfl, ?_, Nat.le_trans hl (by decide), EndV.val q rep (.str _)⟩
          rcases k with ⟨k, _⟩ | ⟨k, _⟩
          · exact .inl k
          · exact .inr (.of k)
        · rw [if_neg hl] at q; exact q.elim
  · exact q.elim
end
/-- a text, sign by sign -/
def sgnD (z : Str) : List D := z.cps.toList.map fun c => .str ⟨#[c]⟩
def fIterS (fa : EF) : IF := fun env S => (fa env S).bind fun x S1 => match x with
  | .str z => .ok (.fix (sgnD z)) S1
  | _ => .bad
theorem xIterS {X : Cx} {E : XK} {tg e : Expr} {fa : EF} (he : PE X e (tE X.K E fa)) : PI X tg e (tI X.K E (fIterS fa)) := by
  refine ⟨fun pins s σ H R I q => (pi_str he).run pins s σ H R I ?_⟩
  obtain ⟨L, env, S, rep, re, q⟩ := q
  refine ⟨L, env, S, rep, re, (End.bind q).imp fun x S1 L1 H1 e1 rep1 h1 v rv => ?_⟩
  cases rv with
  | str z =>
    refine ⟨z, rfl, h1 L1 H1 (Ex.refl _ _) rep1 _ fun i L2 H2 S2 e2 rep2 => ⟨fun d hd => ?_, fun hl => ?_⟩⟩
    · unfold sgnD at hd
      rw [List.getElem?_map] at hd
      obtain ⟨c, hc, rfl⟩ := Option.map_eq_some_iff.mp hd
      have hs : i < z.cps.size := by
        have := (List.getElem?_eq_some_iff.mp hc).1
        simpa using this
      refine ⟨hs, fun y H3 hy => ?_⟩
      obtain ⟨rfl, c', hc', rfl⟩ := hy
      have e : c' = c := by
        rw [← Array.getElem?_toList] at hc'
        rw [hc] at hc'
        exact (Option.some.inj hc').symm
      subst e
      exact ⟨Ex.refl _ _, rep2, .str _⟩
    · show z.cps.size ≤ i
      unfold sgnD at hl
      simpa using hl
  | _ => exact h1.elim
end RF

namespace RF
open PySem L2
theorem hu65 {A : Around} {k : Nat} (hr : Room k A) : A.units + 65 < cLine := by have := hr.un; omega
section
variable {X : Cx} {E : XK} {o e : Expr} {fo fv fa : EF} {pos pos' : Pos} {C : Addr} {f g : Str}
/-- a module's constant int -/
theorem xGlobI {x : Str} {i : Int} (hg : Gl X x) (hm : ∃ t, X.mg x = some (.int i t)) (hd : (x == ("__debug__" : Str)) = false := by decide) : PE X (.Name x pos) (tE X.K E (fC (.int i))) := by
  obtain ⟨t, h⟩ := hm
  exact xGlob (v := .int i) hg h ⟨t, rfl⟩ (fun _ _ => .int i) hd
end
/-- a, b = a tuple or a list of that length -/
def gUnp (n : Nat) (gs : GsF) : GF := fun d env S => match seqD S d with
  | some ds => if ds.length = n then gs ds env S else .bad
  | none => .bad
theorem xTyNotT {X : Cx} {E : XK} {e : Expr} {fa : EF} {T : String} {x : Str} {p q pos pos' : Pos} (he : PE X e (tE X.K E fa)) (hT : bootBuiltins x = some (.type T)) (hgT : Gl X x) (hmT : X.mg x = none) (hg : Gl X "type") (hm : X.mg "type" = none)
    (hn : x ≠ "__name__" := by decide) (hd : (x == ("__debug__" : Str)) = false := by decide)
    (s1 : starEach [e] X.env = (false, eval e X.env) :: starEach [] X.env := by rfl) :
    PT X (.Compare (.Call (.Name "type" p) [e] [] pos) [.IsNot] [.Name x q] pos') (tT X.K E (fTest (fTyIs T true fa))) :=
  monoT (pt_cmpR op_notTyB (pe_callTy call_typeX hg hm (by decide +kernel) (pa_cons he pa_nil s1) (he := s1)) (pe_bltn (v := .ty T) hgT hmT hT rfl hn hd) (nomark _)) fun σ H Q h => by
    obtain ⟨L, env, S, rep, re, h⟩ := test_of h
    refine ⟨L, env, S, rep, re, (End.bind h).imp fun x S1 L1 H1 e1 rep1 h1 v rv => ?_⟩
    cases h2 : tyD S1 x with
    | none => rw [h2] at h1; exact h1.elim
    | some t =>
      rw [h2] at h1
      exact type_of rep1 rv h2 ⟨t, T, rfl, rfl, EndV.val h1 rep1 (.bl _)⟩
/-- {} -/
def fDict0 : EF := fun _ S => .ok (.ref S.length) (S ++ [.dk []])
def fDictT0 : EF := fun _ S => .ok (.ref S.length) (S ++ [.dt []])
theorem xDict0 {X : Cx} {E : XK} {pos : Pos} : PE X (.Dict [] [] pos) (tE X.K E fDict0) :=
  monoE pe_dnewK fun σ H Q ⟨L, env, S, rep, re, h⟩ p hp => by
    have ex := Ex.newc (L := L) (o := .dK []) hp
    refine EndV.val (h.later ex) (rep.newc hp ⟨[], upd_same, trivial⟩) (.ref ?_)
    rw [← rep.len, List.getElem?_append_right (Nat.le_refl _)]
    simp
/-- the law's promise -/
def spLaw (K : PySem.W.Frag) : Sp := fun vs H Q _ => ∃ (a : Addr) (ns : List Int), vs = [.ref a] ∧ Only H ∧ SqL K H a (ns.map V.int) ∧ ns.length ≤ 63 ∧ (∀ z ∈ ns, Builtin.Int.intBits z ≤ 1048576) ∧ ∀ H1, Q (.bl true) H1
def isTrue1 : R D → Prop
  | .ok d _ => d = .bl true
  | _ => False
theorem ints_rd {K : PySem.W.Frag} {L : List Addr} {H : Hp} : ∀ ns : List Int, RDs K L H (ns.map V.int) (ns.map D.int)
  | [] => .nil
  | n :: ns => .cons (.int n) (ints_rd ns)
theorem law_sp {P : Program} {w : World} {K : PySem.W.Frag} {mg : Str → Option Value} {base : Heap} {k : Nat} {f : Addr} {fd : FuncData} {ps : List Str} {F : FF} (Fo : FnOk P w K mg base CX0 k f fd ps (spF K 1 F))
    (h : ∀ ns : List Int, ns.length ≤ 63 → (∀ z ∈ ns, Builtin.Int.intBits z ≤ 1048576) → isTrue1 (F [.rl (ns.map D.int)] [])) : FnOk P w K mg base CX0 k f fd ps (spLaw K) :=
  have key : ∀ vs H Q E, spLaw K vs H Q E → spF K 1 F vs H Q E := fun vs H Q E q => by
    obtain ⟨a, ns, rfl, hO, hS, hl, hb, k⟩ := q
    refine ⟨rfl, [], [.rl (ns.map D.int)], [], ⟨rfl, .nil, fun n a c h => by simp at h⟩, .cons (.rl (fun H1 hf => ?_) (ints_rd ns)) .nil, ?_⟩
    · rcases hS with (z | ⟨o, z⟩) | z
      · rcases hO a with z2 | ⟨o, xs, z2⟩ <;> rw [z] at z2 <;> cases z2
      · exact .inl (.inr ⟨o, hf _ _ z⟩)
      · exact .inr z
    · have t := h ns hl hb
      cases q : F [.rl (ns.map D.int)] [] with
      | ok d S =>
        rw [q] at t
        have t : d = .bl true := t
        subst t
        intro L1 H1 _ _ v rv
        cases rv
        exact k H1
      | ex c S => rw [q] at t; exact t.elim
      | bad => rw [q] at t; exact t.elim
  ⟨fun vs H Q E q => Fo.len vs H Q E (key _ _ _ _ q), fun A outer s H args us vs Q E hr he hb hv q => Fo.run A outer s H args us vs Q E hr he hb hv (key _ _ _ _ q)⟩
end RF

/-! running the functions by rewriting -/
namespace RF
open PySem L2

section
variable {α : Type} {i n m : Nat} {env : Lc} {S : Sto} {d x y z : D} {ds xs : List D} {f g fa fb fc fo : EF} {fs : AF} {ft fu : BF} {sf sg : SF} {gf : GF} {gs : GsF} {o o' : Op2} {u : Op1} {b : Bool} {C : Addr} {nm : Str} {F : FF} {dds : List D} {fi : IF} {e : Lc} {fl : Fl}
def varK : Option (Option D) → Sto → R D
  | some (some d), S => .ok d S
  | _, _ => .bad
theorem ap_fVar : fVar i env S = varK env[i]? S := by
  unfold fVar varK
  cases env[i]? with
  | none => rfl
  | some o => cases o <;> rfl
theorem varK_some : varK (some (some d)) S = .ok d S := (rfl)
theorem ap_fC : fC d env S = .ok d S := (rfl)
def binK (o : Op2) (fb : EF) (env : Lc) : D → Sto → R D := fun x S1 => (fb env S1).bind fun y S2 => o x y S2
theorem ap_fBin : fBin o fa fb env S = (fa env S).bind (binK o fb env) := (rfl)
theorem ap_binK : binK o fb env x S = (fb env S).bind (o x) := (rfl)
theorem ap_fUn : fUn u fa env S = (fa env S).bind u := (rfl)
theorem ap_fApp {oN : OpN} : fApp oN fs env S = (fs env S).bind oN := (rfl)
theorem ap_fNil : fNil env S = .ok [] S := (rfl)
def consK (fs : AF) (env : Lc) : D → Sto → R (List D) := fun x S1 => (fs env S1).bind fun xs S2 => .ok (x :: xs) S2
def consK2 (x : D) : List D → Sto → R (List D) := fun xs S2 => .ok (x :: xs) S2
theorem ap_fCons : fCons fa fs env S = (fa env S).bind (consK fs env) := (rfl)
theorem ap_consK : consK fs env x S = (fs env S).bind (consK2 x) := (rfl)
theorem ap_consK2 : consK2 x xs S = .ok (x :: xs) S := (rfl)
def tupK : List D → Sto → R D := fun xs S1 => if xs.length ≤ 100000 then .ok (.tup xs) S1 else .bad
def lstK : List D → Sto → R D := fun xs S1 => if xs.length ≤ 100000 then .ok (.ref S1.length) (S1 ++ [.lst xs]) else .bad
theorem ap_fTup : fTup fs env S = (fs env S).bind tupK := (rfl)
theorem ap_fLst : fLst fs env S = (fs env S).bind lstK := (rfl)
theorem ap_tupK : tupK xs S = if xs.length ≤ 100000 then .ok (.tup xs) S else .bad := (rfl)
theorem ap_lstK : lstK xs S = if xs.length ≤ 100000 then .ok (.ref S.length) (S ++ [.lst xs]) else .bad := (rfl)
def testK : D → Sto → R Bool := fun x S1 => match x with | .bl b => .ok b S1 | _ => .bad
theorem ap_fTest : fTest fa env S = (fa env S).bind testK := (rfl)
theorem ap_testK : testK (.bl b) S = .ok b S := (rfl)
def valK' : Bool → Sto → R D := fun b S1 => .ok (.bl b) S1
def andK (g : BF) (env : Lc) : Bool → Sto → R Bool := fun b S1 => if b = true then g env S1 else .ok false S1
def orK (g : BF) (env : Lc) : Bool → Sto → R Bool := fun b S1 => if b = true then .ok true S1 else g env S1
def notK : Bool → Sto → R Bool := fun b S1 => .ok (!b) S1
theorem ap_fAnd : fAnd ft fu env S = (ft env S).bind (andK fu env) := (rfl)
theorem ap_fOr : fOr ft fu env S = (ft env S).bind (orK fu env) := (rfl)
theorem ap_fNot : fNot ft env S = (ft env S).bind notK := (rfl)
theorem ap_andK : andK fu env b S = if b = true then fu env S else .ok false S := (rfl)
theorem ap_orK : orK fu env b S = if b = true then .ok true S else fu env S := (rfl)
theorem ap_notK : notK b S = .ok (!b) S := (rfl)
def andVK (g : EF) (env : Lc) : D → Sto → R D := fun x S1 => match x with | .bl b => (if b = true then g env S1 else .ok (.bl false) S1) | _ => .bad
def orVK (g : EF) (env : Lc) : D → Sto → R D := fun x S1 => match x with | .bl b => (if b = true then .ok (.bl true) S1 else g env S1) | _ => .bad
def notVK : D → Sto → R D := fun x S1 => match x with | .bl b => .ok (.bl (!b)) S1 | _ => .bad
theorem ap_fAndV : fAndV fa fb env S = (fa env S).bind (andVK fb env) := (rfl)
theorem ap_fNotV : fNotV fa env S = (fa env S).bind notVK := (rfl)
theorem ap_andVK : andVK fb env (.bl b) S = if b = true then fb env S else .ok (.bl false) S := (rfl)
theorem ap_notVK : notVK (.bl b) S = .ok (.bl (!b)) S := (rfl)
def ifEK (f g : EF) (env : Lc) : Bool → Sto → R D := fun b S1 => if b = true then f env S1 else g env S1
def chK1 (o o' : Op2) (fb fc : EF) (env : Lc) : D → Sto → R D := fun x S1 => (fb env S1).bind fun y S2 => (o x y S2).bind fun z S3 => match z with
  | .bl b => if b = true then (fc env S3).bind fun w S4 => o' y w S4 else .ok (.bl false) S3
  | _ => .bad
def chK2 (o o' : Op2) (fc : EF) (env : Lc) (x : D) : D → Sto → R D := fun y S2 => (o x y S2).bind fun z S3 => match z with
  | .bl b => if b = true then (fc env S3).bind fun w S4 => o' y w S4 else .ok (.bl false) S3
  | _ => .bad
def chK3 (o' : Op2) (fc : EF) (env : Lc) (y : D) : D → Sto → R D := fun z S3 => match z with
  | .bl b => if b = true then (fc env S3).bind fun w S4 => o' y w S4 else .ok (.bl false) S3
  | _ => .bad
theorem ap_fChain : fChain o o' fa fb fc env S = (fa env S).bind (chK1 o o' fb fc env) := (rfl)
theorem ap_chK1 : chK1 o o' fb fc env x S = (fb env S).bind (chK2 o o' fc env x) := (rfl)
theorem ap_chK2 : chK2 o o' fc env x y S = (o x y S).bind (chK3 o' fc env y) := (rfl)
theorem ap_chK3 : chK3 o' fc env y (.bl b) S = if b = true then (fc env S).bind (o' y) else .ok (.bl false) S := (rfl)

/-! statements -/
theorem ap_fSkip : fSkip env S = .ok (.nx env) S := (rfl)
def seqK (g : SF) : Fl → Sto → R Fl := fun fl S1 => match fl with | .nx e => g e S1 | .rt d => .ok (.rt d) S1 | .bk e => .ok (.bk e) S1 | .ct e => .ok (.ct e) S1
theorem ap_fSeq : fSeq sf sg env S = (sf env S).bind (seqK sg) := (rfl)
theorem ap_seqK_nx : seqK sg (.nx e) S = sg e S := (rfl)
theorem ap_seqK_rt : seqK sg (.rt d) S = .ok (.rt d) S := (rfl)
def ifK (f g : SF) (env : Lc) : Bool → Sto → R Fl := fun b S1 => if b = true then f env S1 else g env S1
theorem ap_fIf : fIf ft sf sg env S = (ft env S).bind (ifK sf sg env) := (rfl)
theorem ap_ifK : ifK sf sg env b S = if b = true then sf env S else sg env S := (rfl)
def retK : D → Sto → R Fl := fun d S1 => .ok (.rt d) S1
theorem ap_fRet : fRet fa env S = (fa env S).bind retK := (rfl)
theorem ap_retK : retK d S = .ok (.rt d) S := (rfl)
def dropK' (env : Lc) : D → Sto → R Fl := fun _ S1 => .ok (.nx env) S1
theorem ap_fDrop : fDrop fa env S = (fa env S).bind (dropK' env) := (rfl)
theorem ap_dropK : dropK' env d S = .ok (.nx env) S := (rfl)
def asgK (g : GF) (env : Lc) : D → Sto → R Fl := fun d S1 => (g d env S1).bind fun env1 S2 => .ok (.nx env1) S2
def asgK2 : Lc → Sto → R Fl := fun env1 S2 => .ok (.nx env1) S2
theorem ap_fAsg : fAsg fa gf env S = (fa env S).bind (asgK gf env) := (rfl)
theorem ap_asgK : asgK gf env d S = (gf d env S).bind asgK2 := (rfl)
theorem ap_asgK2 : asgK2 env S = .ok (.nx env) S := (rfl)
theorem ap_gN : gN i d env S = .ok (env.set i (some d)) S := (rfl)
def gsK (gs : GsF) (r : List D) : Lc → Sto → R Lc := fun env1 S1 => gs r env1 S1
def unpK (n : Nat) (gs : GsF) (env : Lc) : Option (List D) → Sto → R Lc
  | some ds, S => if ds.length = n then gs ds env S else .bad
  | none, _ => .bad
def subK1 (fi : EF) (d : D) (env : Lc) : D → Sto → R Lc := fun x S1 => (fi env S1).bind fun y S2 => (oSet x y d S2).bind fun _ S3 => .ok env S3
def subK2 (x d : D) (env : Lc) : D → Sto → R Lc := fun y S2 => (oSet x y d S2).bind fun _ S3 => .ok env S3
def subK3 (env : Lc) : Unit → Sto → R Lc := fun _ S3 => .ok env S3
theorem ap_gSub : gSub' fo fa d env S = (fo env S).bind (subK1 fa d env) := (rfl)
theorem ap_subK1 : subK1 fa d env x S = (fa env S).bind (subK2 x d env) := (rfl)
theorem ap_subK2 : subK2 x d env y S = (oSet x y d S).bind (subK3 env) := (rfl)
theorem ap_subK3 {u : Unit} : subK3 env u S = .ok env S := (rfl)

/-! subscripts -/
def ixK (fb : EF) (env : Lc) : D → Sto → R D := fun x S1 => if isDict S1 x = true then (fb env S1).bind fun y S2 => oGetD x y S2 else (fb env S1).bind fun y S2 => oGetL x y S2
theorem ap_fIx : fIx fa fb env S = (fa env S).bind (ixK fb env) := (rfl)
theorem ap_ixK : ixK fb env x S = if isDict S x = true then (fb env S).bind (oGetD x) else (fb env S).bind (oGetL x) := (rfl)
def isDictC : Option Cell → Bool
  | some (.dk _) => true
  | some (.dt _) => true
  | _ => false
theorem isDict_ref : isDict S (.ref n) = isDictC S[n]? := by unfold isDict isDictC; rfl
theorem isDict_tup : isDict S (.tup xs) = false := (rfl)
theorem isDict_rl : isDict S (.rl xs) = false := (rfl)
theorem isDict_str {t : Str} : isDict S (.str t) = false := (rfl)
theorem isDictC_lst : isDictC (some (.lst xs)) = false := (rfl)
theorem getL_tup {j : Int} : oGetL (.tup xs) (.int j) S = retO S (atI xs j) := (rfl)
theorem getL_rl {j : Int} : oGetL (.rl xs) (.int j) S = retO S (atI xs j) := (rfl)
theorem getL_str {t : Str} {j : Int} : oGetL (.str t) (.int j) S = if t.length ≤ 100000 then retO S ((atI t.cps.toList j).map fun c => .str ⟨#[c]⟩) else .bad := (rfl)
def getLC (S : Sto) (j : Int) : Option Cell → R D
  | some (.lst xs) => retO S (atI xs j)
  | _ => .bad
theorem getL_ref {j : Int} : oGetL (.ref n) (.int j) S = getLC S j S[n]? := by unfold oGetL getLC; rfl
theorem getLC_lst {j : Int} : getLC S j (some (.lst xs)) = retO S (atI xs j) := (rfl)
theorem retO_some : retO S (some d) = .ok d S := (rfl)
theorem atI_0 {a : α} {l : List α} : atI (a :: l) 0 = some a := by
  have h := L2.atI_nat (xs := a :: l) (j := 0) (v := a) rfl
  exact h
theorem atI_1 {a b : α} {l : List α} : atI (a :: b :: l) 1 = some b := by
  have h := L2.atI_nat (xs := a :: b :: l) (j := 1) (v := b) rfl
  exact h
theorem atI_2 {a b c : α} {l : List α} : atI (a :: b :: c :: l) 2 = some c := by
  have h := L2.atI_nat (xs := a :: b :: c :: l) (j := 2) (v := c) rfl
  exact h
theorem atI_3 {a b c d : α} {l : List α} : atI (a :: b :: c :: d :: l) 3 = some d := by
  have h := L2.atI_nat (xs := a :: b :: c :: d :: l) (j := 3) (v := d) rfl
  exact h
theorem atI_nn {l : List α} {j : Int} (h0 : 0 ≤ j) : atI l j = l[j.toNat]? := by
  unfold atI ixN
  by_cases h : j < l.length
  · simp [h0, h]
  · simp [h0, h]
def setC (S : Sto) (n : Nat) (y d : D) : Option Cell → R Unit
  | some (.lst xs) => match y with
      | .int i => match ixN xs.length i with
        | some j => .ok () (S.set n (.lst (xs.set j d)))
        | none => .bad
      | _ => .bad
  | some (.dk kvs) => match keyD y with
      | some k => if kvs.length < 100000 then .ok () (S.set n (.dk (putKD kvs k d))) else .bad
      | none => .bad
  | some (.dt kvs) => match keysD y with
      | some k => if kvs.length < 100000 then .ok () (S.set n (.dt (putKD kvs k d))) else .bad
      | none => .bad
  | _ => .bad
theorem oSet_ref : oSet (.ref n) y d S = setC S n y d S[n]? := by unfold oSet setC; rfl
def setLK (S : Sto) (n : Nat) (xs : List D) (d : D) : Option Nat → R Unit
  | some j => .ok () (S.set n (.lst (xs.set j d)))
  | none => .bad
theorem setC_lst {j : Int} : setC S n (.int j) d (some (.lst xs)) = setLK S n xs d (ixN xs.length j) := by unfold setC setLK; rfl
theorem setLK_some {j : Nat} : setLK S n xs d (some j) = .ok () (S.set n (.lst (xs.set j d))) := (rfl)
theorem ixN_0 {k : Nat} : ixN (k + 1) 0 = some 0 := by unfold ixN; simp
theorem ixN_1 {k : Nat} : ixN (k + 2) 1 = some 1 := by unfold ixN; simp; omega

/-! calls -/
def callK (F : FF) (n : Nat) (dds : List D) : List D → Sto → R D := fun ds S1 => if ds.length + dds.length = n then (F (ds ++ dds) S1).nox else .bad
theorem ap_fCall : fCall F n dds fs env S = (fs env S).bind (callK F n dds) := (rfl)
theorem ap_callK : callK F n dds ds S = if ds.length + dds.length = n then (F (ds ++ dds) S).nox else .bad := (rfl)
def fnK : Fl → Sto → R D := fun fl S1 => match fl with
  | .nx _ => .ok .non S1
  | .rt d => .ok d S1
  | _ => .bad
theorem ap_fnF : fnF m sf ds S = (sf (ds.map some ++ List.replicate (m - ds.length) none) S).bind fnK := (rfl)
theorem ap_fnK_rt : fnK (.rt d) S = .ok d S := (rfl)
end

/-! operators -/
section
variable {i j : Int} {S : Sto} {x y d : D} {b c : Bool} {xs ys ds : List D} {n m : Nat}
theorem o_add : oAdd (.int i) (.int j) S = .ok (.int (i + j)) S := (rfl)
def addC (S : Sto) : Option Cell → Option Cell → R D
  | some (.lst xs), some (.lst ys) => if xs.length + ys.length ≤ 100000 then .ok (.ref S.length) (S ++ [.lst (xs ++ ys)]) else .bad
  | _, _ => .bad
theorem o_addR : oAdd (.ref n) (.ref m) S = addC S S[n]? S[m]? := by unfold oAdd addC; rfl
theorem o_addC : addC S (some (.lst xs)) (some (.lst ys)) = if xs.length + ys.length ≤ 100000 then .ok (.ref S.length) (S ++ [.lst (xs ++ ys)]) else .bad := (rfl)
theorem o_addT : oAdd (.tup xs) (.tup ys) S = if xs.length + ys.length ≤ 100000 then .ok (.tup (xs ++ ys)) S else .bad := (rfl)
theorem o_sub : oSub (.int i) (.int j) S = .ok (.int (i - j)) S := (rfl)
theorem o_mul : oMul (.int i) (.int j) S = if (-(2 ^ 64) < i ∧ i < 2 ^ 64) ∨ (-(2 ^ 64) < j ∧ j < 2 ^ 64) then .ok (.int (i * j)) S else .bad := by
  show (if cMul i j = true then _ else _) = _
  unfold cMul
  by_cases h : (-(2 ^ 64) < i ∧ i < 2 ^ 64) ∨ (-(2 ^ 64) < j ∧ j < 2 ^ 64)
  · rw [decide_eq_true h, if_pos rfl, if_pos h]
  · rw [decide_eq_false h, if_neg h]; rfl
theorem o_mod : oMod (.int i) (.int j) S = if 0 < j then .ok (.int (i % j)) S else .bad := by
  show (if decide (0 < j) = true then _ else _) = _
  by_cases h : 0 < j
  · rw [decide_eq_true h, if_pos rfl, if_pos h]
  · rw [decide_eq_false h, if_neg h]; rfl
theorem o_div : oDiv (.int i) (.int j) S = if 0 < j ∧ j < 1267650600228229401496703205376 then .ok (.int (i / j)) S else .bad := by
  rw [show (1267650600228229401496703205376 : Int) = 2 ^ 100 from by decide]
  show (if cDiv i j = true then _ else _) = _
  unfold cDiv
  by_cases h : 0 < j ∧ j < 2 ^ 100
  · rw [decide_eq_true h, if_pos rfl, if_pos h]
  · rw [decide_eq_false h, if_neg h]; rfl
theorem o_pow : oPow (.int i) (.int j) S = if 0 ≤ j ∧ j ≤ 1000 ∧ -18446744073709551616 < i ∧ i < 18446744073709551616 then .ok (.int (i ^ j.toNat)) S else .bad := by
  show (if cPow i j = true then _ else _) = _
  have e : (0 ≤ j ∧ j ≤ 1000 ∧ i.natAbs < 2 ^ 64) = (0 ≤ j ∧ j ≤ 1000 ∧ -18446744073709551616 < i ∧ i < 18446744073709551616) := by
    have e1 : (i.natAbs < 2 ^ 64) = (-18446744073709551616 < i ∧ i < 18446744073709551616) := propext ⟨fun h => ⟨by omega, by omega⟩, fun h => by omega⟩
    rw [e1]
  unfold cPow
  simp only [e, decide_eq_true_eq]
theorem o_neg : oNeg (.int i) S = .ok (.int (-i)) S := (rfl)
theorem o_lt : oLt (.int i) (.int j) S = .ok (.bl (decide (i < j))) S := (rfl)
theorem o_le : oLe (.int i) (.int j) S = .ok (.bl (decide (i ≤ j))) S := (rfl)
theorem o_gt : oGt (.int i) (.int j) S = .ok (.bl (decide (j < i))) S := (rfl)
theorem o_ge : oGe (.int i) (.int j) S = .ok (.bl (decide (j ≤ i))) S := (rfl)
theorem o_int : oInt [.int i] S = .ok (.int i) S := (rfl)
theorem o_min2 : oMin2 [.int i, .int j] S = .ok (.int (if j < i then j else i)) S := (rfl)
theorem o_max2 : oMax2 [.int i, .int j] S = .ok (.int (if j > i then j else i)) S := (rfl)
theorem o_leS1 {a b : Nat} : oLeS (.str ⟨#[a]⟩) (.str ⟨#[b]⟩) S = .ok (.bl (decide (a ≤ b))) S := by
  have e : (!decide (([b] : List Nat) < [a])) = decide (a ≤ b) := by
    rw [← decide_not]
    congr 1
    simp [List.cons_lt_cons_iff]
  show R.ok (D.bl (!decide (([b] : List Nat) < [a]))) S = _
  rw [e]
theorem o_inS1 {k : Nat} {z : Str} {neg : Bool} : oInS neg (.str ⟨#[k]⟩) (.str z) S = .ok (.bl (if neg = true then !decide (k ∈ z.cps.toList) else decide (k ∈ z.cps.toList))) S := (rfl)
theorem o_isB : oIsB (.bl b) (.bl c) S = .ok (.bl (decide (b = c))) S := (rfl)
def eqK (S : Sto) : Option PyData → Option PyData → R D
  | some p, some q => .ok (.bl (PyData.eqv p q)) S
  | _, _ => .bad
def neK (S : Sto) : Option PyData → Option PyData → R D
  | some p, some q => .ok (.bl (!PyData.eqv p q)) S
  | _, _ => .bad
theorem o_eq : oEq x y S = eqK S (toP S 20 x) (toP S 20 y) := by unfold oEq eqK; rfl
theorem o_ne : oNe x y S = neK S (toP S 20 x) (toP S 20 y) := by unfold oNe neK; rfl
theorem eqK_some {p q : PyData} : eqK S (some p) (some q) = .ok (.bl (PyData.eqv p q)) S := (rfl)
theorem neK_some {p q : PyData} : neK S (some p) (some q) = .ok (.bl (!PyData.eqv p q)) S := (rfl)
theorem eqv_int : PyData.eqv (.int i) (.int j) = (i == j) := by simp only [PyData.eqv]
theorem eqv_bool : PyData.eqv (.bool b) (.bool c) = (b == c) := by simp only [PyData.eqv]
theorem toP_int {k : Nat} : toP S k (.int i) = some (.int i) := by cases k <;> rfl
theorem toP_bl {k : Nat} : toP S k (.bl b) = some (.bool b) := by cases k <;> rfl
theorem toP_str {k : Nat} {t : Str} : toP S k (.str t) = if PyData.strOk t = true then some (.str t) else none := by cases k <;> rfl
theorem toP_tup {k : Nat} : toP S (k + 1) (.tup xs) = (xs.mapM (toP S k)).map .tuple := (rfl)
def toPC (S : Sto) (k : Nat) : Option Cell → Option PyData
  | some (.lst xs) => (xs.mapM (toP S k)).map .list
  | _ => none
theorem toP_ref {k : Nat} : toP S (k + 1) (.ref n) = toPC S k S[n]? := by unfold toP toPC; rfl
theorem toPC_lst {k : Nat} : toPC S k (some (.lst xs)) = (xs.mapM (toP S k)).map .list := (rfl)
theorem toP_mapM_nil {f : D → Option PyData} : List.mapM f [] = some [] := (rfl)
def consO (a : Option PyData) (l : Option (List PyData)) : Option (List PyData) := match a, l with
  | some x, some xs => some (x :: xs)
  | _, _ => none
theorem toP_mapM_cons {f : D → Option PyData} : List.mapM f (d :: ds) = consO (f d) (ds.mapM f) := by
  rw [List.mapM_cons]
  cases f d with
  | none => rfl
  | some p => cases ds.mapM f <;> rfl
def lenK (S : Sto) : Option Nat → R D
  | some n => .ok (.int (n : Nat)) S
  | none => .bad
theorem o_len : oLen [x] S = lenK S (lenD S x) := by unfold oLen lenK; rfl
theorem lenK_some {k : Nat} : lenK S (some k) = .ok (.int (k : Nat)) S := (rfl)
theorem lenD_tup : lenD S (.tup xs) = some xs.length := (rfl)
theorem lenD_rl : lenD S (.rl xs) = some xs.length := (rfl)
theorem lenD_str {t : Str} : lenD S (.str t) = if t.length ≤ 100000 then some t.length else none := (rfl)
def lenC : Option Cell → Option Nat
  | some (.lst xs) => some xs.length
  | some (.dk kvs) => some kvs.length
  | some (.dt kvs) => some kvs.length
  | _ => none
end

/-! types, loops, texts -/
section
variable {S : Sto} {d x : D} {xs ds acc : List D} {env e : Lc} {fa el : EF} {T t : String} {neg b : Bool} {g : GF} {body : SF} {fi : IF} {n i : Nat} {fs : AF} {ft : BF}
def isiK2 (S : Sto) : Option Bool → R D
  | some b => .ok (.bl b) S
  | none => .bad
def isiK (T : String) (S : Sto) : Option String → R D
  | some t => isiK2 S (isiD t T)
  | none => .bad
def isiK0 (T : String) : D → Sto → R D := fun x S1 => match tyD S1 x with
  | some t => match isiD t T with
    | some b => .ok (.bl b) S1
    | none => .bad
  | none => .bad
theorem ap_fIsi : fIsi T fa env S = (fa env S).bind (isiK0 T) := (rfl)
theorem ap_isiK0 : isiK0 T x S = isiK T S (tyD S x) := by unfold isiK0 isiK isiK2; cases tyD S x with
  | none => rfl
  | some t => cases isiD t T <;> rfl
theorem ap_isiK : isiK T S (some t) = isiK2 S (isiD t T) := (rfl)
theorem ap_isiK2 : isiK2 S (some b) = .ok (.bl b) S := (rfl)
def tyK (T : String) (neg : Bool) (S : Sto) : Option String → R D
  | some t => .ok (.bl (if neg = true then !decide (t = T) else decide (t = T))) S
  | none => .bad
def tyK0 (T : String) (neg : Bool) : D → Sto → R D := fun x S1 => match tyD S1 x with
  | some t => .ok (.bl (if neg = true then !decide (t = T) else decide (t = T))) S1
  | none => .bad
theorem ap_fTyIs : fTyIs T neg fa env S = (fa env S).bind (tyK0 T neg) := (rfl)
theorem ap_tyK0 : tyK0 T neg x S = tyK T neg S (tyD S x) := by unfold tyK0 tyK; cases tyD S x <;> rfl
theorem ap_tyK : tyK T neg S (some t) = .ok (.bl (if neg = true then !decide (t = T) else decide (t = T))) S := (rfl)
def forK (g : GF) (body : SF) (env : Lc) : It' → Sto → R Fl := fun it S1 => match it with
  | .fix xs => loopX g body xs env S1
  | .live n xs => loopL n g body xs 0 env S1
theorem ap_fFor : fFor fi g body env S = (fi env S).bind (forK g body env) := (rfl)
theorem ap_forK_fix : forK g body env (.fix xs) S = loopX g body xs env S := (rfl)
theorem ap_forK_live : forK g body env (.live n xs) S = loopL n g body xs 0 env S := (rfl)
def turnK (g : GF) (body : SF) (xs : List D) : Fl → Sto → R Fl := fun fl S2 => match fl with
    | .nx e => loopX g body xs e S2
    | .ct e => loopX g body xs e S2
    | .bk e => .ok (.nx e) S2
    | .rt d => .ok (.rt d) S2
def turnK0 (g : GF) (body : SF) (xs : List D) : Lc → Sto → R Fl := fun env1 S1 => (body env1 S1).bind (turnK g body xs)
theorem loopX_cons : loopX g body (d :: xs) env S = (g d env S).bind (turnK0 g body xs) := (rfl)
theorem ap_turnK0 : turnK0 g body xs env S = (body env S).bind (turnK g body xs) := (rfl)
theorem ap_turnK_nx : turnK g body xs (.nx e) S = loopX g body xs e S := (rfl)
theorem ap_turnK_rt : turnK g body xs (.rt d) S = .ok (.rt d) S := (rfl)
def rng1K : List D → Sto → R It' := fun ds S1 => match ds with
  | [.int j] => if -(2 ^ 62) ≤ j ∧ j < 2 ^ 62 then .ok (.fix (rngD 0 j.toNat)) S1 else .bad
  | _ => .bad
theorem ap_fRng1 : fRng1 fs env S = (fs env S).bind rng1K := (rfl)
theorem ap_rng1K {j : Int} : rng1K [.int j] S = if -(2 ^ 62) ≤ j ∧ j < 2 ^ 62 then .ok (.fix (rngD 0 j.toNat)) S else .bad := (rfl)
def iterC (S : Sto) (n : Nat) : Option Cell → R It'
  | some (.lst xs) => .ok (.live n xs) S
  | _ => .bad
def iterK : D → Sto → R It' := fun d S1 => match d with
  | .rl xs => .ok (.fix xs) S1
  | .tup xs => .ok (.fix xs) S1
  | .kt xs => .ok (.fix xs) S1
  | .ref n => match S1[n]? with
    | some (.lst xs) => .ok (.live n xs) S1
    | _ => .bad
  | _ => .bad
theorem ap_fIter : fIter fa env S = (fa env S).bind iterK := (rfl)
theorem ap_iterK_tup : iterK (.tup xs) S = .ok (.fix xs) S := (rfl)
theorem ap_iterK_ref : iterK (.ref n) S = iterC S n S[n]? := by unfold iterK iterC; rfl
theorem iterC_lst : iterC S n (some (.lst xs)) = .ok (.live n xs) S := (rfl)
def iterSK : D → Sto → R It' := fun x S1 => match x with
  | .str z => .ok (.fix (sgnD z)) S1
  | _ => .bad
theorem ap_fIterS : fIterS fa env S = (fa env S).bind iterSK := (rfl)
theorem ap_iterSK {z : Str} : iterSK (.str z) S = .ok (.fix (sgnD z)) S := (rfl)
def compK (i : Nat) (ft : BF) (fe : EF) (env : Lc) : It' → Sto → R D := fun it S1 => match it with
  | .fix xs => compX i ft fe (env.set i none) xs [] S1
  | .live n xs => compL n i ft fe (env.set i none) xs 0 [] S1
theorem ap_fComp : fComp fi i ft el env S = (fi env S).bind (compK i ft el env) := (rfl)
theorem ap_compK_fix : compK i ft el env (.fix xs) S = compX i ft el (env.set i none) xs [] S := (rfl)
theorem compX_nil : compX i ft el env [] acc S = .ok (.ref S.length) (S ++ [.lst acc]) := (rfl)
def compTK (i : Nat) (ft : BF) (el : EF) (env : Lc) (d : D) (xs acc : List D) : Bool → Sto → R D := fun b S1 => if b = true then ((el (env.set i (some d)) S1).nox.bind fun y S2 => if acc.length < 100000 then compX i ft el env xs (acc ++ [y]) S2 else .bad) else compX i ft el env xs acc S1
def compEK (i : Nat) (ft : BF) (el : EF) (env : Lc) (xs acc : List D) : D → Sto → R D := fun y S2 => if acc.length < 100000 then compX i ft el env xs (acc ++ [y]) S2 else .bad
theorem compX_cons : compX i ft el env (d :: xs) acc S = (ft (env.set i (some d)) S).nox.bind (compTK i ft el env d xs acc) := (rfl)
theorem ap_compTK : compTK i ft el env d xs acc b S = if b = true then ((el (env.set i (some d)) S).nox.bind (compEK i ft el env xs acc)) else compX i ft el env xs acc S := (rfl)
theorem ap_compEK : compEK i ft el env xs acc d S = if acc.length < 100000 then compX i ft el env xs (acc ++ [d]) S else .bad := (rfl)
theorem ap_fYes : fYes env S = .ok true S := (rfl)
theorem ap_fDict0 : fDict0 env S = .ok (.ref S.length) (S ++ [.dk []]) := (rfl)
def slK1 (pl ph : PF) (env : Lc) : D → Sto → R D := fun x S1 => (pl env S1).bind fun l S2 => (ph env S2).bind fun h S3 => oSl x l h S3
def slK2 (ph : PF) (env : Lc) (x : D) : Option Int → Sto → R D := fun l S2 => (ph env S2).bind fun h S3 => oSl x l h S3
theorem ap_fSl {pl ph : PF} : fSl fa pl ph env S = (fa env S).bind (slK1 pl ph env) := (rfl)
theorem ap_slK1 {pl ph : PF} : slK1 pl ph env x S = (pl env S).bind (slK2 ph env x) := (rfl)
theorem ap_slK2 {ph : PF} {l : Option Int} : slK2 ph env x l S = (ph env S).bind (oSl x l) := (rfl)
theorem ap_pNo : pNo env S = .ok none S := (rfl)
def pSoK : D → Sto → R (Option Int) := fun x S1 => match x with
  | .int i => .ok (some i) S1
  | _ => .bad
theorem ap_pSo : pSo fa env S = (fa env S).bind pSoK := (rfl)
theorem ap_pSoK {j : Int} : pSoK (.int j) S = .ok (some j) S := (rfl)
theorem oSl_tup {l h : Option Int} : oSl (.tup xs) l h S = .ok (.tup (cutD xs l h)) S := (rfl)
def bmK (T : String) (o : OpM) (fs : AF) (env : Lc) : D → Sto → R D := fun x S1 => if tyIn T S1 x = true then (fs env S1).bind fun ds S2 => o x ds S2 else .bad
theorem ap_fBm {o : OpM} {fo : EF} : fBm T o fo fs env S = (fo env S).bind (bmK T o fs env) := (rfl)
theorem ap_bmK {o : OpM} : bmK T o fs env x S = if tyIn T S x = true then (fs env S).bind (o x) else .bad := (rfl)
theorem tyIn_str {z : Str} : tyIn T S (.str z) = decide (T = "str") := (rfl)
def tyInC (T : String) : Option Cell → Bool
  | some (.lst _) => decide (T = "list")
  | some (.dk _) => decide (T = "dict")
  | some (.dt _) => decide (T = "dict")
  | _ => false
theorem tyIn_ref : tyIn T S (.ref n) = tyInC T S[n]? := by unfold tyIn tyInC; rfl
theorem tyInC_lst : tyInC T (some (.lst xs)) = decide (T = "list") := (rfl)
def tyC : Option Cell → Option String
  | some (.lst _) => some "list"
  | some (.dk _) => some "dict"
  | some (.dt _) => some "dict"
  | _ => none
theorem tyD_ref : tyD S (.ref n) = tyC S[n]? := by unfold tyD tyC; rfl
end
theorem app_get {α : Type} {S T : List α} {n : Nat} {c : α} (h : S[n]? = some c) : (S ++ T)[n]? = some c := by
  rw [List.getElem?_append_left (List.getElem?_eq_some_iff.mp h).1]; exact h
theorem app_set {α : Type} {S T : List α} {n : Nat} {c d : α} (h : S[n]? = some c) : (S ++ T).set n d = S.set n d ++ T := List.set_append_left _ _ (List.getElem?_eq_some_iff.mp h).1
theorem set_self {α : Type} {S : List α} {n : Nat} {c : α} (h : S[n]? = some c) : S.set n c = S := by
  apply List.ext_getElem?
  intro i
  by_cases hi : n = i
  · subst hi
    rw [List.getElem?_set_self (List.getElem?_eq_some_iff.mp h).1, h]
  · rw [List.getElem?_set_ne hi]
theorem o_join {z : Str} {m : Nat} {S : Sto} {ds : List D} {ys : List Str} (h : S[m]? = some (.lst ds)) (h1 : strsD ds = some ys) (h2 : (ys.map (·.length)).sum + ys.length * z.length ≤ 100000) : mJoin (.str z) [.ref m] S = .ok (.str (Txt.join z ys)) S := by
  unfold mJoin
  simp only [seqD, h, h1, if_pos h2]
theorem get_app {α : Type} {S T : List α} {k : Nat} : (S ++ T)[S.length + k]? = T[k]? := by
  rw [List.getElem?_append_right (Nat.le_add_right _ _), Nat.add_sub_cancel_left]
theorem get_app0 {α : Type} {S T : List α} : (S ++ T)[S.length]? = T[0]? := get_app (k := 0)
theorem get_apps {α : Type} {S T : List α} {k n : Nat} {d : α} : (S.set n d ++ T)[S.length + k]? = T[k]? := by
  have h := get_app (S := S.set n d) (T := T) (k := k)
  rw [List.length_set] at h
  exact h
theorem get_apps0 {α : Type} {S T : List α} {n : Nat} {d : α} : (S.set n d ++ T)[S.length]? = T[0]? := get_apps (k := 0)
theorem set_get {α : Type} {S : List α} {n : Nat} {c d : α} (h : S[n]? = some c) : (S.set n d)[n]? = some d := List.getElem?_set_self (List.getElem?_eq_some_iff.mp h).1
end RF

namespace RF
open PySem L2

/-! ### sorted of data -/
abbrev VDP := V × (D × PyData)
def leP : PyData → PyData → Bool := PySem.W.dataLe false id
def rSortD (K : PySem.W.Frag) : List V → Hp → VK → Prop := fun vs H Q => ∃ (a : Addr) (bs : List VDP), vs = [V.ref a] ∧ SqL K H a (bs.map (·.1)) ∧ DpAll K H (bs.map (·.1)) (bs.map (·.2.2)) ∧ PySem.W.AllAlike (bs.map (·.2.2)) ∧ PySem.W.Sortable (bs.map (·.2.2)) ∧ bs.length ≤ sizeLine ∧
  (∀ b ∈ bs, b.2.2.depth ≤ 60) ∧ ∀ p, H p = none → Q (.ref p) (upd H p (.lst ((bs.mergeSort (PySem.W.dataLe false (fun b => b.2.2))).map (·.1))))
theorem vals_each {R : V → Value → Prop} : ∀ {out : List Value} {bs : List VDP}, PySem.W.EachIs (fun v (b : VDP) => RelV b.1 v) out bs → Vals (bs.map (·.1)) out
  | [], [], .nil => .nil
  | _ :: _, _ :: _, .cons h t => .cons h (vals_each (R := R) t)
theorem each_vals : ∀ {out : List Value} {bs : List VDP}, Vals (bs.map (·.1)) out → PySem.W.EachIs (fun v (b : VDP) => RelV b.1 v) out bs
  | out, [], r => by
    rw [List.map_nil] at r
    cases r; exact .nil
  | out, b :: bs, r => by
    rw [List.map_cons] at r
    cases r with
    | cons h t => exact .cons h (each_vals t)
theorem call_sortedD {X : Cx} (hu : X.A.units + 65 < cLine) : CallR X (.builtin "sorted") (rSortD X.K) := by
  intro pins s σ H vs us Q I r h
  obtain ⟨a, bs, rfl, hs, hd, hal, hk, hL, hdep, q⟩ := h
  obtain ⟨its, rv, hl, _⟩ := I.list hs
  rw [Vals.ref1 r]
  obtain ⟨as, hr⟩ := Dp.readsAll I _ _ its hd rv
  refine PySem.W.sorted_data (A := X.A) (enc := fun b : VDP => b.2.2) (R := fun v (b : VDP) => RelV b.1 v) (vs := its) hl.isList (each_vals rv) (PySem.W.readsAll_each (fun b : VDP => b.2.2) hr) hal hk hL (fun b hb => ?_) fun out h1 h2 => ?_
  · have := hdep b hb; omega
  · obtain ⟨ep, he'⟩ := PyProof.Rows.sortedAll_at s.heap its out.toArray
    have hlen : ((bs.mergeSort (PySem.W.dataLe false fun b => b.2.2)).map (·.1)).length ≤ sizeLine := by rw [List.length_map, (List.mergeSort_perm _ _).length_eq]; exact hL
    exact ⟨.ref _, upd H (s.heap.objs.size + 1) (.lst ((bs.mergeSort (PySem.W.dataLe false fun b => b.2.2)).map (·.1))), I.laid (t' := s.toks) (fun _ _ => PyProof.Rows.sortedAll_old) (Nat.le_succ _) ⟨hlen, out, ep, vals_each (R := RelV) h2, he'⟩, rfl, q _ (I.hok.fresh (Nat.le_succ _))⟩

def isTupP : PyData → Bool
  | .tuple (_ :: _) => true
  | _ => false
def isOthP : PyData → Bool
  | .none => false
  | .tuple _ => false
  | _ => true
def likeB (ps : List PyData) : Bool := ps.all fun a => ps.all fun b => PySem.W.alike a b
def sortB (ps : List PyData) : Bool := likeB ps && (ps.all isTupP || ps.all isOthP)
def sortDs (xs : List D) (ps : List PyData) : List D := ((xs.zip ps).mergeSort (PySem.W.dataLe false Prod.snd)).map Prod.fst
def oSorted : OpN := fun ds S => match ds with
  | [x] => match lstD S x with
    | some xs => match xs.mapM (toP S 20) with
      | some ps => if sortB ps = true ∧ xs.length ≤ 100000 then .ok (.ref S.length) (S ++ [.lst (sortDs xs ps)]) else .bad
      | none => .bad
    | none => .bad
  | _ => .bad
theorem likeB_of {ps : List PyData} (h : likeB ps = true) : PySem.W.AllAlike ps := fun d hd d' hd' => List.all_eq_true.mp (List.all_eq_true.mp h d hd) d' hd'
theorem sortB_of {ps : List PyData} (h : sortB ps = true) : PySem.W.AllAlike ps ∧ PySem.W.Sortable ps := by
  unfold sortB at h
  rw [Bool.and_eq_true, Bool.or_eq_true] at h
  refine ⟨likeB_of h.1, ?_⟩
  rcases h.2 with h | h
  · refine .inl fun d hd => ?_
    have := List.all_eq_true.mp h d hd
    unfold isTupP at this
    split at this
    · exact ⟨_, _, rfl⟩
    · cases this
  · refine .inr fun d hd => ?_
    have := List.all_eq_true.mp h d hd
    unfold isOthP at this
    split at this
    · cases this
    · cases this
    · rename_i h1 h2
      exact ⟨fun e => h1 e, fun xs e => h2 xs e⟩
theorem triples {K : PySem.W.Frag} {L : List Addr} {H : Hp} : ∀ {vs : List V} {xs : List D} {ps : List PyData}, RDs K L H vs xs → xs.length = ps.length → ∃ bs : List VDP, bs.map (·.1) = vs ∧ bs.map (·.2) = xs.zip ps ∧ bs.map (·.2.2) = ps ∧ ∀ b ∈ bs, RD K L H b.1 b.2.1
  | _, _, [], .nil, _ => ⟨[], rfl, rfl, rfl, fun b hb => by cases hb⟩
  | _, _, _ :: _, .nil, h => by simp at h
  | _, _, [], .cons _ _, h => by simp at h
  | v :: vs, x :: xs, p :: ps, .cons a r, h => by
    obtain ⟨bs, h1, h2, h3, h4⟩ := triples r (ps := ps) (by simpa using h)
    refine ⟨(v, x, p) :: bs, by simp [h1], by simp [h2], by simp [h3], fun b hb => ?_⟩
    rcases List.mem_cons.mp hb with rfl | hb
    · exact a
    · exact h4 b hb
theorem rds_of {K : PySem.W.Frag} {L : List Addr} {H : Hp} : ∀ (bs : List VDP), (∀ b ∈ bs, RD K L H b.1 b.2.1) → RDs K L H (bs.map (·.1)) (bs.map (·.2.1))
  | [], _ => .nil
  | b :: bs, h => .cons (h b (List.mem_cons_self ..)) (rds_of bs fun c hc => h c (List.mem_cons_of_mem _ hc))
theorem dpAll_len {K : PySem.W.Frag} {H : Hp} : ∀ {vs : List V} {ps : List PyData}, DpAll K H vs ps → vs.length = ps.length
  | _, _, .nil => rfl
  | _, _, .cons _ b => by rw [List.length_cons, List.length_cons, dpAll_len b]
theorem depth_mem : ∀ {ps : List PyData} {k : Nat}, PyData.depthAll ps ≤ k → ∀ p ∈ ps, p.depth ≤ k
  | [], _, _, p, hp => by cases hp
  | q :: ps, k, h, p, hp => by
    simp only [PyData.depthAll] at h
    rcases List.mem_cons.mp hp with rfl | hp
    · omega
    · exact depth_mem (ps := ps) (k := k) (by omega) p hp
section
variable {K : PySem.W.Frag} {E : XK}
theorem f_sorted : CaF K E (rSortD K) oSorted := by
  intro L H S xs ds Q rep rs q
  match ds, rs, q with
  | [], _, q => exact q.elim
  | _ :: _ :: _, _, q => exact q.elim
  | [d], rs, q =>
    obtain ⟨x, rfl, r⟩ := rs.one
    unfold oSorted at q
    simp only at q
    cases h : lstD S d with
    | none => rw [h] at q; exact q.elim
    | some ys =>
      rw [h] at q
      simp only at q
      cases h2 : ys.mapM (toP S 20) with
      | none => rw [h2] at q; exact q.elim
      | some ps =>
        rw [h2] at q
        simp only at q
        by_cases hc : sortB ps = true ∧ ys.length ≤ 100000
        · rw [if_pos hc] at q
          obtain ⟨a, vs, rfl, rv, k⟩ := lstD_of rep r h
          obtain ⟨hdp, _, hdep⟩ := toPs_of 20 (toP_of rep 20) rv h2
          have hlen : ys.length = ps.length := by
            rw [← rv.length]
            exact dpAll_len hdp
          obtain ⟨bs, e1, e2, e3, e4⟩ := triples rv hlen
          have hbl : bs.length = ys.length := by rw [← rv.length, ← e1, List.length_map]
          obtain ⟨hal, hso⟩ := sortB_of hc.1
          refine ⟨a, bs, rfl, by rw [e1]; exact k, by rw [e1, e3]; exact hdp, by rw [e3]; exact hal, by rw [e3]; exact hso, by rw [hbl]; exact sz5 hc.2, fun b hb => ?_, fun p hp => newList q rep ?_ p hp⟩
          · have hm : b.2.2 ∈ ps := by rw [← e3]; exact List.mem_map_of_mem (f := fun b : VDP => b.2.2) hb
            have := depth_mem hdep _ hm
            omega
          · have e5 : sortDs ys ps = (bs.mergeSort (PySem.W.dataLe false fun b => b.2.2)).map (·.2.1) := by
              unfold sortDs
              rw [← e2, ← List.map_mergeSort (r := PySem.W.dataLe false fun b : VDP => b.2.2) (s := PySem.W.dataLe false Prod.snd) (f := fun b : VDP => b.2) (l := bs) (fun _ _ _ _ => rfl), List.map_map]
              rfl
            rw [e5]
            exact rds_of _ fun b hb => e4 b ((List.mergeSort_perm _ _).mem_iff.mp hb)
        · rw [if_neg hc] at q; exact q.elim
end
end RF

namespace RF
open PySem L2

/-! ### min of data -/
def rMinD (K : PySem.W.Frag) : List V → Hp → VK → Prop := fun vs H Q => ∃ (a : Addr) (bs : List VDP) (x : PyData) (ps : List PyData), vs = [V.ref a] ∧ SqL K H a (bs.map (·.1)) ∧ DpAll K H (bs.map (·.1)) (bs.map (·.2.2)) ∧ bs.map (·.2.2) = x :: ps ∧ PySem.W.AlikeAll (x :: ps) ∧
  PyData.depthAll (x :: ps) ≤ 60 ∧ PyData.canLayAll0 (x :: ps) = true ∧ ∀ b ∈ bs, b.2.2 = PySem.W.minD x ps → Q b.1 H
-- data of atoms and tuples, back
mutual
def toD : PyData → D
  | .none => .non
  | .bool b => .bl b
  | .int i => .int i
  | .str x => .str x
  | .tuple xs => .tup (toDs xs)
  | _ => .non
def toDs : List PyData → List D
  | [] => []
  | x :: xs => toD x :: toDs xs
end
mutual
def pureT : D → Bool
  | .non => true
  | .bl _ => true
  | .int _ => true
  | .str _ => true
  | .tup xs => pureTs xs
  | _ => false
def pureTs : List D → Bool
  | [] => true
  | x :: xs => pureT x && pureTs xs
end
def notNoneB (ps : List PyData) : Bool := ps.all fun p => match p with | .none => false | _ => true
def oMin1 : OpN := fun ds S => match ds with
  | [x] => match lstD S x with
    | some xs => match xs.mapM (toP S 20) with
      | some (p :: ps) => if likeB (p :: ps) = true ∧ notNoneB (p :: ps) = true ∧ pureTs xs = true then .ok (toD (PySem.W.minD p ps)) S else .bad
      | _ => .bad
    | none => .bad
  | _ => .bad
section
variable {K : PySem.W.Frag} {E : XK}
end

/-! ### l.remove(x) -/
def rRemD (K : PySem.W.Frag) : V → List V → Hp → VK → Prop := fun x xs H Q => ∃ (a : Addr) (y : V) (vs : List V) (d : PyData) (ds : List PyData) (j : Nat), x = V.ref a ∧ xs = [y] ∧ H a = some (.lst vs) ∧ DpAll K H vs ds ∧ Dp K H y d ∧ PyData.canLayAll0 ds = true ∧ d.canLay0 = true ∧ d.depth ≤ 60 ∧
  PySem.SeqAt.dataPlace ds d = some j ∧ Q .non (upd H a (.lst (vs.eraseIdx j)))
def mRemove : OpM := fun x ds S => match x, ds with
  | .ref n, [y] => match S[n]? with
    | some (.lst xs) => match xs.mapM (toP S 20), toP S 20 y with
      | some ps, some p => match PySem.SeqAt.dataPlace ps p with
        | some j => .ok .non (S.set n (.lst (xs.eraseIdx j)))
        | none => .bad
      | _, _ => .bad
    | _ => .bad
  | _, _ => .bad
section
variable {K : PySem.W.Frag} {E : XK}
end
end RF

namespace RF
open PySem L2

/-! ### a value's truth -/
def truD (S : Sto) : D → Option Bool
  | .non => some false
  | .bl b => some b
  | .int i => some (i != 0)
  | .tup xs => some (!xs.isEmpty)
  | .rl xs => some (!xs.isEmpty)
  | .ref n => match S[n]? with
    | some (.lst xs) => some (!xs.isEmpty)
    | some (.dk kvs) => some (!kvs.isEmpty)
    | _ => none
  | _ => none
def fTru (fa : EF) : BF := fun env S => (fa env S).bind fun x S1 => match truD S1 x with
  | some b => .ok b S1
  | none => .bad
theorem RDs.isEmpty {K : PySem.W.Frag} {L : List Addr} {H : Hp} : ∀ {vs : List V} {ds : List D}, RDs K L H vs ds → vs.isEmpty = ds.isEmpty
  | _, _, .nil => rfl
  | _, _, .cons _ _ => rfl
theorem RK.isEmpty {κ : Type} {K : PySem.W.Frag} {L : List Addr} {H : Hp} : ∀ {ps : List (κ × V)} {qs : List (κ × D)}, RK K L H ps qs → ps.isEmpty = qs.isEmpty
  | [], [], _ => rfl
  | _ :: _, _ :: _, _ => rfl
  | [], _ :: _, h => h.elim
  | _ :: _, [], h => h.elim
section
variable {X : Cx} {K : PySem.W.Frag} {E : XK} {L : List Addr} {H : Hp} {S : Sto}
end

/-! ### o.f += e -/
def fFldAug (C : Addr) (f : Str) (o : Op2) (fo fv : EF) : SF := fun env S => (fo env S).bind fun x S1 => match fldsOf C S1 x with
  | some (_, fs) => (retO S1 (fs.lookup f)).bind fun y S2 => (fv env S2).bind fun z S3 => (o y z S3).bind fun d S4 => (oPut C f x d S4).bind fun _ S5 => .ok (.nx env) S5
  | none => .bad
def oAddI : Op2 := oI (fun _ _ => true) fun i j => i + j
section
variable {X : Cx} {E : XK} {o e : Expr} {fo fv : EF} {pos tpos : Pos} {C : Addr} {f g : Str}
end

/-! ### methods, by a name that is equal -/
section
variable {X : Cx} {E : XK} {k n : Nat} {f C : Addr} {fd : FuncData} {ps : List Str} {F : FF} {dvs : List V} {ds : List Value} {dds : List D} {m m' : Str} {pos apos : Pos} {e o : Expr} {es : List Expr} {fo : EF} {fs : AF}
end

/-! ### a def with defaults -/
section
variable {P : Program} {w : World} {K : PySem.W.Frag} {mg : Str → Option Value} {base : Heap}
end
end RF

namespace RF
open PySem L2

/-! ### {k: e, ..} with texts and ints as keys -/
abbrev PrF := Lc → Sto → R (List (D × D))
def prNil : PrF := fun _ S => .ok [] S
def prCons (fk fv : EF) (r : PrF) : PrF := fun env S => (fk env S).bind fun x S1 => (fv env S1).bind fun y S2 => (r env S2).bind fun ps S3 => .ok ((x, y) :: ps) S3
def keyPs : List (D × D) → Option (List (Key × D))
  | [] => some []
  | (x, y) :: r => match keyD x with
    | some k => match keyPs r with
      | some kvs => some ((k, y) :: kvs)
      | none => none
    | none => none
def mergeKD (kvs more : List (Key × D)) : List (Key × D) := more.foldl (fun acc kv => putKD acc kv.1 kv.2) kvs
def fDisp (r : PrF) : EF := fun env S => (r env (S ++ [.dk []])).bind fun ps S1 => match keyPs ps with
  | some kvs => match S1[S.length]? with
    | some (.dk []) => if kvs.length ≤ 15 then .ok (.ref S.length) (S1.set S.length (.dk (mergeKD [] kvs))) else .bad
    | _ => .bad
  | none => .bad
def RPs (K : PySem.W.Frag) (L : List Addr) (H : Hp) : List (V × V) → List (D × D) → Prop
  | [], [] => True
  | p :: ps, q :: qs => RD K L H p.1 q.1 ∧ RD K L H p.2 q.2 ∧ RPs K L H ps qs
  | _, _ => False
theorem RPs.keys {K : PySem.W.Frag} {L : List Addr} {H : Hp} : ∀ {ps : List (V × V)} {qs : List (D × D)} {kvs : List (Key × D)}, RPs K L H ps qs → keyPs qs = some kvs → ∃ ws : List (Key × V), ps = ws.map (fun kv => (kV kv.1, kv.2)) ∧ RK K L H ws kvs
  | [], [], _, _, h => by cases h; exact ⟨[], rfl, trivial⟩
  | p :: ps, (x, y) :: qs, kvs, ⟨a, b, c⟩, h => by
    unfold keyPs at h
    cases h1 : keyD x with
    | none => rw [h1] at h; cases h
    | some k =>
      rw [h1] at h
      simp only at h
      cases h2 : keyPs qs with
      | none => rw [h2] at h; cases h
      | some r =>
        rw [h2] at h
        cases h
        obtain ⟨ws, e, rk⟩ := RPs.keys c h2
        refine ⟨(k, p.2) :: ws, ?_, rfl, b, rk⟩
        have := a.key h1
        rw [List.map_cons, e]
        obtain ⟨p1, p2⟩ := p
        simp only at this
        rw [this]
  | [], _ :: _, _, h, _ => h.elim
  | _ :: _, [], _, h, _ => h.elim
/-- the pairs of a display and their readings -/
structure PrX (X : Cx) (E : XK) (pos : Pos) (keys : List (Option Expr)) (values : List Expr) (r : PrF) : Prop where
  ex : ∃ trs, PPs X pos keys values trs ∧ ∀ σ H (Q : List (V × V) → Hp → Prop) L env S, Rep X.K L H S → RE X.K L H σ env → End X.K E L H (fun ps S1 L1 H1 => ∀ vs, RPs X.K L1 H1 vs ps → Q vs H1) (r env S) → tPairs trs σ H Q
theorem RPs.mono {K : PySem.W.Frag} {L L1 : List Addr} {H H1 : Hp} (e : Ex L H L1 H1) : ∀ {ps : List (V × V)} {qs : List (D × D)}, RPs K L H ps qs → RPs K L1 H1 ps qs
  | [], [], _ => trivial
  | _ :: _, _ :: _, ⟨a, b, c⟩ => ⟨a.mono e, b.mono e, RPs.mono e c⟩
  | [], _ :: _, h => h.elim
  | _ :: _, [], h => h.elim
section
variable {X : Cx} {E : XK} {pos : Pos} {k v : Expr} {ks : List (Option Expr)} {vs : List Expr} {fk fv : EF} {r : PrF}
end
end RF

/-! running by rewriting: instances, dicts, methods -/
namespace RF
open PySem L2
section
variable {C : Addr} {n k : Nat} {S : Sto} {x y z d : D} {ds xs : List D} {fs : List (Str × D)} {f m : Str} {env : Lc} {fo fa fv : EF} {aa : AF} {o : Op2} {F : FF} {dds : List D} {b : Bool} {kvs : List (Key × D)} {t : Str}
def fldC (C : Addr) (n : Nat) : Option Cell → Option (Nat × List (Str × D))
  | some (.ins C' fs) => if C' = C then some (n, fs) else none
  | _ => none
def fldK2 (f : Str) (S : Sto) : Option (Nat × List (Str × D)) → R D
  | some (_, fs) => retO S (fs.lookup f)
  | none => .bad
def fldK (C : Addr) (f : Str) : D → Sto → R D := fun x S1 => match fldsOf C S1 x with
  | some (_, fs) => retO S1 (fs.lookup f)
  | none => .bad
def sfK1 (C : Addr) (f : Str) (fo : EF) (env : Lc) : D → Sto → R Fl := fun d S1 => (fo env S1).bind fun x S2 => (oPut C f x d S2).bind fun _ S3 => .ok (.nx env) S3
def sfK2 (C : Addr) (f : Str) (env : Lc) (d : D) : D → Sto → R Fl := fun x S2 => (oPut C f x d S2).bind fun _ S3 => .ok (.nx env) S3
def sfK3 (env : Lc) : Unit → Sto → R Fl := fun _ S3 => .ok (.nx env) S3
def putK' (C : Addr) (f : Str) (d : D) (S : Sto) : Option (Nat × List (Str × D)) → R Unit
  | some (n, fs) => if fs.length < 900 then .ok () (S.set n (.ins C (putD f d fs))) else .bad
  | none => .bad
def faK2 (C : Addr) (f : Str) (o : Op2) (fv : EF) (env : Lc) (x : D) (S1 : Sto) : Option (Nat × List (Str × D)) → R Fl
  | some (_, fs) => (retO S1 (fs.lookup f)).bind fun y S2 => (fv env S2).bind fun z S3 => (o y z S3).bind fun d S4 => (oPut C f x d S4).bind fun _ S5 => .ok (.nx env) S5
  | none => .bad
def faK1 (C : Addr) (f : Str) (o : Op2) (fv : EF) (env : Lc) : D → Sto → R Fl := fun x S1 => match fldsOf C S1 x with
  | some (_, fs) => (retO S1 (fs.lookup f)).bind fun y S2 => (fv env S2).bind fun z S3 => (o y z S3).bind fun d S4 => (oPut C f x d S4).bind fun _ S5 => .ok (.nx env) S5
  | none => .bad
def faK3 (C : Addr) (f : Str) (o : Op2) (fv : EF) (env : Lc) (x : D) : D → Sto → R Fl := fun y S2 => (fv env S2).bind fun z S3 => (o y z S3).bind fun d S4 => (oPut C f x d S4).bind fun _ S5 => .ok (.nx env) S5
def faK4 (C : Addr) (f : Str) (o : Op2) (env : Lc) (x y : D) : D → Sto → R Fl := fun z S3 => (o y z S3).bind fun d S4 => (oPut C f x d S4).bind fun _ S5 => .ok (.nx env) S5
def faK5 (C : Addr) (f : Str) (env : Lc) (x : D) : D → Sto → R Fl := fun d S4 => (oPut C f x d S4).bind fun _ S5 => .ok (.nx env) S5
def meK2 (m : Str) (F : FF) (n : Nat) (dds : List D) (aa : AF) (env : Lc) (x : D) (S1 : Sto) : Option (Nat × List (Str × D)) → R D
  | some (_, fl) => if (fl.lookup m).isNone = true then (aa env S1).bind fun ds S2 => if ds.length + 1 + dds.length = n then (F (x :: (ds ++ dds)) S2).nox else .bad else .bad
  | none => .bad
def meK1 (C : Addr) (m : Str) (F : FF) (n : Nat) (dds : List D) (aa : AF) (env : Lc) : D → Sto → R D := fun x S1 => match fldsOf C S1 x with
  | some (_, fl) => if (fl.lookup m).isNone = true then (aa env S1).bind fun ds S2 => if ds.length + 1 + dds.length = n then (F (x :: (ds ++ dds)) S2).nox else .bad else .bad
  | none => .bad
def meK3 (F : FF) (n : Nat) (dds : List D) (x : D) : List D → Sto → R D := fun ds S2 => if ds.length + 1 + dds.length = n then (F (x :: (ds ++ dds)) S2).nox else .bad
def mkK2 (k : Nat) : D → Sto → R D := fun r S2 => match r with
  | .non => .ok (.ref k) S2
  | _ => .bad
def mkK (C : Addr) (F : FF) (n : Nat) (dds : List D) : List D → Sto → R D := fun ds S1 => if ds.length + 1 + dds.length = n then (F (.ref S1.length :: (ds ++ dds)) (S1 ++ [.ins C []])).nox.bind fun r S2 => match r with
  | .non => .ok (.ref S1.length) S2
  | _ => .bad
  else .bad
/-! truth -/
def truK2 (S : Sto) : Option Bool → R Bool
  | some b => .ok b S
  | none => .bad
def truK : D → Sto → R Bool := fun x S1 => match truD S1 x with
  | some b => .ok b S1
  | none => .bad
def truC : Option Cell → Option Bool
  | some (.lst xs) => some (!xs.isEmpty)
  | some (.dk kvs) => some (!kvs.isEmpty)
  | _ => none
/-! dicts -/
def getDK (S : Sto) : Option (Option D) → R D
  | some (some d) => .ok d S
  | _ => .bad
theorem o_getD : oGetD x y S = getDK S (lookD S x y) := by unfold oGetD getDK; rfl
def lookC (y : D) : Option Cell → Option (Option D)
  | some (.dk kvs) => (keyD y).map fun k => valK kvs k
  | some (.dt kvs) => (keysD y).map fun k => valK kvs k
  | _ => none
theorem lookD_ref : lookD S (.ref n) y = lookC y S[n]? := by unfold lookD lookC; rfl
def dispK2 (k : Nat) (S1 : Sto) : Option (List (Key × D)) → Option Cell → R D
  | some kvs, some (.dk []) => if kvs.length ≤ 15 then .ok (.ref k) (S1.set k (.dk (mergeKD [] kvs))) else .bad
  | _, _ => .bad
def dispK (k : Nat) : List (D × D) → Sto → R D := fun ps S1 => match keyPs ps with
  | some kvs => match S1[k]? with
    | some (.dk []) => if kvs.length ≤ 15 then .ok (.ref k) (S1.set k (.dk (mergeKD [] kvs))) else .bad
    | _ => .bad
  | none => .bad
def prK (fv : EF) (r : PrF) (env : Lc) : D → Sto → R (List (D × D)) := fun x S1 => (fv env S1).bind fun y S2 => (r env S2).bind fun ps S3 => .ok ((x, y) :: ps) S3
def prK2 (x : D) (r : PrF) (env : Lc) : D → Sto → R (List (D × D)) := fun y S2 => (r env S2).bind fun ps S3 => .ok ((x, y) :: ps) S3
def prK3 (x y : D) : List (D × D) → Sto → R (List (D × D)) := fun ps S3 => .ok ((x, y) :: ps) S3
/-! operators -/
def appC (S : Sto) (n : Nat) (d : D) : Option Cell → R D
  | some (.lst xs) => if xs.length < 100000 then .ok .non (S.set n (.lst (xs ++ [d]))) else .bad
  | _ => .bad
theorem o_append : mAppend (.ref n) [d] S = appC S n d S[n]? := by unfold mAppend appC; rfl
theorem o_appC : appC S n d (some (.lst xs)) = if xs.length < 100000 then .ok .non (S.set n (.lst (xs ++ [d]))) else .bad := (rfl)
end
/-! a comprehension that only filters -/
end RF

/-! whos: ((house, count), attempt) -/
namespace RF
open PySem L2
abbrev Who := (Int × Int) × Int
def eT (t : Int × Int) : D := .tup [.int t.1, .int t.2]
def eW (w : Who) : D := .tup [eT w.1, .int w.2]
def pT (t : Int × Int) : PyData := .tuple [.int t.1, .int t.2]
def pW (w : Who) : PyData := .tuple [pT w.1, .int w.2]
def eH : Option Who → D
  | none => .non
  | some w => eW w
def pH : Option Who → PyData
  | none => .none
  | some w => pW w
def eWs (ws : List Who) : List D := ws.map eW
section
variable {S : Sto} {k n : Nat} {u w : Who} {t t' : Int × Int} {ws vs : List Who}
theorem fT_eT : toP S (k + 1) (eT t) = some (pT t) := by cases k <;> rfl
theorem eqv_T : PyData.eqv (pT t) (pT t') = decide (t = t') := by
  unfold pT
  simp only [PyData.eqv, PyData.eqvAll]
  obtain ⟨a, b⟩ := t
  obtain ⟨c, d⟩ := t'
  simp only [Prod.mk.injEq]
  by_cases h1 : a = c <;> by_cases h2 : b = d <;> simp [h1, h2]
/-! order -/
def ltW (a b : Who) : Prop := a.1.1 < b.1.1 ∨ (a.1.1 = b.1.1 ∧ (a.1.2 < b.1.2 ∨ (a.1.2 = b.1.2 ∧ a.2 < b.2)))
instance (a b : Who) : Decidable (ltW a b) := inferInstanceAs (Decidable (_ ∨ _))
theorem ltW_irr (a : Who) : ¬ ltW a a := by unfold ltW; omega
def leW (a b : Who) : Bool := !decide (ltW b a)
theorem leW_iff {a b : Who} : leW a b = true ↔ ¬ ltW b a := by unfold leW; simp
def sortW (ws : List Who) : List Who := ws.mergeSort leW
def minW (a : Who) (r : List Who) : Who := r.foldl (fun a y => if ltW y a then y else a) a
theorem minW_mem (a : Who) (r : List Who) : minW a r ∈ a :: r := by
  unfold minW
  induction r generalizing a with
  | nil => simp
  | cons y r ih =>
    rw [List.foldl_cons]
    by_cases h : ltW y a
    · rw [if_pos h]
      have := ih y
      simp only [List.mem_cons] at this ⊢
      rcases this with e | e
      · exact .inr (.inl e)
      · exact .inr (.inr e)
    · rw [if_neg h]
      have := ih a
      simp only [List.mem_cons] at this ⊢
      rcases this with e | e
      · exact .inl e
      · exact .inr (.inr e)
theorem minW_le (a : Who) (r : List Who) : ∀ x ∈ a :: r, ¬ ltW x (minW a r) := by
  unfold minW
  induction r generalizing a with
  | nil =>
    intro x hx
    rw [List.mem_singleton.mp hx]
    exact ltW_irr _
  | cons y r ih =>
    intro x hx
    rw [List.foldl_cons]
    by_cases h : ltW y a
    · rw [if_pos h]
      have hy := ih y
      rcases List.mem_cons.mp hx with rfl | hx
      · have := hy y (List.mem_cons_self ..)
        intro z
        refine this ?_
        unfold ltW at h z ⊢
        omega
      · exact hy x hx
    · rw [if_neg h]
      have ha := ih a
      rcases List.mem_cons.mp hx with rfl | hx
      · exact ha x (List.mem_cons_self ..)
      · rcases List.mem_cons.mp hx with rfl | hx
        · have := ha a (List.mem_cons_self ..)
          intro z
          unfold ltW at h z this
          omega
        · exact ha x (List.mem_cons_of_mem _ hx)
end
end RF

/-! the lock and its model in the store -/
namespace RF
open PySem L2
section
variable {S : Sto} {w u : Who} {v t h d : D} {n : Nat} {C : Addr} {t2 : Int × Int} {g : Option Who}
def nV : Str := ⟨#[118, 97, 108, 117, 101]⟩
def nT : Str := ⟨#[116, 117, 114, 110]⟩
def nH : Str := ⟨#[104, 111, 108, 100, 101, 114]⟩
def nW : Str := ⟨#[95, 119, 104, 111, 115]⟩
def nA : Str := ⟨#[119, 97, 105, 116, 105, 110, 103]⟩
def lkF (v t h : D) (n : Nat) : List (Str × D) := [(nV, v), (nT, t), (nH, h), (nW, .ref n)]
def lkC (C : Addr) (v t h : D) (n : Nat) : Cell := .ins C (lkF v t h n)
def mdF (v t h : D) (n : Nat) : List (Key × D) := [(.inr nV, v), (.inr nT, t), (.inr nH, h), (.inr nA, .ref n)]
def mdC (v t h : D) (n : Nat) : Cell := .dk (mdF v t h n)
end
def upW (tr : Int × Int) (att : Int) (w : Who) : Bool := decide (w.1 = tr) && decide (w.2 ≤ att)
structure LSt where
  v : Int
  t : Int
  h : Option Who
  ws : List Who
def keepS (st : LSt) (tr : Int × Int) (att : Int) : List Who := st.ws.filter fun w => !upW tr att w
def goneS (st : LSt) (tr : Int × Int) (att : Int) : Bool := match st.h with
  | none => false
  | some x => upW tr att x
def freeS (st : LSt) (tr : Int × Int) (att : Int) : LSt × List Who :=
  if goneS st tr att = false then (⟨st.v, st.t, st.h, keepS st tr att⟩, [])
  else match keepS st tr att with
    | [] => (⟨st.v, st.t, none, []⟩, [])
    | a :: r => (⟨st.v, st.t + 1, some (minW a r), (a :: r).filter fun w => !decide (w = minW a r)⟩, [minW a r])
def askS (st : LSt) (u : Who) : LSt × List Who :=
  let p := freeS st u.1 (u.2 - 1)
  match p.1.h with
  | none => (⟨p.1.v, p.1.t + 1, some u, p.1.ws⟩, [u])
  | some x => if x ≠ u ∧ u ∉ p.1.ws then (⟨p.1.v, p.1.t, p.1.h, p.1.ws ++ [u]⟩, p.2) else p
def finS (st : LSt) (u : Who) (z : Int) : LSt × List Who :=
  if st.h ≠ some u then (st, []) else freeS ⟨z, st.t, st.h, st.ws⟩ u.1 u.2
def lkS (C : Addr) (st : LSt) (n : Nat) : Cell := lkC C (.int st.v) (.int st.t) (eH st.h) n
def mdS (st : LSt) (n : Nat) : Cell := mdC (.int st.v) (.int st.t) (eH st.h) n
/-- what keeps: all wait once; nobody waits where nobody holds -/
structure Okay (st : LSt) : Prop where
  nd : st.ws.Nodup
  no : st.h = none → st.ws = []
theorem keep_len {st : LSt} {tr : Int × Int} {att : Int} : (keepS st tr att).length ≤ st.ws.length := List.length_filter_le ..
theorem Okay.free {st : LSt} (o : Okay st) (tr : Int × Int) (att : Int) : Okay (freeS st tr att).1 ∧ (freeS st tr att).1.ws.length ≤ st.ws.length := by
  have hn : (keepS st tr att).Nodup := o.nd.filter _
  have hk := keep_len (st := st) (tr := tr) (att := att)
  unfold freeS
  split
  · refine ⟨⟨hn, fun e => ?_⟩, hk⟩
    have e : st.h = none := e
    show st.ws.filter _ = []
    rw [o.no e]; rfl
  · split
    · exact ⟨⟨List.nodup_nil, fun _ => rfl⟩, Nat.zero_le _⟩
    · rename_i a r h
      rw [h] at hn hk
      exact ⟨⟨show (List.filter (fun w => !decide (w = minW a r)) (a :: r)).Nodup from List.Pairwise.filter _ hn, fun e => by cases e⟩, Nat.le_trans (List.length_filter_le ..) hk⟩
theorem Okay.ask {st : LSt} (o : Okay st) (u : Who) : Okay (askS st u).1 ∧ (askS st u).1.ws.length ≤ st.ws.length + 1 := by
  obtain ⟨o1, hl⟩ := o.free u.1 (u.2 - 1)
  unfold askS
  simp only
  split
  · rename_i h
    exact ⟨⟨o1.nd, fun e => by cases e⟩, by show (freeS st u.1 (u.2 - 1)).1.ws.length ≤ _; omega⟩
  · rename_i x h
    split
    · rename_i h2
      refine ⟨⟨?_, fun e => ?_⟩, ?_⟩
      · show (_ ++ [u]).Nodup
        rw [List.nodup_append]
        refine ⟨o1.nd, by simp, fun a ha b hb e => ?_⟩
        rw [List.mem_singleton] at hb
        rw [e.trans hb] at ha
        exact h2.2 ha
      · have e : (freeS st u.1 (u.2 - 1)).1.h = none := e
        rw [h] at e; cases e
      · show (_ ++ [u]).length ≤ _
        rw [List.length_append, List.length_singleton]; omega
    · exact ⟨o1, by omega⟩
theorem Okay.fin {st : LSt} (o : Okay st) (u : Who) (z : Int) : Okay (finS st u z).1 ∧ (finS st u z).1.ws.length ≤ st.ws.length := by
  unfold finS
  split
  · exact ⟨o, Nat.le_refl _⟩
  · exact Okay.free (st := ⟨z, st.t, st.h, st.ws⟩) ⟨o.nd, o.no⟩ u.1 u.2
end RF

namespace RF
open PySem L2
/-! draws -/
abbrev Sd := Int × Int
def stC (s : Sd) : Cell := .lst [.int s.1, .int s.2]
def dNext (size : Int) (s : Sd) : Int × Sd :=
  if 0 < s.1 then (s.1 % size, (s.1 / size, s.2)) else
    let b := (s.2 * 48271 + 12820163) % 2147483647
    ((b * 16807 + 5) % 2147483399 / 3 % size, (s.1, b))
theorem dNext_lo {size : Int} (h : 0 < size) (s : Sd) : 0 ≤ (dNext size s).1 := by
  unfold dNext; split <;> exact Int.emod_nonneg _ (by omega)
theorem dNext_hi {size : Int} (h : 0 < size) (s : Sd) : (dNext size s).1 < size := by
  unfold dNext; split <;> exact Int.emod_lt_of_pos _ h
def dWho (s : Sd) : Who × Sd :=
  let (a, s) := dNext 5 s
  let (b, s) := dNext 3 s
  let (k, s) := dNext 8 s
  if k = 0 then
    let (a, s) := dNext (10 ^ 12) s
    let (b, s) := dNext (10 ^ 12) s
    let (x, s) := dNext 3 s
    (((1 + a, b), 1 + x), s)
  else
    let (x, s) := dNext 3 s
    (((1 + a, b), 1 + x), s)
/-- what an operation leaves: its object at l, its list, the list that it returns -/
structure Aft (X : Nat → Cell) (A B : Cell) (l : Nat) (S S1 : Sto) (r : Nat) : Prop where
  ex : ∃ w, S1[l]? = some (X w) ∧ S1[w]? = some A ∧ w ≠ r ∧ S.length ≤ w ∧ w < S1.length
  rs : S1[r]? = some B
  rn : S.length ≤ r
  le : S.length ≤ S1.length
  fr : ∀ i, i < S.length → i ≠ l → S1[i]? = S[i]?
theorem aft_of {X : Nat → Cell} {A B : Cell} {l : Nat} {S : Sto} {x : R D} (h : ∃ T w r, x = .ok (.ref (S.length + r)) (S.set l (X (S.length + w)) ++ T) ∧ T[w]? = some A ∧ T[r]? = some B ∧ w ≠ r) (hl : l < S.length) :
    ∃ S1 r, x = .ok (.ref r) S1 ∧ Aft X A B l S S1 r := by
  obtain ⟨T, w, r, e1, e2, e3, e4⟩ := h
  refine ⟨_, _, e1, ⟨S.length + w, ?_, ?_, by omega, by omega, ?_⟩, ?_, by omega, ?_, fun i hi hne => ?_⟩
  · exact app_get (List.getElem?_set_self hl)
  · rw [get_apps]; exact e2
  · have := (List.getElem?_eq_some_iff.mp e2).1
    rw [List.length_append, List.length_set]; omega
  · rw [get_apps]; exact e3
  · rw [List.length_append, List.length_set]; omega
  · rw [List.getElem?_append_left (by rw [List.length_set]; exact hi), List.getElem?_set_ne (fun z => hne z.symm)]
/-- a lock at l and its model at m -/
structure Both (C : Addr) (l m : Nat) (st : LSt) (S : Sto) : Prop where
  lk : ∃ w, S[l]? = some (lkS C st w) ∧ S[w]? = some (.lst (eWs st.ws))
  md : ∃ q, S[m]? = some (mdS st q) ∧ S[q]? = some (.lst (eWs st.ws))
theorem ne_of_cell {S : Sto} {a b : Nat} {x y : Cell} (h1 : S[a]? = some x) (h2 : S[b]? = some y) (h : x ≠ y) : a ≠ b := fun e => h (by rw [e, h2] at h1; exact (Option.some.inj h1).symm)
/-- apart from what changes: nothing of these -/
def Kp (S S1 : Sto) (P : Nat → Prop) : Prop := S.length ≤ S1.length ∧ ∀ i, i < S.length → P i → S1[i]? = S[i]?
theorem Kp.get {S S1 : Sto} {P : Nat → Prop} (k : Kp S S1 P) {i : Nat} {c : Cell} (h : S[i]? = some c) (hp : P i) : S1[i]? = some c := (k.2 i (List.getElem?_eq_some_iff.mp h).1 hp).trans h
theorem Both.app {C : Addr} {l m : Nat} {st : LSt} {S : Sto} (h : Both C l m st S) (T : Sto) : Both C l m st (S ++ T) := by
  obtain ⟨⟨w, h1, h2⟩, ⟨q, h3, h4⟩⟩ := h
  exact ⟨⟨w, app_get h1, app_get h2⟩, ⟨q, app_get h3, app_get h4⟩⟩
def LkRes (C : Addr) (l : Nat) (S : Sto) (p : LSt × List Who) (x : R D) : Prop :=
  ∃ T w r, x = .ok (.ref (S.length + r)) (S.set l (lkS C p.1 (S.length + w)) ++ T) ∧ T[w]? = some (.lst (eWs p.1.ws)) ∧ T[r]? = some (.lst (eWs p.2)) ∧ w ≠ r
def MdRes (m : Nat) (S : Sto) (p : LSt × List Who) (x : R D) : Prop :=
  ∃ T w r, x = .ok (.ref (S.length + r)) (S.set m (mdS p.1 (S.length + w)) ++ T) ∧ T[w]? = some (.lst (eWs p.1.ws)) ∧ T[r]? = some (.lst (eWs p.2)) ∧ w ≠ r
/-- a deed on both -/
structure Two (C : Addr) (l m : Nat) (p : LSt × List Who) (S S1 S2 : Sto) (a b : Nat) : Prop where
  ha : S2[a]? = some (.lst (eWs p.2))
  hb : S2[b]? = some (.lst (eWs p.2))
  bo : Both C l m p.1 S2
  bs : ∀ d, Both C l m p.1 (S2.set a d)
  le : S.length ≤ S2.length
  fr : ∀ i, i < S.length → i ≠ l → i ≠ m → S2[i]? = S[i]?
  hs : S.length ≤ a
theorem two_of {C : Addr} {l m : Nat} {st : LSt} {p : LSt × List Who} {S : Sto} {x y : Sto → R D} (hlm : l ≠ m) (hb : Both C l m st S)
    (hx : ∀ S w, S[l]? = some (lkS C st w) → S[w]? = some (.lst (eWs st.ws)) → LkRes C l S p (x S)) (hy : ∀ S w, S[m]? = some (mdS st w) → S[w]? = some (.lst (eWs st.ws)) → MdRes m S p (y S)) :
    ∃ S1 a S2 b, x S = .ok (.ref a) S1 ∧ y S1 = .ok (.ref b) S2 ∧ Two C l m p S S1 S2 a b := by
  obtain ⟨⟨w, h1, h2⟩, ⟨q, h3, h4⟩⟩ := hb
  have hlS : l < S.length := (List.getElem?_eq_some_iff.mp h1).1
  have hmS : m < S.length := (List.getElem?_eq_some_iff.mp h3).1
  have hqS : q < S.length := (List.getElem?_eq_some_iff.mp h4).1
  obtain ⟨S1, a, e1, A⟩ := aft_of (hx S w h1 h2) hlS
  obtain ⟨w1, a1, a2, a3, a4, a5⟩ := A.ex
  have hql : q ≠ l := ne_of_cell h4 h1 (fun e => by cases e)
  have m1 : S1[m]? = some (mdS st q) := (A.fr m hmS (fun e => hlm e.symm)).trans h3
  have m2 : S1[q]? = some (.lst (eWs st.ws)) := (A.fr q hqS hql).trans h4
  have hmS1 : m < S1.length := (List.getElem?_eq_some_iff.mp m1).1
  obtain ⟨S2, b, e2, B⟩ := aft_of (hy S1 q m1 m2) hmS1
  obtain ⟨q1, b1, b2, b3, b4, b5⟩ := B.ex
  have ham : a ≠ m := ne_of_cell A.rs m1 (fun e => by cases e)
  have haS : a < S1.length := (List.getElem?_eq_some_iff.mp A.rs).1
  have hlS1 : l < S1.length := (List.getElem?_eq_some_iff.mp a1).1
  have hwm : w1 ≠ m := ne_of_cell a2 m1 (fun e => by cases e)
  have k1 : S2[l]? = some (lkS C p.1 w1) := (B.fr l hlS1 hlm).trans a1
  have k2 : S2[w1]? = some (.lst (eWs p.1.ws)) := (B.fr w1 a5 hwm).trans a2
  have k3 : S2[a]? = some (.lst (eWs p.2)) := (B.fr a haS ham).trans A.rs
  have hal : a ≠ l := ne_of_cell k3 k1 (fun e => by cases e)
  have haq : a ≠ q1 := by omega
  refine ⟨S1, a, S2, b, e1, e2, k3, B.rs, ⟨⟨w1, k1, k2⟩, ⟨q1, b1, b2⟩⟩, fun d => ⟨⟨w1, ?_, ?_⟩, ⟨q1, ?_, ?_⟩⟩, Nat.le_trans A.le B.le, fun i h1 h2 h3 => ?_, A.rn⟩
  · rw [List.getElem?_set_ne hal]; exact k1
  · rw [List.getElem?_set_ne (fun e => a3 e.symm)]; exact k2
  · rw [List.getElem?_set_ne ham]; exact b1
  · rw [List.getElem?_set_ne haq]; exact b2
  · rw [B.fr i (by have := A.le; omega) h3, A.fr i h1 h2]
section
variable {S : Sto} {n : Nat} {xs : List D} {v t h : D} {C : Addr}
def seqC : Option Cell → Option (List D)
  | some (.lst xs) => some xs
  | _ => none
theorem o_seqR : seqD S (.ref n) = seqC S[n]? := by unfold seqD seqC; rfl
theorem o_seqC : seqC (some (.lst xs)) = some xs := (rfl)
end
end RF

namespace RF
open PySem L2
/-- what an operation leaves: its object at l, its list (new, or the one at w0), the list that it returns -/
structure Aft2 (X : Nat → Cell) (A B : Cell) (l w0 : Nat) (S S1 : Sto) (r : Nat) : Prop where
  ex : ∃ w, S1[l]? = some (X w) ∧ S1[w]? = some A ∧ w ≠ r ∧ (S.length ≤ w ∨ w = w0) ∧ w < S1.length
  rs : S1[r]? = some B
  rn : S.length ≤ r
  le : S.length ≤ S1.length
  fr : ∀ i, i < S.length → i ≠ l → S1[i]? = S[i]?
theorem Aft.two {X : Nat → Cell} {A B : Cell} {l w0 : Nat} {S S1 : Sto} {r : Nat} (h : Aft X A B l S S1 r) : Aft2 X A B l w0 S S1 r := by
  obtain ⟨⟨w, a, b, c, d, e⟩, f, g, i, j⟩ := h
  exact ⟨⟨w, a, b, c, .inl d, e⟩, f, g, i, j⟩
end RF

/-! C(k = v, ..), all by keywords -/
namespace RF
open PySem L2
def fMakeK (C : Addr) (F : FF) (n j : Nat) (g : List D → List D → List D) (fs : AF) : EF := fun env S => (fs env S).bind fun ds S1 => if ds.length = j ∧ (g [.ref S1.length] ds).length = n then (F (g [.ref S1.length] ds) (S1 ++ [.ins C []])).nox.bind (mkK2 S1.length) else .bad
section
variable {X : Cx} {E : XK} {k n : Nat} {f C : Addr} {fd : FuncData} {ps ks : List Str} {F : FF} {x nm : Str} {p pos kpos : Pos} {e : Expr} {kws : List Keyword} {fa : EF} {fs : AF} {g : List Value → List Value → List Value} {gV : List V → List V → List V} {gD : List D → List D → List D}
end
section
variable {C : Addr} {F : FF} {n j k : Nat} {g : List D → List D → List D} {fs : AF} {env : Lc} {S : Sto} {ds : List D}
def mkKK (C : Addr) (F : FF) (n j : Nat) (g : List D → List D → List D) : List D → Sto → R D := fun ds S1 => if ds.length = j ∧ (g [.ref S1.length] ds).length = n then (F (g [.ref S1.length] ds) (S1 ++ [.ins C []])).nox.bind (mkK2 S1.length) else .bad
def rng2K : List D → Sto → R It' := fun ds S1 => match ds with
  | [.int i, .int j] => if -(2 ^ 62) ≤ i ∧ i < 2 ^ 62 ∧ -(2 ^ 62) ≤ j ∧ j < 2 ^ 62 then .ok (.fix (rngD i (j - i).toNat)) S1 else .bad
  | _ => .bad
theorem ap_fRng2 : fRng2 fs env S = (fs env S).bind rng2K := (rfl)
theorem ap_rng2K {i j : Int} : rng2K [.int i, .int j] S = if -(2 ^ 62) ≤ i ∧ i < 2 ^ 62 ∧ -(2 ^ 62) ≤ j ∧ j < 2 ^ 62 then .ok (.fix (rngD i (j - i).toNat)) S else .bad := (rfl)
end
end RF

/-! a lock that is emptied -/
namespace RF
open PySem L2
def al (k : Nat) (st : LSt) (hs : List Who) : List Who := hs ++ (if k = 0 then [] else st.h.toList)
structure EI (ws0 : List Who) (t0 : Int) (k : Nat) (st : LSt) (hs : List Who) : Prop where
  ok : Okay st
  tn : st.t = t0 + (al k st hs).length
  sr : (al k st hs).Pairwise (fun a b => leW a b = true)
  le : ∀ a ∈ al k st hs, ∀ b ∈ st.ws, leW a b = true
  sb : ∀ a ∈ al k st hs, a ∈ ws0
  sw : ∀ b ∈ st.ws, b ∈ ws0
  ln : st.h.isSome = true → st.ws.length + k ≤ ws0.length
  hl : hs.length ≤ k
theorem EI.step {ws0 : List Who} {t0 : Int} {k : Nat} {st : LSt} {hs : List Who} {x : Who} (z : Int) (e : EI ws0 t0 k st hs) (hh : st.h = some x) : EI ws0 t0 (k + 1) (finS st x z).1 (al k st hs) := by
  obtain ⟨ok, tn, sr, le, sb, sw, ln, hl⟩ := e
  have hl2 : (al k st hs).length ≤ k + 1 := by
    unfold al
    rw [List.length_append]
    split
    · simp; omega
    · rw [hh]; simp; omega
  have hln := ln (by rw [hh]; rfl)
  have o2 := (ok.fin x z).1
  generalize al k st hs = gs at tn sr le sb hl2
  have hg : goneS ⟨z, st.t, st.h, st.ws⟩ x.1 x.2 = true := by unfold goneS upW; rw [hh]; simp
  have hks : ∀ b ∈ keepS ⟨z, st.t, st.h, st.ws⟩ x.1 x.2, b ∈ st.ws := fun b hb => (List.mem_filter.mp hb).1
  have hkl := keep_len (st := ⟨z, st.t, st.h, st.ws⟩) (tr := x.1) (att := x.2)
  have hf : finS st x z = freeS ⟨z, st.t, st.h, st.ws⟩ x.1 x.2 := by unfold finS; rw [if_neg (fun k => k hh)]
  rw [hf] at o2 ⊢
  unfold freeS at o2 ⊢
  rw [hg] at o2 ⊢
  simp only [Bool.true_eq_false, if_false] at o2 ⊢
  cases hq : keepS ⟨z, st.t, st.h, st.ws⟩ x.1 x.2 with
  | nil =>
    rw [hq] at o2
    have ea : al (k + 1) ⟨z, st.t, none, []⟩ gs = gs := by simp [al]
    exact ⟨o2, by rw [ea]; exact tn, by rw [ea]; exact sr, fun _ _ b hb => by simp at hb, by rw [ea]; exact sb, fun b hb => by simp at hb, fun h => by simp at h, hl2⟩
  | cons a r =>
    rw [hq] at o2 hks hkl
    simp only at o2 ⊢
    have hm := minW_mem a r
    have hle := minW_le a r
    generalize minW a r = mn at o2 hm hle
    have hmw := hks mn hm
    have ea : al (k + 1) ⟨z, st.t + 1, some mn, (a :: r).filter fun w => !decide (w = mn)⟩ gs = gs ++ [mn] := by simp [al]
    refine ⟨o2, ?_, ?_, ?_, ?_, ?_, ?_, hl2⟩
    · rw [ea, List.length_append]
      show st.t + 1 = _
      simp; omega
    · rw [ea, List.pairwise_append]
      refine ⟨sr, by simp, fun p hp q hq2 => ?_⟩
      rw [List.mem_singleton] at hq2
      subst hq2
      exact le p hp _ hmw
    · rw [ea]
      intro p hp b hb
      have hb2 : b ∈ a :: r := (List.mem_filter.mp hb).1
      rcases List.mem_append.mp hp with hp | hp
      · exact le p hp b (hks b hb2)
      · rw [List.mem_singleton] at hp
        subst hp
        exact leW_iff.mpr (hle b hb2)
    · rw [ea]
      intro p hp
      rcases List.mem_append.mp hp with hp | hp
      · exact sb p hp
      · rw [List.mem_singleton] at hp
        subst hp
        exact sw _ hmw
    · intro b hb
      exact sw b (hks b (List.mem_filter.mp hb).1)
    · intro _
      have h1 : ((a :: r).filter fun w => !decide (w = mn)).length < (a :: r).length := by
        rw [List.length_filter_lt_length_iff_exists]
        exact ⟨mn, hm, by simp⟩
      show ((a :: r).filter fun w => !decide (w = mn)).length + (k + 1) ≤ ws0.length
      have h2 : (LSt.mk z st.t st.h st.ws).ws.length = st.ws.length := rfl
      omega
theorem EI.last {ws0 : List Who} {t0 : Int} {st : LSt} {hs : List Who} (e : EI ws0 t0 (ws0.length + 1) st hs) : st.h = none := by
  cases h : st.h with
  | none => rfl
  | some x =>
    have := e.ln (by rw [h]; rfl)
    omega
theorem EI.done {ws0 : List Who} {t0 : Int} {k : Nat} {st : LSt} {hs : List Who} (e : EI ws0 t0 k st hs) (hh : st.h = none) : st.ws = [] ∧ st.t = t0 + hs.length ∧ sortW hs = hs ∧ ∀ a ∈ hs, a ∈ ws0 := by
  have ea : al k st hs = hs := by unfold al; rw [hh]; simp
  obtain ⟨ok, tn, sr, le, sb, sw, ln, hl⟩ := e
  rw [ea] at tn sr sb
  exact ⟨ok.no hh, tn, List.mergeSort_of_pairwise sr, sb⟩
end RF

/-! list(d), d a dict with tuples as keys -/
namespace RF
open PySem L2
def kD : Key → D
  | .inl i => .int i
  | .inr x => .str x
def keysOf (kvs : List (List Key × D)) : List D := kvs.map fun kv => .tup (kv.1.map kD)
def oListT : OpN := fun ds S => match ds with
  | [.ref n] => match S[n]? with
    | some (.dt kvs) => .ok (.ref S.length) (S ++ [.lst (keysOf kvs)])
    | _ => oList [.ref n] S
  | ds => oList ds S
def rListT (K : PySem.W.Frag) : List V → Hp → VK → Prop := fun xs H Q => (∃ p ys, xs = [.ref p] ∧ (SqL K H p ys ∨ SqT K H p ys) ∧ ∀ l, H l = none → Q (.ref l) (upd H l (.lst ys))) ∨
  ∃ d kvs, xs = [V.ref d] ∧ Rd H d (.dT kvs) ∧ ∀ p bs, H p = none → IsKeys H kvs bs → Q (.ref p) (upd H p (.lst (bs.map V.ref)))
section
variable {K : PySem.W.Frag} {E : XK}
end
end RF

/-! keys (house, name), steps, programs -/
namespace RF
open PySem L2
abbrev K2 := Int × Str
def eK (k : K2) : D := .tup [.int k.1, .str k.2]
def pK (k : K2) : PyData := .tuple [.int k.1, .str k.2]
def kk (k : K2) : List Key := [.inl k.1, .inr k.2]
def eKs (ks : List K2) : List D := ks.map eK
/-- the key of a step -/
def keyOfD : D → K2
  | .tup (_ :: .tup [.int a, .str b] :: _) => (a, b)
  | _ => (0, ⟨#[]⟩)
structure IsStep (d : D) : Prop where
  ex : ∃ w r, d = .tup (w :: eK (keyOfD d) :: r)
  ok : PyData.strOk (keyOfD d).2 = true
section
variable {S : Sto} {n j : Nat} {k g : K2} {ks gs : List K2}
theorem toP_eK (h : PyData.strOk k.2 = true) : toP S (j + 1) (eK k) = some (pK k) := by
  unfold eK pK
  rw [toP_tup, toP_mapM_cons, toP_mapM_cons, toP_mapM_nil, toP_int, toP_str, if_pos h]
  rfl
theorem eqv_K : PyData.eqv (pK k) (pK g) = decide (k = g) := by
  unfold pK
  simp only [PyData.eqv, PyData.eqvAll]
  obtain ⟨a, b⟩ := k
  obtain ⟨c, d⟩ := g
  simp only [Prod.mk.injEq]
  by_cases h1 : a = c <;> by_cases h2 : b = d <;> simp [h1, h2]
/-! unlike keys, in the order of their first use -/
def addK (acc : List K2) (k : K2) : List K2 := if k ∈ acc then acc else acc ++ [k]
def unl (ks : List K2) : List K2 := ks.foldl addK []
def encK (ks : List K2) : List (List Key × D) := ks.map fun k => (kk k, .bl true)
def listTC (S : Sto) (n : Nat) : Option Cell → R D
  | some (.dt kvs) => .ok (.ref S.length) (S ++ [.lst (keysOf kvs)])
  | _ => oList [.ref n] S
end
end RF

/-! dicts whose keys are tuples of any form (nested): in, [], get, [] =, list(d), len(d), {} -/
namespace RF
open PySem L2

mutual
def keyN : D → Option NestedKey
  | .non => some .none
  | .int i => some (.num i)
  | .str x => some (.text x)
  | .tup ds => match keyNs ds with
    | some ks => some (.tup ks)
    | none => none
  | .bl _ => none
  | .ref _ => none
  | .rl _ => none
  | .kt _ => none
def keyNs : List D → Option (List NestedKey)
  | [] => some []
  | d :: ds => match keyN d with
    | some k => match keyNs ds with
      | some ks => some (k :: ks)
      | none => none
    | none => none
end
mutual
def dOf : NestedKey → D
  | .none => .non
  | .num i => .int i
  | .text x => .str x
  | .tup ks => .tup (dOfs ks)
def dOfs : List NestedKey → List D
  | [] => []
  | k :: ks => dOf k :: dOfs ks
end
/-- the key that a tuple is -/
def keyT : D → Option NestedKey
  | .tup ds => match keyNs ds with
    | some ks => if NestedKey.depth (.tup ks) ≤ 8 then some (.tup ks) else none
    | none => none
  | _ => none
section
variable {K : PySem.W.Frag} {L : List Addr} {H : Hp} {S : Sto}
mutual
theorem RD.nk : ∀ {v : V} {d : D} {k : NestedKey}, RD K L H v d → keyN d = some k → NK H k v
  | _, _, _, .non, e => by simp only [keyN] at e; cases e; exact .none
  | _, _, _, .int i, e => by simp only [keyN] at e; cases e; exact .num i
  | _, _, _, .str x, e => by simp only [keyN] at e; cases e; exact .text x
  | _, _, _, .bl b, e => by simp only [keyN] at e; cases e
  | _, _, _, .ref h, e => by simp only [keyN] at e; cases e
  | _, _, _, .rl h r, e => by simp only [keyN] at e; cases e
  | _, _, _, .kt h r, e => by simp only [keyN] at e; cases e
  | _, _, _, .tup (ds := ds) h r, e => by
    simp only [keyN] at e
    cases q : keyNs ds with
    | none => rw [q] at e; cases e
    | some ks => rw [q] at e; cases e; exact .tup h (RDs.nks r q)
theorem RDs.nks : ∀ {vs : List V} {ds : List D} {ks : List NestedKey}, RDs K L H vs ds → keyNs ds = some ks → NKs H ks vs
  | _, _, _, .nil, e => by simp only [keyNs] at e; cases e; exact .nil
  | _, _, _, .cons (d := d) (ds := ds) a b, e => by
    simp only [keyNs] at e
    cases q : keyN d with
    | none => rw [q] at e; cases e
    | some k =>
      rw [q] at e
      cases q2 : keyNs ds with
      | none => rw [q2] at e; cases e
      | some ks => rw [q2] at e; cases e; exact .cons (RD.nk a q) (RDs.nks b q2)
end
mutual
theorem NK.rd : ∀ {k : NestedKey} {v : V}, NK H k v → RD K L H v (dOf k)
  | _, _, .none => by simp only [dOf]; exact .non
  | _, _, .num i => by simp only [dOf]; exact .int i
  | _, _, .text x => by simp only [dOf]; exact .str x
  | _, _, .tup h r => by simp only [dOf]; exact .tup h (NKs.rd r)
theorem NKs.rd : ∀ {ks : List NestedKey} {vs : List V}, NKs H ks vs → RDs K L H vs (dOfs ks)
  | _, _, .nil => by simp only [dOfs]; exact .nil
  | _, _, .cons a b => by simp only [dOfs]; exact .cons (NK.rd a) (NKs.rd b)
end
end
/-! the heap -/
mutual
theorem nk_is {P : Program} {w : World} {H : Hp} {h : Heap} (ok : HOk P w H h) : ∀ {k : NestedKey} {v : V} {u : Value}, NK H k v → RelV v u → NestedIs h k u
  | _, _, _, .none, r => by cases (show _ = Value.none from r); exact .none
  | _, _, _, .num i, r => by obtain ⟨t, q⟩ := (show ∃ t, _ = Value.int i t from r); cases q; exact .int i t
  | _, _, _, .text x, r => by obtain ⟨t, q⟩ := (show ∃ t, _ = Value.str x t from r); cases q; exact .text x t
  | _, _, _, .tup (a := a) (vs := vs) e rs, r => by
    cases (show _ = Value.ref a from r)
    obtain ⟨_, its, rv, o, h1, h2, n, h3⟩ := (show ObjOk P w H h a (.tup vs) from ok a _ e)
    exact .tup h1 h2 h3 (by simpa using nks_are ok rs rv)
theorem nks_are {P : Program} {w : World} {H : Hp} {h : Heap} (ok : HOk P w H h) : ∀ {ks : List NestedKey} {vs : List V} {us : List Value}, NKs H ks vs → Vals vs us → NestedAll h ks us
  | _, _, _, .nil, r => by cases r; exact .nil
  | _, _, _, .cons a b, r => by cases r with | cons r1 r2 => exact .cons (nk_is ok a r1) (nks_are ok b r2)
end
abbrev ZOk (H : Hp) (zs : List ZN) : Prop := ∀ z ∈ zs, NK H z.1 (.ref z.2.1) ∧ z.1.depth ≤ 8
def valZ (zs : List ZN) (k : NestedKey) : Option V := (zs.find? fun z => decide (z.1 = k)).map (·.2.2)
def putZ (zs : List ZN) (k : NestedKey) (b : Addr) (v : V) : List ZN := if (zs.any fun z => decide (z.1 = k)) = true then zs.map (fun z => if z.1 = k then (z.1, z.2.1, v) else z) else zs ++ [(k, b, v)]
section
variable {P : Program} {w : World} {H : Hp} {h : Heap} {a : Addr} {zs : List ZN}
end
section
variable {X : Cx} {pins : List (Addr × Obj)} {σ : St} {H : Hp} {s : Shared} {a b : Addr} {zs : List ZN} {k : NestedKey} {u : Value} {A : Around} {E : Value → Shared → Prop}
end
/-! rules by values -/
def rInN (w : World) (neg : Bool) : R2 := fun x y H Q => ∃ a b zs k, x = .ref b ∧ y = .ref a ∧ Rd H a (dnO w a zs) ∧ ZOk H zs ∧ NK H k (.ref b) ∧ k.depth ≤ 8 ∧ Q (.bl (if neg = true then !(valZ zs k).isSome else (valZ zs k).isSome)) H
section
variable {X : Cx}
end
/-! functions -/
open Classical in
noncomputable def lookNC (w : World) (c : Option Cell) (y : D) : Option (Option D) := match c with
  | some (.dn w' kvs) => if w = w' then (keyT y).map fun k => valK kvs k else none
  | some (.df w' kvs) => if w = w' then (keyT y).map fun k => valK kvs k else none
  | _ => none
noncomputable def lookN (w : World) (S : Sto) (x y : D) : Option (Option D) := match x with
  | .ref n => lookNC w S[n]? y
  | _ => none
noncomputable def oInN (w : World) (neg : Bool) : Op2 := fun y x S => match lookN w S x y with
  | some o => .ok (.bl (if neg = true then !o.isSome else o.isSome)) S
  | none => .bad
noncomputable def oIxN (w : World) : Op2 := fun x y S => match lookN w S x y with
  | some (some d) => .ok d S
  | _ => .bad
noncomputable def fIxN (w : World) (fa fb : EF) : EF := fBin (oIxN w) fa fb
def isN (S : Sto) : D → Bool
  | .ref n => match S[n]? with
    | some (.dn _ _) => true
    | some (.df _ _) => true
    | _ => false
  | _ => false
noncomputable def getN (w : World) (x y d : D) (S : Sto) : R D := match lookN w S x y with
  | some o => .ok (o.getD d) S
  | none => .bad
noncomputable def fGetN (w : World) (fo fk fx : EF) : EF := fun env S => (fo env S).bind fun x S1 => if isN S1 x = true then (fk env S1).bind fun y S2 => (fx env S2).bind fun d S3 => getN w x y d S3 else .bad
open Classical in
noncomputable def setNC (w : World) (S : Sto) (n : Nat) (c : Option Cell) (y d : D) : R Unit := match c with
  | some (.dn w' kvs) => if w = w' then match keyT y with
    | some k => if kvs.length < 100000 then .ok () (S.set n (.dn w (putKD kvs k d))) else .bad
    | none => .bad
    else .bad
  | _ => .bad
noncomputable def oSetN (w : World) (x y d : D) (S : Sto) : R Unit := match x with
  | .ref n => setNC w S n S[n]? y d
  | _ => .bad
noncomputable def gSubN (w : World) (fo fi : EF) : GF := fun d env S => (fo env S).bind fun x S1 => (fi env S1).bind fun y S2 => (oSetN w x y d S2).bind fun _ S3 => .ok env S3
def fDictN0 (w : World) : EF := fun _ S => .ok (.ref S.length) (S ++ [.dn w []])
section
variable {K : PySem.W.Frag} {L : List Addr} {H : Hp} {S : Sto}
theorem RN.length : ∀ {zs : List ZN} {kvs : List (NestedKey × D)}, RN K L H zs kvs → zs.length = kvs.length
  | [], [], _ => rfl
  | p :: ps, q :: qs, ⟨_, _, _, d⟩ => by rw [List.length_cons, List.length_cons, RN.length d]
  | [], _ :: _, h => h.elim
  | _ :: _, [], h => h.elim
theorem RN.val (k : NestedKey) : ∀ {zs : List ZN} {kvs : List (NestedKey × D)}, RN K L H zs kvs → (valK kvs k = none ∧ valZ zs k = none) ∨ ∃ v d, valK kvs k = some d ∧ valZ zs k = some v ∧ RD K L H v d
  | [], [], _ => .inl ⟨rfl, rfl⟩
  | p :: ps, q :: qs, ⟨a, _, c, d⟩ => by
    unfold RF.valK valZ
    rw [List.find?_cons, List.find?_cons, a]
    cases q' : decide (q.1 = k) with
    | true => exact .inr ⟨_, _, rfl, rfl, c⟩
    | false => exact RN.val k d
  | [], _ :: _, h => h.elim
  | _ :: _, [], h => h.elim
theorem RN.any (k : NestedKey) : ∀ {zs : List ZN} {kvs : List (NestedKey × D)}, RN K L H zs kvs → (zs.any fun z => decide (z.1 = k)) = kvs.any fun z => decide (z.1 = k)
  | [], [], _ => rfl
  | p :: ps, q :: qs, ⟨a, _, _, d⟩ => by rw [List.any_cons, List.any_cons, RN.any k d, a]
  | [], _ :: _, h => h.elim
  | _ :: _, [], h => h.elim
theorem RN.repl {k : NestedKey} {v : V} {d : D} (rv : RD K L H v d) : ∀ {zs : List ZN} {kvs : List (NestedKey × D)}, RN K L H zs kvs → RN K L H (zs.map fun z => if z.1 = k then (z.1, z.2.1, v) else z) (kvs.map fun z => if z.1 = k then (z.1, d) else z)
  | [], [], _ => trivial
  | p :: ps, q :: qs, ⟨a, b, c, e⟩ => by
    rw [List.map_cons, List.map_cons]
    by_cases h : p.1 = k
    · simp only [if_pos h, if_pos (a.symm.trans h)]
      exact ⟨a, b, rv, RN.repl rv e⟩
    · simp only [if_neg h, if_neg (fun z => h (a.trans z))]
      exact ⟨a, b, c, RN.repl rv e⟩
  | [], _ :: _, h => h.elim
  | _ :: _, [], h => h.elim
theorem RN.snoc {k : NestedKey} {b : Addr} {v : V} {d : D} (h1 : NK H k (.ref b) ∧ k.depth ≤ 8) (rv : RD K L H v d) : ∀ {zs : List ZN} {kvs : List (NestedKey × D)}, RN K L H zs kvs → RN K L H (zs ++ [(k, b, v)]) (kvs ++ [(k, d)])
  | [], [], _ => ⟨rfl, h1, rv, trivial⟩
  | p :: ps, q :: qs, ⟨a, b', c, e⟩ => ⟨a, b', c, RN.snoc h1 rv e⟩
  | [], _ :: _, h => h.elim
  | _ :: _, [], h => h.elim
theorem RN.put {k : NestedKey} {b : Addr} {v : V} {d : D} {zs : List ZN} {kvs : List (NestedKey × D)} (h : RN K L H zs kvs) (h1 : NK H k (.ref b) ∧ k.depth ≤ 8) (rv : RD K L H v d) : RN K L H (putZ zs k b v) (putKD kvs k d) := by
  unfold putZ putKD
  rw [h.any k]
  split
  · exact h.repl rv
  · exact h.snoc h1 rv
end
section
variable {K : PySem.W.Frag} {E : XK} {w : World}
end
section
variable {X : Cx} {E : XK} {o i e f : Expr} {fo fi fk fx : EF} {pos apos cpos : Pos}
def tDNewN (w : World) : TE := fun _ H Q => ∀ p, H p = none → Q (.ref p) (upd H p (dnO w p []))
end
/-! list(d) -/
def keysN (kvs : List (NestedKey × D)) : List D := kvs.map fun kv => dOf kv.1
def oListN : OpN := fun ds S => match ds with
  | [.ref n] => match S[n]? with
    | some (.dn _ kvs) => .ok (.ref S.length) (S ++ [.lst (keysN kvs)])
    | _ => oListT [.ref n] S
  | ds => oListT ds S
def rListN (K : PySem.W.Frag) : List V → Hp → VK → Prop := fun xs H Q => rListT K xs H Q ∨
  ∃ a w zs, xs = [V.ref a] ∧ H a = some (dnO w a zs) ∧ ∀ p, H p = none → Q (.ref p) (upd H p (.lst (zs.map fun z => V.ref z.2.1)))
section
variable {X : Cx}
end
section
variable {K : PySem.W.Frag} {E : XK} {L : List Addr} {H : Hp}
theorem RN.keys : ∀ {zs : List ZN} {kvs : List (NestedKey × D)}, RN K L H zs kvs → RDs K L H (zs.map fun z => V.ref z.2.1) (keysN kvs)
  | [], [], _ => .nil
  | p :: ps, q :: qs, ⟨a, b, _, d⟩ => .cons (by show RD K L H (.ref p.2.1) (dOf q.1); rw [← a]; exact NK.rd b.1) (RN.keys d)
  | [], _ :: _, h => h.elim
  | _ :: _, [], h => h.elim
end
end RF

/-! rewriting lemmas for dicts with nested keys -/
namespace RF
open PySem L2
section
variable {env : Lc} {S : Sto} {n : Nat} {w : World} {x y d : D} {kvs : List (NestedKey × D)} {fa fb fc : EF} {neg : Bool}
def inNK (S : Sto) (neg : Bool) : Option (Option D) → R D
  | some o => .ok (.bl (if neg = true then !o.isSome else o.isSome)) S
  | none => .bad
def isNC : Option Cell → Bool
  | some (.dn _ _) => true
  | some (.df _ _) => true
  | _ => false
noncomputable def gtK (w : World) (fk fx : EF) (env : Lc) : D → Sto → R D := fun x S1 => if isN S1 x = true then (fk env S1).bind fun y S2 => (fx env S2).bind fun d S3 => getN w x y d S3 else .bad
noncomputable def gtK2 (w : World) (x : D) (fx : EF) (env : Lc) : D → Sto → R D := fun y S2 => (fx env S2).bind fun d S3 => getN w x y d S3
noncomputable def gtK3 (w : World) (x y : D) : D → Sto → R D := fun d S3 => getN w x y d S3
def getNK (S : Sto) (d : D) : Option (Option D) → R D
  | some o => .ok (o.getD d) S
  | none => .bad
def setNK (w : World) (S : Sto) (n : Nat) (kvs : List (NestedKey × D)) (d : D) : Option NestedKey → R Unit
  | some k => if kvs.length < 100000 then .ok () (S.set n (.dn w (putKD kvs k d))) else .bad
  | none => .bad
noncomputable def gnK (w : World) (fi : EF) (d : D) (env : Lc) : D → Sto → R Lc := fun x S1 => (fi env S1).bind fun y S2 => (oSetN w x y d S2).bind fun _ S3 => .ok env S3
noncomputable def gnK2 (w : World) (x d : D) (env : Lc) : D → Sto → R Lc := fun y S2 => (oSetN w x y d S2).bind fun _ S3 => .ok env S3
def gnK3 (env : Lc) : Unit → Sto → R Lc := fun _ S3 => .ok env S3
def listNC (S : Sto) (n : Nat) : Option Cell → R D
  | some (.dn _ kvs) => .ok (.ref S.length) (S ++ [.lst (keysN kvs)])
  | _ => oListT [.ref n] S
def prpK (C : Addr) (F : FF) (n : Nat) : D → Sto → R D := fun x S1 => match fldsOf C S1 x with
  | some _ => if 1 = n then (F [x] S1).nox else .bad
  | none => .bad
def prpK2 (F : FF) (n : Nat) (x : D) (S1 : Sto) : Option (Nat × List (Str × D)) → R D
  | some _ => if 1 = n then (F [x] S1).nox else .bad
  | none => .bad
theorem o_someMap {α β : Type} {f : α → β} {a : α} : (some a).map f = some (f a) := (rfl)
end
section
variable {X : Cx} {E : XK} {e : Expr} {fo : EF} {pos : Pos} {C p g : Addr} {f : Str} {k n : Nat} {fd : FuncData} {ps : List Str} {F : FF}
end
end RF

/-! < and > of data -/
namespace RF
open PySem L2
def rGtP (K : PySem.W.Frag) : R2 := fun x y H Q => ∃ p q, Dp K H x p ∧ Dp K H y q ∧ PySem.W.alike p q = true ∧ p ≠ .none ∧ p.depth ≤ 60 ∧ Q (.bl (PySem.W.dataLt q p)) H
def rLtP (K : PySem.W.Frag) : R2 := fun x y H Q => ∃ p q, Dp K H x p ∧ Dp K H y q ∧ PySem.W.alike p q = true ∧ p ≠ .none ∧ p.depth ≤ 60 ∧ Q (.bl (PySem.W.dataLt p q)) H
theorem op_ltP {X : Cx} (hu : X.A.units + 65 < cLine) : OpR X (compareOp .Lt) (rLtP X.K) := by
  intro pins s σ H x y v u Q I rx ry h
  obtain ⟨d, e, hd, he, ha, hn, hdep, q⟩ := h
  obtain ⟨as, r1⟩ := Dp.reads I d x v hd rx
  obtain ⟨bs, r2⟩ := Dp.reads I e y u he ry
  exact PySem.W.lt_data r1 r2 ha hn (by have := Nat.min_le_left d.depth e.depth; omega) ⟨.bl _, H, I, rfl, q⟩
def isNonP : PyData → Bool
  | .none => true
  | _ => false
def cmpP (f : PyData → PyData → Bool) (S : Sto) : Option PyData → Option PyData → R D
  | some p, some q => if (PySem.W.alike p q && !isNonP p && decide (p.depth ≤ 60)) = true then .ok (.bl (f p q)) S else .bad
  | _, _ => .bad
def oGtP : Op2 := fun x y S => cmpP (fun p q => PySem.W.dataLt q p) S (toP S 20 x) (toP S 20 y)
def oLtP : Op2 := fun x y S => cmpP (fun p q => PySem.W.dataLt p q) S (toP S 20 x) (toP S 20 y)
section
variable {K : PySem.W.Frag} {E : XK}
theorem cmpP_of {f : PyData → PyData → Bool} {L : List Addr} {H : Hp} {S : Sto} {x y : V} {d1 d2 : D} {Q : VK} (rep : Rep K L H S) (r1 : RD K L H x d1) (r2 : RD K L H y d2) (q : EndV K E L H Q (cmpP f S (toP S 20 d1) (toP S 20 d2))) :
    ∃ p q, Dp K H x p ∧ Dp K H y q ∧ PySem.W.alike p q = true ∧ p ≠ .none ∧ p.depth ≤ 60 ∧ Q (.bl (f p q)) H := by
  cases h1 : toP S 20 d1 with
  | none => rw [h1] at q; exact q.elim
  | some p1 =>
    cases h2 : toP S 20 d2 with
    | none => rw [h1, h2] at q; exact q.elim
    | some p2 =>
      rw [h1, h2] at q
      unfold cmpP at q
      simp only at q
      split at q
      · rename_i hc
        rw [Bool.and_eq_true, Bool.and_eq_true] at hc
        obtain ⟨a1, _⟩ := toP_of rep 20 _ _ _ r1 h1
        obtain ⟨b1, _⟩ := toP_of rep 20 _ _ _ r2 h2
        exact ⟨p1, p2, a1, b1, hc.1.1, fun z => by rw [z] at hc; simp [isNonP] at hc, of_decide_eq_true hc.2, EndV.val q rep (.bl _)⟩
      · exact q.elim
theorem f_ltP : OpF K E (rLtP K) oLtP := fun L H S x y d1 d2 Q rep r1 r2 q => cmpP_of (f := fun p q => PySem.W.dataLt p q) rep r1 r2 q
end
/-! pairs of ints -/
def ltT (a b : Int × Int) : Bool := decide (a.1 < b.1 ∨ (a.1 = b.1 ∧ a.2 < b.2))
section
variable {S : Sto} {a b : Int × Int}
end
end RF

/-! x in t, t a tuple; kinds of data that stand for values of a type; marks -/
namespace RF
open PySem L2
def rInTu (K : PySem.W.Frag) (neg : Bool) : R2 := fun x y H Q => ∃ d ds, Dp K H x d ∧ Dp K H y (.tuple ds) ∧ SeqAt.shaped d = true ∧ SeqAt.shaped (.tuple ds) = true ∧ Q (.bl (if neg = true then !(ds.any fun z => PyData.eqv z d) else ds.any fun z => PyData.eqv z d)) H
theorem lay_tup {ds : List PyData} (h : SeqAt.shaped (.tuple ds) = true) : PyData.canLayAll0 ds = true := by
  have := SeqAt.canLay_of_shaped h
  simpa only [PyData.canLay0] using this
theorem op_inTu {X : Cx} (hu : X.A.units + 65 < cLine) : OpR X (compareOp .In) (rInTu X.K false) := by
  intro pins s σ H x y v u Q I rx ry h
  obtain ⟨d, ds, hd, he, sd, se, q⟩ := h
  obtain ⟨as, r1⟩ := Dp.reads I d x v hd rx
  obtain ⟨bs, r2⟩ := Dp.reads I (.tuple ds) y u he ry
  exact SeqAt.in_tuple_reads r2 r1 (lay_tup se) (SeqAt.canLay_of_shaped sd) (PyProof.Rows.room_in_shaped sd hu) ⟨.bl _, H, I, rfl, q⟩
def oInTu (neg : Bool) : Op2 := fun x y S => match toP S 20 x, toP S 20 y with
  | some p, some (.tuple qs) => .ok (.bl (if neg = true then !(qs.any fun z => PyData.eqv z p) else qs.any fun z => PyData.eqv z p)) S
  | _, _ => .bad
theorem f_inTu {K : PySem.W.Frag} {E : XK} {neg : Bool} : OpF K E (rInTu K neg) (oInTu neg) := by
  intro L H S x y d1 d2 Q rep r1 r2 q
  unfold oInTu at q
  cases h1 : toP S 20 d1 with
  | none => rw [h1] at q; exact q.elim
  | some p1 =>
    cases h2 : toP S 20 d2 with
    | none => rw [h1, h2] at q; exact q.elim
    | some p2 =>
      rw [h1, h2] at q
      obtain ⟨a1, a2⟩ := toP_of rep 20 _ _ _ r1 h1
      obtain ⟨b1, b2⟩ := toP_of rep 20 _ _ _ r2 h2
      cases p2 with
      | tuple ps => exact ⟨p1, ps, a1, b1, a2.shaped (by decide), b2.shaped (by decide), EndV.val q rep (.bl _)⟩
      | _ => exact q.elim
/-- how the values of a type stand as data -/
structure Cod (α : Type) [DecidableEq α] where
  e : α → D
  p : α → PyData
  ok : α → Prop
  toP : ∀ (S : Sto) (k : Nat) (a : α), ok a → RF.toP S (k + 6) (e a) = some (p a)
  eqv : ∀ a b, PyData.eqv (p a) (p b) = decide (a = b)
  alike : ∀ a b, PySem.W.alike (p a) (p b) = true
  tupl : ∀ a, isTupP (p a) = true
namespace Cod
variable {α : Type} [DecidableEq α] {C : Cod α} {S : Sto} {n k : Nat} {a b : α} {as bs : List α}
def es (C : Cod α) (as : List α) : List D := as.map C.e
theorem es_len : (C.es as).length = as.length := List.length_map ..
theorem toPs (h : ∀ a ∈ as, C.ok a) : (C.es as).mapM (RF.toP S (k + 6)) = some (as.map C.p) := by
  induction as with
  | nil => rfl
  | cons a as ih =>
    show List.mapM (RF.toP S (k + 6)) (C.e a :: C.es as) = _
    rw [toP_mapM_cons, ih (fun x hx => h x (List.mem_cons_of_mem _ hx)), C.toP _ _ _ (h a (List.mem_cons_self ..))]; rfl
theorem one (h1 : C.ok a) (h2 : C.ok b) : oNe (C.e a) (C.e b) S = .ok (.bl (!decide (a = b))) S := by rw [o_ne, C.toP _ _ _ h1, C.toP _ _ _ h2, neK_some, C.eqv]
theorem any_ : ((as.map C.p).any fun z => PyData.eqv z (C.p a)) = decide (a ∈ as) := by
  induction as with
  | nil => simp
  | cons w ws ih =>
    rw [List.map_cons, List.any_cons, ih, C.eqv]
    by_cases h1 : w = a
    · simp [h1]
    · by_cases h2 : a ∈ ws
      · simp [h2]
      · have h3 : ¬ a = w := fun e => h1 e.symm
        simp [h1, h2, h3]
theorem oin {neg : Bool} (e1 : S[n]? = some (.lst (C.es as))) (h1 : ∀ a ∈ as, C.ok a) (h2 : C.ok a) {b : Bool} (hb : b = true ↔ a ∈ as) : oInL neg (C.e a) (.ref n) S = .ok (.bl (if neg = true then !b else b)) S := by
  unfold oInL
  rw [C.toP _ _ _ h2, show (20 : Nat) = 19 + 1 from rfl, toP_ref, e1, toPC_lst, show (19 : Nat) = 13 + 6 from rfl, toPs h1]
  have hd : decide (a ∈ as) = b := by cases b <;> simp at hb ⊢ <;> exact hb
  simp only [Option.map_some, any_, hd]
/-- sorted -/
def le (C : Cod α) (a b : α) : Bool := !PySem.W.dataLt (C.p b) (C.p a)
def sort (C : Cod α) (as : List α) : List α := as.mergeSort C.le
theorem zip_ : (C.es as).zip (as.map C.p) = as.map fun w => (C.e w, C.p w) := by
  induction as with
  | nil => rfl
  | cons w ws ih => show (C.e w, C.p w) :: (C.es ws).zip (ws.map C.p) = _; rw [ih]; rfl
theorem sortDs_ : sortDs (C.es as) (as.map C.p) = C.es (C.sort as) := by
  unfold sortDs sort
  rw [zip_, ← List.map_mergeSort (r := C.le) (s := PySem.W.dataLe false Prod.snd) (f := fun w => (C.e w, C.p w)) (l := as) (fun a _ b _ => ?_), List.map_map]
  · rfl
  · rw [PySem.W.dataLe_eq]; rfl
theorem sortB_ : sortB (as.map C.p) = true := by
  unfold sortB
  have h : likeB (as.map C.p) = true := by
    unfold likeB
    simp only [List.all_map, List.all_eq_true, Function.comp]
    intro a _ b _
    exact C.alike a b
  rw [h, Bool.true_and, Bool.or_eq_true]
  refine .inl ?_
  simp only [List.all_map, List.all_eq_true, Function.comp]
  intro a _
  exact C.tupl a
theorem osort (e1 : S[n]? = some (.lst (C.es as))) (h1 : ∀ a ∈ as, C.ok a) (hl : as.length ≤ 100000) : oSorted [.ref n] S = .ok (.ref S.length) (S ++ [.lst (C.es (C.sort as))]) := by
  unfold oSorted
  simp only
  have e : lstD S (.ref n) = some (C.es as) := by unfold lstD; simp only [e1]
  rw [e]
  simp only
  rw [show (20 : Nat) = 14 + 6 from rfl, toPs h1]
  simp only
  rw [if_pos ⟨sortB_, by rw [es_len]; exact hl⟩, sortDs_]
theorem sort_mem : a ∈ C.sort as ↔ a ∈ as := (List.mergeSort_perm _ _).mem_iff
theorem sort_len : (C.sort as).length = as.length := (List.mergeSort_perm _ _).length_eq
end Cod
/-! marks -/
abbrev Mk := (Int × Int) × Int × K2 × Int
def eM (m : Mk) : D := .tup [eT m.1, .int m.2.1, eK m.2.2.1, .int m.2.2.2]
def pM (m : Mk) : PyData := .tuple [pT m.1, .int m.2.1, pK m.2.2.1, .int m.2.2.2]
def kM (m : Mk) : NestedKey := .tup [.tup [.num m.1.1, .num m.1.2], .num m.2.1, .tup [.num m.2.2.1.1, .text m.2.2.1.2], .num m.2.2.2]
def okM (m : Mk) : Prop := PyData.strOk m.2.2.1.2 = true
def cM : Cod Mk where
  e := eM
  p := pM
  ok := okM
  toP := fun S k m h => by
    unfold eM pM
    have h : PyData.strOk m.2.2.1.2 = true := h
    rw [toP_tup, toP_mapM_cons, toP_mapM_cons, toP_mapM_cons, toP_mapM_cons, toP_mapM_nil, fT_eT, toP_int, toP_eK h, toP_int]
    rfl
  eqv := fun a b => by
    unfold pM
    simp only [PyData.eqv, PyData.eqvAll, eqv_T, eqv_K]
    obtain ⟨a1, a2, a3, a4⟩ := a
    obtain ⟨b1, b2, b3, b4⟩ := b
    simp only [Prod.mk.injEq]
    by_cases h1 : a1 = b1 <;> by_cases h2 : a2 = b2 <;> by_cases h3 : a3 = b3 <;> by_cases h4 : a4 = b4 <;> simp [h1, h2, h3, h4]
  alike := fun a b => by simp [pM, pT, pK, PySem.W.alike, PySem.W.alikeAll]
  tupl := fun a => by simp [pM, isTupP]
/-- a dict that holds marks alone -/
def encM (ms : List Mk) : List (NestedKey × D) := ms.map fun m => (kM m, .bl true)
def addM (acc : List Mk) (m : Mk) : List Mk := if m ∈ acc then acc else acc ++ [m]
end RF

/-! loops by an invariant -/
namespace RF
open PySem L2
/-- one turn of a loop goes on -/
def Turn1 (g : GF) (body : SF) (d : D) (env : Lc) (S : Sto) (e : Lc) (S1 : Sto) : Prop := (g d env S).bind body = .ok (.nx e) S1
theorem loopX_inv {g : GF} {body : SF} {P : Nat → Lc → Sto → Prop} {xs : List D} (step : ∀ j e S d, xs[j]? = some d → P j e S → ∃ e1 S1, Turn1 g body d e S e1 S1 ∧ P (j + 1) e1 S1) : ∀ (r j : Nat), r = xs.length - j → j ≤ xs.length → ∀ e S, P j e S → ∃ e1 S1, loopX g body (xs.drop j) e S = .ok (.nx e1) S1 ∧ P xs.length e1 S1
  | 0, j, hr, hj, e, S, h => by
    have : j = xs.length := by omega
    subst this
    rw [List.drop_length]
    exact ⟨e, S, rfl, h⟩
  | r + 1, j, hr, hj, e, S, h => by
    have hlt : j < xs.length := by omega
    rw [List.drop_eq_getElem_cons hlt]
    obtain ⟨e1, S1, t, h1⟩ := step j e S _ (List.getElem?_eq_getElem hlt) h
    obtain ⟨e2, S2, k, h2⟩ := loopX_inv step r (j + 1) (by omega) (by omega) e1 S1 h1
    refine ⟨e2, S2, ?_, h2⟩
    unfold Turn1 at t
    unfold loopX
    cases q : g xs[j] e S with
    | ok a T =>
      rw [q] at t
      simp only [R.bind_ok] at t ⊢
      rw [t]
      simp only [R.bind_ok]
      exact k
    | ex a T => rw [q] at t; cases t
    | bad => rw [q] at t; cases t
theorem loopX_ok {g : GF} {body : SF} {xs : List D} (P : Nat → Lc → Sto → Prop) (step : ∀ j e S d, xs[j]? = some d → P j e S → ∃ e1 S1, Turn1 g body d e S e1 S1 ∧ P (j + 1) e1 S1) {e : Lc} {S : Sto} (h : P 0 e S) : ∃ e1 S1, loopX g body xs e S = .ok (.nx e1) S1 ∧ P xs.length e1 S1 := by
  obtain ⟨e1, S1, k, q⟩ := loopX_inv step xs.length 0 (by omega) (Nat.zero_le _) e S h
  rw [List.drop_zero] at k
  exact ⟨e1, S1, k, q⟩
theorem loopL_inv {n : Nat} {g : GF} {body : SF} {P : Nat → Lc → Sto → Prop} {ys : List D} (hn : ∀ j e S, P j e S → S[n]? = some (.lst ys)) (step : ∀ j e S d, ys[j]? = some d → P j e S → ∃ e1 S1, Turn1 g body d e S e1 S1 ∧ P (j + 1) e1 S1) :
    ∀ (xs : List D) (j : Nat), xs.length = ys.length - j → j ≤ ys.length → ∀ e S, P j e S → ∃ e1 S1, loopL n g body xs j e S = .ok (.nx e1) S1 ∧ P ys.length e1 S1
  | [], j, hr, hj, e, S, h => by
    have hr : 0 = ys.length - j := hr
    have : j = ys.length := by omega
    subst this
    refine ⟨e, S, ?_, h⟩
    unfold loopL
    rw [hn _ _ _ h]
    simp
  | x :: xs, j, hr, hj, e, S, h => by
    rw [List.length_cons] at hr
    have hlt : j < ys.length := by omega
    obtain ⟨e1, S1, t, h1⟩ := step j e S _ (List.getElem?_eq_getElem hlt) h
    obtain ⟨e2, S2, k, h2⟩ := loopL_inv hn step xs (j + 1) (by omega) (by omega) e1 S1 h1
    refine ⟨e2, S2, ?_, h2⟩
    unfold Turn1 at t
    unfold loopL
    rw [hn _ _ _ h]
    simp only
    rw [List.getElem?_eq_getElem hlt]
    simp only
    cases q : g ys[j] e S with
    | ok a T =>
      rw [q] at t
      simp only [R.bind_ok] at t ⊢
      rw [t]
      simp only [R.bind_ok]
      exact k
    | ex a T => rw [q] at t; cases t
    | bad => rw [q] at t; cases t
theorem loopL_ok {n : Nat} {g : GF} {body : SF} {ys : List D} (P : Nat → Lc → Sto → Prop) (hn : ∀ j e S, P j e S → S[n]? = some (.lst ys)) (step : ∀ j e S d, ys[j]? = some d → P j e S → ∃ e1 S1, Turn1 g body d e S e1 S1 ∧ P (j + 1) e1 S1) {e : Lc} {S : Sto} (h : P 0 e S) :
    ∃ e1 S1, loopL n g body ys 0 e S = .ok (.nx e1) S1 ∧ P ys.length e1 S1 := loopL_inv hn step ys 0 (by omega) (Nat.zero_le _) e S h
/-- the same store, but for what is new and the places P -/
structure Fr (S S1 : Sto) (P : Nat → Prop) : Prop where
  le : S.length ≤ S1.length
  eq : ∀ i, i < S.length → ¬ P i → S1[i]? = S[i]?
theorem Fr.get {S S1 : Sto} {P : Nat → Prop} (k : Fr S S1 P) {i : Nat} {c : Cell} (h : S[i]? = some c) (hp : ¬ P i) : S1[i]? = some c := (k.eq i (List.getElem?_eq_some_iff.mp h).1 hp).trans h
theorem Fr.refl (S : Sto) (P : Nat → Prop) : Fr S S P := ⟨Nat.le_refl _, fun _ _ _ => rfl⟩
theorem Fr.trans {S S1 S2 : Sto} {P : Nat → Prop} (a : Fr S S1 P) (b : Fr S1 S2 P) : Fr S S2 P := ⟨Nat.le_trans a.le b.le, fun i h hp => (b.eq i (Nat.lt_of_lt_of_le h a.le) hp).trans (a.eq i h hp)⟩
theorem Fr.mono {S S1 : Sto} {P Q : Nat → Prop} (a : Fr S S1 P) (h : ∀ i, P i → Q i) : Fr S S1 Q := ⟨a.le, fun i hi hq => a.eq i hi fun z => hq (h i z)⟩
theorem Fr.app (S T : Sto) (P : Nat → Prop) : Fr S (S ++ T) P := ⟨by rw [List.length_append]; omega, fun i h _ => List.getElem?_append_left h⟩
theorem Fr.set {S : Sto} {n : Nat} {c : Cell} {P : Nat → Prop} (h : P n) : Fr S (S.set n c) P := ⟨by rw [List.length_set]; exact Nat.le_refl _, fun i _ hp => List.getElem?_set_ne (fun z => hp (by rw [← z]; exact h))⟩
/-- what is new may change -/
theorem Fr.new {S S1 S2 : Sto} {P Q : Nat → Prop} (a : Fr S S1 P) (b : Fr S1 S2 Q) (h : ∀ i, i < S.length → Q i → P i) : Fr S S2 P := ⟨Nat.le_trans a.le b.le, fun i hi hp => (b.eq i (Nat.lt_of_lt_of_le hi a.le) fun z => hp (h i hi z)).trans (a.eq i hi hp)⟩
end RF
namespace RF
open PySem L2
def tupC (S : Sto) : Option (List D) → R D
  | some xs => .ok (.tup xs) S
  | none => .bad
theorem o_tupR {x : D} {S : Sto} : oTuple [x] S = tupC S (seqD S x) := by unfold oTuple tupC; rfl
theorem o_tupC {xs : List D} {S : Sto} : tupC S (some xs) = .ok (.tup xs) S := (rfl)
/-! the marks of a transaction -/
def eO : Option Mk → D
  | none => .non
  | some m => eM m
section
variable {C : Addr} {x : D} {n : Nat} {S : Sto} {d0 d1 d2 : D}
def mkf (d0 d1 d2 : D) : List (Str × D) := [(⟨#[95, 116, 114, 97, 110, 115, 97, 99, 116, 105, 111, 110]⟩, d0), (⟨#[95, 111, 119, 110]⟩, d1), (⟨#[95, 121, 111, 117, 110, 103, 101, 114]⟩, d2)]
def mkc (C : Addr) (d0 d1 d2 : D) : Cell := .ins C (mkf d0 d1 d2)
end
def mkC (C : Addr) (tr : Int × Int) (own : Option Mk) (y : Nat) : Cell := mkc C (eT tr) (eO own) (.ref y)
def addY (tr : Int × Int) (acc : List Mk) (m : Mk) : List Mk := if ltT tr m.1 = true then addM acc m else acc
/-- all of them are fit for dicts and sorted -/
def okMs (ms : List Mk) : Prop := ∀ m ∈ ms, okM m
def tellL (own : Option Mk) (ms : List Mk) : List Mk := match own with
  | none => []
  | some o => cM.sort (o :: ms)
def pO : Option Mk → PyData
  | none => .none
  | some m => pM m
end RF

/-! sorted(d), len(d) of a dict whose keys are tuples of any form -/
namespace RF
open PySem L2
mutual
theorem NK.dp {K : PySem.W.Frag} {H : Hp} : ∀ {k : NestedKey} {v : V}, NK H k v → Dp K H v k.data
  | _, _, .none => by simp only [NestedKey.data]; exact .non
  | _, _, .num i => by simp only [NestedKey.data]; exact .int i
  | _, _, .text x => by simp only [NestedKey.data]; exact .str x
  | _, _, .tup h r => by simp only [NestedKey.data]; exact .tup (.of h) (NKs.dp r)
theorem NKs.dp {K : PySem.W.Frag} {H : Hp} : ∀ {ks : List NestedKey} {vs : List V}, NKs H ks vs → DpAll K H vs (NestedKey.datas ks)
  | _, _, .nil => by simp only [NestedKey.datas]; exact .nil
  | _, _, .cons a b => by simp only [NestedKey.datas]; exact .cons (NK.dp a) (NKs.dp b)
end
/-- what stands behind: the address of the key, its data -/
abbrev zV (z : ZN) : V := .ref z.2.1
def rSortN : List V → Hp → VK → Prop := fun vs H Q => ∃ (a : Addr) (w : World) (zs : List ZN), vs = [V.ref a] ∧ H a = some (dnO w a zs) ∧ ZOk H zs ∧ PySem.W.AllAlike (zs.map fun z => z.1.data) ∧ PySem.W.Sortable (zs.map fun z => z.1.data) ∧ zs.length ≤ 100000 ∧
  (∀ z ∈ zs, z.1.data.depth ≤ 60) ∧ ∀ p, H p = none → Q (.ref p) (upd H p (.lst ((zs.mergeSort (PySem.W.dataLe false fun z => z.1.data)).map zV)))
section
variable {X : Cx}
end
end RF

/-! comprehensions whose target is a tuple of names -/
namespace RF
open PySem L2
def unset : List Nat → Lc → Lc
  | [], env => env
  | i :: is, env => (unset is env).set i none
def gcompX (pt : D → Lc → Option Lc) (ft : BF) (fe : EF) (env : Lc) : List D → List D → Sto → R D
  | [], acc, S => .ok (.ref S.length) (S ++ [.lst acc])
  | d :: xs, acc, S => match pt d env with
    | some ee => (ft ee S).nox.bind fun b S1 => if b = true then ((fe ee S1).nox.bind fun y S2 => if acc.length < 100000 then gcompX pt ft fe env xs (acc ++ [y]) S2 else .bad) else gcompX pt ft fe env xs acc S1
    | none => .bad
def gcompL (n : Nat) (pt : D → Lc → Option Lc) (ft : BF) (fe : EF) (env : Lc) : List D → Nat → List D → Sto → R D
  | [], j, acc, S => match S[n]? with
    | some (.lst ys) => if ys.length ≤ j then .ok (.ref S.length) (S ++ [.lst acc]) else .bad
    | _ => .bad
  | _ :: xs, j, acc, S => match S[n]? with
    | some (.lst ys) => match ys[j]? with
      | none => .ok (.ref S.length) (S ++ [.lst acc])
      | some d => match pt d env with
        | some ee => (ft ee S).nox.bind fun b S1 => if b = true then ((fe ee S1).nox.bind fun y S2 => if acc.length < 100000 then gcompL n pt ft fe env xs (j + 1) (acc ++ [y]) S2 else .bad) else gcompL n pt ft fe env xs (j + 1) acc S1
        | none => .bad
    | _ => .bad
def fGComp (fi : IF) (is : List Nat) (pt : D → Lc → Option Lc) (ft : BF) (fe : EF) : EF := fun env S => (fi env S).bind fun it S1 => match it with
  | .fix xs => gcompX pt ft fe (unset is env) xs [] S1
  | .live n xs => gcompL n pt ft fe (unset is env) xs 0 [] S1
/-- a target by a function -/
def TgF (K : PySem.W.Frag) (is : List Nat) (g : TG) (pt : D → Lc → Option Lc) : Prop := ∀ {L : List Addr} {H : Hp} {x : V} {d : D} {σ0 : St} {env0 env1 : Lc} {Q : St → Hp → Prop}, RD K L H x d → RE K L H σ0 env0 → pt d env0 = some env1 →
  (∀ σ1, RE K L H σ1 env1 → wipe σ1 is = wipe σ0 is → Q σ1 H) → g x σ0 H Q
theorem RE.wipes {K : PySem.W.Frag} {L : List Addr} {H : Hp} {σ : St} {env : Lc} (r : RE K L H σ env) : ∀ is : List Nat, RE K L H (L2.wipe σ is) (unset is env)
  | [] => r
  | i :: is => (RE.wipes r is).wipe i
theorem wipe_comm {σ : St} {i j : Nat} : (σ.set i none).set j none = (σ.set j none).set i none := by
  by_cases h : i = j
  · rw [h]
  · exact List.set_comm _ _ h
theorem wipe_set1 {σ : St} {i : Nat} : ∀ {is : List Nat}, wipe (σ.set i none) is = (wipe σ is).set i none
  | [] => rfl
  | j :: is => by
    show (wipe (σ.set i none) is).set j none = ((wipe σ is).set j none).set i none
    rw [wipe_set1, wipe_comm]
theorem wipe_wipe {σ : St} : ∀ {is : List Nat}, wipe (wipe σ is) is = wipe σ is
  | [] => rfl
  | i :: is => by
    show (wipe ((wipe σ is).set i none) is).set i none = (wipe σ is).set i none
    rw [wipe_set1, wipe_wipe, List.set_set]
theorem wipe_val {σ : St} {i : Nat} {x : Option V} : ∀ {is : List Nat}, i ∈ is → wipe (σ.set i x) is = wipe σ is
  | j :: is, h => by
    show (wipe (σ.set i x) is).set j none = (wipe σ is).set j none
    by_cases hj : i = j
    · subst hj
      by_cases hm : i ∈ is
      · rw [wipe_val hm]
      · have key : ∀ {is : List Nat}, i ∉ is → wipe (σ.set i x) is = (wipe σ is).set i x := by
          intro is
          induction is with
          | nil => intro _; rfl
          | cons k is ih =>
            intro hk
            show (wipe (σ.set i x) is).set k none = ((wipe σ is).set k none).set i x
            rw [ih (fun z => hk (List.mem_cons_of_mem _ z)), List.set_comm _ _ (fun z => hk (by rw [z]; exact List.mem_cons_self ..))]
        rw [key hm, List.set_set]
    · rw [wipe_val ((List.mem_cons.mp h).resolve_left hj)]
/-- the names of a tuple -/
def setD : List Nat → List D → Lc → Lc
  | i :: is, d :: ds, env => setD is ds (env.set i (some d))
  | _, _, env => env
def setVs : List Nat → List V → St → St
  | i :: is, v :: vs, σ => setVs is vs (σ.set i (some v))
  | _, _, σ => σ
def gNames : List Nat → TGs
  | [] => gNil
  | i :: is => gCons (gName i) (gNames is)
def ptT (is : List Nat) : D → Lc → Option Lc := fun d env => match d with
  | .tup ds => if ds.length = is.length then some (setD is ds env) else none
  | _ => none
theorem names_of {K : PySem.W.Frag} {L : List Addr} {H : Hp} {Q : St → Hp → Prop} {all : List Nat} : ∀ {is : List Nat} {vs : List V} {ds : List D} {σ : St} {env : Lc}, (∀ i ∈ is, i ∈ all) → RDs K L H vs ds → ds.length = is.length → RE K L H σ env →
    (∀ σ1, RE K L H σ1 (setD is ds env) → wipe σ1 all = wipe σ all → Q σ1 H) → gNames is vs σ H Q
  | [], _, _, σ, env, _, .nil, _, re, h => ⟨rfl, h σ re rfl⟩
  | i :: is, _, _, σ, env, ha, .cons (v := v) (d := d) r rs, hl, re, h => by
    refine ⟨v, _, rfl, ?_⟩
    show gNames is _ (σ.set i (some v)) H Q
    refine names_of (all := all) (fun j hj => ha j (List.mem_cons_of_mem _ hj)) rs (by simpa using hl) (re.set r) fun σ1 r1 hw => h σ1 r1 (hw.trans (wipe_val (ha i (List.mem_cons_self ..))))
  | [], _, _, _, _, _, .cons _ _, hl, _, _ => by simp at hl
  | _ :: _, _, _, _, _, _, .nil, hl, _, _ => by simp at hl
theorem tgF_tup {K : PySem.W.Frag} {is : List Nat} : TgF K is (gTup K is.length (gNames is)) (ptT is) := by
  intro L H x d σ0 env0 env1 Q rx re h q
  cases rx with
  | @tup a vs ds hs rs =>
    unfold ptT at h
    simp only at h
    by_cases hl : ds.length = is.length
    · rw [if_pos hl] at h
      cases h
      exact ⟨a, vs, rfl, .of hs, by rw [rs.length]; exact hl, names_of (fun _ h => h) rs hl re q⟩
    · rw [if_neg hl] at h; cases h
  | _ => cases h
section
variable {X : Cx} {E : XK} {tg l iter elt : Expr} {fa fe : EF} {ft : BF} {fi : IF} {pos : Pos}
/-- the turns of a comprehension -/
theorem gcomp_of {K : PySem.W.Frag} {is : List Nat} {g : TG} {pt : D → Lc → Option Lc} {σ : St} {H : Hp} {Q : VK} (hg : TgF K is g pt) (h : tE K E (fGComp fi is pt ft fe) σ H Q) : tLc (tI K E fi) g (tT K E0' ft) (tE K E0' fe) is σ H Q := by
  obtain ⟨L, env, S, rep, re, h⟩ := h
  refine ⟨L, env, S, rep, re, (End.bind h).imp fun it S1 L1 H1 e1 rep1 h1 J hJ D hD => ?_⟩
  have re1 := (re.mono e1).wipes is
  have exD : Ex L1 H1 L1 (upd H1 D (.lst [])) := Ex.new hD
  have nD : D ∉ L1 := rep1.fresh hD
  -- one turn, whatever follows
  have turn : ∀ {fin : List D' → Sto → R D'} {Nx : Hp → Prop} {L2 : List Addr} {H2 : Hp} {S2 : Sto} {d : D'} {x : V} {H3 : Hp} {acc : List D'} {vs : List V}, Ex L1 H1 L2 H2 → Rep K L2 H2 S2 → D ∉ L2 → H2 D = some (.lst vs) → RDs K L2 H2 vs acc →
      Ex L2 H2 L2 H3 → Rep K L2 H3 S2 → RD K L2 H3 x d →
      (∀ {L4 : List Addr} {H4 : Hp} {S4 : Sto} {ws : List V} {acc2 : List D'}, Ex L1 H1 L4 H4 → Rep K L4 H4 S4 → D ∉ L4 → H4 D = some (.lst ws) → RDs K L4 H4 ws acc2 → EndV K E L1 H1 Q (fin acc2 S4) → Nx H4) →
      EndV K E L1 H1 Q (match pt d (unset is env) with | some ee => ((ft ee S2).nox.bind fun b S1 => if b = true then ((fe ee S1).nox.bind fun y S2 => if acc.length < 100000 then fin (acc ++ [y]) S2 else .bad) else fin acc S1) | none => .bad) →
      g x (wipe σ is) H3 fun σ2 H2 => wipe σ2 is = wipe σ is ∧ (tT K E0' ft) σ2 H2 fun b H3 =>
        if b = true then (tE K E0' fe) σ2 H3 fun y H4 => ∃ acc, H4 D = some (.lst acc) ∧ acc.length < sizeLine ∧ Nx (upd H4 D (.lst (acc ++ [y]))) else Nx H3 := by
    intro fin Nx L2 H2 S2 d x H3 acc vs e2 rep2 n2 hD2 rd2 e3 rep3 rx hN hq
    cases hpt : pt d (unset is env) with
    | none => rw [hpt] at hq; exact hq.elim
    | some ee =>
    rw [hpt] at hq
    simp only at hq
    refine hg rx ((re1.mono e2).mono e3) hpt fun σ3 re3 hw => ⟨hw.trans wipe_wipe, ?_⟩
    obtain ⟨n3, hD3⟩ := e3.outside n2 hD2
    refine ⟨L2, _, S2, rep3, re3, (End.keep hq).imp fun b S4 L4 H4 e4 rep4 q4 => ?_⟩
    obtain ⟨n4, hD4⟩ := e4.outside n3 hD3
    cases b with
    | false => exact iteF (hN ((e2.trans e3).trans e4) rep4 n4 hD4 ((rd2.mono e3).mono e4) q4)
    | true =>
      refine iteT ⟨L4, _, S4, rep4, re3.mono e4, (End.keep q4).imp fun y S5 L5 H5 e5 rep5 q5 v rv => ?_⟩
      obtain ⟨n5, hD5⟩ := e5.outside n4 hD4
      by_cases hl : acc.length < 100000
      · rw [if_pos hl] at q5
        have rl : vs.length = acc.length := rd2.length
        have gr : Gr L5 H5 L5 (upd H5 D (.lst (vs ++ [v]))) := Gr.out hD5 (fun _ z => nomatch z) (fun _ _ z => nomatch z)
        refine ⟨vs, hD5, by rw [rl]; exact sz5l hl, ?_⟩
        refine hN (Ex.out (((e2.trans e3).trans e4).trans e5) hD hD5) (rep5.out n5 hD5 (fun _ z => nomatch z) (fun _ _ z => nomatch z)) n5 upd_same ?_ q5
        exact RDs.append ((((rd2.mono e3).mono e4).mono e5).grow gr) (.cons (rv.grow gr) .nil)
      · rw [if_neg hl] at q5; exact q5.elim
  cases it with
  | fix xs =>
    refine ⟨fun j m H => m = xs.length - j ∧ j ≤ xs.length ∧ ∃ L2 S2 acc vs, Ex L1 H1 L2 H ∧ Rep K L2 H S2 ∧ D ∉ L2 ∧ H D = some (.lst vs) ∧ RDs K L2 H vs acc ∧ EndV K E L1 H1 Q (gcompX pt ft fe (unset is env) (xs.drop j) acc S2),
      ⟨xs.length, by simp, Nat.zero_le _, L1, S1, [], [], exD, rep1.new hD, nD, upd_same, .nil, h1⟩, ?_⟩
    rintro j m H2 ⟨rfl, hj, L2, S2, acc, vs, e2, rep2, n2, hD2, rd2, h2⟩
    have ok := hJ j L2 H2 S2 e2 rep2
    by_cases hlt : j < xs.length
    · have hd : xs[j]? = some xs[j] := List.getElem?_eq_getElem hlt
      obtain ⟨hgo, hy⟩ := ok.1 _ hd
      rw [List.drop_eq_getElem_cons hlt] at h2
      refine .inr ⟨hgo, fun H3 => ∃ L2 S2 acc vs, Ex L1 H1 L2 H3 ∧ Rep K L2 H3 S2 ∧ D ∉ L2 ∧ H3 D = some (.lst vs) ∧ RDs K L2 H3 vs acc ∧ EndV K E L1 H1 Q (gcompX pt ft fe (unset is env) (xs.drop (j + 1)) acc S2),
        fun H3 q => ⟨_, by omega, rfl, hlt, q⟩, fun x H3 y => ?_⟩
      obtain ⟨e3, rep3, rx⟩ := hy x H3 y
      exact turn (fin := fun a s => gcompX pt ft fe (unset is env) (xs.drop (j + 1)) a s) e2 rep2 n2 hD2 rd2 e3 rep3 rx (fun q1 q2 q3 q4 q5 q6 => ⟨_, _, _, _, q1, q2, q3, q4, q5, q6⟩) h2
    · refine .inl ⟨ok.2 (by omega), ?_⟩
      rw [List.drop_eq_nil_of_le (by omega)] at h2
      exact adopt_val h2 rep2 hD2 n2 hD e2 rd2
  | live n xs =>
    refine ⟨fun j m H => ∃ rest L2 S2 acc vs, m = List.length rest ∧ Ex L1 H1 L2 H ∧ Rep K L2 H S2 ∧ D ∉ L2 ∧ H D = some (.lst vs) ∧ RDs K L2 H vs acc ∧ EndV K E L1 H1 Q (gcompL n pt ft fe (unset is env) rest j acc S2),
      ⟨xs.length, xs, L1, S1, [], [], rfl, exD, rep1.new hD, nD, upd_same, .nil, h1⟩, ?_⟩
    rintro j m H2 ⟨rest, L2, S2, acc, vs, rfl, e2, rep2, n2, hD2, rd2, h2⟩
    cases rest with
    | nil =>
      unfold gcompL at h2
      cases q : S2[n]? with
      | none => rw [q] at h2; exact h2.elim
      | some c =>
        cases c with
        | lst ys =>
          rw [q] at h2
          simp only at h2
          by_cases hl : ys.length ≤ j
          · rw [if_pos hl] at h2
            exact .inl ⟨(hJ j L2 H2 S2 ys e2 rep2 q).2 hl, adopt_val h2 rep2 hD2 n2 hD e2 rd2⟩
          · rw [if_neg hl] at h2; exact h2.elim
        | _ => rw [q] at h2; exact h2.elim
    | cons r0 rest =>
      unfold gcompL at h2
      cases q : S2[n]? with
      | none => rw [q] at h2; exact h2.elim
      | some c =>
        cases c with
        | lst ys =>
          rw [q] at h2
          simp only at h2
          cases hd : ys[j]? with
          | none =>
            rw [hd] at h2
            exact .inl ⟨(hJ j L2 H2 S2 ys e2 rep2 q).2 (List.getElem?_eq_none_iff.mp hd), adopt_val h2 rep2 hD2 n2 hD e2 rd2⟩
          | some d =>
            rw [hd] at h2
            simp only at h2
            obtain ⟨hgo, hy⟩ := (hJ j L2 H2 S2 ys e2 rep2 q).1 _ hd
            refine .inr ⟨hgo, fun H3 => ∃ L2 S2 acc vs, Ex L1 H1 L2 H3 ∧ Rep K L2 H3 S2 ∧ D ∉ L2 ∧ H3 D = some (.lst vs) ∧ RDs K L2 H3 vs acc ∧ EndV K E L1 H1 Q (gcompL n pt ft fe (unset is env) rest (j + 1) acc S2),
              fun H3 ⟨q0, q1, q2, q3, q4⟩ => ⟨_, by simp, rest, q0, q1, q2, q3, rfl, q4⟩, fun x H3 y => ?_⟩
            obtain ⟨e3, rep3, rx⟩ := hy x H3 y
            exact turn (fin := fun a s => gcompL n pt ft fe (unset is env) rest (j + 1) a s) e2 rep2 n2 hD2 rd2 e3 rep3 rx (fun q1 q2 q3 q4 q5 q6 => ⟨_, _, _, _, q1, q2, q3, q4, q5, q6⟩) h2
        | _ => rw [q] at h2; exact h2.elim

theorem xGComp {ifs : List Expr} {scope : Scope} {own : List (Str × Nat)} {g : TG} {pt : D → Lc → Option Lc} (hc : X.calm = true) (hN : X.N.Nodup) (hi : PI X tg iter (tI X.K E fi)) (ok : BlkOk X.N X.env.scope scope own) (hf : TgF X.K (own.map (·.2)) g pt)
    (hg : ∀ (s : Shared) (H : Hp) (C : Addr) (cl : List (Str × Addr)) (fp : List Addr), PG (X.blk s H scope (compEnvC scope cl C X.env) fp) tg g) (ht : ∀ (s : Shared) (H : Hp) (C : Addr) (cl : List (Str × Addr)) (fp : List Addr), PTs (X.blk s H scope (compEnvC scope cl C X.env) fp) ifs (tT X.K E0' ft))
    (he : ∀ (s : Shared) (H : Hp) (C : Addr) (cl : List (Str × Addr)) (fp : List Addr), PE (X.blk s H scope (compEnvC scope cl C X.env) fp) elt (tE X.K E0' fe)) (hs : ∀ x, foldedSetIterable iter X.env x = pure x := by intro _; rfl) :
    PE X (.ListComp elt [⟨tg, iter, ifs, 0⟩] scope pos) (tE X.K E (fGComp fi (own.map (·.2)) pt ft fe)) :=
  monoE (pe_lc (own := own) hc hN hi ok hg ht he hs) fun σ H Q h => gcomp_of hf h
theorem xgNames0 {Y : Cx} : PGs Y [] (gNames []) := pgs_nil
theorem xgNamesS {Y : Cx} {x : Str} {i : Nat} {px : Pos} {is : List Nat} {es : List Expr} (h1 : PG Y (.Name x px) (gName i)) (h2 : PGs Y es (gNames is)) (hs : (assignEach (.Name x px :: es) Y.env).map (·.2) = assign (.Name x px) Y.env :: (assignEach es Y.env).map (·.2) := by rfl) : PGs Y (.Name x px :: es) (gNames (i :: is)) := pgs_cons h1 h2 hs
end
end RF

/-! sorted(d) as a function; types whose values are keys -/
namespace RF
open PySem L2
def sortNC (S : Sto) (n : Nat) : Option Cell → R D
  | some (.dn _ kvs) => if sortB (kvs.map fun kv => kv.1.data) = true ∧ kvs.length ≤ 100000 ∧ (kvs.all fun kv => decide (kv.1.data.depth ≤ 60)) = true then .ok (.ref S.length) (S ++ [.lst (sortDs (keysN kvs) (kvs.map fun kv => kv.1.data))]) else .bad
  | _ => oSorted [.ref n] S
def oSortN : OpN := fun ds S => match ds with
  | [.ref n] => sortNC S n S[n]?
  | ds => oSorted ds S
theorem RN.data {K : PySem.W.Frag} {L : List Addr} {H : Hp} : ∀ {zs : List ZN} {kvs : List (NestedKey × D)}, RN K L H zs kvs → (zs.map fun z => z.1.data) = kvs.map fun kv => kv.1.data
  | [], [], _ => rfl
  | p :: ps, q :: qs, ⟨a, _, _, d⟩ => by rw [List.map_cons, List.map_cons, RN.data d, a]
  | [], _ :: _, h => h.elim
  | _ :: _, [], h => h.elim
/-- values that are keys -/
structure CodK (α : Type) [DecidableEq α] extends Cod α where
  kf : α → NestedKey
  keyT : ∀ a, RF.keyT (e a) = some (kf a)
  inj : ∀ a b, kf a = kf b ↔ a = b
  dOf : ∀ a, RF.dOf (kf a) = e a
  data : ∀ a, (kf a).data = p a
  dep : ∀ a, (p a).depth ≤ 60
namespace CodK
variable {α : Type} [DecidableEq α] {C : CodK α} {S : Sto} {n : Nat} {a : α} {kvs : List (α × D)} {w : World} {d : D}
def enc (C : CodK α) (kvs : List (α × D)) : List (NestedKey × D) := kvs.map fun kv => (C.kf kv.1, kv.2)
theorem enc_len : (C.enc kvs).length = kvs.length := List.length_map ..
theorem val : valK (C.enc kvs) (C.kf a) = valK kvs a := by
  unfold valK enc
  induction kvs with
  | nil => rfl
  | cons kv r ih =>
    rw [List.map_cons, List.find?_cons, List.find?_cons]
    by_cases h : kv.1 = a
    · have h2 : C.kf kv.1 = C.kf a := by rw [h]
      simp [h, h2]
    · have h2 : ¬ C.kf kv.1 = C.kf a := fun z => h ((C.inj _ _).mp z)
      simp only [decide_eq_false h, decide_eq_false h2]
      exact ih
theorem any : ((C.enc kvs).any fun kv => decide (kv.1 = C.kf a)) = kvs.any fun kv => decide (kv.1 = a) := by
  unfold enc
  induction kvs with
  | nil => rfl
  | cons kv r ih =>
    rw [List.map_cons, List.any_cons, List.any_cons, ih]
    by_cases h : kv.1 = a
    · have h2 : C.kf kv.1 = C.kf a := by rw [h]
      simp [h, h2]
    · have h2 : ¬ C.kf kv.1 = C.kf a := fun z => h ((C.inj _ _).mp z)
      simp [h, h2]
theorem put : putKD (C.enc kvs) (C.kf a) d = C.enc (putKD kvs a d) := by
  unfold putKD
  rw [any]
  split
  · unfold enc
    rw [List.map_map, List.map_map]
    refine List.map_congr_left fun kv _ => ?_
    show (if C.kf kv.1 = C.kf a then (C.kf kv.1, d) else (C.kf kv.1, kv.2)) = _
    by_cases h : kv.1 = a
    · have h2 : C.kf kv.1 = C.kf a := by rw [h]
      simp [h, h2]
    · have h2 : ¬ C.kf kv.1 = C.kf a := fun z => h ((C.inj _ _).mp z)
      simp [h, h2]
  · unfold enc
    rw [List.map_append]; rfl
theorem keys : keysN (C.enc kvs) = C.es (kvs.map (·.1)) := by
  unfold keysN enc Cod.es
  rw [List.map_map, List.map_map]
  exact List.map_congr_left fun kv _ => C.dOf kv.1
theorem datas : ((C.enc kvs).map fun kv => kv.1.data) = (kvs.map (·.1)).map C.p := by
  unfold enc
  rw [List.map_map, List.map_map]
  exact List.map_congr_left fun kv _ => C.data kv.1
theorem osort (h : S[n]? = some (.dn w (C.enc kvs))) (hl : kvs.length ≤ 100000) : oSortN [.ref n] S = .ok (.ref S.length) (S ++ [.lst (C.es (C.sort (kvs.map (·.1))))]) := by
  unfold oSortN
  simp only [h]
  unfold sortNC
  simp only
  have h3 : ((C.enc kvs).all fun kv => decide (kv.1.data.depth ≤ 60)) = true := by
    rw [List.all_eq_true]
    intro kv hk
    obtain ⟨x, _, rfl⟩ := List.mem_map.mp hk
    rw [decide_eq_true_iff]
    show (C.kf x.1).data.depth ≤ 60
    rw [C.data]
    exact C.dep _
  have h2 : (C.enc kvs).length ≤ 100000 := by rw [enc_len]; exact hl
  rw [datas, keys, if_pos ⟨Cod.sortB_, h2, h3⟩, Cod.sortDs_]
end CodK
def kK : CodK K2 where
  e := eK
  p := pK
  ok := fun k => PyData.strOk k.2 = true
  toP := fun S k a h => toP_eK h
  eqv := fun _ _ => eqv_K
  alike := fun a b => by simp [pK, PySem.W.alike, PySem.W.alikeAll]
  tupl := fun a => by simp [pK, isTupP]
  kf := fun k => .tup [.num k.1, .text k.2]
  keyT := fun _ => (rfl)
  inj := fun a b => by
    obtain ⟨a1, a2⟩ := a
    obtain ⟨b1, b2⟩ := b
    simp
  dOf := fun _ => (rfl)
  data := fun _ => (rfl)
  dep := fun a => by simp [pK, PyData.depth, PyData.depthAll]
def kT : CodK (Int × Int) where
  e := eT
  p := pT
  ok := fun _ => True
  toP := fun S k a _ => fT_eT
  eqv := fun _ _ => eqv_T
  alike := fun a b => by simp [pT, PySem.W.alike, PySem.W.alikeAll]
  tupl := fun a => by simp [pT, isTupP]
  kf := fun k => .tup [.num k.1, .num k.2]
  keyT := fun _ => (rfl)
  inj := fun a b => by
    obtain ⟨a1, a2⟩ := a
    obtain ⟨b1, b2⟩ := b
    simp
  dOf := fun _ => (rfl)
  data := fun _ => (rfl)
  dep := fun a => by simp [pT, PyData.depth, PyData.depthAll]
def eKT (x : K2 × (Int × Int)) : D := .tup [eK x.1, eT x.2]
def pKT (x : K2 × (Int × Int)) : PyData := .tuple [pK x.1, pT x.2]
def kKT : CodK (K2 × (Int × Int)) where
  e := eKT
  p := pKT
  ok := fun x => PyData.strOk x.1.2 = true
  toP := fun S k a h => by
    unfold eKT pKT
    rw [toP_tup, toP_mapM_cons, toP_mapM_cons, toP_mapM_nil, toP_eK h, fT_eT]
    rfl
  eqv := fun a b => by
    unfold pKT
    simp only [PyData.eqv, PyData.eqvAll, eqv_T, eqv_K]
    obtain ⟨a1, a2⟩ := a
    obtain ⟨b1, b2⟩ := b
    simp only [Prod.mk.injEq]
    by_cases h1 : a1 = b1 <;> by_cases h2 : a2 = b2 <;> simp [h1, h2]
  alike := fun a b => by simp [pKT, pK, pT, PySem.W.alike, PySem.W.alikeAll]
  tupl := fun a => by simp [pKT, isTupP]
  kf := fun x => .tup [.tup [.num x.1.1, .text x.1.2], .tup [.num x.2.1, .num x.2.2]]
  keyT := fun _ => (rfl)
  inj := fun a b => by
    obtain ⟨⟨a1, a2⟩, a3, a4⟩ := a
    obtain ⟨⟨b1, b2⟩, b3, b4⟩ := b
    simp
  dOf := fun _ => (rfl)
  data := fun _ => (rfl)
  dep := fun a => by simp [pKT, pK, pT, PyData.depth, PyData.depthAll]
end RF

/-! shelves and their plain model in the store -/
namespace RF
open PySem L2
section
variable {C : Addr} {x : D} {n : Nat} {S : Sto} {d0 d1 : D}
def shf (d0 d1 : D) : List (Str × D) := [(⟨#[95, 108, 111, 99, 107, 115]⟩, d0), (⟨#[95, 103, 105, 118, 101, 110, 95, 98, 97, 99, 107]⟩, d1)]
def shc (C : Addr) (d0 d1 : D) : Cell := .ins C (shf d0 d1)
end
section
variable {S : Sto} {a b d : D} {n m : Nat}
def nLk : Str := ⟨#[108, 111, 99, 107, 115]⟩
def nPa : Str := ⟨#[112, 97, 115, 116]⟩
def smF (a b : D) : List (Key × D) := [(.inr nLk, a), (.inr nPa, b)]
def smC (a b : D) : Cell := .dk (smF a b)
end
abbrev PK := K2 × (Int × Int)
abbrev Ent := K2 × LSt × Nat
def LkAt (C : Addr) (l : Nat) (st : LSt) (S : Sto) : Prop := ∃ w, S[l]? = some (lkS C st w) ∧ S[w]? = some (.lst (eWs st.ws))
def MdAt (l : Nat) (st : LSt) (S : Sto) : Prop := ∃ w, S[l]? = some (mdS st w) ∧ S[w]? = some (.lst (eWs st.ws))
def fLk (es : List Ent) : List (K2 × D) := es.map fun e => (e.1, .ref e.2.2)
def fPa (pa : List (PK × Int)) : List (PK × D) := pa.map fun x => (x.1, .int x.2)
def stp (es : List Ent) : List (K2 × LSt) := es.map fun e => (e.1, e.2.1)
/-! the plain state -/
def st0 : LSt := ⟨0, 0, none, []⟩
def getS (sh : List (K2 × LSt)) (k : K2) : Option LSt := valK sh k
def lockS (sh : List (K2 × LSt)) (k : K2) : List (K2 × LSt) := match valK sh k with
  | some _ => sh
  | none => sh ++ [(k, st0)]
def setS (sh : List (K2 × LSt)) (k : K2) (st : LSt) : List (K2 × LSt) := sh.map fun e => if e.1 = k then (e.1, st) else e
def pastG (pa : List (PK × Int)) (x : PK) : Int := (valK pa x).getD 0
def giveS (pa : List (PK × Int)) (x : PK) (att : Int) : List (PK × Int) := putKD pa x (if att > pastG pa x then att else pastG pa x)
def sGr : Str := ⟨#[103, 114, 97, 110, 116, 101, 100]⟩
def sBe : Str := ⟨#[98, 101, 104, 105, 110, 100]⟩
def sFr : Str := ⟨#[102, 114, 101, 101, 100]⟩
def sFi : Str := ⟨#[102, 105, 110, 105, 115, 104, 101, 100]⟩
def ansD (key : K2) (st : LSt) (u : Who) : D := match st.h with
  | some h => if h = u then .tup [.int u.1.2, .tup [.str sGr, eT u.1, .int u.2, eK key, .int st.t, .int st.v]] else .tup [.int u.1.2, .tup [.str sBe, eT u.1, .int u.2, eK key, .int st.t, eT h.1, .int h.2]]
  | none => .non
def toldS (key : K2) (st : LSt) : List D := match st.h with
  | some h => (h :: sortW st.ws).map (ansD key st)
  | none => []
def freD (s : Str) (key : K2) (u : Who) : D := .tup [.int u.1.2, .tup [.str s, eT u.1, .int u.2, eK key]]
inductive Kd where
  | ask | free | fin (z : Int)
def handS (kd : Kd) (u : Who) (key : K2) (sh : List (K2 × LSt)) (pa : List (PK × Int)) (st : LSt) : List (K2 × LSt) × List (PK × Int) × List D := match kd with
  | .ask => if u.2 ≤ pastG pa (key, u.1) then (sh, pa, []) else
      (setS sh key (askS st u).1, pa, if (askS st u).2 = [] then [ansD key (askS st u).1 u] else toldS key (askS st u).1)
  | .free => (setS sh key (freeS st u.1 u.2).1, giveS pa (key, u.1) u.2, (if (freeS st u.1 u.2).2 = [] then [] else toldS key (freeS st u.1 u.2).1) ++ [freD sFr key u])
  | .fin z => if st.h = some u then (setS sh key (finS st u z).1, giveS pa (key, u.1) u.2, (if (finS st u z).2 = [] then [] else toldS key (finS st u z).1) ++ [freD sFi key u])
      else (sh, pa, if u.2 ≤ pastG pa (key, u.1) then [freD sFi key u] else [])
structure PR (C CL : Addr) (w : World) (sl dl dp : Nat) (es : List Ent) (pa : List (PK × Int)) (S : Sto) : Prop where
  ob : S[sl]? = some (shc C (.ref dl) (.ref dp))
  lk : S[dl]? = some (.dn w (kK.enc (fLk es)))
  pa : S[dp]? = some (.dn w (kKT.enc (fPa pa)))
  ne : dl ≠ dp
  at_ : ∀ e ∈ es, LkAt CL e.2.2 e.2.1 S
  nd : (es.map (·.2.2)).Nodup
  kd : (es.map (·.1)).Nodup
structure MR (w : World) (ml el ep : Nat) (es : List Ent) (pa : List (PK × Int)) (S : Sto) : Prop where
  ob : S[ml]? = some (smC (.ref el) (.ref ep))
  lk : S[el]? = some (.dn w (kK.enc (fLk es)))
  pa : S[ep]? = some (.dn w (kKT.enc (fPa pa)))
  ne : el ≠ ep
  at_ : ∀ e ∈ es, MdAt e.2.2 e.2.1 S
  nd : (es.map (·.2.2)).Nodup
  kd : (es.map (·.1)).Nodup
def PFt (CL : Addr) (dl dp : Nat) (S : Sto) : Nat → Prop := fun i => i = dl ∨ i = dp ∨ ∃ st w, S[i]? = some (lkS CL st w)
def MF (el ep : Nat) (S : Sto) : Nat → Prop := fun i => i = el ∨ i = ep ∨ ∃ st w, S[i]? = some (mdS st w)
section
variable {C CL : Addr} {w : World} {sl dl dp ml el ep : Nat} {es : List Ent} {pa : List (PK × Int)} {S S1 : Sto} {l : Nat} {st : LSt}
theorem LkAt.keep (h : LkAt CL l st S) {P : Nat → Prop} (fr : Fr S S1 P) (hl : ¬ P l) (hw : ∀ i xs, S[i]? = some (.lst xs) → ¬ P i) : LkAt CL l st S1 := by
  obtain ⟨w, h1, h2⟩ := h
  exact ⟨w, fr.get h1 hl, fr.get h2 (hw w _ h2)⟩
theorem MdAt.keep (h : MdAt l st S) {P : Nat → Prop} (fr : Fr S S1 P) (hl : ¬ P l) (hw : ∀ i xs, S[i]? = some (.lst xs) → ¬ P i) : MdAt l st S1 := by
  obtain ⟨w, h1, h2⟩ := h
  exact ⟨w, fr.get h1 hl, fr.get h2 (hw w _ h2)⟩
end

/-! look-ups and stores -/
section
variable {C CL : Addr} {w : World} {sl dl dp ml el ep : Nat} {es : List Ent} {pa : List (PK × Int)} {S S1 : Sto} {l : Nat} {st : LSt} {k : K2} {x : PK} {a : Int} {e : Ent}
def atE (es : List Ent) (k : K2) : Option Ent := es.find? fun e => decide (e.1 = k)
theorem atE_some (h : atE es k = some e) : e ∈ es ∧ e.1 = k := ⟨List.mem_of_find?_eq_some h, by have := List.find?_some h; simpa using this⟩
theorem atE_none (h : atE es k = none) : k ∉ es.map (·.1) := by
  intro hm
  obtain ⟨y, hy, e⟩ := List.mem_map.mp hm
  have := List.find?_eq_none.mp h y hy
  simp [e] at this
def setE (es : List Ent) (k : K2) (st : LSt) : List Ent := es.map fun e => if e.1 = k then (e.1, st, e.2.2) else e
theorem setE_lk : fLk (setE es k st) = fLk es := by
  unfold fLk setE
  rw [List.map_map]
  refine List.map_congr_left fun y _ => ?_
  show ((if y.1 = k then (y.1, st, y.2.2) else y).1, D.ref (if y.1 = k then (y.1, st, y.2.2) else y).2.2) = (y.1, .ref y.2.2)
  by_cases h : y.1 = k <;> simp [h]
theorem setE_k : (setE es k st).map (·.1) = es.map (·.1) := by
  unfold setE
  rw [List.map_map]
  refine List.map_congr_left fun y _ => ?_
  show (if y.1 = k then (y.1, st, y.2.2) else y).1 = y.1
  by_cases h : y.1 = k <;> simp [h]
theorem setE_l : (setE es k st).map (·.2.2) = es.map (·.2.2) := by
  unfold setE
  rw [List.map_map]
  refine List.map_congr_left fun y _ => ?_
  show (if y.1 = k then (y.1, st, y.2.2) else y).2.2 = y.2.2
  by_cases h : y.1 = k <;> simp [h]
theorem nd_inj {α β : Type} {f : α → β} {xs : List α} (h : (xs.map f).Nodup) {a b : α} (ha : a ∈ xs) (hb : b ∈ xs) (e : f a = f b) : a = b := by
  induction xs with
  | nil => cases ha
  | cons x xs ih =>
    rw [List.map_cons, List.nodup_cons] at h
    rcases List.mem_cons.mp ha with h1 | h1
    · rcases List.mem_cons.mp hb with h2 | h2
      · exact h1.trans h2.symm
      · exact absurd (by rw [← h1, e]; exact List.mem_map_of_mem (f := f) h2) h.1
    · rcases List.mem_cons.mp hb with h2 | h2
      · exact absurd (by rw [← h2, ← e]; exact List.mem_map_of_mem (f := f) h1) h.1
      · exact ih h.2 h1 h2
/-- a lock has changed -/
theorem PR.upd (h : PR C CL w sl dl dp es pa S) (he : atE es k = some e) (fr : Fr S S1 (fun i => i = e.2.2)) (ha : LkAt CL e.2.2 st S1) : PR C CL w sl dl dp (setE es k st) pa S1 := by
  obtain ⟨hm, hk⟩ := atE_some he
  obtain ⟨w0, g1, g2⟩ := h.at_ e hm
  have kd : ∀ {i : Nat} {c : Cell}, S[i]? = some c → (∀ st w, c ≠ lkS CL st w) → ¬ i = e.2.2 := fun h1 hne => ne_of_cell h1 g1 (hne _ _)
  refine ⟨fr.get h.ob (kd h.ob fun _ _ z => by unfold shc lkS lkC shf lkF at z; injection z with _ z; injection z with _ z; injection z with _ z; cases z), by rw [setE_lk]; exact fr.get h.lk (kd h.lk fun _ _ z => nomatch z), fr.get h.pa (kd h.pa fun _ _ z => nomatch z), h.ne, fun y hy => ?_, by rw [setE_l]; exact h.nd, by rw [setE_k]; exact h.kd⟩
  obtain ⟨x, hx, rfl⟩ := List.mem_map.mp hy
  by_cases hxk : x.1 = k
  · rw [if_pos hxk]
    have : x = e := nd_inj h.kd hx hm (hxk.trans hk.symm)
    rw [this]; exact ha
  · rw [if_neg hxk]
    refine (h.at_ x hx).keep fr (fun z => hxk ?_) fun i xs hi => kd hi fun _ _ z => nomatch z
    rw [nd_inj h.nd hx hm z]; exact hk
theorem MR.upd (h : MR w ml el ep es pa S) (he : atE es k = some e) (fr : Fr S S1 (fun i => i = e.2.2)) (ha : MdAt e.2.2 st S1) : MR w ml el ep (setE es k st) pa S1 := by
  obtain ⟨hm, hk⟩ := atE_some he
  obtain ⟨w0, g1, g2⟩ := h.at_ e hm
  have kd : ∀ {i : Nat} {c : Cell}, S[i]? = some c → (∀ st w, c ≠ mdS st w) → ¬ i = e.2.2 := fun h1 hne => ne_of_cell h1 g1 (hne _ _)
  refine ⟨fr.get h.ob (kd h.ob fun _ _ z => by unfold smC mdS mdC smF mdF at z; injection z with z; injection z with _ z; injection z with _ z; cases z), by rw [setE_lk]; exact fr.get h.lk (kd h.lk fun _ _ z => nomatch z), fr.get h.pa (kd h.pa fun _ _ z => nomatch z), h.ne, fun y hy => ?_, by rw [setE_l]; exact h.nd, by rw [setE_k]; exact h.kd⟩
  obtain ⟨x, hx, rfl⟩ := List.mem_map.mp hy
  by_cases hxk : x.1 = k
  · rw [if_pos hxk]
    have : x = e := nd_inj h.kd hx hm (hxk.trans hk.symm)
    rw [this]; exact ha
  · rw [if_neg hxk]
    refine (h.at_ x hx).keep fr (fun z => hxk ?_) fun i xs hi => kd hi fun _ _ z => nomatch z
    rw [nd_inj h.nd hx hm z]; exact hk
end

theorem PR.app {C CL : Addr} {w : World} {sl dl dp : Nat} {es : List Ent} {pa : List (PK × Int)} {S T : Sto} (h : PR C CL w sl dl dp es pa S) : PR C CL w sl dl dp es pa (S ++ T) :=
  ⟨app_get h.ob, app_get h.lk, app_get h.pa, h.ne, fun e he => let ⟨w1, h1, h2⟩ := h.at_ e he; ⟨w1, app_get h1, app_get h2⟩, h.nd, h.kd⟩
theorem MR.app {w : World} {ml el ep : Nat} {es : List Ent} {pa : List (PK × Int)} {S T : Sto} (h : MR w ml el ep es pa S) : MR w ml el ep es pa (S ++ T) :=
  ⟨app_get h.ob, app_get h.lk, app_get h.pa, h.ne, fun e he => let ⟨w1, h1, h2⟩ := h.at_ e he; ⟨w1, app_get h1, app_get h2⟩, h.nd, h.kd⟩
/-- what was given back has changed -/
theorem PR.give {C CL : Addr} {w : World} {sl dl dp : Nat} {es : List Ent} {pa pa2 : List (PK × Int)} {S : Sto} (h : PR C CL w sl dl dp es pa S) : PR C CL w sl dl dp es pa2 (S.set dp (.dn w (kKT.enc (fPa pa2)))) := by
  have kd : ∀ {i : Nat} {c : Cell}, S[i]? = some c → (∀ kvs, c ≠ .dn w kvs) → i ≠ dp := fun h1 hne => ne_of_cell h1 h.pa (hne _)
  have st : ∀ {i : Nat} {c : Cell}, S[i]? = some c → (∀ kvs, c ≠ .dn w kvs) → (S.set dp (.dn w (kKT.enc (fPa pa2))))[i]? = some c := fun h1 hne => by rw [List.getElem?_set_ne (fun z => kd h1 hne z.symm)]; exact h1
  exact ⟨st h.ob (fun _ z => nomatch z), by rw [List.getElem?_set_ne (fun z => h.ne z.symm)]; exact h.lk, set_get h.pa, h.ne, fun e he => let ⟨w1, h1, h2⟩ := h.at_ e he; ⟨w1, st h1 (fun _ z => nomatch z), st h2 (fun _ z => nomatch z)⟩, h.nd, h.kd⟩
theorem MR.give {w : World} {ml el ep : Nat} {es : List Ent} {pa pa2 : List (PK × Int)} {S : Sto} (h : MR w ml el ep es pa S) : MR w ml el ep es pa2 (S.set ep (.dn w (kKT.enc (fPa pa2)))) := by
  have kd : ∀ {i : Nat} {c : Cell}, S[i]? = some c → (∀ kvs, c ≠ .dn w kvs) → i ≠ ep := fun h1 hne => ne_of_cell h1 h.pa (hne _)
  have st : ∀ {i : Nat} {c : Cell}, S[i]? = some c → (∀ kvs, c ≠ .dn w kvs) → (S.set ep (.dn w (kKT.enc (fPa pa2))))[i]? = some c := fun h1 hne => by rw [List.getElem?_set_ne (fun z => kd h1 hne z.symm)]; exact h1
  exact ⟨st h.ob (fun _ z => nomatch z), by rw [List.getElem?_set_ne (fun z => h.ne z.symm)]; exact h.lk, set_get h.pa, h.ne, fun e he => let ⟨w1, h1, h2⟩ := h.at_ e he; ⟨w1, st h1 (fun _ z => nomatch z), st h2 (fun _ z => nomatch z)⟩, h.nd, h.kd⟩
theorem PR.add {C CL : Addr} {w : World} {sl dl dp : Nat} {es : List Ent} {pa : List (PK × Int)} {S : Sto} {k : K2} (h : PR C CL w sl dl dp es pa S) (hk : atE es k = none) :
    PR C CL w sl dl dp (es ++ [(k, st0, S.length)]) pa (S.set dl (.dn w (kK.enc (fLk (es ++ [(k, st0, S.length)])))) ++ [lkS CL st0 (S.length + 1), .lst (eWs [])]) := by
  have kd : ∀ {i : Nat} {c : Cell}, S[i]? = some c → (∀ kvs, c ≠ .dn w kvs) → i ≠ dl := fun h1 hne => ne_of_cell h1 h.lk (hne _)
  have st : ∀ {i : Nat} {c d : Cell} {T : Sto}, S[i]? = some c → (∀ kvs, c ≠ .dn w kvs) → (S.set dl d ++ T)[i]? = some c := fun h1 hne => app_get (by rw [List.getElem?_set_ne (fun z => kd h1 hne z.symm)]; exact h1)
  refine ⟨st h.ob (fun _ z => nomatch z), app_get (set_get h.lk), app_get (by rw [List.getElem?_set_ne h.ne]; exact h.pa), h.ne, fun e he => ?_, ?_, ?_⟩
  · rcases List.mem_append.mp he with he | he
    · obtain ⟨w1, h1, h2⟩ := h.at_ e he
      exact ⟨w1, st h1 (fun _ z => nomatch z), st h2 (fun _ z => nomatch z)⟩
    · rw [List.mem_singleton.mp he]
      exact ⟨S.length + 1, by rw [get_apps0]; rfl, by rw [get_apps]; rfl⟩
  · rw [List.map_append, List.nodup_append]
    refine ⟨h.nd, by simp, fun a ha b hb z => ?_⟩
    rw [List.mem_singleton.mp hb] at z
    obtain ⟨e, he, rfl⟩ := List.mem_map.mp ha
    obtain ⟨w1, h1, _⟩ := h.at_ e he
    have := (List.getElem?_eq_some_iff.mp h1).1
    have z : e.2.2 = S.length := z
    omega
  · rw [List.map_append, List.nodup_append]
    refine ⟨h.kd, by simp, fun a ha b hb z => ?_⟩
    rw [List.mem_singleton.mp hb] at z
    exact atE_none hk (by rw [← show a = k from z]; exact ha)
theorem MR.add {w : World} {ml el ep : Nat} {es : List Ent} {pa : List (PK × Int)} {S : Sto} {k : K2} (h : MR w ml el ep es pa S) (hk : atE es k = none) :
    MR w ml el ep (es ++ [(k, st0, S.length)]) pa (S.set el (.dn w (kK.enc (fLk (es ++ [(k, st0, S.length)])))) ++ [mdS st0 (S.length + 1), .lst (eWs [])]) := by
  have kd : ∀ {i : Nat} {c : Cell}, S[i]? = some c → (∀ kvs, c ≠ .dn w kvs) → i ≠ el := fun h1 hne => ne_of_cell h1 h.lk (hne _)
  have st : ∀ {i : Nat} {c d : Cell} {T : Sto}, S[i]? = some c → (∀ kvs, c ≠ .dn w kvs) → (S.set el d ++ T)[i]? = some c := fun h1 hne => app_get (by rw [List.getElem?_set_ne (fun z => kd h1 hne z.symm)]; exact h1)
  refine ⟨st h.ob (fun _ z => nomatch z), app_get (set_get h.lk), app_get (by rw [List.getElem?_set_ne h.ne]; exact h.pa), h.ne, fun e he => ?_, ?_, ?_⟩
  · rcases List.mem_append.mp he with he | he
    · obtain ⟨w1, h1, h2⟩ := h.at_ e he
      exact ⟨w1, st h1 (fun _ z => nomatch z), st h2 (fun _ z => nomatch z)⟩
    · rw [List.mem_singleton.mp he]
      exact ⟨S.length + 1, by rw [get_apps0]; rfl, by rw [get_apps]; rfl⟩
  · rw [List.map_append, List.nodup_append]
    refine ⟨h.nd, by simp, fun a ha b hb z => ?_⟩
    rw [List.mem_singleton.mp hb] at z
    obtain ⟨e, he, rfl⟩ := List.mem_map.mp ha
    obtain ⟨w1, h1, _⟩ := h.at_ e he
    have := (List.getElem?_eq_some_iff.mp h1).1
    have z : e.2.2 = S.length := z
    omega
  · rw [List.map_append, List.nodup_append]
    refine ⟨h.kd, by simp, fun a ha b hb z => ?_⟩
    rw [List.mem_singleton.mp hb] at z
    exact atE_none hk (by rw [← show a = k from z]; exact ha)
/-- what an operation on the shelf leaves -/
structure POut (C CL : Addr) (w : World) (sl dl dp : Nat) (S : Sto) (q : List (K2 × LSt) × List (PK × Int) × List D) (x : R D) : Prop where
  ex : ∃ S1 r es1, x = .ok (.ref r) S1 ∧ PR C CL w sl dl dp es1 q.2.1 S1 ∧ stp es1 = q.1 ∧ Fr S S1 (PFt CL dl dp S) ∧ S1[r]? = some (.lst q.2.2) ∧ ∃ S0, PR C CL w sl dl dp es1 q.2.1 S0 ∧ Fr S0 S1 (fun _ => False) ∧ S.length ≤ S0.length ∧ S0.length ≤ r
structure MOut (w : World) (ml el ep : Nat) (S : Sto) (q : List (K2 × LSt) × List (PK × Int) × List D) (x : R D) : Prop where
  ex : ∃ S1 r es1, x = .ok (.ref r) S1 ∧ MR w ml el ep es1 q.2.1 S1 ∧ stp es1 = q.1 ∧ Fr S S1 (MF el ep S) ∧ S1[r]? = some (.lst q.2.2) ∧ S.length ≤ r

theorem o_seqT {S : Sto} {xs : List D} : seqD S (.tup xs) = some xs := (rfl)
/-! data that compare with themselves -/
def gd : Nat → D → Bool
  | _, .non => true
  | _, .bl _ => true
  | _, .int _ => true
  | _, .str x => PyData.strOk x
  | n + 1, .tup xs => xs.all (gd n)
  | _, _ => false
def rowD (sh : List (K2 × LSt)) (k : K2) : D := match valK sh k with
  | some st => .tup [eK k, .int st.v, .int st.t, eH st.h]
  | none => .non
def rowsD (sh : List (K2 × LSt)) : List D := (kK.sort (sh.map (·.1))).map (rowD sh)
def pastD (pa : List (PK × Int)) : List D := (kKT.sort (pa.map (·.1))).map fun x => .tup [eK x.1, eT x.2, .int (pastG pa x)]
theorem PR.fr0 {C CL : Addr} {w : World} {sl dl dp : Nat} {es : List Ent} {pa : List (PK × Int)} {S S1 : Sto} (h : PR C CL w sl dl dp es pa S) (f : Fr S S1 (fun _ => False)) : PR C CL w sl dl dp es pa S1 :=
  ⟨f.get h.ob id, f.get h.lk id, f.get h.pa id, h.ne, fun e he => let ⟨w1, h1, h2⟩ := h.at_ e he; ⟨w1, f.get h1 id, f.get h2 id⟩, h.nd, h.kd⟩
theorem MR.fr0 {w : World} {ml el ep : Nat} {es : List Ent} {pa : List (PK × Int)} {S S1 : Sto} (h : MR w ml el ep es pa S) (f : Fr S S1 (fun _ => False)) : MR w ml el ep es pa S1 :=
  ⟨f.get h.ob id, f.get h.lk id, f.get h.pa id, h.ne, fun e he => let ⟨w1, h1, h2⟩ := h.at_ e he; ⟨w1, f.get h1 id, f.get h2 id⟩, h.nd, h.kd⟩
/-- what is fit for the rows -/
def okSh (sh : List (K2 × LSt)) (pa : List (PK × Int)) : Prop := (∀ e ∈ sh, PyData.strOk e.1.2 = true) ∧ ∀ x ∈ pa, PyData.strOk x.1.1.2 = true
def gcompK (is : List Nat) (pt : D → Lc → Option Lc) (ft : BF) (fe : EF) (env : Lc) : It' → Sto → R D := fun it S1 => match it with
  | .fix xs => gcompX pt ft fe (unset is env) xs [] S1
  | .live n xs => gcompL n pt ft fe (unset is env) xs 0 [] S1
theorem ap_fGComp {fi : IF} {is : List Nat} {pt : D → Lc → Option Lc} {ft : BF} {fe : EF} {env : Lc} {S : Sto} : fGComp fi is pt ft fe env S = (fi env S).bind (gcompK is pt ft fe env) := (rfl)
theorem ap_unset0 {env : Lc} : unset [] env = env := (rfl)
theorem ap_unset1 {env : Lc} {i : Nat} {is : List Nat} : unset (i :: is) env = (unset is env).set i none := (rfl)
theorem ap_ptT2 {i j : Nat} {a b : D} {env : Lc} : ptT [i, j] (.tup [a, b]) env = some ((env.set i (some a)).set j (some b)) := (rfl)
end RF

/-! tuple * int; == of lists of other lengths -/
namespace RF
open PySem L2
section
variable {K : PySem.W.Frag} {L : List Addr} {H : Hp}
theorem RDs.rep {vs : List V} {xs : List D} (r : RDs K L H vs xs) : ∀ k : Nat, RDs K L H (List.replicate k vs).flatten (List.replicate k xs).flatten
  | 0 => .nil
  | k + 1 => by
    rw [List.replicate_succ, List.replicate_succ, List.flatten_cons, List.flatten_cons]
    exact r.append (RDs.rep r k)
end
def oMulT : Op2 := fun x y S => match x, y with
  | .tup xs, .int k => if xs ≠ [] ∧ 2 ≤ k ∧ k ≤ 1000 ∧ xs.length ≤ 1000 then .ok (.tup (List.replicate k.toNat xs).flatten) S else .bad
  | _, _ => .bad
def rEqLen (K : PySem.W.Frag) : R2 := fun x y H Q => ∃ a b xs ys, x = .ref a ∧ y = .ref b ∧ SqL K H a xs ∧ SqL K H b ys ∧ xs.length ≠ ys.length ∧ Q (.bl false) H
def oEqL : Op2 := fun x y S => match x, y with
  | .ref n, .ref m => match S[n]?, S[m]? with
    | some (.lst xs), some (.lst ys) => if xs.length = ys.length then oEq x y S else .ok (.bl false) S
    | _, _ => .bad
  | _, _ => .bad
def rEqLD (K : PySem.W.Frag) : R2 := fun x y H Q => rEqLen K x y H Q ∨ rEqD K x y H Q
section
variable {S : Sto} {n m : Nat} {xs ys : List D} {k : Int} {a b : D}
end
end RF

/-! d.get(k) of dicts whose keys are tuples of any form (nested): in, [], get, [] =, list(d), len(d), {} -/
namespace RF
open PySem L2
section
variable {X : Cx} {pins : List (Addr × Obj)} {σ : St} {H : Hp} {s : Shared} {a b : Addr} {zs : List ZN} {k : NestedKey} {u : Value} {A : Around} {E : Value → Shared → Prop}
end
section
variable {X : Cx} {E : XK} {o i e f : Expr} {fo fi fk fx : EF} {pos apos cpos : Pos}
end
end RF

/-! t[::-1], t a tuple -/
namespace RF
open PySem PySem.Spec PyProof.Rows
section
variable {prog : Program} {w : World} {A : Around} {E : Value → Shared → Prop} {s : Shared}
theorem places_back (n : Nat) : Builtin.Slice.slicePlaces ((n : Int) - 1) (-1) (-1) = n := by
  unfold Builtin.Slice.slicePlaces
  have h1 : ¬ ((-1 : Int) > 0) := by omega
  simp only [h1, if_false]
  have h2 : (-(-1) : Int) = 1 := by omega
  rw [h2, Int.ediv_one]
  split <;> omega
theorem sliceApplied_back {sl : Addr} {t : Tok} {n : Nat} {Q : Int × Int × Nat → Shared → Prop} (hs : s.heap.IsSliceOf sl .none .none (.int (-1) t))
    (h : Q ((n : Int) - 1, -1, n) s) : wpAny (model prog w) A (Builtin.Slice.sliceApplied (.ref sl) (pure (n : Int))) Q E s := by
  obtain ⟨os, hos, hcs, hds⟩ := id hs
  unfold Builtin.Slice.sliceApplied Builtin.Slice.sliceFields
  refine wpAny_bind (wpAny_bind (wpAny_field hos hds (x := .none) rfl (wpAny_bind (wpAny_field hos hds (x := .none) rfl (wpAny_bind (wpAny_field hos hds (x := .int (-1) t) rfl (wpAny_pure ?_)))))))
  refine wpAny_bind (slicePart_int ?_)
  show wpAny _ _ (if ((-1 : Int) == 0) = true then _ else _) _ _ s
  rw [if_neg (by decide)]
  refine wpAny_bind (slicePart_none (wpAny_bind (slicePart_none (wpAny_bind (wpAny_pure ?_)))))
  show wpAny _ _ (pure ((n : Int) - 1, (-1 : Int), Builtin.Slice.slicePlaces ((n : Int) - 1) (-1) (-1))) _ _ s
  rw [places_back]
  exact wpAny_pure h
theorem pick_back (xs : Array Value) : ((List.range xs.size).filterMap fun (m : Nat) => xs[(((xs.size : Int) - 1) + (m : Int) * -1).toNat]?).toArray = (xs.toList.reverse).toArray := by
  have key : ∀ k, k ≤ xs.size → ((List.range k).filterMap fun (m : Nat) => xs[(((xs.size : Int) - 1) + (m : Int) * -1).toNat]?) = xs.toList.reverse.take k := by
    intro k
    induction k with
    | zero => intro _; simp
    | succ k ih =>
      intro hk
      rw [List.range_succ, List.filterMap_append, ih (by omega)]
      have e : (((xs.size : Int) - 1) + (k : Int) * -1).toNat = xs.size - 1 - k := by omega
      have hl : k < xs.toList.reverse.length := by rw [List.length_reverse, Array.length_toList]; omega
      rw [List.take_succ_eq_append_getElem hl]
      simp only [List.filterMap_cons, List.filterMap_nil, e]
      have hx : xs[xs.size - 1 - k]? = some (xs.toList.reverse[k]) := by
        rw [List.getElem_reverse, Array.getElem?_eq_getElem (by omega)]
        simp
      rw [hx]
  rw [key _ (Nat.le_refl _), List.take_of_length_le (by rw [List.length_reverse, Array.length_toList]; omega)]
theorem getItem_tuple_back {t sl : Addr} {items : Array Value} {tk : Tok} {Q : Value → Shared → Prop} (ht : IsTup s.heap t items) (hs : s.heap.IsSliceOf sl .none .none (.int (-1) tk))
    (h : Q (.ref s.heap.objs.size) { s with heap := s.heap.push { cls := .type "tuple", data := .seq (items.toList.reverse).toArray } })
    (hsz : items.size ≤ sizeLine) : wpAny (model prog w) A (getItem (.ref t) (.ref sl)) Q E s := by
  have htake : sizeOk (.seq (items.toList.reverse).toArray) := by
    show (items.toList.reverse).toArray.size ≤ sizeLine
    rw [List.size_toArray, List.length_reverse, Array.length_toList]
    exact hsz
  obtain ⟨os, hos, hcs, hds⟩ := id hs
  have hTs : s.TypeIs (.ref sl) "slice" := ⟨os, hos, hcs⟩
  unfold getItem
  try with_reducible refine wpAny_holding ?_
  first | refine wpAny_bind (wpAny_pure ?_) | skip
  refine wpAny_bind (wpAny_sequenceKey ht.typeIs (by decide) ?_)
  refine wpAny_bind (wpAny_callSpecial?_slot (name := Str.ofString "__getitem__") ht.typeIs PyProof.Rows.slot_tuple_getitem
    (wpAny_call_entry PyProof.Rows.slot_tuple_getitem ht.typeIs entry_tuple_getitem ?_ (args_tuple_getitem _ _)))
  show wpAny _ _ (Builtin.Tuple.tupleItemsOf (.ref t) >>= _) _ _ s
  refine wpAny_bind (tupleItemsOf_ ht ?_)
  refine wpAny_bind (wpAny_typeOf hTs ?_)
  rw [if_pos (by decide)]
  refine wpAny_bind (sliceApplied_back hs ?_)
  have hno : ¬ (((items.size : Int) - 1 == 0 && (-1 : Int) == 1 && items.size == items.size) = true) := by
    intro q
    rw [Bool.and_eq_true, Bool.and_eq_true] at q
    exact absurd (eq_of_beq q.1.2) (by decide)
  show wpAny _ _ (if ((items.size : Int) - 1 == 0 && (-1 : Int) == 1 && items.size == items.size) = true then _ else _) _ _ s
  rw [if_neg hno, pick_back]
  first
    | exact wpAny_bind (m := Builtin.Tuple.tupleExact _) (wpAny_newObj_type (wpAny_pure ⟨_, rfl, wpAny_pure h⟩) htake)
    | exact wpAny_bind (m := Builtin.Tuple.tupleExact _) (wpAny_newObj_type (wpAny_bind (wpAny_pure (wpAny_pure ⟨_, rfl, wpAny_pure h⟩))) htake)
    | exact wpAny_bind (wpAny_bind (m := Builtin.Tuple.tupleExact _) (wpAny_newObj_type (wpAny_pure (wpAny_pure ⟨_, rfl, wpAny_pure h⟩)) htake))
    | exact wpAny_bind (wpAny_bind (m := Builtin.Tuple.tupleExact _) (wpAny_newObj_type (wpAny_pure ⟨_, rfl, wpAny_pure h⟩) htake))
end
end RF
namespace RF
open PySem L2 PySem.Spec PyProof.Rows
def revK : D → Sto → R D := fun x S => match x with
  | .tup xs => .ok (.tup xs.reverse) S
  | _ => .bad
def fRev (fa : EF) : EF := fun env S => (fa env S).bind revK
section
variable {K : PySem.W.Frag} {L : List Addr} {H : Hp}
theorem RDs.rev : ∀ {vs : List V} {ds : List D}, RDs K L H vs ds → RDs K L H vs.reverse ds.reverse
  | _, _, .nil => .nil
  | _, _, .cons a b => by
    rw [List.reverse_cons, List.reverse_cons]
    exact (RDs.rev b).append (.cons a .nil)
end
theorem vals_rev : ∀ {vs : List V} {us : List Value}, Vals vs us → Vals vs.reverse us.reverse
  | _, _, .nil => .nil
  | _, _, .cons a b => by
    rw [List.reverse_cons, List.reverse_cons]
    exact (vals_rev b).append (.cons a .nil)
theorem xRev {X : Cx} {E : XK} {e st : Expr} {fa : EF} {p2 pos : Pos} (he : PE X e (tE X.K E fa)) (hst : PE X st (tE X.K E (fUn oNeg (fC (.int 1))))) : PE X (.Subscript e (.Slice none none (some st) p2) pos) (tE X.K E (fRev fa)) := by
  refine ⟨fun pins s σ H Q I h => ?_⟩
  obtain ⟨L, env, S, rep, re, h⟩ := h
  refine Subscript_ (thn (he.run pins s σ H (fun x H1 => ∃ a, x = .ref a ∧ tE X.K E (fUn oNeg (fC (.int 1))) σ H1 (fun y H2 => y = .int (-1) ∧ ∃ vs, SqT X.K H2 a vs ∧ ∀ p, H2 p = none → Q (.ref p) (upd H2 p (.tup vs.reverse)))) I
    ⟨L, env, S, rep, re, (End.bind h).imp fun x S1 L1 H1 e1 rep1 h1 v rv => ?_⟩) fun v s1 ⟨x, H1, I1, r1, a, ex, q⟩ => ?_)
  · cases x with
    | tup ds =>
      have h1 : EndV X.K E L1 H1 Q (.ok (.tup ds.reverse) S1) := h1
      obtain ⟨a, rfl⟩ : ∃ a, v = .ref a := by cases rv; exact ⟨_, rfl⟩
      refine ⟨a, rfl, L1, env, S1, rep1, re.mono e1, ?_⟩
      intro L2 H2 e2 rep2 y ry
      cases ry
      have rv2 := rv.mono e2
      cases rv2 with
      | @tup a' vs ds' hs rs =>
        exact ⟨rfl, vs, .of hs, fun p hp => EndV.val ((h1.later e2).later (Ex.new hp)) (rep2.new hp) (.tup upd_same (rs.rev.mono (Ex.new hp)))⟩
    | _ => exact h1.elim
  · subst ex
    obtain rfl : v = Value.ref a := r1
    refine wpAny_Slice ?_
    rw [evalPart_none]
    refine wpAny_pure ?_
    refine wpAny_pure ?_
    rw [evalPart_some]
    refine thn (hst.run pins s1 σ H1 _ I1 q) fun u s2 ⟨y, H2, I2, r2, ey, vs, hT, q2⟩ => ?_
    subst ey
    obtain ⟨t, rfl⟩ := r2
    have I4 : L2.Inv X pins σ H2 { s2 with heap := s2.heap.push { cls := .type "slice", data := .fields #[.none, .none, .int (-1) t] } } := I2.kept (t' := s2.toks) fun b ob q => Heap.get?_push_of_some _ q
    obtain ⟨its, r, ht, hz⟩ := I4.tuple hT
    have hg : wpAny (model X.prog X.w) X.A (getItem (.ref a) (.ref s2.heap.objs.size)) (EP X pins σ Q) X.xe { s2 with heap := s2.heap.push { cls := .type "slice", data := .fields #[.none, .none, .int (-1) t] } } := by
      have hl : vs.length = its.length := r.length
      refine getItem_tuple_back ht (Heap.IsSliceOf.new ..) ?_ (by rw [List.size_toArray, ← hl]; exact hz)
      refine ⟨.ref _, _, I4.laid (t' := s2.toks) (o := .tup vs.reverse) (fun b ob q => Heap.get?_push_of_some _ q) (Nat.le_refl _) ?_, rfl, q2 _ (I4.hok.fresh (Nat.le_refl _))⟩
      refine ⟨?_, _, vals_rev r, IsTup.new _ _⟩
      rw [List.length_reverse]
      exact hz
    show wpAny (model X.prog X.w) X.A (subscriptTail e (.Slice none none (some st) p2) (.ref a) (.ref s2.heap.objs.size)) (EP X pins σ Q) X.xe _
    exact tail_any (ops := [.ref a, .ref s2.heap.objs.size]) ht.typeIs PyProof.Rows.slot_tuple_getitem.lookup hg (by with_unfolding_all rfl)
section
variable {fa : EF} {env : Lc} {S : Sto} {xs : List D}
theorem ap_fRev : fRev fa env S = (fa env S).bind revK := (rfl)
theorem ap_revK : revK (.tup xs) S = .ok (.tup xs.reverse) S := (rfl)
end
end RF

/-! max of a list of data; list(range(n)); l.pop(i) -/
namespace RF
open PySem L2
def rMaxD (K : PySem.W.Frag) : List V → Hp → VK → Prop := fun vs H Q => ∃ (a : Addr) (bs : List VDP) (x : PyData) (ps : List PyData), vs = [V.ref a] ∧ SqL K H a (bs.map (·.1)) ∧ DpAll K H (bs.map (·.1)) (bs.map (·.2.2)) ∧ bs.map (·.2.2) = x :: ps ∧ PySem.W.AlikeAll (x :: ps) ∧
  PyData.depthAll (x :: ps) ≤ 60 ∧ PyData.canLayAll0 (x :: ps) = true ∧ ∀ b ∈ bs, b.2.2 = PySem.W.maxD x ps → Q b.1 H
def oMax1 : OpN := fun ds S => match ds with
  | [x] => match lstD S x with
    | some xs => match xs.mapM (toP S 20) with
      | some (p :: ps) => if likeB (p :: ps) = true ∧ notNoneB (p :: ps) = true ∧ pureTs xs = true then .ok (toD (PySem.W.maxD p ps)) S else .bad
      | _ => .bad
    | none => .bad
  | _ => .bad
section
variable {K : PySem.W.Frag} {E : XK}
end
def mPopAt : OpM := fun x ds S => match x, ds with
  | .ref n, [.int i] => match S[n]? with
    | some (.lst xs) => if 0 ≤ i ∧ i < xs.length ∧ xs.length < 100000 then match xs[i.toNat]? with
      | some y => .ok y (S.set n (.lst (xs.eraseIdx i.toNat)))
      | none => .bad
      else .bad
    | _ => .bad
  | _, _ => .bad
section
variable {K : PySem.W.Frag} {E : XK}
end
def lstRgK : D → Sto → R D := fun d S => match d with
  | .int j => if 0 ≤ j ∧ j ≤ 1000 then .ok (.ref S.length) (S ++ [.lst (rngD 0 j.toNat)]) else .bad
  | _ => .bad
def fLstRg (fa : EF) : EF := fun env S => (fa env S).bind lstRgK
section
variable {fa : EF} {env : Lc} {S : Sto} {j : Int} {n : Nat} {xs : List D}
end
end RF

/-! a dict with nested keys stands still while it is walked: for k in d, [.. for k in d] -/
namespace RF
open PySem L2
section
variable {K : PySem.W.Frag} {E : XK} {L L1 : List Addr} {H H1 : Hp} {S S1 : Sto} {n : Nat} {a : Addr} {w : World} {zs : List ZN} {kvs : List (NestedKey × D)} {od : Obj}
end
/-- the dict at n may change again -/
def thawR {α : Type} (n : Nat) : R α → R α
  | .ok a S => match S[n]? with
    | some (.df w kvs) => .ok a (S.set n (.dn w kvs))
    | _ => .bad
  | _ => .bad
def fIce (fa : EF) (s : SF) : SF := fun env S => match fa env S with
  | .ok (.ref n) _ => match S[n]? with
    | some (.dn w kvs) => thawR n (s env (S.set n (.df w kvs)))
    | _ => .bad
  | _ => .bad
def fIceE (fa : EF) (f : EF) : EF := fun env S => match fa env S with
  | .ok (.ref n) _ => match S[n]? with
    | some (.dn w kvs) => thawR n (f env (S.set n (.df w kvs)))
    | _ => .bad
  | _ => .bad
def fIterN (fa : EF) : IF := fun env S => (fa env S).bind fun d S1 => match d with
  | .ref n => match S1[n]? with
    | some (.df w kvs) => .ok (.fix (keysN kvs)) S1
    | _ => .bad
  | _ => .bad
section
variable {X : Cx} {E : XK} {e : Expr} {st : Stmt} {fa f : EF} {s : SF}
end
/-! the walk itself -/
/-- the keys of the frozen dict at d -/
def ItN (w : World) (d : Addr) (o : Obj) (zs : List ZN) : It :=
  ⟨fun i H => i < zs.length ∧ H d = some (.frz o (dnO w d zs)), fun i H x H' => (∃ z, zs[i]? = some z ∧ x = V.ref z.2.1) ∧ H' = H, fun i H => zs.length ≤ i ∧ H d = some (.frz o (dnO w d zs))⟩
section
variable {X : Cx} {pins : List (Addr × Obj)} {σ : St} {H : Hp} {s : Shared} {d : Addr} {o : Obj} {zs : List ZN} {w : World}
def iIce (w : World) (td : TE) : TI := fun σ H R => td σ H fun x H1 => ∃ d o zs, x = .ref d ∧ H1 d = some (.frz o (dnO w d zs)) ∧ R (ItN w d o zs) H1
end
/-! rewriting -/
def iceC (s : SF) (env : Lc) (S : Sto) (n : Nat) : Option Cell → R Fl
  | some (.dn w kvs) => thawR n (s env (S.set n (.df w kvs)))
  | _ => .bad
def iceM (s : SF) (env : Lc) (S : Sto) : R D → R Fl
  | .ok (.ref n) _ => iceC s env S n S[n]?
  | _ => .bad
def thawC {α : Type} (a : α) (S : Sto) (n : Nat) : Option Cell → R α
  | some (.df w kvs) => .ok a (S.set n (.dn w kvs))
  | _ => .bad
def itNC (S : Sto) : Option Cell → R It'
  | some (.df _ kvs) => .ok (.fix (keysN kvs)) S
  | _ => .bad
def itNK : D → Sto → R It' := fun d S1 => match d with
  | .ref n => match S1[n]? with
    | some (.df w kvs) => .ok (.fix (keysN kvs)) S1
    | _ => .bad
  | _ => .bad
section
variable {fa : EF} {s : SF} {env : Lc} {S S0 : Sto} {n : Nat} {w : World} {kvs : List (NestedKey × D)}
end
end RF

/-! {k: v for x in ..} with nested tuples as keys -/
namespace RF
open PySem L2
section
variable {X : Cx} {pins : List (Addr × Obj)} {σ : St} {H : Hp} {s : Shared} {a b : Addr} {zs : List ZN} {k : NestedKey}
end
/-- {k: v for target in iter if ..}: dd the new dict -/
def tDcN (w : World) (wi : TI) (g : TG) (tt : TT) (tk tv : TE) (vs : List Nat) : TE := fun σ H Q => wi σ H fun J H1 => ∀ dd, H1 dd = none → ∃ ww : Nat → Nat → Hp → Prop, (∃ m, ww 0 m (upd H1 dd (dnO w dd []))) ∧ ∀ i m H, ww i m H →
  (J.stop i H ∧ Q (.ref dd) H) ∨ (J.go i H ∧ ∃ nx : Hp → Prop, (∀ H', nx H' → ∃ m', m' < m ∧ ww (i + 1) m' H') ∧ ∀ x H', J.yld i H x H' → g x (wipe σ vs) H' fun σ2 H2 => wipe σ2 vs = wipe σ vs ∧ tt σ2 H2 fun c H3 =>
    if c = true then tk σ2 H3 fun y H4 => tv σ2 H4 fun z H5 => ∃ zs k b, y = .ref b ∧ H5 dd = some (dnO w dd zs) ∧ ZOk H5 zs ∧ NK H5 k (.ref b) ∧ k.depth ≤ 8 ∧ zs.length < sizeLine ∧ nx (upd H5 dd (dnO w dd (putZ zs k b z))) else nx H3)
abbrev InBlk (X : Cx) (scope : Scope) (P : Cx → Prop) : Prop := ∀ (s : Shared) (H : Hp) (C : Addr) (cl : List (Str × Addr)) (fp : List Addr), P (X.blk s H scope (compEnvC scope cl C X.env) fp)
section
variable {X : Cx}
end
section
variable {X : Cx} {kx vx tg iter : Expr} {ifs : List Expr} {scope : Scope} {own : List (Str × Nat)} {pos : Pos} {wi : TI} {g : TG} {tt : TT} {tk tv : TE}
end
/-! functions -/
def dcK (ft : BF) (fk fv : EF) (ee : Lc) (acc : List (NestedKey × D)) (next : List (NestedKey × D) → Sto → R D) : Sto → R D := fun S => (ft ee S).nox.bind fun b S1 => if b = true then ((fk ee S1).nox.bind fun y S2 => (fv ee S2).nox.bind fun z S3 => match keyT y with
    | some k => if acc.length < 100000 then next (putKD acc k z) S3 else .bad
    | none => .bad) else next acc S1
def compXD (w : World) (i : Nat) (ft : BF) (fk fv : EF) (env : Lc) : List D → List (NestedKey × D) → Sto → R D
  | [], acc, S => .ok (.ref S.length) (S ++ [.dn w acc])
  | d :: xs, acc, S => dcK ft fk fv (env.set i (some d)) acc (compXD w i ft fk fv env xs) S
def compLD (w : World) (n i : Nat) (ft : BF) (fk fv : EF) (env : Lc) : List D → Nat → List (NestedKey × D) → Sto → R D
  | [], j, acc, S => match S[n]? with
    | some (.lst ys) => if ys.length ≤ j then .ok (.ref S.length) (S ++ [.dn w acc]) else .bad
    | _ => .bad
  | _ :: xs, j, acc, S => match S[n]? with
    | some (.lst ys) => match ys[j]? with
      | none => .ok (.ref S.length) (S ++ [.dn w acc])
      | some d => dcK ft fk fv (env.set i (some d)) acc (compLD w n i ft fk fv env xs (j + 1)) S
    | _ => .bad
def fDComp (w : World) (fi : IF) (i : Nat) (ft : BF) (fk fv : EF) : EF := fun env S => (fi env S).bind fun it S1 => match it with
  | .fix xs => compXD w i ft fk fv (env.set i none) xs [] S1
  | .live n xs => compLD w n i ft fk fv (env.set i none) xs 0 [] S1
section
variable {K : PySem.W.Frag} {L L1 : List Addr} {H H1 : Hp} {S S1 : Sto} {E : XK}
end
section
variable {X : Cx} {E : XK} {tg l iter kx vx : Expr} {fk fv : EF} {ft : BF} {fi : IF} {pos : Pos}
end
end RF
namespace RF
open PySem L2
/-! rewriting -/
section
variable {w : World} {i n j : Nat} {ft : BF} {fk fv : EF} {fi : IF} {env ee : Lc} {S : Sto} {d y : D} {xs ys : List D} {acc : List (NestedKey × D)} {k : NestedKey} {next : List (NestedKey × D) → Sto → R D}
def dcFK (w : World) (i : Nat) (ft : BF) (fk fv : EF) (env : Lc) : It' → Sto → R D := fun it S1 => match it with
  | .fix xs => compXD w i ft fk fv (env.set i none) xs [] S1
  | .live n xs => compLD w n i ft fk fv (env.set i none) xs 0 [] S1
end
end RF

/-! len of dicts with nested keys; tuples whose object is known: tuple(list), == with them, dict(t) of pairs -/
namespace RF
open PySem L2
def rLenN : List V → Hp → VK → Prop := fun xs H Q => ∃ a w zs, xs = [V.ref a] ∧ Rd H a (dnO w a zs) ∧ ZOk H zs ∧ Q (.int ((zs.length : Nat) : Int)) H
section
variable {X : Cx}
end
def oLenN : OpN := fun ds S => match ds with
  | [.ref n] => match S[n]? with
    | some (.dn _ kvs) => .ok (.int (kvs.length : Nat)) S
    | some (.df _ kvs) => .ok (.int (kvs.length : Nat)) S
    | _ => oLen [.ref n] S
  | ds => oLen ds S
section
variable {K : PySem.W.Frag} {E : XK}
end
/-! a tuple as a cell -/
/-- what a value reads as, whatever tells of it -/
def RdX (X : Cx) (H : Hp) (v : V) (p : PyData) : Prop := ∀ {pins : List (Addr × Obj)} {σ : St} {s : Shared} {u : Value}, Inv X pins σ H s → RelV v u → ∃ as, Reads s.heap u p as
def RdXs (X : Cx) (H : Hp) (vs : List V) (ps : List PyData) : Prop := ∀ {pins : List (Addr × Obj)} {σ : St} {s : Shared} {us : List Value}, Inv X pins σ H s → Vals vs us → ∃ as, ReadsAll s.heap us ps as
def toPX (S : Sto) : Nat → D → Option PyData
  | 0, d => leafP d
  | k + 1, d => match d with
    | .tup xs => (xs.mapM (toPX S k)).map .tuple
    | .ref n => match S[n]? with
      | some (.tp xs) => (xs.mapM (toPX S k)).map .tuple
      | _ => none
    | d => leafP d
section
variable {X : Cx} {L : List Addr} {H : Hp} {S : Sto}
theorem RdX.of {v : V} {p : PyData} (h : Dp X.K H v p) : RdX X H v p := fun I r => Dp.reads I p v _ h r
def rNeX (X : Cx) : R2 := fun x y H Q => ∃ d e, RdX X H x d ∧ RdX X H y e ∧ SeqAt.shaped d = true ∧ SeqAt.shaped e = true ∧ Q (.bl (!PyData.eqv d e)) H
end
def oNeX : Op2 := fun x y S => match toPX S 20 x, toPX S 20 y with
  | some p, some q => .ok (.bl (!PyData.eqv p q)) S
  | _, _ => .bad
/-! tuple(list), its object known -/
def rTupX (K : PySem.W.Frag) : List V → Hp → VK → Prop := fun xs H Q => ∃ p ys, xs = [V.ref p] ∧ SqL K H p ys ∧ ∀ l, H l = none → Q (.ref l) (upd H l (tpO l ys))
def oTupX : OpN := fun ds S => match ds with
  | [.ref n] => match S[n]? with
    | some (.lst xs) => .ok (.ref S.length) (S ++ [.tp xs])
    | _ => .bad
  | _ => .bad
/-! dict(t), t such a tuple of pairs whose keys are nested tuples -/
def PairZ (H : Hp) (v : V) (z : ZN) : Prop := ∃ t, v = V.ref t ∧ H t = some (.tup [V.ref z.2.1, z.2.2]) ∧ NK H z.1 (.ref z.2.1) ∧ z.1.depth ≤ 8
def putZs (zs : List ZN) : List ZN := zs.foldl (fun a z => putZ a z.1 z.2.1 z.2.2) []
def rDictX (w : World) : List V → Hp → VK → Prop := fun xs H Q => ∃ (a : Addr) (vs : List V) (zs : List ZN), xs = [V.ref a] ∧ H a = some (tpO a vs) ∧ Paired (PairZ H) vs zs ∧ ∀ p, H p = none → Q (.ref p) (upd H p (dnO w p (putZs zs)))
def tsOf (vs : List V) (j : Nat) : Addr := match vs[j]? with
  | some (.ref t) => t
  | _ => 0
/-- the pairs of data -/
def pairKs : List D → Option (List (NestedKey × D))
  | [] => some []
  | .tup [k, v] :: ds => match keyT k with
    | some n => (pairKs ds).map ((n, v) :: ·)
    | none => none
  | _ => none
def putKs (kvs : List (NestedKey × D)) : List (NestedKey × D) := kvs.foldl (fun a z => putKD a z.1 z.2) []
def oDictX (w : World) : OpN := fun ds S => match ds with
  | [.ref n] => match S[n]? with
    | some (.tp xs) => match pairKs xs with
      | some kvs => .ok (.ref S.length) (S ++ [.dn w (putKs kvs)])
      | none => .bad
    | _ => .bad
  | _ => .bad
section
variable {K : PySem.W.Frag} {E : XK} {L : List Addr} {H : Hp}
end
/-! rewriting -/
def lenNC (S : Sto) (n : Nat) : Option Cell → R D
  | some (.dn _ kvs) => .ok (.int (kvs.length : Nat)) S
  | some (.df _ kvs) => .ok (.int (kvs.length : Nat)) S
  | _ => oLen [.ref n] S
def tupXC (S : Sto) : Option Cell → R D
  | some (.lst xs) => .ok (.ref S.length) (S ++ [.tp xs])
  | _ => .bad
def dictXC (w : World) (S : Sto) : Option Cell → R D
  | some (.tp xs) => match pairKs xs with
    | some kvs => .ok (.ref S.length) (S ++ [.dn w (putKs kvs)])
    | none => .bad
  | _ => .bad
section
variable {w : World} {S : Sto} {n : Nat} {kvs : List (NestedKey × D)} {xs : List D} {x y : D}
end
end RF

/-! trips and their plain model in the store -/
namespace RF
open PySem L2
section
variable {C : Addr} {x : D} {n : Nat} {S : Sto} {d0 d1 d2 d3 d4 d5 d6 d7 d8 d9 d10 : D}
def trf (d0 d1 d2 d3 d4 d5 d6 d7 d8 d9 d10 : D) : List (Str × D) := [(⟨#[116, 114, 97, 110, 115, 97, 99, 116, 105, 111, 110]⟩, d0), (⟨#[112, 114, 111, 103, 114, 97, 109]⟩, d1), (⟨#[97, 116, 116, 101, 109, 112, 116]⟩, d2), (⟨#[95, 111, 117, 116, 99, 111, 109, 101]⟩, d3), (⟨#[95, 101, 110, 100, 101, 100]⟩, d4), (⟨#[95, 107, 101, 121, 115]⟩, d5), (⟨#[95, 118, 97, 108, 117, 101, 115]⟩, d6), (⟨#[95, 109, 97, 114, 107, 115]⟩, d7), (⟨#[95, 104, 111, 108, 100, 101, 114]⟩, d8), (⟨#[95, 102, 114, 101, 101, 100, 95, 107, 101, 121, 115]⟩, d9), (⟨#[95, 102, 105, 110, 105, 115, 104, 101, 100, 95, 107, 101, 121, 115]⟩, d10)]
def trc (C : Addr) (d0 d1 d2 d3 d4 d5 d6 d7 d8 d9 d10 : D) : Cell := .ins C (trf d0 d1 d2 d3 d4 d5 d6 d7 d8 d9 d10)
end
section
variable {S : Sto} {n m : Nat} {x a0 a1 a2 a3 a4 a5 a6 a7 a8 a9 : D}
def mtF (a0 a1 a2 a3 a4 a5 a6 a7 a8 a9 : D) : List (Key × D) := [(.inr ⟨#[110, 97, 109, 101]⟩, a0), (.inr ⟨#[112, 114, 111, 103, 114, 97, 109]⟩, a1), (.inr ⟨#[97, 116, 116, 101, 109, 112, 116]⟩, a2), (.inr ⟨#[111, 117, 116, 99, 111, 109, 101]⟩, a3), (.inr ⟨#[101, 110, 100, 101, 100]⟩, a4), (.inr ⟨#[104, 101, 108, 100]⟩, a5), (.inr ⟨#[104, 111, 108, 100, 101, 114]⟩, a6), (.inr ⟨#[109, 97, 114, 107]⟩, a7), (.inr ⟨#[107, 101, 112, 116]⟩, a8), (.inr ⟨#[100, 111, 110, 101]⟩, a9)]
def mtC (a0 a1 a2 a3 a4 a5 a6 a7 a8 a9 : D) : Cell := .dk (mtF a0 a1 a2 a3 a4 a5 a6 a7 a8 a9)
def mtK : List Key := [.inr ⟨#[110, 97, 109, 101]⟩, .inr ⟨#[112, 114, 111, 103, 114, 97, 109]⟩, .inr ⟨#[97, 116, 116, 101, 109, 112, 116]⟩, .inr ⟨#[111, 117, 116, 99, 111, 109, 101]⟩, .inr ⟨#[101, 110, 100, 101, 100]⟩, .inr ⟨#[104, 101, 108, 100]⟩, .inr ⟨#[104, 111, 108, 100, 101, 114]⟩, .inr ⟨#[109, 97, 114, 107]⟩, .inr ⟨#[107, 101, 112, 116]⟩, .inr ⟨#[100, 111, 110, 101]⟩]
end
/-! steps -/
inductive Stp where
  | rd (k : K2) | st (k : K2) | put (k : K2) (z : Int) | add (k : K2) (z : Int) | need (k : K2) (z : Int)
def Stp.key : Stp → K2
  | .rd k | .st k | .put k _ | .add k _ | .need k _ => k
def sRd : Str := ⟨#[114, 101, 97, 100]⟩
def sSt : Str := ⟨#[115, 116, 111, 114, 101]⟩
def sPu : Str := ⟨#[112, 117, 116]⟩
def sAd : Str := ⟨#[97, 100, 100]⟩
def sNe : Str := ⟨#[110, 101, 101, 100]⟩
def eS : Stp → D
  | .rd k => .tup [.str sRd, eK k]
  | .st k => .tup [.str sSt, eK k]
  | .put k z => .tup [.str sPu, eK k, .int z]
  | .add k z => .tup [.str sAd, eK k, .int z]
  | .need k z => .tup [.str sNe, eK k, .int z]
def eSs (ss : List Stp) : List D := ss.map eS
def okKs (ks : List K2) : Prop := ∀ k ∈ ks, PyData.strOk k.2 = true
def keysS (ss : List Stp) : List K2 := unl (ss.map Stp.key)
abbrev Vals2 := List (K2 × Int)
def fVs (vs : Vals2) : List (K2 × D) := vs.map fun x => (x.1, .int x.2)
def vlV (vs : Vals2) (k : K2) : Int := (valK vs k).getD 0
/-- the run of a program: done, what was read, the values behind -/
def runS (first : Vals2) : List Stp → Vals2 → List Int → Bool × List Int × Vals2
  | [], now, rs => (true, rs, now)
  | .rd k :: ss, now, rs => runS first ss now (rs ++ [vlV now k])
  | .st k :: ss, now, rs => runS first ss (putKD now k (rs.getLast?.getD 0)) rs
  | .put k z :: ss, now, rs => runS first ss (putKD now k z) rs
  | .add k z :: ss, now, rs => runS first ss (putKD now k (vlV now k + z)) rs
  | .need k z :: ss, now, rs => if vlV now k < z then (false, rs, first) else runS first ss now rs
def firstS (ks : List K2) (vs : Vals2) : Vals2 := ks.foldl (fun a k => putKD a k (vlV vs k)) []
def runP (ss : List Stp) (vs : Vals2) : Bool × List Int × Vals2 := runS (firstS (keysS ss) vs) ss (firstS (keysS ss) vs) []
/-- an outcome: done, read, the values of the keys -/
structure Out where
  d : Bool
  rs : List Int
  ps : Vals2
def outOf (ss : List Stp) (vs : Vals2) : Out := ⟨(runP ss vs).1, (runP ss vs).2.1, (keysS ss).map fun k => (k, vlV (runP ss vs).2.2 k)⟩
def eP (x : K2 × Int) : D := .tup [eK x.1, .int x.2]
def eI (xs : List Int) : List D := xs.map D.int
def eOut : Option Out → D
  | none => .non
  | some o => .tup [.bl o.d, .tup (eI o.rs), .tup (o.ps.map eP)]
def eOutM (t : Nat) : Option Out → D
  | none => .non
  | some o => .tup [.bl o.d, .tup (eI o.rs), .ref t]
/-- a trip -/
structure TSt where
  nm : Int × Int
  pg : List Stp
  at_ : Int
  out : Option Out
  en : Bool
  vs : Vals2
  ow : Option Mk
  yo : List Mk
  ho : Option Who
  fr : List K2
  fi : List K2
def fTr (ks : List K2) : List (K2 × D) := ks.map fun k => (k, .bl true)
structure PPl where
  sl : Nat
  kl : Nat
  vl : Nat
  ml : Nat
  yl : Nat
  fl : Nat
  il : Nat
def PPl.l (p : PPl) : List Nat := [p.sl, p.kl, p.vl, p.ml, p.yl, p.fl, p.il]
structure PT (C CM : Addr) (w : World) (p : PPl) (t : TSt) (S : Sto) : Prop where
  ob : S[p.sl]? = some (trc C (eT t.nm) (.tup (eSs t.pg)) (.int t.at_) (eOut t.out) (.bl t.en) (.ref p.kl) (.ref p.vl) (.ref p.ml) (eH t.ho) (.ref p.fl) (.ref p.il))
  kl : S[p.kl]? = some (.lst (kK.es (keysS t.pg)))
  vl : S[p.vl]? = some (.dn w (kK.enc (fVs t.vs)))
  ml : S[p.ml]? = some (mkC CM t.nm t.ow p.yl)
  yl : S[p.yl]? = some (.dn w (encM t.yo))
  fl : S[p.fl]? = some (.dn w (kK.enc (fTr t.fr)))
  il : S[p.il]? = some (.dn w (kK.enc (fTr t.fi)))
  nd : [p.vl, p.yl, p.fl, p.il].Nodup
structure MPl where
  m : Nat
  hl : Nat
  kt : Nat
  dn : Nat
  t3 : Nat
def MPl.l (p : MPl) : List Nat := [p.m, p.hl, p.kt, p.dn, p.t3]
structure MT (w : World) (p : MPl) (t : TSt) (done : List K2) (S : Sto) : Prop where
  ob : S[p.m]? = some (mtC (eT t.nm) (.tup (eSs t.pg)) (.int t.at_) (eOutM p.t3 t.out) (.bl t.en) (.ref p.hl) (eH t.ho) (eO t.ow) (.ref p.kt) (.ref p.dn))
  hl : S[p.hl]? = some (.dn w (kK.enc (fVs t.vs)))
  kt : S[p.kt]? = some (.lst (cM.es t.yo))
  dn : S[p.dn]? = some (.lst (kK.es done))
  t3 : ∀ o, t.out = some o → S[p.t3]? = some (.tp (o.ps.map eP))
  ne : p.kt ≠ p.dn
def eKO : Option K2 → D
  | none => .non
  | some k => eK k
def nextK (ks : List K2) (vs : Vals2) : Option K2 := ks.find? fun k => (valK vs k).isNone
def TSt.keys (t : TSt) : List K2 := keysS t.pg
def TSt.next (t : TSt) : Option K2 := nextK t.keys t.vs
def TSt.going (t : TSt) : Bool := !t.en && t.out.isNone
def sGo : Str := ⟨#[103, 111, 105, 110, 103]⟩
def sCo : Str := ⟨#[99, 111, 109, 109, 105, 116, 116, 101, 100]⟩
def sEn : Str := ⟨#[101, 110, 100, 101, 100]⟩
def TSt.st (t : TSt) : Str := if t.en = true then sEn else if t.out.isNone = true then sGo else sCo
def eOut2 : Option Out → D
  | none => .non
  | some o => .tup [.bl o.d, .tup (eI o.rs)]
end RF

/-! C(e, .., k = v, ..) -/
namespace RF
open PySem L2
def fMakeKP (C : Addr) (F : FF) (n i j : Nat) (g : List D → List D → List D) (as fs : AF) : EF := fun env S => (as env S).bind fun vs S1 => (fs env S1).bind fun ds S2 => if vs.length = i ∧ ds.length = j ∧ (g (.ref S2.length :: vs) ds).length = n then (F (g (.ref S2.length :: vs) ds) (S2 ++ [.ins C []])).nox.bind (mkK2 S2.length) else .bad
section
variable {X : Cx} {E : XK} {k n : Nat} {f C : Addr} {fd : FuncData} {ps ks : List Str} {F : FF} {x nm : Str} {p pos kpos : Pos} {e : Expr} {es : List Expr} {kws : List Keyword} {as fs : AF} {g : List Value → List Value → List Value} {gV : List V → List V → List V} {gD : List D → List D → List D}
end
section
variable {C : Addr} {F : FF} {n i j : Nat} {g : List D → List D → List D} {as fs : AF} {env : Lc} {S : Sto} {ds vs : List D}
def mkKP1 (C : Addr) (F : FF) (n i j : Nat) (g : List D → List D → List D) (fs : AF) (env : Lc) : List D → Sto → R D := fun vs S1 => (fs env S1).bind fun ds S2 => if vs.length = i ∧ ds.length = j ∧ (g (.ref S2.length :: vs) ds).length = n then (F (g (.ref S2.length :: vs) ds) (S2 ++ [.ins C []])).nox.bind (mkK2 S2.length) else .bad
def mkKP2 (C : Addr) (F : FF) (n i j : Nat) (g : List D → List D → List D) (vs : List D) : List D → Sto → R D := fun ds S2 => if vs.length = i ∧ ds.length = j ∧ (g (.ref S2.length :: vs) ds).length = n then (F (g (.ref S2.length :: vs) ds) (S2 ++ [.ins C []])).nox.bind (mkK2 S2.length) else .bad
end
end RF

/-! t == (); zip of two tuples in a comprehension; d.get(k, x) of a dict of the module: texts to ints -/
namespace RF
open PySem L2
def rEqE (K : PySem.W.Frag) : R2 := fun x y H Q => ∃ a b xs, x = .ref a ∧ y = .ref b ∧ SqT K H a xs ∧ SqT K H b [] ∧ Q (.bl xs.isEmpty) H
theorem op_eqE {X : Cx} (hu : X.A.units + 64 < cLine) : OpR X (compareOp .Eq) (rEqE X.K) := by
  intro pins s σ H x y v u Q I rx ry h
  obtain ⟨a, b, xs, rfl, rfl, ha, hb, q⟩ := h
  cases (show v = Value.ref a from rx)
  cases (show u = Value.ref b from ry)
  obtain ⟨us, r1, p1, _⟩ := I.tuple ha
  obtain ⟨ws, r2, p2, _⟩ := I.tuple hb
  cases r2
  refine SeqAt.eq_tupleAt (e := fun _ => true) p1 p2 (by omega) (fun j h1 h2 => absurd h2 (Nat.not_lt_zero _)) ?_
  have e : ((List.range (min us.toArray.size ([] : List Value).toArray.size)).all (fun _ => true) && us.toArray.size == ([] : List Value).toArray.size) = xs.isEmpty := by
    have l := r1.length
    cases us with
    | nil => cases r1; rfl
    | cons u us => cases r1 with
      | cons _ _ => simp
  rw [e]
  exact ⟨.bl _, H, I, rfl, q⟩
def oEqE : Op2 := fun x y S => match x, y with
  | .tup xs, .tup [] => .ok (.bl xs.isEmpty) S
  | _, _ => .bad
theorem f_eqE {K : PySem.W.Frag} {E : XK} : OpF K E (rEqE K) oEqE := by
  intro L H S x y d1 d2 Q rep r1 r2 q
  cases r1 with
  | @tup a vs xs hs rs =>
    cases r2 with
    | @tup b ws ys hb rs2 =>
      cases rs2 with
      | nil =>
        refine ⟨a, b, vs, rfl, rfl, .of hs, .of hb, ?_⟩
        have e : vs.isEmpty = xs.isEmpty := by cases rs <;> rfl
        rw [e]
        exact EndV.val (show EndV K E L H Q (.ok (.bl xs.isEmpty) S) from q) rep (.bl _)
      | cons _ _ => exact q.elim
    | _ => exact q.elim
  | _ => exact q.elim
theorem o_eqE {xs : List D} {S : Sto} : oEqE (.tup xs) (.tup []) S = .ok (.bl xs.isEmpty) S := (rfl)

/-! != of lists of other lengths -/
def rNeLen (K : PySem.W.Frag) : R2 := fun x y H Q => ∃ a b xs ys, x = .ref a ∧ y = .ref b ∧ SqL K H a xs ∧ SqL K H b ys ∧ xs.length ≠ ys.length ∧ Q (.bl true) H
theorem op_neLen {X : Cx} (hu : X.A.units < cLine) : OpR X (compareOp .NotEq) (rNeLen X.K) := by
  intro pins s σ H x y v u Q I rx ry h
  obtain ⟨a, b, xs, ys, rfl, rfl, ha, hb, hne, q⟩ := h
  cases (show v = Value.ref a from rx)
  cases (show u = Value.ref b from ry)
  obtain ⟨us, r1, p1, _⟩ := I.list ha
  obtain ⟨ws, r2, p2, _⟩ := I.list hb
  have hsz : (us.toArray.size != ws.toArray.size) = true := by
    rw [List.size_toArray, List.size_toArray, ← r1.length, ← r2.length]
    simpa using hne
  exact SeqAt.RcNeAt.lists_lengths p1.isList p2.isList hsz hu X.prog X.w _ _ ⟨.bl true, H, I, rfl, q⟩
def oNeL : Op2 := fun x y S => match x, y with
  | .ref n, .ref m => match S[n]?, S[m]? with
    | some (.lst xs), some (.lst ys) => if xs.length = ys.length then oNe x y S else .ok (.bl true) S
    | _, _ => .bad
  | _, _ => .bad
def rNeLD (K : PySem.W.Frag) : R2 := fun x y H Q => rNeLen K x y H Q ∨ rNeD K x y H Q
theorem op_neLD {X : Cx} (hu : X.A.units + 64 < cLine) : OpR X (compareOp .NotEq) (rNeLD X.K) := (op_neLen (by omega)).or (op_neD hu)
theorem f_neL {K : PySem.W.Frag} {E : XK} : OpF K E (rNeLD K) oNeL := by
  intro L H S x y d1 d2 Q rep r1 r2 q
  cases r1 with
  | @ref a n ha =>
    cases r2 with
    | @ref b m hb =>
      obtain ⟨c, hc, rc⟩ := rep.adr ha
      obtain ⟨c2, hc2, rc2⟩ := rep.adr hb
      unfold oNeL at q
      simp only [hc, hc2] at q
      cases c with
      | lst xs =>
        cases c2 with
        | lst ys =>
          simp only at q
          obtain ⟨vs, hv, rv⟩ := id rc
          obtain ⟨ws, hw, rw'⟩ := id rc2
          by_cases hl : xs.length = ys.length
          · rw [if_pos hl] at q
            exact .inr (f_ne _ _ _ _ _ _ _ _ rep (.ref ha) (.ref hb) q)
          · rw [if_neg hl] at q
            exact .inl ⟨a, b, vs, ws, rfl, rfl, .of hv, .of hw, by rw [rv.length, rw'.length]; exact hl, EndV.val q rep (.bl _)⟩
        | _ => exact q.elim
      | _ => exact q.elim
    | _ => exact q.elim
  | _ => exact q.elim
section
variable {S : Sto} {n m : Nat} {xs ys : List D}
theorem neL_ne (h1 : S[n]? = some (.lst xs)) (h2 : S[m]? = some (.lst ys)) (h : ¬ xs.length = ys.length) : oNeL (.ref n) (.ref m) S = .ok (.bl true) S := by
  unfold oNeL
  simp only [h1, h2, if_neg h]
theorem neL_00 (h1 : S[n]? = some (.lst [])) (h2 : S[m]? = some (.lst [])) : oNeL (.ref n) (.ref m) S = .ok (.bl false) S := by
  unfold oNeL
  simp only [h1, h2, if_true]
  rw [o_ne, show (20 : Nat) = 19 + 1 from rfl, toP_ref, toP_ref, h1, h2, toPC_lst, toP_mapM_nil]
  show (neK S (some (.list [])) (some (.list []))) = _
  rw [neK_some]
  simp [PyData.eqv, PyData.eqvAll]
/-- against the empty list -/
theorem neL_nil (h1 : S[n]? = some (.lst xs)) (h2 : S[m]? = some (.lst [])) : oNeL (.ref n) (.ref m) S = .ok (.bl (!xs.isEmpty)) S := by
  cases xs with
  | nil => exact neL_00 h1 h2
  | cons x xs => exact neL_ne h1 h2 (by simp)
end

/-! zip -/
def zipD : List D → List D → List D
  | x :: xs, y :: ys => .tup [x, y] :: zipD xs ys
  | _, _ => []
theorem zipD_get : ∀ {xs ys : List D} {i : Nat} {d : D}, (zipD xs ys)[i]? = some d → ∃ x y, xs[i]? = some x ∧ ys[i]? = some y ∧ d = .tup [x, y]
  | [], _, _, _, h => by simp [zipD] at h
  | _ :: _, [], _, _, h => by simp [zipD] at h
  | x :: xs, y :: ys, 0, d, h => by simp [zipD] at h; exact ⟨x, y, rfl, rfl, h.symm⟩
  | x :: xs, y :: ys, i + 1, d, h => by
    obtain ⟨a, b, h1, h2, h3⟩ := zipD_get (xs := xs) (ys := ys) (i := i) (by simpa [zipD] using h)
    exact ⟨a, b, by simpa using h1, by simpa using h2, h3⟩
theorem zipD_len : ∀ {xs ys : List D} {i : Nat}, (zipD xs ys).length ≤ i → xs.length ≤ i ∨ ys.length ≤ i
  | [], _, _, _ => .inl (Nat.zero_le _)
  | _ :: _, [], _, _ => .inr (Nat.zero_le _)
  | x :: xs, y :: ys, 0, h => by simp [zipD] at h
  | x :: xs, y :: ys, i + 1, h => by
    rcases zipD_len (xs := xs) (ys := ys) (i := i) (by simpa [zipD] using h) with h | h
    · exact .inl (by simpa using h)
    · exact .inr (by simpa using h)
def fZip (fs : AF) : IF := fun env S => (fs env S).bind fun ds S1 => match ds with
  | [.tup xs, .tup ys] => .ok (.fix (zipD xs ys)) S1
  | _ => .bad
section
variable {X : Cx} {E : XK}
theorem xZip {e e2 : Expr} {fs : AF} {p pos tpos : Pos} {elts : List Expr} {kk : Nat} (hg : Gl X "zip") (hm : X.mg "zip" = none) (ha : PA X [e, e2] (tA X.K E fs))
    (hs : starEach [e, e2] X.env = (false, eval e X.env) :: starEach [e2] X.env := by rfl) (hpl : (backTo pos (starEach [e2] X.env)).any (·.1) = false := by rfl) :
    PI X (.Tuple elts kk tpos) (.Call (.Name "zip" p) [e, e2] [] pos) (tI X.K E (fZip fs)) := by
  have h1 := RZ.pi_zipA (elts := elts) (kk := kk) (tpos := tpos) (p := p) hg hm ha hs hpl
  refine ⟨fun pins s σ H R I q => h1.run pins s σ H R I ?_⟩
  obtain ⟨L, env, S, rep, re, q⟩ := q
  refine ⟨L, env, S, rep, re, (End.bind q).imp fun ds S1 L1 H1 ex1 rep1 q1 vs rvs => ?_⟩
  split at q1
  · rename_i xs ys
    cases rvs with
    | cons r rr =>
    cases rr with
    | cons r' rr =>
    cases rr
    cases r with
    | @tup a us _ hs1 rs1 =>
    cases r' with
    | @tup b ws _ hs2 rs2 =>
    refine ⟨a, b, us, ws, rfl, .inr ⟨.of hs1, .of hs2, q1 L1 H1 (Ex.refl _ _) rep1 _ fun i L2 H2 S2 ex2 rep2 => ?_⟩⟩
    have t1 : SqT X.K H2 a us := .of (ex2.tp _ _ hs1)
    have t2 : SqT X.K H2 b ws := .of (ex2.tp _ _ hs2)
    refine ⟨fun d hd => ?_, fun hl => ⟨us, ws, t1, t2, ?_⟩⟩
    · obtain ⟨x, y, hx, hy, rfl⟩ := zipD_get hd
      obtain ⟨u, hu, ru⟩ := rs1.get hx
      obtain ⟨w, hw, rw_⟩ := rs2.get hy
      refine ⟨⟨us, ws, u, w, t1, t2, hu, hw⟩, fun z H3 hz => ?_⟩
      obtain ⟨T, x', y', rfl, hT, rfl, f1, f2⟩ := hz
      have e1 := f1 _ t1
      have e2 := f2 _ t2
      rw [hu] at e1; cases e1
      rw [hw] at e2; cases e2
      exact ⟨Ex.new hT, rep2.new hT, .tup upd_same (.cons ((ru.mono ex2).mono (Ex.new hT)) (.cons ((rw_.mono ex2).mono (Ex.new hT)) .nil))⟩
    · rw [rs1.length, rs2.length]
      exact zipD_len hl
  · exact q1.elim
end

/-! a dict of the module -/
inductive GEnts (w : World) : List DictEntry → List (Str × Int) → Prop
  | nil : GEnts w [] []
  | cons {x : Str} {i : Int} {t u : Tok} {es : List DictEntry} {kvs : List (Str × Int)} : GEnts w es kvs → GEnts w (⟨PyData.keyHash w.params x, .str x t, .int i u⟩ :: es) ((x, i) :: kvs)
def GDict (K : PySem.W.Frag) (w : World) (a : Addr) (kvs : List (Str × Int)) : Prop :=
  (a == sysModules) = false ∧ ∃ o es ep, K.lookup a = some o ∧ o.ExactDict ∧ o.data = .dict es ep ∧ GEnts w es.toList kvs ∧ (kvs.map (·.1)).Nodup
theorem GEnts.keys {P : Program} {w : World} {es : List DictEntry} {kvs : List (Str × Int)} (h : GEnts w es kvs) : ∀ e ∈ es, ∃ k, (strKind P w).is k e.key = true ∧ e.hash = (strKind P w).hash k := by
  induction h with
  | nil => intro e h; cases h
  | @cons x i t u es kvs h ih =>
    intro e he
    rcases List.mem_cons.mp he with rfl | he
    · exact ⟨x, by simp [strKind, Value.isStrOf], rfl⟩
    · exact ih e he
def GVals : List (Str × Int) → List (Str × Value) → Prop
  | [], [] => True
  | (x, i) :: ps, (y, v) :: qs => x = y ∧ (∃ t, v = .int i t) ∧ GVals ps qs
  | _, _ => False
theorem GEnts.pairs {P : Program} {w : World} {es : List DictEntry} {kvs : List (Str × Int)} (h : GEnts w es kvs) : ∃ vs : List (Str × Value), Pairs (strKind P w) es vs ∧ GVals kvs vs := by
  induction h with
  | nil => exact ⟨[], .nil, trivial⟩
  | @cons x i t u es kvs h ih =>
    obtain ⟨vs, h1, h2⟩ := ih
    exact ⟨(x, .int i u) :: vs, .cons (by simp [strKind, Value.isStrOf]) rfl h1, rfl, ⟨u, rfl⟩, h2⟩
theorem GVals.keys : ∀ {kvs : List (Str × Int)} {vs : List (Str × Value)}, GVals kvs vs → vs.map (·.1) = kvs.map (·.1)
  | [], [], _ => rfl
  | (x, i) :: ps, (y, v) :: qs, ⟨a, _, c⟩ => by rw [List.map_cons, List.map_cons, GVals.keys c]; subst a; rfl
  | [], _ :: _, h => h.elim
  | _ :: _, [], h => h.elim
theorem GVals.val : ∀ {kvs : List (Str × Int)} {vs : List (Str × Value)} (z : Str), GVals kvs vs → match kvs.lookup z with | some i => ∃ t, valueAt vs z = some (.int i t) | none => valueAt vs z = none
  | [], [], _, _ => rfl
  | (x, i) :: ps, (y, v) :: qs, z, ⟨a, b, c⟩ => by
    subst a
    have ih := GVals.val z c
    rw [List.lookup_cons]
    by_cases h : x = z
    · subst h
      obtain ⟨t, rfl⟩ := b
      simp [valueAt]
    · have h' : (z == x) = false := beq_eq_false_iff_ne.mpr fun e => h e.symm
      rw [h']
      have e : valueAt ((x, v) :: qs) z = valueAt qs z := by simp [valueAt, List.find?_cons, h]
      rw [e]
      exact ih
  | [], _ :: _, _, h => h.elim
  | _ :: _, [], _, h => h.elim
theorem GDict.of {X : Cx} {pins : List (Addr × Obj)} {σ : St} {H : Hp} {s : Shared} {a : Addr} {kvs : List (Str × Int)} (I : Inv X pins σ H s) (g : GDict X.K X.w a kvs) :
    (a == sysModules) = false ∧ ∃ vs, s.heap.DictOf (strKind X.prog X.w) a vs ∧ GVals kvs vs := by
  obtain ⟨h0, o, es, ep, h1, h2, h3, h4, h5⟩ := g
  obtain ⟨vs, p, q⟩ := h4.pairs (P := X.prog)
  exact ⟨h0, vs, ⟨o, es, ep, I.kIn a o h1, h2, h3, fun e he => h4.keys e (Array.mem_toList_iff.mpr he), p, by rw [q.keys]; exact h5⟩, q⟩
def fGetG (kvs : List (Str × Int)) (fk fx : EF) : EF := fun env S => (fk env S).bind fun k S1 => match k with
  | .str z => (fx env S1).bind fun x S2 => match kvs.lookup z with
    | some i => .ok (.int i) S2
    | none => .ok x S2
  | _ => .bad
section
variable {X : Cx} {E : XK} {e f : Expr} {fk fx : EF} {apos cpos p : Pos}
theorem xGetG {x : Str} {kvs : List (Str × Int)} (hg : Gl X x) (hd : ∃ a, X.mg x = some (.ref a) ∧ GDict X.K X.w a kvs) (he : PE X e (tE X.K E fk)) (hf : PE X f (tE X.K E fx)) (m : M2 X (.Name x p) "get" apos e f cpos) (hdb : (x == ("__debug__" : Str)) = false := by decide) :
    PE X (.Call (.Attribute (.Name x p) "get" apos) [e, f] [] cpos) (tE X.K E (fGetG kvs fk fx)) := by
  refine ⟨fun pins s σ H Q I h => ?_⟩
  obtain ⟨a, hm, gd⟩ := hd
  obtain ⟨L, env, S, rep, re, h⟩ := h
  refine wpAny_Call_method m.base m.few m.line PySem.F.plainAttrs_dict PySem.F.slot_dict_get PySem.F.type_dict_get (ld_glob I hg hm ?_ hdb)
  obtain ⟨h0, vs, dd, gv⟩ := gd.of I
  have hob : ∀ b, Value.ref a = .ref b → ∃ ob, s.heap.get? b = some ob ∧ ob.dict = none := by
    intro b hb
    cases hb
    obtain ⟨o, es, ep, q1, q2, _⟩ := dd
    exact ⟨o, q1, q2.2.1⟩
  refine ⟨dd.typeIs, hob, ?_⟩
  rw [m.trees]
  refine Calls.callWith_builtin rfl (Calls.evalArgs_plain (Calls.spliced_cons (thn (he.run pins s σ H (fun y H1 => ∃ z, y = .str z ∧ tE X.K E fx σ H1 fun v H2 => (match kvs.lookup z with | some i => Q (.int i) H2 | none => Q v H2)) I ⟨L, env, S, rep, re, (End.bind h).imp fun y S1 L1 H1 e1 rep1 h1 v rv => ?_⟩) fun iv s2 ⟨y, H2, I2, ry, z, ey, q2⟩ =>
    Calls.spliced_cons (thn (hf.run pins s2 σ H2 _ I2 q2) fun fv s3 ⟨v, H3, I3, rz, q3⟩ => Calls.spliced_nil ?_))))
  · cases y with
    | str z =>
      cases rv
      refine ⟨z, rfl, L1, env, S1, rep1, re.mono e1, (End.bind h1).imp fun d S2 L2 H2 e2 rep2 h3 v rv => ?_⟩
      cases hl : kvs.lookup z with
      | some i => simp only [hl] at h3; exact EndV.val h3 rep2 (.int i)
      | none => simp only [hl] at h3; exact EndV.val h3 rep2 rv
    | _ => exact h1.elim
  · subst ey
    obtain ⟨t, rfl⟩ : ∃ t, iv = .str z t := ry
    obtain ⟨h0, vs, dd, gv⟩ := gd.of I3
    refine call_meetsIn PySem.F.slot_dict_get dd.typeIs PySem.F.entry_dict_get (PySem.F.args_dict_get_3 _ _ _) (meets_dict_get_default (knd := strKind X.prog X.w) (k := z) a (by simp [strKind, Value.isStrOf]) h0 fv) ⟨_, dd.mapOf, ?_⟩
    have gz := gv.val z
    cases hl : kvs.lookup z with
    | some i =>
      rw [hl] at gz
      simp only [hl] at q3
      obtain ⟨t', e⟩ := gz
      rw [e]
      exact ⟨.int i, H3, I3.tok _, ⟨t', rfl⟩, q3⟩
    | none =>
      rw [hl] at gz
      simp only [hl] at q3
      rw [gz]
      exact ⟨v, H3, I3.tok _, rz, q3⟩
end
/-! rewriting -/
theorem ap_gcompK_fix {is : List Nat} {pt : D → Lc → Option Lc} {ft : BF} {fe : EF} {env : Lc} {S : Sto} {xs : List D} : gcompK is pt ft fe env (.fix xs) S = gcompX pt ft fe (unset is env) xs [] S := (rfl)
def zipK : List D → Sto → R It' := fun ds S1 => match ds with
  | [.tup xs, .tup ys] => .ok (.fix (zipD xs ys)) S1
  | _ => .bad
theorem ap_fZip {fs : AF} {env : Lc} {S : Sto} : fZip fs env S = (fs env S).bind zipK := (rfl)
theorem ap_zipK {xs ys : List D} {S : Sto} : zipK [.tup xs, .tup ys] S = .ok (.fix (zipD xs ys)) S := (rfl)
def getGV : Option Int → D → Sto → R D
  | some i => fun _ S => .ok (.int i) S
  | none => fun x S => .ok x S
def getGK (kvs : List (Str × Int)) (fx : EF) (env : Lc) : D → Sto → R D := fun k S1 => match k with
  | .str z => (fx env S1).bind (getGV (kvs.lookup z))
  | _ => .bad
theorem ap_fGetG {kvs : List (Str × Int)} {fk fx : EF} {env : Lc} {S : Sto} : fGetG kvs fk fx env S = (fk env S).bind (getGK kvs fx env) := by
  unfold fGetG
  congr 1
  funext k S1
  unfold getGK
  cases k with
  | str z =>
    simp only
    congr 1
    funext x S2
    cases kvs.lookup z <;> rfl
  | _ => rfl
theorem ap_getGK {kvs : List (Str × Int)} {fx : EF} {env : Lc} {S : Sto} {z : Str} : getGK kvs fx env (.str z) S = (fx env S).bind (getGV (kvs.lookup z)) := (rfl)
end RF

/-! orders of data: keys, transactions, marks; what a sort gives -/
namespace RF
open PySem L2
/-! orders -/
structure Lin {α : Type} (lt : α → α → Bool) : Prop where
  irr : ∀ a, lt a a = false
  tr : ∀ a b d, lt a b = true → lt b d = true → lt a d = true
  tri : ∀ a b, lt a b = true ∨ a = b ∨ lt b a = true
theorem Lin.asym {α : Type} {lt : α → α → Bool} (h : Lin lt) {a b : α} (h1 : lt a b = true) : lt b a = false := by
  cases h2 : lt b a with
  | false => rfl
  | true => have := h.tr _ _ _ h1 h2; rw [h.irr] at this; cases this
theorem Lin.pair {α β : Type} [DecidableEq α] [DecidableEq β] {l1 : α → α → Bool} {l2 : β → β → Bool} (h1 : Lin l1) (h2 : Lin l2) : Lin (fun (x y : α × β) => if x.1 = y.1 then (if x.2 = y.2 then false else l2 x.2 y.2) else l1 x.1 y.1) := by
  refine ⟨fun a => by simp, fun a b d k1 k2 => ?_, fun a b => ?_⟩
  · by_cases e1 : a.1 = b.1
    · rw [if_pos e1] at k1
      by_cases e2 : b.1 = d.1
      · rw [if_pos e2] at k2
        rw [if_pos (e1.trans e2)]
        by_cases e3 : a.2 = b.2
        · rw [if_pos e3] at k1; cases k1
        · rw [if_neg e3] at k1
          by_cases e4 : b.2 = d.2
          · rw [if_pos e4] at k2; cases k2
          · rw [if_neg e4] at k2
            have k := h2.tr _ _ _ k1 k2
            rw [if_neg (fun z => by rw [z, h2.irr] at k; cases k)]
            exact k
      · rw [if_neg e2] at k2
        rw [if_neg (fun z => e2 (e1.symm.trans z)), e1]
        exact k2
    · rw [if_neg e1] at k1
      by_cases e2 : b.1 = d.1
      · rw [if_neg (fun z => e1 (z.trans e2.symm)), ← e2]
        exact k1
      · rw [if_neg e2] at k2
        have k := h1.tr _ _ _ k1 k2
        rw [if_neg (fun z => by rw [z, h1.irr] at k; cases k)]
        exact k
  · by_cases e1 : a.1 = b.1
    · by_cases e2 : a.2 = b.2
      · exact .inr (.inl (Prod.ext e1 e2))
      · rw [if_pos e1, if_neg e2, if_pos e1.symm, if_neg (fun z => e2 z.symm)]
        rcases h2.tri a.2 b.2 with k | k | k
        · exact .inl k
        · exact absurd k e2
        · exact .inr (.inr k)
    · rw [if_neg e1, if_neg (fun z => e1 z.symm)]
      rcases h1.tri a.1 b.1 with k | k | k
      · exact .inl k
      · exact absurd k e1
      · exact .inr (.inr k)
theorem lin_int : Lin (fun (a b : Int) => decide (a < b)) := ⟨fun a => by simp, fun a b d h1 h2 => by simp at *; omega, fun a b => by simp; omega⟩
theorem lin_str : Lin (fun (a b : Str) => decide (a.cps.toList < b.cps.toList)) := by
  refine ⟨fun a => by simp [List.lt_irrefl], fun a b d h1 h2 => ?_, fun a b => ?_⟩
  · simp only [decide_eq_true_eq] at *
    exact List.lt_trans h1 h2
  · simp only [decide_eq_true_eq]
    by_cases h1 : a.cps.toList < b.cps.toList
    · exact .inl h1
    · by_cases h2 : b.cps.toList < a.cps.toList
      · exact .inr (.inr h2)
      · refine .inr (.inl ?_)
        have e : a.cps.toList = b.cps.toList := List.le_antisymm (List.not_lt.mp h2) (List.not_lt.mp h1)
        cases a; cases b
        simp only at e
        rw [Array.toList_inj] at e
        rw [e]
theorem kLt_eq : (fun (a b : K2) => PySem.W.dataLt (kK.p a) (kK.p b)) = fun x y => if x.1 = y.1 then (if x.2 = y.2 then false else decide (x.2.cps.toList < y.2.cps.toList)) else decide (x.1 < y.1) := by
  funext a b
  show PySem.W.dataLt (pK a) (pK b) = _
  unfold pK
  rw [PySem.W.dataLt_pair (by simp [PySem.W.alike]) (by simp [PySem.W.alike]), PySem.W.dataLt_int, PySem.W.dataLt_str]
  simp only [PyData.eqv, beq_iff_eq]
theorem tLt_eq : (fun (a b : Int × Int) => PySem.W.dataLt (pT a) (pT b)) = fun x y => if x.1 = y.1 then (if x.2 = y.2 then false else decide (x.2 < y.2)) else decide (x.1 < y.1) := by
  funext a b
  unfold pT
  rw [PySem.W.dataLt_pair (by simp [PySem.W.alike]) (by simp [PySem.W.alike]), PySem.W.dataLt_int, PySem.W.dataLt_int]
  simp only [PyData.eqv, beq_iff_eq]
theorem kLin : Lin (fun (a b : K2) => PySem.W.dataLt (kK.p a) (kK.p b)) := by rw [kLt_eq]; exact Lin.pair lin_int lin_str
theorem tLin : Lin (fun (a b : Int × Int) => PySem.W.dataLt (pT a) (pT b)) := by rw [tLt_eq]; exact Lin.pair lin_int lin_int
theorem dataLt_cons2 {x y : PyData} {xs ys : List PyData} (h : PySem.W.alike x y = true) : PySem.W.dataLt (.tuple (x :: xs)) (.tuple (y :: ys)) = if PyData.eqv x y = true then PySem.W.dataLt (.tuple xs) (.tuple ys) else PySem.W.dataLt x y := by
  rw [PySem.W.dataLt_tuple]
  cases e : PyData.eqv x y with
  | true => rw [if_pos rfl, PySem.W.dataLt_all_yes h e, PySem.W.dataLt_tuple]
  | false => rw [if_neg (by decide), PySem.W.dataLt_all_no h e]
theorem mLt_eq : (fun (a b : Mk) => PySem.W.dataLt (pM a) (pM b)) = fun x y => if x.1 = y.1 then (if x.2 = y.2 then false else
    (if x.2.1 = y.2.1 then (if x.2.2 = y.2.2 then false else (if x.2.2.1 = y.2.2.1 then (if x.2.2.2 = y.2.2.2 then false else decide (x.2.2.2 < y.2.2.2)) else PySem.W.dataLt (kK.p x.2.2.1) (kK.p y.2.2.1))) else decide (x.2.1 < y.2.1))) else PySem.W.dataLt (pT x.1) (pT y.1) := by
  funext a b
  unfold pM
  rw [dataLt_cons2 (by simp [pT, PySem.W.alike, PySem.W.alikeAll]), eqv_T]
  obtain ⟨a1, a2, a3, a4⟩ := a
  obtain ⟨b1, b2, b3, b4⟩ := b
  simp only [decide_eq_true_eq]
  by_cases h1 : a1 = b1
  · rw [if_pos h1, if_pos h1, dataLt_cons2 (by simp [PySem.W.alike])]
    simp only [PyData.eqv, beq_iff_eq, Prod.mk.injEq]
    by_cases h2 : a2 = b2
    · rw [if_pos h2, if_pos h2, dataLt_cons2 (by simp [pK, PySem.W.alike, PySem.W.alikeAll]), eqv_K]
      simp only [decide_eq_true_eq]
      by_cases h3 : a3 = b3
      · rw [if_pos h3, if_pos h3, dataLt_cons2 (by simp [PySem.W.alike])]
        simp only [PyData.eqv, beq_iff_eq]
        by_cases h4 : a4 = b4
        · have e0 : PySem.W.dataLt (.tuple []) (.tuple []) = false := by first | rfl | decide | (rw [PySem.W.dataLt_tuple]; rfl)
          simp [h2, h3, h4, e0]
        · simp [h2, h3, h4, PySem.W.dataLt_int]
      · simp only [h3, if_false, h2, true_and, false_and]
        rfl
    · simp [h2, PySem.W.dataLt_int]
  · rw [if_neg h1, if_neg h1]
theorem mLin : Lin (fun (a b : Mk) => PySem.W.dataLt (cM.p a) (cM.p b)) := by
  show Lin (fun (a b : Mk) => PySem.W.dataLt (pM a) (pM b))
  rw [mLt_eq]
  exact Lin.pair tLin (Lin.pair lin_int (Lin.pair kLin lin_int))
/-- what is sorted and holds nothing twice stands in order -/
theorem sort_asc {α : Type} [DecidableEq α] {C : Cod α} (h : Lin (fun a b => PySem.W.dataLt (C.p a) (C.p b))) {as : List α} (hn : as.Nodup) : (C.sort as).Pairwise (fun a b => PySem.W.dataLt (C.p a) (C.p b) = true) := by
  have tr : ∀ a b d, C.le a b = true → C.le b d = true → C.le a d = true := by
    intro a b d h1 h2
    unfold Cod.le at *
    simp only [Bool.not_eq_true', Bool.not_eq_true] at *
    cases q : PySem.W.dataLt (C.p d) (C.p a) with
    | false => rfl
    | true =>
      rcases h.tri a b with k | k | k
      · have := h.tr d a b q k
        rw [h2] at this; cases this
      · rw [k] at q; rw [h2] at q; cases q
      · rw [h1] at k; cases k
  have tot : ∀ a b, (C.le a b || C.le b a) = true := by
    intro a b
    unfold Cod.le
    cases q : PySem.W.dataLt (C.p b) (C.p a) with
    | false => rfl
    | true =>
      have := h.asym (a := b) (b := a) q
      rw [this]; rfl
  have h1 := List.pairwise_mergeSort tr tot as
  have h2 : (C.sort as).Pairwise (fun a b => a ≠ b) := ((List.mergeSort_perm as C.le).nodup_iff.mpr hn)
  refine List.Pairwise.imp (fun {a b} z => ?_) (List.pairwise_and_iff.mpr ⟨h1, h2⟩)
  obtain ⟨z1, z2⟩ := z
  unfold Cod.le at z1
  simp only [Bool.not_eq_true'] at z1
  rcases h.tri a b with k | k | k
  · exact k
  · exact absurd k z2
  · rw [z1] at k; cases k
end RF

/-! for i, x in enumerate(xs), a list that stands -/
namespace RF
open PySem L2
def loopE (n : Nat) (g : GF) (body : SF) : List D → Nat → Lc → Sto → R Fl
  | [], i, env, S => match S[n]? with
    | some (.lst ys) => if ys.length ≤ i then .ok (.nx env) S else .bad
    | _ => .bad
  | _ :: xs, i, env, S => match S[n]? with
    | some (.lst ys) => match ys[i]? with
      | none => .ok (.nx env) S
      | some d => (g (.tup [.int (i : Nat), d]) env S).bind fun env1 S1 => (body env1 S1).bind fun fl S2 => match fl with
        | .nx e => loopE n g body xs (i + 1) e S2
        | .ct e => loopE n g body xs (i + 1) e S2
        | .bk e => .ok (.nx e) S2
        | .rt d => .ok (.rt d) S2
    | _ => .bad
def fForEn (fs : AF) (g : GF) (body : SF) : SF := fun env S => (fs env S).bind fun ds S1 => match ds with
  | [.ref n] => match S1[n]? with
    | some (.lst xs) => loopE n g body xs 0 env S1
    | _ => .bad
  | _ => .bad
section
variable {X : Cx} {E : XK} {pos tpos p : Pos}
end
def forEC (n : Nat) (g : GF) (body : SF) (env : Lc) (S : Sto) : Option Cell → R Fl
  | some (.lst xs) => loopE n g body xs 0 env S
  | _ => .bad
def forEK (g : GF) (body : SF) (env : Lc) : List D → Sto → R Fl
  | [.ref n] => fun S => forEC n g body env S S[n]?
  | _ => fun _ => .bad
end RF

namespace Qk26
open PySem L2 RF
noncomputable section
def gd_LENGTHS : List (Str × Int) := [(⟨#[97, 115, 107]⟩, 4), (⟨#[102, 114, 101, 101]⟩, 4), (⟨#[102, 114, 101, 101, 100]⟩, 4), (⟨#[102, 105, 110, 105, 115, 104, 101, 100]⟩, 4), (⟨#[102, 105, 110, 105, 115, 104]⟩, 5), (⟨#[103, 114, 97, 110, 116, 101, 100]⟩, 6), (⟨#[98, 101, 104, 105, 110, 100]⟩, 7), (⟨#[99, 97, 108, 108]⟩, 7), (⟨#[109, 97, 114, 107, 115]⟩, 6)]
structure CA where
  w : World
/-- _law_stream -/
def b_law_stream (c : CA) : SF := fSeq (fAsg (fC (.int 0)) (gN 2)) (fSeq (fIf (fTest (fBin oGe (fVar 0) (fBin oPow (fC (.int 10)) (fC (.int 18))))) (fAsg (fVar 0) (gN 2)) fSkip) (fRet (fLst (fCons (fVar 2) (fCons (fBin oMod (fApp oInt (fCons (fBin oAdd (fBin oAdd (fBin oMul (fVar 0) (fC (.int 48271))) (fBin oMul (fVar 1) (fC (.int 69621)))) (fC (.int 77))) fNil)) (fC (.int 2147483647))) fNil)))))
def F_law_stream (c : CA) : FF := fnF 3 (b_law_stream c)
/-- _law_next -/
def b_law_next (c : CA) : SF := fSeq (fIf (fTest (fBin oGt (fIx (fVar 0) (fC (.int 0))) (fC (.int 0)))) (fSeq (fAsg (fBin oMod (fApp oInt (fCons (fIx (fVar 0) (fC (.int 0))) fNil)) (fVar 1)) (gN 2)) (fSeq (fAsg (fBin oDiv (fIx (fVar 0) (fC (.int 0))) (fVar 1)) (gSub' (fVar 0) (fC (.int 0)))) (fRet (fVar 2)))) fSkip) (fSeq (fAsg (fBin oMod (fApp oInt (fCons (fBin oAdd (fBin oMul (fIx (fVar 0) (fC (.int 1))) (fC (.int 48271))) (fC (.int 12820163))) fNil)) (fC (.int 2147483647))) (gSub' (fVar 0) (fC (.int 1)))) (fRet (fBin oMod (fApp oInt (fCons (fBin oDiv (fBin oMod (fApp oInt (fCons (fBin oAdd (fBin oMul (fIx (fVar 0) (fC (.int 1))) (fC (.int 16807))) (fC (.int 5))) fNil)) (fC (.int 2147483399))) (fC (.int 3))) fNil)) (fVar 1))))
def F_law_next (c : CA) : FF := fnF 3 (b_law_next c)
/-- _law_number -/
def b_law_number (c : CA) : SF := fSeq (fAsg (fCall (F_law_next c) 2 [] (fCons (fVar 0) (fCons (fC (.int 6)) fNil))) (gN 1)) (fSeq (fIf (fTest (fBin oEq (fVar 1) (fC (.int 0)))) (fRet (fBin oSub (fBin oPow (fC (.int 10)) (fC (.int 12))) (fCall (F_law_next c) 2 [] (fCons (fVar 0) (fCons (fC (.int 3)) fNil))))) fSkip) (fSeq (fIf (fTest (fBin oEq (fVar 1) (fC (.int 1)))) (fRet (fBin oAdd (fBin oMul (fCall (F_law_next c) 2 [] (fCons (fVar 0) (fCons (fBin oPow (fC (.int 10)) (fC (.int 6))) fNil))) (fBin oPow (fC (.int 10)) (fC (.int 6)))) (fCall (F_law_next c) 2 [] (fCons (fVar 0) (fCons (fBin oPow (fC (.int 10)) (fC (.int 6))) fNil))))) fSkip) (fRet (fCall (F_law_next c) 2 [] (fCons (fVar 0) (fCons (fC (.int 20)) fNil))))))
def F_law_number (c : CA) : FF := fnF 2 (b_law_number c)
/-- _law_attempt -/
def b_law_attempt (c : CA) : SF := fRet (fApp oMax2 (fCons (fC (.int 1)) (fCons (fCall (F_law_number c) 1 [] (fCons (fVar 0) fNil)) fNil)))
def F_law_attempt (c : CA) : FF := fnF 1 (b_law_attempt c)
/-- _law_transaction -/
def b_law_transaction (c : CA) : SF := fRet (fTup (fCons (fApp oMax2 (fCons (fC (.int 1)) (fCons (fCall (F_law_number c) 1 [] (fCons (fVar 0) fNil)) fNil))) (fCons (fCall (F_law_number c) 1 [] (fCons (fVar 0) fNil)) fNil)))
def F_law_transaction (c : CA) : FF := fnF 1 (b_law_transaction c)
def ce_law_name_0 (c : CA) : EF := fIx (fVar 1) (fCall (F_law_next c) 2 [] (fCons (fVar 0) (fCons (fC (.int 26)) fNil)))
theorem ap_ce_law_name_0 (c : CA) (env : Lc) (S : Sto) : ce_law_name_0 c env S = ((fIx (fVar 1) (fCall (F_law_next c) 2 [] (fCons (fVar 0) (fCons (fC (.int 26)) fNil))))) env S := (rfl)
/-- _law_name -/
def b_law_name (c : CA) : SF := fSeq (fAsg (fC (.str ⟨#[97, 98, 99, 100, 101, 102, 103, 104, 105, 106, 107, 108, 109, 110, 111, 112, 113, 114, 115, 116, 117, 118, 119, 120, 121, 122]⟩)) (gN 1)) (fSeq (fIf (fTest (fBin oEq (fCall (F_law_next c) 2 [] (fCons (fVar 0) (fCons (fC (.int 2)) fNil))) (fC (.int 0)))) (fRet (fIx (fTup (fCons (fC (.str ⟨#[97]⟩)) (fCons (fC (.str ⟨#[98]⟩)) (fCons (fC (.str ⟨#[97, 98]⟩)) (fCons (fC (.str ⟨#[122, 122]⟩)) fNil))))) (fCall (F_law_next c) 2 [] (fCons (fVar 0) (fCons (fC (.int 4)) fNil))))) fSkip) (fRet (fBm "str" mJoin (fC (.str ⟨#[]⟩)) (fCons (fComp (fRng1 (fCons (fBin oAdd (fC (.int 1)) (fCall (F_law_next c) 2 [] (fCons (fVar 0) (fCons (fC (.int 12)) fNil)))) fNil)) 2 fYes (ce_law_name_0 c)) fNil))))
def F_law_name (c : CA) : FF := fnF 3 (b_law_name c)
/-- _law_key -/
def b_law_key (c : CA) : SF := fRet (fTup (fCons (fCall (F_law_number c) 1 [] (fCons (fVar 0) fNil)) (fCons (fCall (F_law_name c) 1 [] (fCons (fVar 0) fNil)) fNil)))
def F_law_key (c : CA) : FF := fnF 1 (b_law_key c)
/-- _law_integer -/
def b_law_integer (c : CA) : SF := fRet (fBin oMul (fCall (F_law_number c) 1 [] (fCons (fVar 0) fNil)) (fBin oSub (fC (.int 1)) (fBin oMul (fC (.int 2)) (fCall (F_law_next c) 2 [] (fCons (fVar 0) (fCons (fC (.int 2)) fNil))))))
def F_law_integer (c : CA) : FF := fnF 1 (b_law_integer c)
/-- _law_value -/
def b_law_value (c : CA) : SF := fRet (fBin oMul (fCall (F_law_integer c) 1 [] (fCons (fVar 0) fNil)) (fIx (fTup (fCons (fC (.int 1)) (fCons (fC (.int 1)) (fCons (fC (.int 1000)) fNil)))) (fCall (F_law_next c) 2 [] (fCons (fVar 0) (fCons (fC (.int 3)) fNil)))))
def F_law_value (c : CA) : FF := fnF 1 (b_law_value c)
/-- _law_mark -/
def b_law_mark (c : CA) : SF := fRet (fTup (fCons (fCall (F_law_transaction c) 1 [] (fCons (fVar 0) fNil)) (fCons (fCall (F_law_attempt c) 1 [] (fCons (fVar 0) fNil)) (fCons (fCall (F_law_key c) 1 [] (fCons (fVar 0) fNil)) (fCons (fCall (F_law_attempt c) 1 [] (fCons (fVar 0) fNil)) fNil)))))
def F_law_mark (c : CA) : FF := fnF 1 (b_law_mark c)
def lb_law_marks_drawn_0 (c : CA) : SF := fSeq (fAsg (fCall (F_law_mark c) 1 [] (fCons (fVar 0) fNil)) (gN 3)) (fIf (fTest (fBin (oInL true) (fVar 3) (fVar 1))) (fDrop (fBm "list" mAppend (fVar 1) (fCons (fVar 3) fNil))) fSkip)
theorem ap_lb_law_marks_drawn_0 (c : CA) (env : Lc) (S : Sto) : lb_law_marks_drawn_0 c env S = ((fSeq (fAsg (fCall (F_law_mark c) 1 [] (fCons (fVar 0) fNil)) (gN 3)) (fIf (fTest (fBin (oInL true) (fVar 3) (fVar 1))) (fDrop (fBm "list" mAppend (fVar 1) (fCons (fVar 3) fNil))) fSkip))) env S := (rfl)
/-- _law_marks_drawn -/
def b_law_marks_drawn (c : CA) : SF := fSeq (fAsg (fLst fNil) (gN 1)) (fSeq (fFor (fRng1 (fCons (fBin oAdd (fC (.int 1)) (fCall (F_law_next c) 2 [] (fCons (fVar 0) (fCons (fC (.int 4)) fNil)))) fNil)) (gN 2) (lb_law_marks_drawn_0 c)) (fRet (fApp oTuple (fCons (fApp oSorted (fCons (fVar 1) fNil)) fNil))))
def F_law_marks_drawn (c : CA) : FF := fnF 4 (b_law_marks_drawn c)
/-- _law_drawn_body -/
def b_law_drawn_body (c : CA) : SF := fSeq (fAsg (fIx (fTup (fCons (fC (.str ⟨#[97, 115, 107]⟩)) (fCons (fC (.str ⟨#[102, 114, 101, 101]⟩)) (fCons (fC (.str ⟨#[102, 114, 101, 101, 100]⟩)) (fCons (fC (.str ⟨#[102, 105, 110, 105, 115, 104, 101, 100]⟩)) (fCons (fC (.str ⟨#[102, 105, 110, 105, 115, 104]⟩)) (fCons (fC (.str ⟨#[103, 114, 97, 110, 116, 101, 100]⟩)) (fCons (fC (.str ⟨#[98, 101, 104, 105, 110, 100]⟩)) (fCons (fC (.str ⟨#[99, 97, 108, 108]⟩)) (fCons (fC (.str ⟨#[109, 97, 114, 107, 115]⟩)) fNil)))))))))) (fCall (F_law_next c) 2 [] (fCons (fVar 0) (fCons (fC (.int 9)) fNil)))) (gN 1)) (fSeq (fAsg (fTup (fCons (fVar 1) (fCons (fCall (F_law_transaction c) 1 [] (fCons (fVar 0) fNil)) (fCons (fCall (F_law_attempt c) 1 [] (fCons (fVar 0) fNil)) fNil)))) (gN 2)) (fSeq (fAsg (fCall (F_law_key c) 1 [] (fCons (fVar 0) fNil)) (gN 3)) (fSeq (fIf (fTest (fBin oEq (fVar 1) (fC (.str ⟨#[102, 105, 110, 105, 115, 104]⟩)))) (fRet (fBin oAdd (fVar 2) (fTup (fCons (fVar 3) (fCons (fCall (F_law_value c) 1 [] (fCons (fVar 0) fNil)) fNil))))) fSkip) (fSeq (fIf (fTest (fBin oEq (fVar 1) (fC (.str ⟨#[103, 114, 97, 110, 116, 101, 100]⟩)))) (fRet (fBin oAdd (fVar 2) (fTup (fCons (fVar 3) (fCons (fCall (F_law_attempt c) 1 [] (fCons (fVar 0) fNil)) (fCons (fCall (F_law_value c) 1 [] (fCons (fVar 0) fNil)) fNil)))))) fSkip) (fSeq (fIf (fTest (fBin oEq (fVar 1) (fC (.str ⟨#[98, 101, 104, 105, 110, 100]⟩)))) (fRet (fBin oAdd (fVar 2) (fTup (fCons (fVar 3) (fCons (fCall (F_law_attempt c) 1 [] (fCons (fVar 0) fNil)) (fCons (fCall (F_law_transaction c) 1 [] (fCons (fVar 0) fNil)) (fCons (fCall (F_law_attempt c) 1 [] (fCons (fVar 0) fNil)) fNil))))))) fSkip) (fSeq (fIf (fTest (fBin oEq (fVar 1) (fC (.str ⟨#[99, 97, 108, 108]⟩)))) (fRet (fBin oAdd (fVar 2) (fTup (fCons (fCall (F_law_transaction c) 1 [] (fCons (fVar 0) fNil)) (fCons (fCall (F_law_attempt c) 1 [] (fCons (fVar 0) fNil)) (fCons (fVar 3) (fCons (fCall (F_law_attempt c) 1 [] (fCons (fVar 0) fNil)) fNil))))))) fSkip) (fSeq (fIf (fTest (fBin oEq (fVar 1) (fC (.str ⟨#[109, 97, 114, 107, 115]⟩)))) (fRet (fBin oAdd (fVar 2) (fTup (fCons (fVar 3) (fCons (fCall (F_law_attempt c) 1 [] (fCons (fVar 0) fNil)) (fCons (fCall (F_law_marks_drawn c) 1 [] (fCons (fVar 0) fNil)) fNil)))))) fSkip) (fRet (fBin oAdd (fVar 2) (fTup (fCons (fVar 3) fNil)))))))))))
def F_law_drawn_body (c : CA) : FF := fnF 4 (b_law_drawn_body c)
/-- _law_flag -/
def b_law_flag (c : CA) : SF := fRet (fAndV (fIsi "bool" (fVar 0)) (fBin oEq (fVar 0) (fVar 1)))
def F_law_flag (c : CA) : FF := fnF 2 (b_law_flag c)
/-- _has_parts -/
def b_has_parts (c : CA) : SF := fRet (fAndV (fTyIs "tuple" false (fVar 0)) (fBin oEq (fApp oLen (fCons (fVar 0) fNil)) (fVar 1)))
def F_has_parts (c : CA) : FF := fnF 2 (b_has_parts c)
/-- _is_between -/
def b_is_between (c : CA) : SF := fRet (fAndV (fTyIs "int" false (fVar 0)) (fChain oLe oLe (fVar 1) (fVar 0) (fVar 2)))
def F_is_between (c : CA) : FF := fnF 3 (b_is_between c)
/-- _is_count -/
def b_is_count (c : CA) : SF := fRet (fCall (F_is_between c) 3 [] (fCons (fVar 0) (fCons (fC (.int 1)) (fCons (fC (.int 1000000000000)) fNil))))
def F_is_count (c : CA) : FF := fnF 1 (b_is_count c)
/-- is_number -/
def b_is_number (c : CA) : SF := fRet (fCall (F_is_between c) 3 [] (fCons (fVar 0) (fCons (fC (.int 0)) (fCons (fC (.int 1000000000000)) fNil))))
def F_is_number (c : CA) : FF := fnF 1 (b_is_number c)
/-- is_transaction -/
def b_is_transaction (c : CA) : SF := fRet (fAndV (fCall (F_has_parts c) 2 [] (fCons (fVar 0) (fCons (fC (.int 2)) fNil))) (fAndV (fCall (F_is_count c) 1 [] (fCons (fIx (fVar 0) (fC (.int 0))) fNil)) (fCall (F_is_number c) 1 [] (fCons (fIx (fVar 0) (fC (.int 1))) fNil))))
def F_is_transaction (c : CA) : FF := fnF 1 (b_is_transaction c)
/-- is_who -/
def b_is_who (c : CA) : SF := fRet (fAndV (fCall (F_has_parts c) 2 [] (fCons (fVar 0) (fCons (fC (.int 2)) fNil))) (fAndV (fCall (F_is_transaction c) 1 [] (fCons (fIx (fVar 0) (fC (.int 0))) fNil)) (fCall (F_is_count c) 1 [] (fCons (fIx (fVar 0) (fC (.int 1))) fNil))))
def F_is_who (c : CA) : FF := fnF 1 (b_is_who c)
def ce_is_name_0 (c : CA) : EF := fChain oLeS oLeS (fC (.str ⟨#[97]⟩)) (fVar 1) (fC (.str ⟨#[122]⟩))
theorem ap_ce_is_name_0 (c : CA) (env : Lc) (S : Sto) : ce_is_name_0 c env S = ((fChain oLeS oLeS (fC (.str ⟨#[97]⟩)) (fVar 1) (fC (.str ⟨#[122]⟩)))) env S := (rfl)
/-- is_name -/
def b_is_name (c : CA) : SF := fSeq (fIf (fOr (fTest (fTyIs "str" true (fVar 0))) (fNot (fTest (fChain oLe oLe (fC (.int 1)) (fApp oLen (fCons (fVar 0) fNil)) (fC (.int 12)))))) (fRet (fC (.bl false))) fSkip) (fRet (fApp oAll (fCons (fComp (fIterS (fVar 0)) 1 fYes (ce_is_name_0 c)) fNil)))
def F_is_name (c : CA) : FF := fnF 2 (b_is_name c)
/-- is_key -/
def b_is_key (c : CA) : SF := fRet (fAndV (fCall (F_has_parts c) 2 [] (fCons (fVar 0) (fCons (fC (.int 2)) fNil))) (fAndV (fCall (F_is_number c) 1 [] (fCons (fIx (fVar 0) (fC (.int 0))) fNil)) (fCall (F_is_name c) 1 [] (fCons (fIx (fVar 0) (fC (.int 1))) fNil))))
def F_is_key (c : CA) : FF := fnF 1 (b_is_key c)
/-- is_value -/
def b_is_value (c : CA) : SF := fRet (fCall (F_is_between c) 3 [] (fCons (fVar 0) (fCons (fUn oNeg (fC (.int 1000000000000000))) (fCons (fC (.int 1000000000000000)) fNil))))
def F_is_value (c : CA) : FF := fnF 1 (b_is_value c)
/-- is_mark -/
def b_is_mark (c : CA) : SF := fRet (fAndV (fCall (F_has_parts c) 2 [] (fCons (fVar 0) (fCons (fC (.int 4)) fNil))) (fAndV (fCall (F_is_who c) 1 [] (fCons (fSl (fVar 0) pNo (pSo (fC (.int 2)))) fNil)) (fAndV (fCall (F_is_key c) 1 [] (fCons (fIx (fVar 0) (fC (.int 2))) fNil)) (fCall (F_is_count c) 1 [] (fCons (fIx (fVar 0) (fC (.int 3))) fNil)))))
def F_is_mark (c : CA) : FF := fnF 1 (b_is_mark c)
def ce_are_marks_0 (c : CA) : EF := fCall (F_is_mark c) 1 [] (fCons (fVar 1) fNil)
theorem ap_ce_are_marks_0 (c : CA) (env : Lc) (S : Sto) : ce_are_marks_0 c env S = ((fCall (F_is_mark c) 1 [] (fCons (fVar 1) fNil))) env S := (rfl)
def ce_are_marks_1 (c : CA) : EF := fBin oLtP (fVar 1) (fVar 2)
theorem ap_ce_are_marks_1 (c : CA) (env : Lc) (S : Sto) : ce_are_marks_1 c env S = ((fBin oLtP (fVar 1) (fVar 2))) env S := (rfl)
/-- _are_marks -/
def b_are_marks (c : CA) : SF := fSeq (fIf (fOr (fTest (fTyIs "tuple" true (fVar 0))) (fTest (fBin oEqE (fVar 0) (fTup fNil)))) (fRet (fC (.bl false))) fSkip) (fSeq (fIf (fNot (fTest (fApp oAll (fCons (fComp (fIter (fVar 0)) 1 fYes (ce_are_marks_0 c)) fNil)))) (fRet (fC (.bl false))) fSkip) (fRet (fApp oAll (fCons (fGComp (fZip (fCons (fVar 0) (fCons (fSl (fVar 0) (pSo (fC (.int 1))) pNo) fNil))) [1, 2] (ptT [1, 2]) fYes (ce_are_marks_1 c)) fNil))))
def F_are_marks (c : CA) : FF := fnF 3 (b_are_marks c)
/-- _are_items -/
def b_are_items (c : CA) : SF := fSeq (fIf (fTest (fBin oEq (fVar 0) (fC (.str ⟨#[102, 105, 110, 105, 115, 104]⟩)))) (fRet (fAndV (fCall (F_is_who c) 1 [] (fCons (fSl (fVar 1) pNo (pSo (fC (.int 2)))) fNil)) (fAndV (fCall (F_is_key c) 1 [] (fCons (fIx (fVar 1) (fC (.int 2))) fNil)) (fCall (F_is_value c) 1 [] (fCons (fIx (fVar 1) (fC (.int 3))) fNil))))) fSkip) (fSeq (fIf (fTest (fBin oEq (fVar 0) (fC (.str ⟨#[103, 114, 97, 110, 116, 101, 100]⟩)))) (fRet (fAndV (fCall (F_is_mark c) 1 [] (fCons (fSl (fVar 1) pNo (pSo (fC (.int 4)))) fNil)) (fCall (F_is_value c) 1 [] (fCons (fIx (fVar 1) (fC (.int 4))) fNil)))) fSkip) (fSeq (fIf (fTest (fBin oEq (fVar 0) (fC (.str ⟨#[98, 101, 104, 105, 110, 100]⟩)))) (fRet (fAndV (fCall (F_is_mark c) 1 [] (fCons (fSl (fVar 1) pNo (pSo (fC (.int 4)))) fNil)) (fCall (F_is_who c) 1 [] (fCons (fSl (fVar 1) (pSo (fC (.int 4))) pNo) fNil)))) fSkip) (fSeq (fIf (fTest (fBin oEq (fVar 0) (fC (.str ⟨#[99, 97, 108, 108]⟩)))) (fRet (fAndV (fCall (F_is_who c) 1 [] (fCons (fSl (fVar 1) pNo (pSo (fC (.int 2)))) fNil)) (fCall (F_is_mark c) 1 [] (fCons (fSl (fVar 1) (pSo (fC (.int 2))) pNo) fNil)))) fSkip) (fSeq (fIf (fTest (fBin oEq (fVar 0) (fC (.str ⟨#[109, 97, 114, 107, 115]⟩)))) (fRet (fAndV (fCall (F_is_mark c) 1 [] (fCons (fSl (fVar 1) pNo (pSo (fC (.int 4)))) fNil)) (fCall (F_are_marks c) 1 [] (fCons (fIx (fVar 1) (fC (.int 4))) fNil)))) fSkip) (fRet (fAndV (fCall (F_is_who c) 1 [] (fCons (fSl (fVar 1) pNo (pSo (fC (.int 2)))) fNil)) (fCall (F_is_key c) 1 [] (fCons (fIx (fVar 1) (fC (.int 2))) fNil))))))))
def F_are_items (c : CA) : FF := fnF 2 (b_are_items c)
/-- is_body -/
def b_is_body (c : CA) : SF := fSeq (fIf (fOr (fTest (fTyIs "tuple" true (fVar 0))) (fOr (fTest (fBin oEqE (fVar 0) (fTup fNil))) (fTest (fTyIs "str" true (fIx (fVar 0) (fC (.int 0))))))) (fRet (fC (.bl false))) fSkip) (fSeq (fAsg (fIx (fVar 0) (fC (.int 0))) (gN 1)) (fRet (fAndV (fBin oEq (fGetG gd_LENGTHS (fVar 1) (fC (.int 0))) (fApp oLen (fCons (fVar 0) fNil))) (fCall (F_are_items c) 2 [] (fCons (fVar 1) (fCons (fSl (fVar 0) (pSo (fC (.int 1))) pNo) fNil))))))
def F_is_body (c : CA) : FF := fnF 2 (b_is_body c)
/-- _law_odd -/
def b_law_odd (c : CA) : SF := fSeq (fAsg (fLst (fCons (fC .non) (fCons (fC (.bl true)) (fCons (fC (.bl false)) (fCons (fC (.int 0)) (fCons (fC (.int 1)) (fCons (fUn oNeg (fC (.int 1))) (fCons (fBin oPow (fC (.int 10)) (fC (.int 12))) (fCons (fBin oAdd (fBin oPow (fC (.int 10)) (fC (.int 12))) (fC (.int 1))) (fCons (fUn oNeg (fBin oPow (fC (.int 10)) (fC (.int 12)))) (fCons (fBin oSub (fUn oNeg (fBin oPow (fC (.int 10)) (fC (.int 12)))) (fC (.int 1))) (fCons (fBin oPow (fC (.int 10)) (fC (.int 15))) (fCons (fBin oAdd (fBin oPow (fC (.int 10)) (fC (.int 15))) (fC (.int 1))) fNil))))))))))))) (gN 1)) (fSeq (fAsg (fBin oAdd (fVar 1) (fLst (fCons (fUn oNeg (fBin oPow (fC (.int 10)) (fC (.int 15)))) (fCons (fBin oSub (fUn oNeg (fBin oPow (fC (.int 10)) (fC (.int 15)))) (fC (.int 1))) (fCons (fC (.str ⟨#[]⟩)) (fCons (fC (.str ⟨#[97]⟩)) (fCons (fC (.str ⟨#[65]⟩)) (fCons (fC (.str ⟨#[97, 49]⟩)) (fCons (fC (.str ⟨#[97, 32, 98]⟩)) (fCons (fC (.str ⟨#[97, 98, 99, 100, 101, 102, 103, 104, 105, 106, 107, 108, 109]⟩)) (fCons (fTup fNil) (fCons (fLst fNil) (fCons (fDict0) (fCons (fC (.str ⟨#[97, 10]⟩)) (fCons (fTup (fCons (fC (.str ⟨#[97]⟩)) fNil)) fNil))))))))))))))) (gN 1)) (fSeq (fAsg (fBin oAdd (fVar 1) (fLst (fCons (fLst (fCons (fC (.str ⟨#[97]⟩)) fNil)) (fCons (fTup (fCons (fC (.int 1)) (fCons (fC (.str ⟨#[97]⟩)) fNil))) (fCons (fLst (fCons (fC (.int 1)) (fCons (fC (.str ⟨#[97]⟩)) fNil))) (fCons (fTup (fCons (fC (.int 1)) (fCons (fC (.int 0)) fNil))) (fCons (fTup (fCons (fC (.int 0)) (fCons (fC (.int 1)) fNil))) (fCons (fTup (fCons (fC (.bl true)) (fCons (fC (.str ⟨#[97]⟩)) fNil))) (fCons (fTup (fCons (fC (.int 1)) (fCons (fC (.bl true)) fNil))) (fCons (fTup (fCons (fC .non) (fCons (fC .non) fNil))) (fCons (fTup (fCons (fTup (fCons (fC (.int 1)) (fCons (fC (.int 0)) fNil))) (fCons (fC (.int 1)) fNil))) fNil))))))))))) (gN 1)) (fRet (fIx (fVar 1) (fCall (F_law_next c) 2 [] (fCons (fVar 0) (fCons (fC (.int 34)) fNil)))))))
def F_law_odd (c : CA) : FF := fnF 2 (b_law_odd c)
/-- _law_spoilt_body -/
def b_law_spoilt_body (c : CA) : SF := fSeq (fAsg (fCall (F_law_next c) 2 [] (fCons (fVar 1) (fCons (fC (.int 7)) fNil))) (gN 2)) (fSeq (fAsg (fCall (F_law_next c) 2 [] (fCons (fVar 1) (fCons (fApp oLen (fCons (fVar 0) fNil)) fNil))) (gN 3)) (fSeq (fIf (fTest (fBin oEq (fVar 2) (fC (.int 0)))) (fRet (fApp oList (fCons (fVar 0) fNil))) fSkip) (fSeq (fIf (fTest (fBin oEq (fVar 2) (fC (.int 1)))) (fRet (fBin oAdd (fSl (fVar 0) pNo (pSo (fVar 3))) (fSl (fVar 0) (pSo (fBin oAdd (fVar 3) (fC (.int 1)))) pNo))) fSkip) (fSeq (fIf (fTest (fBin oEq (fVar 2) (fC (.int 2)))) (fRet (fBin oAdd (fVar 0) (fTup (fCons (fIx (fVar 0) (fVar 3)) fNil)))) fSkip) (fSeq (fIf (fTest (fBin oEq (fVar 2) (fC (.int 3)))) (fSeq (fAsg (fTup (fCons (fC (.str ⟨#[97, 115, 107]⟩)) (fCons (fC (.str ⟨#[102, 114, 101, 101]⟩)) (fCons (fC (.str ⟨#[102, 114, 101, 101, 100]⟩)) (fCons (fC (.str ⟨#[102, 105, 110, 105, 115, 104, 101, 100]⟩)) (fCons (fC (.str ⟨#[102, 105, 110, 105, 115, 104]⟩)) (fCons (fC (.str ⟨#[103, 114, 97, 110, 116, 101, 100]⟩)) (fCons (fC (.str ⟨#[98, 101, 104, 105, 110, 100]⟩)) (fCons (fC (.str ⟨#[99, 97, 108, 108]⟩)) (fCons (fC (.str ⟨#[109, 97, 114, 107, 115]⟩)) (fCons (fC (.str ⟨#[65, 115, 107]⟩)) (fCons (fC (.str ⟨#[]⟩)) fNil)))))))))))) (gN 4)) (fRet (fBin oAdd (fTup (fCons (fIx (fVar 4) (fCall (F_law_next c) 2 [] (fCons (fVar 1) (fCons (fC (.int 11)) fNil)))) fNil)) (fSl (fVar 0) (pSo (fC (.int 1))) pNo)))) fSkip) (fSeq (fIf (fAnd (fTest (fBin oEq (fVar 2) (fC (.int 4)))) (fTest (fBin oEq (fIx (fVar 0) (fC (.int 0))) (fC (.str ⟨#[109, 97, 114, 107, 115]⟩))))) (fSeq (fAsg (fBin oAdd (fSl (fIx (fVar 0) (fC (.int 5))) pNo (pSo (fUn oNeg (fC (.int 1))))) (fTup (fCons (fCall (F_law_odd c) 1 [] (fCons (fVar 1) fNil)) fNil))) (gN 5)) (fSeq (fAsg (fBin oAdd (fIx (fVar 0) (fC (.int 5))) (fTup (fCons (fBin oAdd (fSl (fIx (fIx (fVar 0) (fC (.int 5))) (fUn oNeg (fC (.int 1)))) pNo (pSo (fC (.int 3)))) (fTup (fCons (fC (.int 0)) fNil))) fNil))) (gN 6)) (fRet (fBin oAdd (fSl (fVar 0) pNo (pSo (fC (.int 5)))) (fTup (fCons (fIx (fTup (fCons (fBin oAdd (fIx (fVar 0) (fC (.int 5))) (fIx (fVar 0) (fC (.int 5)))) (fCons (fRev (fIx (fVar 0) (fC (.int 5)))) (fCons (fTup fNil) (fCons (fApp oList (fCons (fIx (fVar 0) (fC (.int 5))) fNil)) (fCons (fVar 5) (fCons (fVar 6) fNil))))))) (fCall (F_law_next c) 2 [] (fCons (fVar 1) (fCons (fC (.int 6)) fNil)))) fNil)))))) fSkip) (fRet (fBin oAdd (fBin oAdd (fSl (fVar 0) pNo (pSo (fVar 3))) (fTup (fCons (fCall (F_law_odd c) 1 [] (fCons (fVar 1) fNil)) fNil))) (fSl (fVar 0) (pSo (fBin oAdd (fVar 3) (fC (.int 1)))) pNo)))))))))
def F_law_spoilt_body (c : CA) : FF := fnF 7 (b_law_spoilt_body c)
/-- _law_is_int -/
def b_law_is_int (c : CA) : SF := fRet (fAndV (fIsi "int" (fVar 0)) (fAndV (fNotV (fIsi "bool" (fVar 0))) (fAndV (fBin oGe (fVar 0) (fVar 1)) (fBin oLe (fVar 0) (fVar 2)))))
def F_law_is_int (c : CA) : FF := fnF 3 (b_law_is_int c)
/-- _law_is_transaction -/
def b_law_is_transaction (c : CA) : SF := fSeq (fIf (fOr (fNot (fTest (fIsi "tuple" (fVar 0)))) (fTest (fBin oNe (fApp oLen (fCons (fVar 0) fNil)) (fC (.int 2))))) (fRet (fC (.bl false))) fSkip) (fRet (fAndV (fCall (F_law_is_int c) 3 [] (fCons (fIx (fVar 0) (fC (.int 0))) (fCons (fC (.int 1)) (fCons (fBin oPow (fC (.int 10)) (fC (.int 12))) fNil)))) (fCall (F_law_is_int c) 3 [] (fCons (fIx (fVar 0) (fC (.int 1))) (fCons (fC (.int 0)) (fCons (fBin oPow (fC (.int 10)) (fC (.int 12))) fNil))))))
def F_law_is_transaction (c : CA) : FF := fnF 1 (b_law_is_transaction c)
/-- _law_is_who -/
def b_law_is_who (c : CA) : SF := fSeq (fIf (fOr (fNot (fTest (fIsi "tuple" (fVar 0)))) (fTest (fBin oNe (fApp oLen (fCons (fVar 0) fNil)) (fC (.int 2))))) (fRet (fC (.bl false))) fSkip) (fRet (fAndV (fCall (F_law_is_transaction c) 1 [] (fCons (fIx (fVar 0) (fC (.int 0))) fNil)) (fCall (F_law_is_int c) 3 [] (fCons (fIx (fVar 0) (fC (.int 1))) (fCons (fC (.int 1)) (fCons (fBin oPow (fC (.int 10)) (fC (.int 12))) fNil))))))
def F_law_is_who (c : CA) : FF := fnF 1 (b_law_is_who c)
def ct_law_is_name_0 (c : CA) : BF := fTest (fBin (oInS true) (fVar 1) (fC (.str ⟨#[97, 98, 99, 100, 101, 102, 103, 104, 105, 106, 107, 108, 109, 110, 111, 112, 113, 114, 115, 116, 117, 118, 119, 120, 121, 122]⟩)))
theorem ap_ct_law_is_name_0 (c : CA) (env : Lc) (S : Sto) : ct_law_is_name_0 c env S = ((fTest (fBin (oInS true) (fVar 1) (fC (.str ⟨#[97, 98, 99, 100, 101, 102, 103, 104, 105, 106, 107, 108, 109, 110, 111, 112, 113, 114, 115, 116, 117, 118, 119, 120, 121, 122]⟩))))) env S := (rfl)
def ce_law_is_name_0 (c : CA) : EF := fVar 1
theorem ap_ce_law_is_name_0 (c : CA) (env : Lc) (S : Sto) : ce_law_is_name_0 c env S = ((fVar 1)) env S := (rfl)
/-- _law_is_name -/
def b_law_is_name (c : CA) : SF := fSeq (fIf (fOr (fNot (fTest (fIsi "str" (fVar 0)))) (fOr (fTest (fBin oLt (fApp oLen (fCons (fVar 0) fNil)) (fC (.int 1)))) (fTest (fBin oGt (fApp oLen (fCons (fVar 0) fNil)) (fC (.int 12)))))) (fRet (fC (.bl false))) fSkip) (fRet (fBin oEq (fComp (fIterS (fVar 0)) 1 (ct_law_is_name_0 c) (ce_law_is_name_0 c)) (fLst fNil)))
def F_law_is_name (c : CA) : FF := fnF 2 (b_law_is_name c)
/-- _law_is_key -/
def b_law_is_key (c : CA) : SF := fRet (fAndV (fIsi "tuple" (fVar 0)) (fAndV (fBin oEq (fApp oLen (fCons (fVar 0) fNil)) (fC (.int 2))) (fAndV (fCall (F_law_is_int c) 3 [] (fCons (fIx (fVar 0) (fC (.int 0))) (fCons (fC (.int 0)) (fCons (fBin oPow (fC (.int 10)) (fC (.int 12))) fNil)))) (fCall (F_law_is_name c) 1 [] (fCons (fIx (fVar 0) (fC (.int 1))) fNil)))))
def F_law_is_key (c : CA) : FF := fnF 1 (b_law_is_key c)
/-- _law_is_mark -/
def b_law_is_mark (c : CA) : SF := fSeq (fIf (fOr (fNot (fTest (fIsi "tuple" (fVar 0)))) (fOr (fTest (fBin oNe (fApp oLen (fCons (fVar 0) fNil)) (fC (.int 4)))) (fNot (fTest (fCall (F_law_is_who c) 1 [] (fCons (fSl (fVar 0) pNo (pSo (fC (.int 2)))) fNil)))))) (fRet (fC (.bl false))) fSkip) (fRet (fAndV (fCall (F_law_is_key c) 1 [] (fCons (fIx (fVar 0) (fC (.int 2))) fNil)) (fCall (F_law_is_int c) 3 [] (fCons (fIx (fVar 0) (fC (.int 3))) (fCons (fC (.int 1)) (fCons (fBin oPow (fC (.int 10)) (fC (.int 12))) fNil))))))
def F_law_is_mark (c : CA) : FF := fnF 1 (b_law_is_mark c)
def ct_law_is_marks_0 (c : CA) : BF := fNot (fTest (fCall (F_law_is_mark c) 1 [] (fCons (fVar 2) fNil)))
theorem ap_ct_law_is_marks_0 (c : CA) (env : Lc) (S : Sto) : ct_law_is_marks_0 c env S = ((fNot (fTest (fCall (F_law_is_mark c) 1 [] (fCons (fVar 2) fNil))))) env S := (rfl)
def ce_law_is_marks_0 (c : CA) : EF := fVar 2
theorem ap_ce_law_is_marks_0 (c : CA) (env : Lc) (S : Sto) : ce_law_is_marks_0 c env S = ((fVar 2)) env S := (rfl)
def lb_law_is_marks_0 (c : CA) : SF := fIf (fNot (fTest (fBin oLtP (fIx (fVar 0) (fBin oSub (fVar 1) (fC (.int 1)))) (fIx (fVar 0) (fVar 1))))) (fRet (fC (.bl false))) fSkip
theorem ap_lb_law_is_marks_0 (c : CA) (env : Lc) (S : Sto) : lb_law_is_marks_0 c env S = ((fIf (fNot (fTest (fBin oLtP (fIx (fVar 0) (fBin oSub (fVar 1) (fC (.int 1)))) (fIx (fVar 0) (fVar 1))))) (fRet (fC (.bl false))) fSkip)) env S := (rfl)
/-- _law_is_marks -/
def b_law_is_marks (c : CA) : SF := fSeq (fIf (fOr (fNot (fTest (fIsi "tuple" (fVar 0)))) (fOr (fTest (fBin oEq (fApp oLen (fCons (fVar 0) fNil)) (fC (.int 0)))) (fTest (fBin oNeL (fComp (fIter (fVar 0)) 2 (ct_law_is_marks_0 c) (ce_law_is_marks_0 c)) (fLst fNil))))) (fRet (fC (.bl false))) fSkip) (fSeq (fFor (fRng2 (fCons (fC (.int 1)) (fCons (fApp oLen (fCons (fVar 0) fNil)) fNil))) (gN 1) (lb_law_is_marks_0 c)) (fRet (fC (.bl true))))
def F_law_is_marks (c : CA) : FF := fnF 3 (b_law_is_marks c)
/-- _law_is_body -/
def b_law_is_body (c : CA) : SF := fSeq (fIf (fOr (fNot (fTest (fIsi "tuple" (fVar 0)))) (fOr (fTest (fBin oLt (fApp oLen (fCons (fVar 0) fNil)) (fC (.int 4)))) (fOr (fNot (fTest (fIsi "str" (fIx (fVar 0) (fC (.int 0)))))) (fNot (fTest (fCall (F_law_is_who c) 1 [] (fCons (fSl (fVar 0) (pSo (fC (.int 1))) (pSo (fC (.int 3)))) fNil))))))) (fRet (fC (.bl false))) fSkip) (fSeq (fAsg (fIx (fVar 0) (fC (.int 0))) (gN 1)) (fSeq (fIf (fTest (fBin oEq (fVar 1) (fC (.str ⟨#[99, 97, 108, 108]⟩)))) (fRet (fAndV (fBin oEq (fApp oLen (fCons (fVar 0) fNil)) (fC (.int 7))) (fCall (F_law_is_mark c) 1 [] (fCons (fSl (fVar 0) (pSo (fC (.int 3))) pNo) fNil)))) fSkip) (fSeq (fIf (fNot (fTest (fCall (F_law_is_key c) 1 [] (fCons (fIx (fVar 0) (fC (.int 3))) fNil)))) (fRet (fC (.bl false))) fSkip) (fSeq (fIf (fTest (fBin (oInTu false) (fVar 1) (fTup (fCons (fC (.str ⟨#[97, 115, 107]⟩)) (fCons (fC (.str ⟨#[102, 114, 101, 101]⟩)) (fCons (fC (.str ⟨#[102, 114, 101, 101, 100]⟩)) (fCons (fC (.str ⟨#[102, 105, 110, 105, 115, 104, 101, 100]⟩)) fNil))))))) (fRet (fBin oEq (fApp oLen (fCons (fVar 0) fNil)) (fC (.int 4)))) fSkip) (fSeq (fIf (fTest (fBin oEq (fVar 1) (fC (.str ⟨#[102, 105, 110, 105, 115, 104]⟩)))) (fRet (fAndV (fBin oEq (fApp oLen (fCons (fVar 0) fNil)) (fC (.int 5))) (fCall (F_law_is_int c) 3 [] (fCons (fIx (fVar 0) (fC (.int 4))) (fCons (fUn oNeg (fBin oPow (fC (.int 10)) (fC (.int 15)))) (fCons (fBin oPow (fC (.int 10)) (fC (.int 15))) fNil)))))) fSkip) (fSeq (fIf (fOr (fTest (fBin oLt (fApp oLen (fCons (fVar 0) fNil)) (fC (.int 6)))) (fNot (fTest (fCall (F_law_is_int c) 3 [] (fCons (fIx (fVar 0) (fC (.int 4))) (fCons (fC (.int 1)) (fCons (fBin oPow (fC (.int 10)) (fC (.int 12))) fNil))))))) (fRet (fC (.bl false))) fSkip) (fSeq (fIf (fTest (fBin oEq (fVar 1) (fC (.str ⟨#[103, 114, 97, 110, 116, 101, 100]⟩)))) (fRet (fAndV (fBin oEq (fApp oLen (fCons (fVar 0) fNil)) (fC (.int 6))) (fCall (F_law_is_int c) 3 [] (fCons (fIx (fVar 0) (fC (.int 5))) (fCons (fUn oNeg (fBin oPow (fC (.int 10)) (fC (.int 15)))) (fCons (fBin oPow (fC (.int 10)) (fC (.int 15))) fNil)))))) fSkip) (fSeq (fIf (fTest (fBin oEq (fVar 1) (fC (.str ⟨#[98, 101, 104, 105, 110, 100]⟩)))) (fRet (fAndV (fBin oEq (fApp oLen (fCons (fVar 0) fNil)) (fC (.int 7))) (fCall (F_law_is_who c) 1 [] (fCons (fSl (fVar 0) (pSo (fC (.int 5))) pNo) fNil)))) fSkip) (fRet (fAndV (fBin oEq (fVar 1) (fC (.str ⟨#[109, 97, 114, 107, 115]⟩))) (fAndV (fBin oEq (fApp oLen (fCons (fVar 0) fNil)) (fC (.int 6))) (fCall (F_law_is_marks c) 1 [] (fCons (fIx (fVar 0) (fC (.int 5))) fNil)))))))))))))
def F_law_is_body (c : CA) : FF := fnF 2 (b_law_is_body c)
/-- _law_is_message -/
def b_law_is_message (c : CA) : SF := fSeq (fIf (fOr (fNot (fTest (fIsi "tuple" (fVar 0)))) (fOr (fTest (fBin oNe (fApp oLen (fCons (fVar 0) fNil)) (fC (.int 3)))) (fNot (fTest (fCall (F_law_is_body c) 1 [] (fCons (fIx (fVar 0) (fC (.int 2))) fNil)))))) (fRet (fC (.bl false))) fSkip) (fRet (fAndV (fCall (F_law_is_int c) 3 [] (fCons (fIx (fVar 0) (fC (.int 0))) (fCons (fC (.int 0)) (fCons (fBin oPow (fC (.int 10)) (fC (.int 12))) fNil)))) (fCall (F_law_is_int c) 3 [] (fCons (fIx (fVar 0) (fC (.int 1))) (fCons (fC (.int 0)) (fCons (fBin oPow (fC (.int 10)) (fC (.int 12))) fNil))))))
def F_law_is_message (c : CA) : FF := fnF 1 (b_law_is_message c)
/-- is_message -/
def b_is_message (c : CA) : SF := fSeq (fIf (fOr (fTest (fTyIs "tuple" true (fVar 0))) (fTest (fBin oNe (fApp oLen (fCons (fVar 0) fNil)) (fC (.int 3))))) (fRet (fC (.bl false))) fSkip) (fRet (fAndV (fCall (F_is_number c) 1 [] (fCons (fIx (fVar 0) (fC (.int 0))) fNil)) (fAndV (fCall (F_is_number c) 1 [] (fCons (fIx (fVar 0) (fC (.int 1))) fNil)) (fCall (F_is_body c) 1 [] (fCons (fIx (fVar 0) (fC (.int 2))) fNil)))))
def F_is_message (c : CA) : FF := fnF 1 (b_is_message c)
def lb_law_0 (c : CA) : SF := fIf (fNot (fTest (fCall (F_law_flag c) 2 [] (fCons (fCall (F_is_message c) 1 [] (fCons (fVar 7) fNil)) (fCons (fCall (F_law_is_message c) 1 [] (fCons (fVar 7) fNil)) fNil))))) (fRet (fC (.bl false))) fSkip
theorem ap_lb_law_0 (c : CA) (env : Lc) (S : Sto) : lb_law_0 c env S = ((fIf (fNot (fTest (fCall (F_law_flag c) 2 [] (fCons (fCall (F_is_message c) 1 [] (fCons (fVar 7) fNil)) (fCons (fCall (F_law_is_message c) 1 [] (fCons (fVar 7) fNil)) fNil))))) (fRet (fC (.bl false))) fSkip)) env S := (rfl)
def lb_law_1 (c : CA) : SF := fSeq (fIf (fNot (fTest (fCall (F_law_flag c) 2 [] (fCons (fCall (F_is_body c) 1 [] (fCons (fVar 4) fNil)) (fCons (fCall (F_law_is_body c) 1 [] (fCons (fVar 4) fNil)) fNil))))) (fRet (fC (.bl false))) fSkip) (fSeq (fAsg (fTup (fCons (fCall (F_law_number c) 1 [] (fCons (fVar 2) fNil)) (fCons (fCall (F_law_number c) 1 [] (fCons (fVar 2) fNil)) (fCons (fVar 4) fNil)))) (gN 5)) (fSeq (fAsg (fLst (fCons (fVar 5) (fCons (fApp oList (fCons (fVar 5) fNil)) (fCons (fSl (fVar 5) pNo (pSo (fC (.int 2)))) (fCons (fBin oAdd (fVar 5) (fTup (fCons (fC (.int 0)) fNil))) (fCons (fTup (fCons (fCall (F_law_odd c) 1 [] (fCons (fVar 2) fNil)) (fCons (fIx (fVar 5) (fC (.int 1))) (fCons (fVar 4) fNil)))) (fCons (fVar 4) fNil))))))) (gN 6)) (fSeq (fDrop (fBm "list" mAppend (fVar 6) (fCons (fTup (fCons (fIx (fVar 5) (fC (.int 0))) (fCons (fCall (F_law_odd c) 1 [] (fCons (fVar 2) fNil)) (fCons (fVar 4) fNil)))) fNil))) (fFor (fIter (fVar 6)) (gN 7) (lb_law_0 c)))))
theorem ap_lb_law_1 (c : CA) (env : Lc) (S : Sto) : lb_law_1 c env S = ((fSeq (fIf (fNot (fTest (fCall (F_law_flag c) 2 [] (fCons (fCall (F_is_body c) 1 [] (fCons (fVar 4) fNil)) (fCons (fCall (F_law_is_body c) 1 [] (fCons (fVar 4) fNil)) fNil))))) (fRet (fC (.bl false))) fSkip) (fSeq (fAsg (fTup (fCons (fCall (F_law_number c) 1 [] (fCons (fVar 2) fNil)) (fCons (fCall (F_law_number c) 1 [] (fCons (fVar 2) fNil)) (fCons (fVar 4) fNil)))) (gN 5)) (fSeq (fAsg (fLst (fCons (fVar 5) (fCons (fApp oList (fCons (fVar 5) fNil)) (fCons (fSl (fVar 5) pNo (pSo (fC (.int 2)))) (fCons (fBin oAdd (fVar 5) (fTup (fCons (fC (.int 0)) fNil))) (fCons (fTup (fCons (fCall (F_law_odd c) 1 [] (fCons (fVar 2) fNil)) (fCons (fIx (fVar 5) (fC (.int 1))) (fCons (fVar 4) fNil)))) (fCons (fVar 4) fNil))))))) (gN 6)) (fSeq (fDrop (fBm "list" mAppend (fVar 6) (fCons (fTup (fCons (fIx (fVar 5) (fC (.int 0))) (fCons (fCall (F_law_odd c) 1 [] (fCons (fVar 2) fNil)) (fCons (fVar 4) fNil)))) fNil))) (fFor (fIter (fVar 6)) (gN 7) (lb_law_0 c))))))) env S := (rfl)
def lb_law_2 (c : CA) : SF := fSeq (fAsg (fCall (F_law_stream c) 2 [] (fCons (fIx (fVar 0) (fVar 1)) (fCons (fVar 1) fNil))) (gN 2)) (fSeq (fAsg (fCall (F_law_drawn_body c) 1 [] (fCons (fVar 2) fNil)) (gN 3)) (fSeq (fIf (fNot (fTest (fCall (F_law_flag c) 2 [] (fCons (fCall (F_is_body c) 1 [] (fCons (fVar 3) fNil)) (fCons (fC (.bl true)) fNil))))) (fRet (fC (.bl false))) fSkip) (fFor (fIter (fLst (fCons (fVar 3) (fCons (fCall (F_law_spoilt_body c) 2 [] (fCons (fVar 3) (fCons (fVar 2) fNil))) (fCons (fCall (F_law_odd c) 1 [] (fCons (fVar 2) fNil)) fNil))))) (gN 4) (lb_law_1 c))))
theorem ap_lb_law_2 (c : CA) (env : Lc) (S : Sto) : lb_law_2 c env S = ((fSeq (fAsg (fCall (F_law_stream c) 2 [] (fCons (fIx (fVar 0) (fVar 1)) (fCons (fVar 1) fNil))) (gN 2)) (fSeq (fAsg (fCall (F_law_drawn_body c) 1 [] (fCons (fVar 2) fNil)) (gN 3)) (fSeq (fIf (fNot (fTest (fCall (F_law_flag c) 2 [] (fCons (fCall (F_is_body c) 1 [] (fCons (fVar 3) fNil)) (fCons (fC (.bl true)) fNil))))) (fRet (fC (.bl false))) fSkip) (fFor (fIter (fLst (fCons (fVar 3) (fCons (fCall (F_law_spoilt_body c) 2 [] (fCons (fVar 3) (fCons (fVar 2) fNil))) (fCons (fCall (F_law_odd c) 1 [] (fCons (fVar 2) fNil)) fNil))))) (gN 4) (lb_law_1 c)))))) env S := (rfl)
/-- law -/
def b_law (c : CA) : SF := fSeq (fFor (fRng1 (fCons (fApp oMin2 (fCons (fApp oLen (fCons (fVar 0) fNil)) (fCons (fC (.int 30)) fNil))) fNil)) (gN 1) (lb_law_2 c)) (fRet (fBin oIsB (fCall (F_is_body c) 1 [] (fCons (fTup (fCons (fC (.str ⟨#[97, 115, 107]⟩)) (fCons (fTup (fCons (fC (.int 1)) (fCons (fC (.int 0)) fNil))) (fCons (fC (.int 1)) (fCons (fTup (fCons (fC (.int 0)) (fCons (fC (.str ⟨#[97]⟩)) fNil))) fNil))))) fNil)) (fC (.bl true))))
def F_law (c : CA) : FF := fnF 8 (b_law c)
end
def top (i : Nat) : Stmt := PySem.Challenge.pw_ringloosed_k26_bodies_and_messages.main.body.getD i (.Pass ⟨0, 0, 0, 0⟩)
abbrev s_law_stream : Stmt := top 21
abbrev s_law_next : Stmt := top 22
abbrev s_law_number : Stmt := top 24
abbrev s_law_attempt : Stmt := top 29
abbrev s_law_transaction : Stmt := top 28
abbrev s_law_name : Stmt := top 26
abbrev s_law_key : Stmt := top 27
abbrev s_law_integer : Stmt := top 25
abbrev s_law_value : Stmt := top 42
abbrev s_law_mark : Stmt := top 30
abbrev s_law_marks_drawn : Stmt := top 41
abbrev s_law_drawn_body : Stmt := top 43
abbrev s_law_flag : Stmt := top 23
abbrev s_has_parts : Stmt := top 5
abbrev s_is_between : Stmt := top 4
abbrev s_is_count : Stmt := top 6
abbrev s_is_number : Stmt := top 7
abbrev s_is_transaction : Stmt := top 11
abbrev s_is_who : Stmt := top 12
abbrev s_is_name : Stmt := top 9
abbrev s_is_key : Stmt := top 10
abbrev s_is_value : Stmt := top 8
abbrev s_is_mark : Stmt := top 13
abbrev s_are_marks : Stmt := top 16
abbrev s_are_items : Stmt := top 17
abbrev s_is_body : Stmt := top 18
abbrev s_law_odd : Stmt := top 40
abbrev s_law_spoilt_body : Stmt := top 46
abbrev s_law_is_int : Stmt := top 32
abbrev s_law_is_transaction : Stmt := top 35
abbrev s_law_is_who : Stmt := top 36
abbrev s_law_is_name : Stmt := top 33
abbrev s_law_is_key : Stmt := top 34
abbrev s_law_is_mark : Stmt := top 37
abbrev s_law_is_marks : Stmt := top 44
abbrev s_law_is_body : Stmt := top 45
abbrev s_law_is_message : Stmt := top 47
abbrev s_is_message : Stmt := top 19
abbrev s_law : Stmt := top 48
structure Ad extends CA where
  a_law_stream : Addr
  d_law_stream : FuncData
  a_law_next : Addr
  d_law_next : FuncData
  a_law_number : Addr
  d_law_number : FuncData
  a_law_attempt : Addr
  d_law_attempt : FuncData
  a_law_transaction : Addr
  d_law_transaction : FuncData
  a_law_name : Addr
  d_law_name : FuncData
  a_law_key : Addr
  d_law_key : FuncData
  a_law_integer : Addr
  d_law_integer : FuncData
  a_law_value : Addr
  d_law_value : FuncData
  a_law_mark : Addr
  d_law_mark : FuncData
  a_law_marks_drawn : Addr
  d_law_marks_drawn : FuncData
  a_law_drawn_body : Addr
  d_law_drawn_body : FuncData
  a_law_flag : Addr
  d_law_flag : FuncData
  a_has_parts : Addr
  d_has_parts : FuncData
  a_is_between : Addr
  d_is_between : FuncData
  a_is_count : Addr
  d_is_count : FuncData
  a_is_number : Addr
  d_is_number : FuncData
  a_is_transaction : Addr
  d_is_transaction : FuncData
  a_is_who : Addr
  d_is_who : FuncData
  a_is_name : Addr
  d_is_name : FuncData
  a_is_key : Addr
  d_is_key : FuncData
  a_is_value : Addr
  d_is_value : FuncData
  a_is_mark : Addr
  d_is_mark : FuncData
  a_are_marks : Addr
  d_are_marks : FuncData
  a_are_items : Addr
  d_are_items : FuncData
  a_is_body : Addr
  d_is_body : FuncData
  a_law_odd : Addr
  d_law_odd : FuncData
  a_law_spoilt_body : Addr
  d_law_spoilt_body : FuncData
  a_law_is_int : Addr
  d_law_is_int : FuncData
  a_law_is_transaction : Addr
  d_law_is_transaction : FuncData
  a_law_is_who : Addr
  d_law_is_who : FuncData
  a_law_is_name : Addr
  d_law_is_name : FuncData
  a_law_is_key : Addr
  d_law_is_key : FuncData
  a_law_is_mark : Addr
  d_law_is_mark : FuncData
  a_law_is_marks : Addr
  d_law_is_marks : FuncData
  a_law_is_body : Addr
  d_law_is_body : FuncData
  a_law_is_message : Addr
  d_law_is_message : FuncData
  a_is_message : Addr
  d_is_message : FuncData
  a_law : Addr
  d_law : FuncData
structure Gm (K : PySem.W.Frag) (mg : Str → Option Value) (A : Ad) : Prop where
  z_all : mg "all" = none
  z_bool : mg "bool" = none
  z_int : mg "int" = none
  z_isinstance : mg "isinstance" = none
  z_len : mg "len" = none
  z_list : mg "list" = none
  z_max : mg "max" = none
  z_min : mg "min" = none
  z_range : mg "range" = none
  z_sorted : mg "sorted" = none
  z_str : mg "str" = none
  z_tuple : mg "tuple" = none
  z_type : mg "type" = none
  z_zip : mg "zip" = none
  c_MOST_LETTERS : ∃ t, mg "MOST_LETTERS" = some (.int 12 t)
  c_MOST_NUMBER : ∃ t, mg "MOST_NUMBER" = some (.int 1000000000000 t)
  c_MOST_VALUE : ∃ t, mg "MOST_VALUE" = some (.int 1000000000000000 t)
  d_LENGTHS : ∃ a, mg "LENGTHS" = some (.ref a) ∧ GDict K A.w a gd_LENGTHS
  F_law_stream : Fun K "_law_stream" "_law_stream" s_law_stream A.a_law_stream A.d_law_stream
  b_law_stream : Binds K A.d_law_stream ["cell", "k"] []
  g_law_stream : mg "_law_stream" = some (.ref A.a_law_stream)
  F_law_next : Fun K "_law_next" "_law_next" s_law_next A.a_law_next A.d_law_next
  b_law_next : Binds K A.d_law_next ["stream", "size"] []
  g_law_next : mg "_law_next" = some (.ref A.a_law_next)
  F_law_number : Fun K "_law_number" "_law_number" s_law_number A.a_law_number A.d_law_number
  b_law_number : Binds K A.d_law_number ["stream"] []
  g_law_number : mg "_law_number" = some (.ref A.a_law_number)
  F_law_attempt : Fun K "_law_attempt" "_law_attempt" s_law_attempt A.a_law_attempt A.d_law_attempt
  b_law_attempt : Binds K A.d_law_attempt ["stream"] []
  g_law_attempt : mg "_law_attempt" = some (.ref A.a_law_attempt)
  F_law_transaction : Fun K "_law_transaction" "_law_transaction" s_law_transaction A.a_law_transaction A.d_law_transaction
  b_law_transaction : Binds K A.d_law_transaction ["stream"] []
  g_law_transaction : mg "_law_transaction" = some (.ref A.a_law_transaction)
  F_law_name : Fun K "_law_name" "_law_name" s_law_name A.a_law_name A.d_law_name
  b_law_name : Binds K A.d_law_name ["stream"] []
  g_law_name : mg "_law_name" = some (.ref A.a_law_name)
  F_law_key : Fun K "_law_key" "_law_key" s_law_key A.a_law_key A.d_law_key
  b_law_key : Binds K A.d_law_key ["stream"] []
  g_law_key : mg "_law_key" = some (.ref A.a_law_key)
  F_law_integer : Fun K "_law_integer" "_law_integer" s_law_integer A.a_law_integer A.d_law_integer
  b_law_integer : Binds K A.d_law_integer ["stream"] []
  g_law_integer : mg "_law_integer" = some (.ref A.a_law_integer)
  F_law_value : Fun K "_law_value" "_law_value" s_law_value A.a_law_value A.d_law_value
  b_law_value : Binds K A.d_law_value ["stream"] []
  g_law_value : mg "_law_value" = some (.ref A.a_law_value)
  F_law_mark : Fun K "_law_mark" "_law_mark" s_law_mark A.a_law_mark A.d_law_mark
  b_law_mark : Binds K A.d_law_mark ["stream"] []
  g_law_mark : mg "_law_mark" = some (.ref A.a_law_mark)
  F_law_marks_drawn : Fun K "_law_marks_drawn" "_law_marks_drawn" s_law_marks_drawn A.a_law_marks_drawn A.d_law_marks_drawn
  b_law_marks_drawn : Binds K A.d_law_marks_drawn ["stream"] []
  g_law_marks_drawn : mg "_law_marks_drawn" = some (.ref A.a_law_marks_drawn)
  F_law_drawn_body : Fun K "_law_drawn_body" "_law_drawn_body" s_law_drawn_body A.a_law_drawn_body A.d_law_drawn_body
  b_law_drawn_body : Binds K A.d_law_drawn_body ["stream"] []
  g_law_drawn_body : mg "_law_drawn_body" = some (.ref A.a_law_drawn_body)
  F_law_flag : Fun K "_law_flag" "_law_flag" s_law_flag A.a_law_flag A.d_law_flag
  b_law_flag : Binds K A.d_law_flag ["actual", "due"] []
  g_law_flag : mg "_law_flag" = some (.ref A.a_law_flag)
  F_has_parts : Fun K "_has_parts" "_has_parts" s_has_parts A.a_has_parts A.d_has_parts
  b_has_parts : Binds K A.d_has_parts ["thing", "many"] []
  g_has_parts : mg "_has_parts" = some (.ref A.a_has_parts)
  F_is_between : Fun K "_is_between" "_is_between" s_is_between A.a_is_between A.d_is_between
  b_is_between : Binds K A.d_is_between ["thing", "least", "most"] []
  g_is_between : mg "_is_between" = some (.ref A.a_is_between)
  F_is_count : Fun K "_is_count" "_is_count" s_is_count A.a_is_count A.d_is_count
  b_is_count : Binds K A.d_is_count ["thing"] []
  g_is_count : mg "_is_count" = some (.ref A.a_is_count)
  F_is_number : Fun K "is_number" "is_number" s_is_number A.a_is_number A.d_is_number
  b_is_number : Binds K A.d_is_number ["thing"] []
  g_is_number : mg "is_number" = some (.ref A.a_is_number)
  F_is_transaction : Fun K "is_transaction" "is_transaction" s_is_transaction A.a_is_transaction A.d_is_transaction
  b_is_transaction : Binds K A.d_is_transaction ["thing"] []
  g_is_transaction : mg "is_transaction" = some (.ref A.a_is_transaction)
  F_is_who : Fun K "is_who" "is_who" s_is_who A.a_is_who A.d_is_who
  b_is_who : Binds K A.d_is_who ["thing"] []
  g_is_who : mg "is_who" = some (.ref A.a_is_who)
  F_is_name : Fun K "is_name" "is_name" s_is_name A.a_is_name A.d_is_name
  b_is_name : Binds K A.d_is_name ["thing"] []
  g_is_name : mg "is_name" = some (.ref A.a_is_name)
  F_is_key : Fun K "is_key" "is_key" s_is_key A.a_is_key A.d_is_key
  b_is_key : Binds K A.d_is_key ["thing"] []
  g_is_key : mg "is_key" = some (.ref A.a_is_key)
  F_is_value : Fun K "is_value" "is_value" s_is_value A.a_is_value A.d_is_value
  b_is_value : Binds K A.d_is_value ["thing"] []
  g_is_value : mg "is_value" = some (.ref A.a_is_value)
  F_is_mark : Fun K "is_mark" "is_mark" s_is_mark A.a_is_mark A.d_is_mark
  b_is_mark : Binds K A.d_is_mark ["thing"] []
  g_is_mark : mg "is_mark" = some (.ref A.a_is_mark)
  F_are_marks : Fun K "_are_marks" "_are_marks" s_are_marks A.a_are_marks A.d_are_marks
  b_are_marks : Binds K A.d_are_marks ["thing"] []
  g_are_marks : mg "_are_marks" = some (.ref A.a_are_marks)
  F_are_items : Fun K "_are_items" "_are_items" s_are_items A.a_are_items A.d_are_items
  b_are_items : Binds K A.d_are_items ["word", "items"] []
  g_are_items : mg "_are_items" = some (.ref A.a_are_items)
  F_is_body : Fun K "is_body" "is_body" s_is_body A.a_is_body A.d_is_body
  b_is_body : Binds K A.d_is_body ["thing"] []
  g_is_body : mg "is_body" = some (.ref A.a_is_body)
  F_law_odd : Fun K "_law_odd" "_law_odd" s_law_odd A.a_law_odd A.d_law_odd
  b_law_odd : Binds K A.d_law_odd ["stream"] []
  g_law_odd : mg "_law_odd" = some (.ref A.a_law_odd)
  F_law_spoilt_body : Fun K "_law_spoilt_body" "_law_spoilt_body" s_law_spoilt_body A.a_law_spoilt_body A.d_law_spoilt_body
  b_law_spoilt_body : Binds K A.d_law_spoilt_body ["body", "stream"] []
  g_law_spoilt_body : mg "_law_spoilt_body" = some (.ref A.a_law_spoilt_body)
  F_law_is_int : Fun K "_law_is_int" "_law_is_int" s_law_is_int A.a_law_is_int A.d_law_is_int
  b_law_is_int : Binds K A.d_law_is_int ["thing", "least", "most"] []
  g_law_is_int : mg "_law_is_int" = some (.ref A.a_law_is_int)
  F_law_is_transaction : Fun K "_law_is_transaction" "_law_is_transaction" s_law_is_transaction A.a_law_is_transaction A.d_law_is_transaction
  b_law_is_transaction : Binds K A.d_law_is_transaction ["thing"] []
  g_law_is_transaction : mg "_law_is_transaction" = some (.ref A.a_law_is_transaction)
  F_law_is_who : Fun K "_law_is_who" "_law_is_who" s_law_is_who A.a_law_is_who A.d_law_is_who
  b_law_is_who : Binds K A.d_law_is_who ["thing"] []
  g_law_is_who : mg "_law_is_who" = some (.ref A.a_law_is_who)
  F_law_is_name : Fun K "_law_is_name" "_law_is_name" s_law_is_name A.a_law_is_name A.d_law_is_name
  b_law_is_name : Binds K A.d_law_is_name ["thing"] []
  g_law_is_name : mg "_law_is_name" = some (.ref A.a_law_is_name)
  F_law_is_key : Fun K "_law_is_key" "_law_is_key" s_law_is_key A.a_law_is_key A.d_law_is_key
  b_law_is_key : Binds K A.d_law_is_key ["thing"] []
  g_law_is_key : mg "_law_is_key" = some (.ref A.a_law_is_key)
  F_law_is_mark : Fun K "_law_is_mark" "_law_is_mark" s_law_is_mark A.a_law_is_mark A.d_law_is_mark
  b_law_is_mark : Binds K A.d_law_is_mark ["thing"] []
  g_law_is_mark : mg "_law_is_mark" = some (.ref A.a_law_is_mark)
  F_law_is_marks : Fun K "_law_is_marks" "_law_is_marks" s_law_is_marks A.a_law_is_marks A.d_law_is_marks
  b_law_is_marks : Binds K A.d_law_is_marks ["thing"] []
  g_law_is_marks : mg "_law_is_marks" = some (.ref A.a_law_is_marks)
  F_law_is_body : Fun K "_law_is_body" "_law_is_body" s_law_is_body A.a_law_is_body A.d_law_is_body
  b_law_is_body : Binds K A.d_law_is_body ["thing"] []
  g_law_is_body : mg "_law_is_body" = some (.ref A.a_law_is_body)
  F_law_is_message : Fun K "_law_is_message" "_law_is_message" s_law_is_message A.a_law_is_message A.d_law_is_message
  b_law_is_message : Binds K A.d_law_is_message ["thing"] []
  g_law_is_message : mg "_law_is_message" = some (.ref A.a_law_is_message)
  F_is_message : Fun K "is_message" "is_message" s_is_message A.a_is_message A.d_is_message
  b_is_message : Binds K A.d_is_message ["thing"] []
  g_is_message : mg "is_message" = some (.ref A.a_is_message)
  F_law : Fun K "law" "law" s_law A.a_law A.d_law
  b_law : Binds K A.d_law ["script"] []
  g_law : mg "law" = some (.ref A.a_law)
section
variable {P : Program} {K : PySem.W.Frag} {mg : Str → Option Value} {base : Heap} {A : Ad}
abbrev N_law_stream : List Str := ["cell", "k", "digits"]
theorem sc_law_stream : FnScope N_law_stream ["cell", "k"] (defScope s_law_stream) := ⟨rfl, rfl, rfl, by decide +kernel, rfl, by decide +kernel, by decide +kernel⟩
theorem ok_law_stream (G : Gm K mg A) : FnOk P A.w K mg base CX0 1 A.a_law_stream A.d_law_stream ["cell", "k"] (spF K 2 (F_law_stream A.toCA)) := by
  refine fn_ok G.F_law_stream sc_law_stream rfl (fun cdv A0 outer s H E hr => ?_)
  have nd := sc_law_stream.nd
  exact (xSeq (xSet (i := 2) nd rfl (by first | exact Or.inl rfl | exact Or.inr rfl) (xInt)) (xSeq (xIf (xCmpT op_ge f_ge (nomark _) (xVar 0) (xOp op_pow f_pow (xInt) (xInt))) (xOne (xSet (i := 2) nd rfl (by first | exact Or.inl rfl | exact Or.inr rfl) (xVar 0))) xSkip) (xOne (xRet (xLst (xCons (xVar 2) (xCons (xOp op_mod f_mod (xCT call_int1 f_int (by rfl) G.z_int (by decide +kernel) (xCons (xOp op_addA f_add (xOp op_addA f_add (xOp op_mul f_mul (xVar 0) (xInt)) (xOp op_mul f_mul (xVar 1) (xInt))) (xInt)) xNil)) (xInt)) xNil)))))))
abbrev N_law_next : List Str := ["stream", "size", "drawn"]
theorem sc_law_next : FnScope N_law_next ["stream", "size"] (defScope s_law_next) := ⟨rfl, rfl, rfl, by decide +kernel, rfl, by decide +kernel, by decide +kernel⟩
theorem ok_law_next (G : Gm K mg A) : FnOk P A.w K mg base CX0 1 A.a_law_next A.d_law_next ["stream", "size"] (spF K 2 (F_law_next A.toCA)) := by
  refine fn_ok G.F_law_next sc_law_next rfl (fun cdv A0 outer s H E hr => ?_)
  have nd := sc_law_next.nd
  exact (xSeq (xIf (xCmpT op_gt f_gt (nomark _) (xIx (hu_of hr) (xVar 0) (xInt) (fun _ _ => rfl)) (xInt)) (xSeq (xSet (i := 2) nd rfl (by first | exact Or.inl rfl | exact Or.inr rfl) (xOp op_mod f_mod (xCT call_int1 f_int (by rfl) G.z_int (by decide +kernel) (xCons (xIx (hu_of hr) (xVar 0) (xInt) (fun _ _ => rfl)) xNil)) (xVar 1))) (xSeq (xAsg (xOp op_fdivW f_div (xIx (hu_of hr) (xVar 0) (xInt) (fun _ _ => rfl)) (xVar 1)) (xgSub (hu_of hr) (xVar 0) (xInt))) (xOne (xRet (xVar 2))))) xSkip) (xSeq (xAsg (xOp op_mod f_mod (xCT call_int1 f_int (by rfl) G.z_int (by decide +kernel) (xCons (xOp op_addA f_add (xOp op_mul f_mul (xIx (hu_of hr) (xVar 0) (xInt) (fun _ _ => rfl)) (xInt)) (xInt)) xNil)) (xInt)) (xgSub (hu_of hr) (xVar 0) (xInt))) (xOne (xRet (xOp op_mod f_mod (xCT call_int1 f_int (by rfl) G.z_int (by decide +kernel) (xCons (xOp op_fdivW f_div (xOp op_mod f_mod (xCT call_int1 f_int (by rfl) G.z_int (by decide +kernel) (xCons (xOp op_addA f_add (xOp op_mul f_mul (xIx (hu_of hr) (xVar 0) (xInt) (fun _ _ => rfl)) (xInt)) (xInt)) xNil)) (xInt)) (xInt)) xNil)) (xVar 1))))))
abbrev N_law_number : List Str := ["stream", "kind"]
theorem sc_law_number : FnScope N_law_number ["stream"] (defScope s_law_number) := ⟨rfl, rfl, rfl, by decide +kernel, rfl, by decide +kernel, by decide +kernel⟩
theorem ok_law_number (G : Gm K mg A) : FnOk P A.w K mg base CX0 2 A.a_law_number A.d_law_number ["stream"] (spF K 1 (F_law_number A.toCA)) := by
  refine fn_ok G.F_law_number sc_law_number rfl (fun cdv A0 outer s H E hr => ?_)
  have nd := sc_law_number.nd
  exact (xSeq (xSet (i := 1) nd rfl (by first | exact Or.inl rfl | exact Or.inr rfl) (xCall (ok_law_next G) (hr.mono (by decide)) (by rfl) G.g_law_next G.F_law_next.kp G.b_law_next (xCons (xVar 0) (xCons (xInt) xNil)))) (xSeq (xIf (xCmpT (op_eqD (hr.units)) f_eq (nomark _) (xVar 1) (xInt)) (xOne (xRet (xOp op_sub f_sub (xOp op_pow f_pow (xInt) (xInt)) (xCall (ok_law_next G) (hr.mono (by decide)) (by rfl) G.g_law_next G.F_law_next.kp G.b_law_next (xCons (xVar 0) (xCons (xInt) xNil)))))) xSkip) (xSeq (xIf (xCmpT (op_eqD (hr.units)) f_eq (nomark _) (xVar 1) (xInt)) (xOne (xRet (xOp op_addA f_add (xOp op_mul f_mul (xCall (ok_law_next G) (hr.mono (by decide)) (by rfl) G.g_law_next G.F_law_next.kp G.b_law_next (xCons (xVar 0) (xCons (xOp op_pow f_pow (xInt) (xInt)) xNil))) (xOp op_pow f_pow (xInt) (xInt))) (xCall (ok_law_next G) (hr.mono (by decide)) (by rfl) G.g_law_next G.F_law_next.kp G.b_law_next (xCons (xVar 0) (xCons (xOp op_pow f_pow (xInt) (xInt)) xNil)))))) xSkip) (xOne (xRet (xCall (ok_law_next G) (hr.mono (by decide)) (by rfl) G.g_law_next G.F_law_next.kp G.b_law_next (xCons (xVar 0) (xCons (xInt) xNil))))))))
abbrev N_law_attempt : List Str := ["stream"]
theorem sc_law_attempt : FnScope N_law_attempt ["stream"] (defScope s_law_attempt) := ⟨rfl, rfl, rfl, by decide +kernel, rfl, by decide +kernel, by decide +kernel⟩
theorem ok_law_attempt (G : Gm K mg A) : FnOk P A.w K mg base CX0 3 A.a_law_attempt A.d_law_attempt ["stream"] (spF K 1 (F_law_attempt A.toCA)) := by
  refine fn_ok G.F_law_attempt sc_law_attempt rfl (fun cdv A0 outer s H E hr => ?_)
  have nd := sc_law_attempt.nd
  exact (xOne (xRet (xCB (call_max2 rfl) f_max2 (by rfl) G.z_max (by decide +kernel) (xCons (xInt) (xCons (xCall (ok_law_number G) (hr.mono (by decide)) (by rfl) G.g_law_number G.F_law_number.kp G.b_law_number (xCons (xVar 0) xNil)) xNil)))))
abbrev N_law_transaction : List Str := ["stream"]
theorem sc_law_transaction : FnScope N_law_transaction ["stream"] (defScope s_law_transaction) := ⟨rfl, rfl, rfl, by decide +kernel, rfl, by decide +kernel, by decide +kernel⟩
theorem ok_law_transaction (G : Gm K mg A) : FnOk P A.w K mg base CX0 3 A.a_law_transaction A.d_law_transaction ["stream"] (spF K 1 (F_law_transaction A.toCA)) := by
  refine fn_ok G.F_law_transaction sc_law_transaction rfl (fun cdv A0 outer s H E hr => ?_)
  have nd := sc_law_transaction.nd
  exact (xOne (xRet (xTup (xCons (xCB (call_max2 rfl) f_max2 (by rfl) G.z_max (by decide +kernel) (xCons (xInt) (xCons (xCall (ok_law_number G) (hr.mono (by decide)) (by rfl) G.g_law_number G.F_law_number.kp G.b_law_number (xCons (xVar 0) xNil)) xNil))) (xCons (xCall (ok_law_number G) (hr.mono (by decide)) (by rfl) G.g_law_number G.F_law_number.kp G.b_law_number (xCons (xVar 0) xNil)) xNil)))))
abbrev N_law_name : List Str := ["stream", "letters", "k"]
theorem sc_law_name : FnScope N_law_name ["stream"] (defScope s_law_name) := ⟨rfl, rfl, rfl, by decide +kernel, rfl, by decide +kernel, by decide +kernel⟩
theorem ok_law_name (G : Gm K mg A) : FnOk P A.w K mg base CX0 2 A.a_law_name A.d_law_name ["stream"] (spF K 1 (F_law_name A.toCA)) := by
  refine fn_ok G.F_law_name sc_law_name rfl (fun cdv A0 outer s H E hr => ?_)
  have nd := sc_law_name.nd
  exact (xSeq (xSet (i := 1) nd rfl (by first | exact Or.inl rfl | exact Or.inr rfl) (xStr (y := ⟨#[97, 98, 99, 100, 101, 102, 103, 104, 105, 106, 107, 108, 109, 110, 111, 112, 113, 114, 115, 116, 117, 118, 119, 120, 121, 122]⟩) (by decide +kernel))) (xSeq (xIf (xCmpT (op_eqD (hr.units)) f_eq (nomark _) (xCall (ok_law_next G) (hr.mono (by decide)) (by rfl) G.g_law_next G.F_law_next.kp G.b_law_next (xCons (xVar 0) (xCons (xInt) xNil))) (xInt)) (xOne (xRet (xIx (hu_of hr) (xTup (xCons (xStr (y := ⟨#[97]⟩) (by decide +kernel)) (xCons (xStr (y := ⟨#[98]⟩) (by decide +kernel)) (xCons (xStr (y := ⟨#[97, 98]⟩) (by decide +kernel)) (xCons (xStr (y := ⟨#[122, 122]⟩) (by decide +kernel)) xNil))))) (xCall (ok_law_next G) (hr.mono (by decide)) (by rfl) G.g_law_next G.F_law_next.kp G.b_law_next (xCons (xVar 0) (xCons (xInt) xNil))) (fun _ _ => rfl)))) xSkip) (xOne (xRet (xBm PySem.F.plainAttrs_str PySem.F.slot_str_join PySem.F.type_str_join mt_join f_join (xStr (y := ⟨#[]⟩) (by decide +kernel)) (xCons (xComp rfl nd (xRng1 (by rfl) G.z_range (xCons (xOp op_addA f_add (xInt) (xCall (ok_law_next G) (hr.mono (by decide)) (by rfl) G.g_law_next G.F_law_next.kp G.b_law_next (xCons (xVar 0) (xCons (xInt) xNil)))) xNil)) (blkOk_by (N := N_law_name) (sc := defScope s_law_name) (by decide +kernel)) (fun _ _ _ _ _ => pg_name (i := 2) nd rfl (Or.inl rfl)) (fun _ _ _ _ _ => xYes) (fun _ _ _ _ _ => (xIx (hu_of hr) (xVar 1) (xCall (ok_law_next G) (hr.mono (by decide)) (by rfl) G.g_law_next G.F_law_next.kp G.b_law_next (xCons (xVar 0) (xCons (xInt) xNil))) (fun _ _ => rfl)))) xNil))))))
abbrev N_law_key : List Str := ["stream"]
theorem sc_law_key : FnScope N_law_key ["stream"] (defScope s_law_key) := ⟨rfl, rfl, rfl, by decide +kernel, rfl, by decide +kernel, by decide +kernel⟩
theorem ok_law_key (G : Gm K mg A) : FnOk P A.w K mg base CX0 3 A.a_law_key A.d_law_key ["stream"] (spF K 1 (F_law_key A.toCA)) := by
  refine fn_ok G.F_law_key sc_law_key rfl (fun cdv A0 outer s H E hr => ?_)
  have nd := sc_law_key.nd
  exact (xOne (xRet (xTup (xCons (xCall (ok_law_number G) (hr.mono (by decide)) (by rfl) G.g_law_number G.F_law_number.kp G.b_law_number (xCons (xVar 0) xNil)) (xCons (xCall (ok_law_name G) (hr.mono (by decide)) (by rfl) G.g_law_name G.F_law_name.kp G.b_law_name (xCons (xVar 0) xNil)) xNil)))))
abbrev N_law_integer : List Str := ["stream"]
theorem sc_law_integer : FnScope N_law_integer ["stream"] (defScope s_law_integer) := ⟨rfl, rfl, rfl, by decide +kernel, rfl, by decide +kernel, by decide +kernel⟩
theorem ok_law_integer (G : Gm K mg A) : FnOk P A.w K mg base CX0 3 A.a_law_integer A.d_law_integer ["stream"] (spF K 1 (F_law_integer A.toCA)) := by
  refine fn_ok G.F_law_integer sc_law_integer rfl (fun cdv A0 outer s H E hr => ?_)
  have nd := sc_law_integer.nd
  exact (xOne (xRet (xOp op_mul f_mul (xCall (ok_law_number G) (hr.mono (by decide)) (by rfl) G.g_law_number G.F_law_number.kp G.b_law_number (xCons (xVar 0) xNil)) (xOp op_sub f_sub (xInt) (xOp op_mul f_mul (xInt) (xCall (ok_law_next G) (hr.mono (by decide)) (by rfl) G.g_law_next G.F_law_next.kp G.b_law_next (xCons (xVar 0) (xCons (xInt) xNil))))))))
abbrev N_law_value : List Str := ["stream"]
theorem sc_law_value : FnScope N_law_value ["stream"] (defScope s_law_value) := ⟨rfl, rfl, rfl, by decide +kernel, rfl, by decide +kernel, by decide +kernel⟩
theorem ok_law_value (G : Gm K mg A) : FnOk P A.w K mg base CX0 4 A.a_law_value A.d_law_value ["stream"] (spF K 1 (F_law_value A.toCA)) := by
  refine fn_ok G.F_law_value sc_law_value rfl (fun cdv A0 outer s H E hr => ?_)
  have nd := sc_law_value.nd
  exact (xOne (xRet (xOp op_mul f_mul (xCall (ok_law_integer G) (hr.mono (by decide)) (by rfl) G.g_law_integer G.F_law_integer.kp G.b_law_integer (xCons (xVar 0) xNil)) (xIx (hu_of hr) (xTup (xCons (xInt) (xCons (xInt) (xCons (xInt) xNil)))) (xCall (ok_law_next G) (hr.mono (by decide)) (by rfl) G.g_law_next G.F_law_next.kp G.b_law_next (xCons (xVar 0) (xCons (xInt) xNil))) (fun _ _ => rfl)))))
abbrev N_law_mark : List Str := ["stream"]
theorem sc_law_mark : FnScope N_law_mark ["stream"] (defScope s_law_mark) := ⟨rfl, rfl, rfl, by decide +kernel, rfl, by decide +kernel, by decide +kernel⟩
theorem ok_law_mark (G : Gm K mg A) : FnOk P A.w K mg base CX0 4 A.a_law_mark A.d_law_mark ["stream"] (spF K 1 (F_law_mark A.toCA)) := by
  refine fn_ok G.F_law_mark sc_law_mark rfl (fun cdv A0 outer s H E hr => ?_)
  have nd := sc_law_mark.nd
  exact (xOne (xRet (xTup (xCons (xCall (ok_law_transaction G) (hr.mono (by decide)) (by rfl) G.g_law_transaction G.F_law_transaction.kp G.b_law_transaction (xCons (xVar 0) xNil)) (xCons (xCall (ok_law_attempt G) (hr.mono (by decide)) (by rfl) G.g_law_attempt G.F_law_attempt.kp G.b_law_attempt (xCons (xVar 0) xNil)) (xCons (xCall (ok_law_key G) (hr.mono (by decide)) (by rfl) G.g_law_key G.F_law_key.kp G.b_law_key (xCons (xVar 0) xNil)) (xCons (xCall (ok_law_attempt G) (hr.mono (by decide)) (by rfl) G.g_law_attempt G.F_law_attempt.kp G.b_law_attempt (xCons (xVar 0) xNil)) xNil)))))))
abbrev N_law_marks_drawn : List Str := ["stream", "marks", "k", "mark"]
theorem sc_law_marks_drawn : FnScope N_law_marks_drawn ["stream"] (defScope s_law_marks_drawn) := ⟨rfl, rfl, rfl, by decide +kernel, rfl, by decide +kernel, by decide +kernel⟩
theorem ok_law_marks_drawn (G : Gm K mg A) : FnOk P A.w K mg base CX0 5 A.a_law_marks_drawn A.d_law_marks_drawn ["stream"] (spF K 1 (F_law_marks_drawn A.toCA)) := by
  refine fn_ok G.F_law_marks_drawn sc_law_marks_drawn rfl (fun cdv A0 outer s H E hr => ?_)
  have nd := sc_law_marks_drawn.nd
  exact (xSeq (xSet (i := 1) nd rfl (by first | exact Or.inl rfl | exact Or.inr rfl) (xLst xNil)) (xSeq (xFor PassesOwn.never rfl (xRng1 (by rfl) G.z_range (xCons (xOp op_addA f_add (xInt) (xCall (ok_law_next G) (hr.mono (by decide)) (by rfl) G.g_law_next G.F_law_next.kp G.b_law_next (xCons (xVar 0) (xCons (xInt) xNil)))) xNil)) (xgN nd rfl (by first | exact Or.inl rfl | exact Or.inr rfl)) (xSeq (xSet (i := 3) nd rfl (by first | exact Or.inl rfl | exact Or.inr rfl) (xCall (ok_law_mark G) (hr.mono (by decide)) (by rfl) G.g_law_mark G.F_law_mark.kp G.b_law_mark (xCons (xVar 0) xNil))) (xOne (xIf (xCmpT (op_notInD (hu65 hr)) f_notInL rfl (xVar 3) (xVar 1)) (xOne (xExpr (xBm PySem.F.plainAttrs_list PySem.F.slot_list_append PySem.F.type_list_append mt_append f_append (xVar 1) (xCons (xVar 3) xNil)))) xSkip)))) (xOne (xRet (xCT call_tuple_of f_tuple (by rfl) G.z_tuple (by decide +kernel) (xCons (xCB (call_sortedD (hu65 hr)) f_sorted (by rfl) G.z_sorted (by decide +kernel) (xCons (xVar 1) xNil)) xNil))))))
abbrev N_law_drawn_body : List Str := ["stream", "kind", "head", "key"]
theorem sc_law_drawn_body : FnScope N_law_drawn_body ["stream"] (defScope s_law_drawn_body) := ⟨rfl, rfl, rfl, by decide +kernel, rfl, by decide +kernel, by decide +kernel⟩
theorem ok_law_drawn_body (G : Gm K mg A) : FnOk P A.w K mg base CX0 6 A.a_law_drawn_body A.d_law_drawn_body ["stream"] (spF K 1 (F_law_drawn_body A.toCA)) := by
  refine fn_ok G.F_law_drawn_body sc_law_drawn_body rfl (fun cdv A0 outer s H E hr => ?_)
  have nd := sc_law_drawn_body.nd
  exact (xSeq (xSet (i := 1) nd rfl (by first | exact Or.inl rfl | exact Or.inr rfl) (xIx (hu_of hr) (xTup (xCons (xStr (y := ⟨#[97, 115, 107]⟩) (by decide +kernel)) (xCons (xStr (y := ⟨#[102, 114, 101, 101]⟩) (by decide +kernel)) (xCons (xStr (y := ⟨#[102, 114, 101, 101, 100]⟩) (by decide +kernel)) (xCons (xStr (y := ⟨#[102, 105, 110, 105, 115, 104, 101, 100]⟩) (by decide +kernel)) (xCons (xStr (y := ⟨#[102, 105, 110, 105, 115, 104]⟩) (by decide +kernel)) (xCons (xStr (y := ⟨#[103, 114, 97, 110, 116, 101, 100]⟩) (by decide +kernel)) (xCons (xStr (y := ⟨#[98, 101, 104, 105, 110, 100]⟩) (by decide +kernel)) (xCons (xStr (y := ⟨#[99, 97, 108, 108]⟩) (by decide +kernel)) (xCons (xStr (y := ⟨#[109, 97, 114, 107, 115]⟩) (by decide +kernel)) xNil)))))))))) (xCall (ok_law_next G) (hr.mono (by decide)) (by rfl) G.g_law_next G.F_law_next.kp G.b_law_next (xCons (xVar 0) (xCons (xInt) xNil))) (fun _ _ => rfl))) (xSeq (xSet (i := 2) nd rfl (by first | exact Or.inl rfl | exact Or.inr rfl) (xTup (xCons (xVar 1) (xCons (xCall (ok_law_transaction G) (hr.mono (by decide)) (by rfl) G.g_law_transaction G.F_law_transaction.kp G.b_law_transaction (xCons (xVar 0) xNil)) (xCons (xCall (ok_law_attempt G) (hr.mono (by decide)) (by rfl) G.g_law_attempt G.F_law_attempt.kp G.b_law_attempt (xCons (xVar 0) xNil)) xNil))))) (xSeq (xSet (i := 3) nd rfl (by first | exact Or.inl rfl | exact Or.inr rfl) (xCall (ok_law_key G) (hr.mono (by decide)) (by rfl) G.g_law_key G.F_law_key.kp G.b_law_key (xCons (xVar 0) xNil))) (xSeq (xIf (xCmpT (op_eqD (hr.units)) f_eq (nomark _) (xVar 1) (xStr (y := ⟨#[102, 105, 110, 105, 115, 104]⟩) (by decide +kernel))) (xOne (xRet (xOp op_addA f_add (xVar 2) (xTup (xCons (xVar 3) (xCons (xCall (ok_law_value G) (hr.mono (by decide)) (by rfl) G.g_law_value G.F_law_value.kp G.b_law_value (xCons (xVar 0) xNil)) xNil)))))) xSkip) (xSeq (xIf (xCmpT (op_eqD (hr.units)) f_eq (nomark _) (xVar 1) (xStr (y := ⟨#[103, 114, 97, 110, 116, 101, 100]⟩) (by decide +kernel))) (xOne (xRet (xOp op_addA f_add (xVar 2) (xTup (xCons (xVar 3) (xCons (xCall (ok_law_attempt G) (hr.mono (by decide)) (by rfl) G.g_law_attempt G.F_law_attempt.kp G.b_law_attempt (xCons (xVar 0) xNil)) (xCons (xCall (ok_law_value G) (hr.mono (by decide)) (by rfl) G.g_law_value G.F_law_value.kp G.b_law_value (xCons (xVar 0) xNil)) xNil))))))) xSkip) (xSeq (xIf (xCmpT (op_eqD (hr.units)) f_eq (nomark _) (xVar 1) (xStr (y := ⟨#[98, 101, 104, 105, 110, 100]⟩) (by decide +kernel))) (xOne (xRet (xOp op_addA f_add (xVar 2) (xTup (xCons (xVar 3) (xCons (xCall (ok_law_attempt G) (hr.mono (by decide)) (by rfl) G.g_law_attempt G.F_law_attempt.kp G.b_law_attempt (xCons (xVar 0) xNil)) (xCons (xCall (ok_law_transaction G) (hr.mono (by decide)) (by rfl) G.g_law_transaction G.F_law_transaction.kp G.b_law_transaction (xCons (xVar 0) xNil)) (xCons (xCall (ok_law_attempt G) (hr.mono (by decide)) (by rfl) G.g_law_attempt G.F_law_attempt.kp G.b_law_attempt (xCons (xVar 0) xNil)) xNil)))))))) xSkip) (xSeq (xIf (xCmpT (op_eqD (hr.units)) f_eq (nomark _) (xVar 1) (xStr (y := ⟨#[99, 97, 108, 108]⟩) (by decide +kernel))) (xOne (xRet (xOp op_addA f_add (xVar 2) (xTup (xCons (xCall (ok_law_transaction G) (hr.mono (by decide)) (by rfl) G.g_law_transaction G.F_law_transaction.kp G.b_law_transaction (xCons (xVar 0) xNil)) (xCons (xCall (ok_law_attempt G) (hr.mono (by decide)) (by rfl) G.g_law_attempt G.F_law_attempt.kp G.b_law_attempt (xCons (xVar 0) xNil)) (xCons (xVar 3) (xCons (xCall (ok_law_attempt G) (hr.mono (by decide)) (by rfl) G.g_law_attempt G.F_law_attempt.kp G.b_law_attempt (xCons (xVar 0) xNil)) xNil)))))))) xSkip) (xSeq (xIf (xCmpT (op_eqD (hr.units)) f_eq (nomark _) (xVar 1) (xStr (y := ⟨#[109, 97, 114, 107, 115]⟩) (by decide +kernel))) (xOne (xRet (xOp op_addA f_add (xVar 2) (xTup (xCons (xVar 3) (xCons (xCall (ok_law_attempt G) (hr.mono (by decide)) (by rfl) G.g_law_attempt G.F_law_attempt.kp G.b_law_attempt (xCons (xVar 0) xNil)) (xCons (xCall (ok_law_marks_drawn G) (hr.mono (by decide)) (by rfl) G.g_law_marks_drawn G.F_law_marks_drawn.kp G.b_law_marks_drawn (xCons (xVar 0) xNil)) xNil))))))) xSkip) (xOne (xRet (xOp op_addA f_add (xVar 2) (xTup (xCons (xVar 3) xNil)))))))))))))
abbrev N_law_flag : List Str := ["actual", "due"]
theorem sc_law_flag : FnScope N_law_flag ["actual", "due"] (defScope s_law_flag) := ⟨rfl, rfl, rfl, by decide +kernel, rfl, by decide +kernel, by decide +kernel⟩
theorem ok_law_flag (G : Gm K mg A) : FnOk P A.w K mg base CX0 1 A.a_law_flag A.d_law_flag ["actual", "due"] (spF K 2 (F_law_flag A.toCA)) := by
  refine fn_ok G.F_law_flag sc_law_flag rfl (fun cdv A0 outer s H E hr => ?_)
  have nd := sc_law_flag.nd
  exact (xOne (xRet (xAndV (xIsi (xVar 0) (by decide +kernel) (by rfl) G.z_bool (by rfl) G.z_isinstance) (xOneV (xCmp (op_eqD (hr.units)) f_eq (nomark _) (xVar 0) (xVar 1))))))
abbrev N_has_parts : List Str := ["thing", "many"]
theorem sc_has_parts : FnScope N_has_parts ["thing", "many"] (defScope s_has_parts) := ⟨rfl, rfl, rfl, by decide +kernel, rfl, by decide +kernel, by decide +kernel⟩
theorem ok_has_parts (G : Gm K mg A) : FnOk P A.w K mg base CX0 1 A.a_has_parts A.d_has_parts ["thing", "many"] (spF K 2 (F_has_parts A.toCA)) := by
  refine fn_ok G.F_has_parts sc_has_parts rfl (fun cdv A0 outer s H E hr => ?_)
  have nd := sc_has_parts.nd
  exact (xOne (xRet (xAndV (xTyIs (xVar 0) (by decide +kernel) (by rfl) G.z_tuple (by rfl) G.z_type) (xOneV (xCmp (op_eqD (hr.units)) f_eq (nomark _) (xCB call_lenA f_len (by rfl) G.z_len (by decide +kernel) (xCons (xVar 0) xNil)) (xVar 1))))))
abbrev N_is_between : List Str := ["thing", "least", "most"]
theorem sc_is_between : FnScope N_is_between ["thing", "least", "most"] (defScope s_is_between) := ⟨rfl, rfl, rfl, by decide +kernel, rfl, by decide +kernel, by decide +kernel⟩
theorem ok_is_between (G : Gm K mg A) : FnOk P A.w K mg base CX0 1 A.a_is_between A.d_is_between ["thing", "least", "most"] (spF K 3 (F_is_between A.toCA)) := by
  refine fn_ok G.F_is_between sc_is_between rfl (fun cdv A0 outer s H E hr => ?_)
  have nd := sc_is_between.nd
  exact (xOne (xRet (xAndV (xTyIs (xVar 0) (by decide +kernel) (by rfl) G.z_int (by rfl) G.z_type) (xOneV (xChain op_le op_le f_le f_le (xVar 1) (xVar 0) (xVar 2))))))
abbrev N_is_count : List Str := ["thing"]
theorem sc_is_count : FnScope N_is_count ["thing"] (defScope s_is_count) := ⟨rfl, rfl, rfl, by decide +kernel, rfl, by decide +kernel, by decide +kernel⟩
theorem ok_is_count (G : Gm K mg A) : FnOk P A.w K mg base CX0 2 A.a_is_count A.d_is_count ["thing"] (spF K 1 (F_is_count A.toCA)) := by
  refine fn_ok G.F_is_count sc_is_count rfl (fun cdv A0 outer s H E hr => ?_)
  have nd := sc_is_count.nd
  exact (xOne (xRet (xCall (ok_is_between G) (hr.mono (by decide)) (by rfl) G.g_is_between G.F_is_between.kp G.b_is_between (xCons (xVar 0) (xCons (xInt) (xCons (xGlobI rfl G.c_MOST_NUMBER) xNil))))))
abbrev N_is_number : List Str := ["thing"]
theorem sc_is_number : FnScope N_is_number ["thing"] (defScope s_is_number) := ⟨rfl, rfl, rfl, by decide +kernel, rfl, by decide +kernel, by decide +kernel⟩
theorem ok_is_number (G : Gm K mg A) : FnOk P A.w K mg base CX0 2 A.a_is_number A.d_is_number ["thing"] (spF K 1 (F_is_number A.toCA)) := by
  refine fn_ok G.F_is_number sc_is_number rfl (fun cdv A0 outer s H E hr => ?_)
  have nd := sc_is_number.nd
  exact (xOne (xRet (xCall (ok_is_between G) (hr.mono (by decide)) (by rfl) G.g_is_between G.F_is_between.kp G.b_is_between (xCons (xVar 0) (xCons (xInt) (xCons (xGlobI rfl G.c_MOST_NUMBER) xNil))))))
abbrev N_is_transaction : List Str := ["thing"]
theorem sc_is_transaction : FnScope N_is_transaction ["thing"] (defScope s_is_transaction) := ⟨rfl, rfl, rfl, by decide +kernel, rfl, by decide +kernel, by decide +kernel⟩
theorem ok_is_transaction (G : Gm K mg A) : FnOk P A.w K mg base CX0 3 A.a_is_transaction A.d_is_transaction ["thing"] (spF K 1 (F_is_transaction A.toCA)) := by
  refine fn_ok G.F_is_transaction sc_is_transaction rfl (fun cdv A0 outer s H E hr => ?_)
  have nd := sc_is_transaction.nd
  exact (xOne (xRet (xAndV (xCall (ok_has_parts G) (hr.mono (by decide)) (by rfl) G.g_has_parts G.F_has_parts.kp G.b_has_parts (xCons (xVar 0) (xCons (xInt) xNil))) (xAndV (xCall (ok_is_count G) (hr.mono (by decide)) (by rfl) G.g_is_count G.F_is_count.kp G.b_is_count (xCons (xIx (hu_of hr) (xVar 0) (xInt) (fun _ _ => rfl)) xNil)) (xOneV (xCall (ok_is_number G) (hr.mono (by decide)) (by rfl) G.g_is_number G.F_is_number.kp G.b_is_number (xCons (xIx (hu_of hr) (xVar 0) (xInt) (fun _ _ => rfl)) xNil)))))))
abbrev N_is_who : List Str := ["thing"]
theorem sc_is_who : FnScope N_is_who ["thing"] (defScope s_is_who) := ⟨rfl, rfl, rfl, by decide +kernel, rfl, by decide +kernel, by decide +kernel⟩
theorem ok_is_who (G : Gm K mg A) : FnOk P A.w K mg base CX0 4 A.a_is_who A.d_is_who ["thing"] (spF K 1 (F_is_who A.toCA)) := by
  refine fn_ok G.F_is_who sc_is_who rfl (fun cdv A0 outer s H E hr => ?_)
  have nd := sc_is_who.nd
  exact (xOne (xRet (xAndV (xCall (ok_has_parts G) (hr.mono (by decide)) (by rfl) G.g_has_parts G.F_has_parts.kp G.b_has_parts (xCons (xVar 0) (xCons (xInt) xNil))) (xAndV (xCall (ok_is_transaction G) (hr.mono (by decide)) (by rfl) G.g_is_transaction G.F_is_transaction.kp G.b_is_transaction (xCons (xIx (hu_of hr) (xVar 0) (xInt) (fun _ _ => rfl)) xNil)) (xOneV (xCall (ok_is_count G) (hr.mono (by decide)) (by rfl) G.g_is_count G.F_is_count.kp G.b_is_count (xCons (xIx (hu_of hr) (xVar 0) (xInt) (fun _ _ => rfl)) xNil)))))))
abbrev N_is_name : List Str := ["thing", "letter"]
theorem sc_is_name : FnScope N_is_name ["thing"] (defScope s_is_name) := ⟨rfl, rfl, rfl, by decide +kernel, rfl, by decide +kernel, by decide +kernel⟩
theorem ok_is_name (G : Gm K mg A) : FnOk P A.w K mg base CX0 1 A.a_is_name A.d_is_name ["thing"] (spF K 1 (F_is_name A.toCA)) := by
  refine fn_ok G.F_is_name sc_is_name rfl (fun cdv A0 outer s H E hr => ?_)
  have nd := sc_is_name.nd
  exact (xSeq (xIf (PW.pt (xOr (xTyNotT (xVar 0) (by decide +kernel) (by rfl) G.z_str (by rfl) G.z_type) (xOr1 (xNot (xChainT op_le op_le f_le f_le (xInt) (xCB call_lenA f_len (by rfl) G.z_len (by decide +kernel) (xCons (xVar 0) xNil)) (xGlobI rfl G.c_MOST_LETTERS)))))) (xOne (xRet (xBl))) xSkip) (xOne (xRet (xCB (cr_all rfl) f_all (by rfl) G.z_all (by decide +kernel) (xCons (xComp rfl nd (xIterS (xVar 0)) (blkOk_by (N := N_is_name) (sc := defScope s_is_name) (by decide +kernel)) (fun _ _ _ _ _ => pg_name (i := 1) nd rfl (Or.inl rfl)) (fun _ _ _ _ _ => xYes) (fun _ _ _ _ _ => (xChain op_le_str op_le_str f_leS f_leS (xStr (y := ⟨#[97]⟩) (by decide +kernel)) (xVar 1) (xStr (y := ⟨#[122]⟩) (by decide +kernel))))) xNil)))))
abbrev N_is_key : List Str := ["thing"]
theorem sc_is_key : FnScope N_is_key ["thing"] (defScope s_is_key) := ⟨rfl, rfl, rfl, by decide +kernel, rfl, by decide +kernel, by decide +kernel⟩
theorem ok_is_key (G : Gm K mg A) : FnOk P A.w K mg base CX0 3 A.a_is_key A.d_is_key ["thing"] (spF K 1 (F_is_key A.toCA)) := by
  refine fn_ok G.F_is_key sc_is_key rfl (fun cdv A0 outer s H E hr => ?_)
  have nd := sc_is_key.nd
  exact (xOne (xRet (xAndV (xCall (ok_has_parts G) (hr.mono (by decide)) (by rfl) G.g_has_parts G.F_has_parts.kp G.b_has_parts (xCons (xVar 0) (xCons (xInt) xNil))) (xAndV (xCall (ok_is_number G) (hr.mono (by decide)) (by rfl) G.g_is_number G.F_is_number.kp G.b_is_number (xCons (xIx (hu_of hr) (xVar 0) (xInt) (fun _ _ => rfl)) xNil)) (xOneV (xCall (ok_is_name G) (hr.mono (by decide)) (by rfl) G.g_is_name G.F_is_name.kp G.b_is_name (xCons (xIx (hu_of hr) (xVar 0) (xInt) (fun _ _ => rfl)) xNil)))))))
abbrev N_is_value : List Str := ["thing"]
theorem sc_is_value : FnScope N_is_value ["thing"] (defScope s_is_value) := ⟨rfl, rfl, rfl, by decide +kernel, rfl, by decide +kernel, by decide +kernel⟩
theorem ok_is_value (G : Gm K mg A) : FnOk P A.w K mg base CX0 2 A.a_is_value A.d_is_value ["thing"] (spF K 1 (F_is_value A.toCA)) := by
  refine fn_ok G.F_is_value sc_is_value rfl (fun cdv A0 outer s H E hr => ?_)
  have nd := sc_is_value.nd
  exact (xOne (xRet (xCall (ok_is_between G) (hr.mono (by decide)) (by rfl) G.g_is_between G.F_is_between.kp G.b_is_between (xCons (xVar 0) (xCons (xUn un_neg f_neg (xGlobI rfl G.c_MOST_VALUE)) (xCons (xGlobI rfl G.c_MOST_VALUE) xNil))))))
abbrev N_is_mark : List Str := ["thing"]
theorem sc_is_mark : FnScope N_is_mark ["thing"] (defScope s_is_mark) := ⟨rfl, rfl, rfl, by decide +kernel, rfl, by decide +kernel, by decide +kernel⟩
theorem ok_is_mark (G : Gm K mg A) : FnOk P A.w K mg base CX0 5 A.a_is_mark A.d_is_mark ["thing"] (spF K 1 (F_is_mark A.toCA)) := by
  refine fn_ok G.F_is_mark sc_is_mark rfl (fun cdv A0 outer s H E hr => ?_)
  have nd := sc_is_mark.nd
  exact (xOne (xRet (xAndV (xCall (ok_has_parts G) (hr.mono (by decide)) (by rfl) G.g_has_parts G.F_has_parts.kp G.b_has_parts (xCons (xVar 0) (xCons (xInt) xNil))) (xAndV (xCall (ok_is_who G) (hr.mono (by decide)) (by rfl) G.g_is_who G.F_is_who.kp G.b_is_who (xCons (xSl (xVar 0) xPNo (xPSo (xInt))) xNil)) (xAndV (xCall (ok_is_key G) (hr.mono (by decide)) (by rfl) G.g_is_key G.F_is_key.kp G.b_is_key (xCons (xIx (hu_of hr) (xVar 0) (xInt) (fun _ _ => rfl)) xNil)) (xOneV (xCall (ok_is_count G) (hr.mono (by decide)) (by rfl) G.g_is_count G.F_is_count.kp G.b_is_count (xCons (xIx (hu_of hr) (xVar 0) (xInt) (fun _ _ => rfl)) xNil))))))))
abbrev N_are_marks : List Str := ["thing", "mark", "follower"]
theorem sc_are_marks : FnScope N_are_marks ["thing"] (defScope s_are_marks) := ⟨rfl, rfl, rfl, by decide +kernel, rfl, by decide +kernel, by decide +kernel⟩
theorem ok_are_marks (G : Gm K mg A) : FnOk P A.w K mg base CX0 6 A.a_are_marks A.d_are_marks ["thing"] (spF K 1 (F_are_marks A.toCA)) := by
  refine fn_ok G.F_are_marks sc_are_marks rfl (fun cdv A0 outer s H E hr => ?_)
  have nd := sc_are_marks.nd
  exact (xSeq (xIf (PW.pt (xOr (xTyNotT (xVar 0) (by decide +kernel) (by rfl) G.z_tuple (by rfl) G.z_type) (xOr1 (xCmpT (op_eqE (hr.units)) f_eqE (nomark _) (xVar 0) (xTup xNil))))) (xOne (xRet (xBl))) xSkip) (xSeq (xIf (xNot (xVal (xCB (cr_all rfl) f_all (by rfl) G.z_all (by decide +kernel) (xCons (xComp rfl nd (xIter (xVar 0)) (blkOk_by (N := N_are_marks) (sc := defScope s_are_marks) (by decide +kernel)) (fun _ _ _ _ _ => pg_name (i := 1) nd rfl (Or.inl rfl)) (fun _ _ _ _ _ => xYes) (fun _ _ _ _ _ => (xCall (ok_is_mark G) (hr.mono (by decide)) (by rfl) G.g_is_mark G.F_is_mark.kp G.b_is_mark (xCons (xVar 1) xNil)))) xNil)))) (xOne (xRet (xBl))) xSkip) (xOne (xRet (xCB (cr_all rfl) f_all (by rfl) G.z_all (by decide +kernel) (xCons (xGComp (own := [("mark", 1), ("follower", 2)]) rfl nd (xZip (by rfl) G.z_zip (xCons (xVar 0) (xCons (xSl (xVar 0) (xPSo (xInt)) xPNo) xNil))) (blkOk_by (N := N_are_marks) (sc := defScope s_are_marks) (by decide +kernel)) (tgF_tup (is := [1, 2])) (fun _ _ _ _ _ => pg_tup rfl (xgNamesS (pg_name (i := 1) nd rfl (Or.inl rfl)) (xgNamesS (pg_name (i := 2) nd rfl (Or.inl rfl)) xgNames0)) (by rfl) (by rfl)) (fun _ _ _ _ _ => xYes) (fun _ _ _ _ _ => (xCmp (op_ltP (hu65 hr)) f_ltP (nomark _) (xVar 1) (xVar 2)))) xNil))))))
abbrev N_are_items : List Str := ["word", "items"]
theorem sc_are_items : FnScope N_are_items ["word", "items"] (defScope s_are_items) := ⟨rfl, rfl, rfl, by decide +kernel, rfl, by decide +kernel, by decide +kernel⟩
theorem ok_are_items (G : Gm K mg A) : FnOk P A.w K mg base CX0 7 A.a_are_items A.d_are_items ["word", "items"] (spF K 2 (F_are_items A.toCA)) := by
  refine fn_ok G.F_are_items sc_are_items rfl (fun cdv A0 outer s H E hr => ?_)
  have nd := sc_are_items.nd
  exact (xSeq (xIf (xCmpT (op_eqD (hr.units)) f_eq (nomark _) (xVar 0) (xStr (y := ⟨#[102, 105, 110, 105, 115, 104]⟩) (by decide +kernel))) (xOne (xRet (xAndV (xCall (ok_is_who G) (hr.mono (by decide)) (by rfl) G.g_is_who G.F_is_who.kp G.b_is_who (xCons (xSl (xVar 1) xPNo (xPSo (xInt))) xNil)) (xAndV (xCall (ok_is_key G) (hr.mono (by decide)) (by rfl) G.g_is_key G.F_is_key.kp G.b_is_key (xCons (xIx (hu_of hr) (xVar 1) (xInt) (fun _ _ => rfl)) xNil)) (xOneV (xCall (ok_is_value G) (hr.mono (by decide)) (by rfl) G.g_is_value G.F_is_value.kp G.b_is_value (xCons (xIx (hu_of hr) (xVar 1) (xInt) (fun _ _ => rfl)) xNil))))))) xSkip) (xSeq (xIf (xCmpT (op_eqD (hr.units)) f_eq (nomark _) (xVar 0) (xStr (y := ⟨#[103, 114, 97, 110, 116, 101, 100]⟩) (by decide +kernel))) (xOne (xRet (xAndV (xCall (ok_is_mark G) (hr.mono (by decide)) (by rfl) G.g_is_mark G.F_is_mark.kp G.b_is_mark (xCons (xSl (xVar 1) xPNo (xPSo (xInt))) xNil)) (xOneV (xCall (ok_is_value G) (hr.mono (by decide)) (by rfl) G.g_is_value G.F_is_value.kp G.b_is_value (xCons (xIx (hu_of hr) (xVar 1) (xInt) (fun _ _ => rfl)) xNil)))))) xSkip) (xSeq (xIf (xCmpT (op_eqD (hr.units)) f_eq (nomark _) (xVar 0) (xStr (y := ⟨#[98, 101, 104, 105, 110, 100]⟩) (by decide +kernel))) (xOne (xRet (xAndV (xCall (ok_is_mark G) (hr.mono (by decide)) (by rfl) G.g_is_mark G.F_is_mark.kp G.b_is_mark (xCons (xSl (xVar 1) xPNo (xPSo (xInt))) xNil)) (xOneV (xCall (ok_is_who G) (hr.mono (by decide)) (by rfl) G.g_is_who G.F_is_who.kp G.b_is_who (xCons (xSl (xVar 1) (xPSo (xInt)) xPNo) xNil)))))) xSkip) (xSeq (xIf (xCmpT (op_eqD (hr.units)) f_eq (nomark _) (xVar 0) (xStr (y := ⟨#[99, 97, 108, 108]⟩) (by decide +kernel))) (xOne (xRet (xAndV (xCall (ok_is_who G) (hr.mono (by decide)) (by rfl) G.g_is_who G.F_is_who.kp G.b_is_who (xCons (xSl (xVar 1) xPNo (xPSo (xInt))) xNil)) (xOneV (xCall (ok_is_mark G) (hr.mono (by decide)) (by rfl) G.g_is_mark G.F_is_mark.kp G.b_is_mark (xCons (xSl (xVar 1) (xPSo (xInt)) xPNo) xNil)))))) xSkip) (xSeq (xIf (xCmpT (op_eqD (hr.units)) f_eq (nomark _) (xVar 0) (xStr (y := ⟨#[109, 97, 114, 107, 115]⟩) (by decide +kernel))) (xOne (xRet (xAndV (xCall (ok_is_mark G) (hr.mono (by decide)) (by rfl) G.g_is_mark G.F_is_mark.kp G.b_is_mark (xCons (xSl (xVar 1) xPNo (xPSo (xInt))) xNil)) (xOneV (xCall (ok_are_marks G) (hr.mono (by decide)) (by rfl) G.g_are_marks G.F_are_marks.kp G.b_are_marks (xCons (xIx (hu_of hr) (xVar 1) (xInt) (fun _ _ => rfl)) xNil)))))) xSkip) (xOne (xRet (xAndV (xCall (ok_is_who G) (hr.mono (by decide)) (by rfl) G.g_is_who G.F_is_who.kp G.b_is_who (xCons (xSl (xVar 1) xPNo (xPSo (xInt))) xNil)) (xOneV (xCall (ok_is_key G) (hr.mono (by decide)) (by rfl) G.g_is_key G.F_is_key.kp G.b_is_key (xCons (xIx (hu_of hr) (xVar 1) (xInt) (fun _ _ => rfl)) xNil)))))))))))
abbrev N_is_body : List Str := ["thing", "word"]
theorem sc_is_body : FnScope N_is_body ["thing"] (defScope s_is_body) := ⟨rfl, rfl, rfl, by decide +kernel, rfl, by decide +kernel, by decide +kernel⟩
theorem ok_is_body (G : Gm K mg A) : FnOk P A.w K mg base CX0 8 A.a_is_body A.d_is_body ["thing"] (spF K 1 (F_is_body A.toCA)) := by
  refine fn_ok G.F_is_body sc_is_body rfl (fun cdv A0 outer s H E hr => ?_)
  have nd := sc_is_body.nd
  exact (xSeq (xIf (PW.pt (xOr (xTyNotT (xVar 0) (by decide +kernel) (by rfl) G.z_tuple (by rfl) G.z_type) (xOr (xCmpT (op_eqE (hr.units)) f_eqE (nomark _) (xVar 0) (xTup xNil)) (xOr1 (xTyNotT (xIx (hu_of hr) (xVar 0) (xInt) (fun _ _ => rfl)) (by decide +kernel) (by rfl) G.z_str (by rfl) G.z_type))))) (xOne (xRet (xBl))) xSkip) (xSeq (xSet (i := 1) nd rfl (by first | exact Or.inl rfl | exact Or.inr rfl) (xIx (hu_of hr) (xVar 0) (xInt) (fun _ _ => rfl))) (xOne (xRet (xAndV (xCmp (op_eqD (hr.units)) f_eq (nomark _) (xGetG rfl G.d_LENGTHS (xVar 1) (xInt) ⟨by rfl, by rfl, by rfl, by rfl⟩) (xCB call_lenA f_len (by rfl) G.z_len (by decide +kernel) (xCons (xVar 0) xNil))) (xOneV (xCall (ok_are_items G) (hr.mono (by decide)) (by rfl) G.g_are_items G.F_are_items.kp G.b_are_items (xCons (xVar 1) (xCons (xSl (xVar 0) (xPSo (xInt)) xPNo) xNil)))))))))
abbrev N_law_odd : List Str := ["stream", "things"]
theorem sc_law_odd : FnScope N_law_odd ["stream"] (defScope s_law_odd) := ⟨rfl, rfl, rfl, by decide +kernel, rfl, by decide +kernel, by decide +kernel⟩
theorem ok_law_odd (G : Gm K mg A) : FnOk P A.w K mg base CX0 2 A.a_law_odd A.d_law_odd ["stream"] (spF K 1 (F_law_odd A.toCA)) := by
  refine fn_ok G.F_law_odd sc_law_odd rfl (fun cdv A0 outer s H E hr => ?_)
  have nd := sc_law_odd.nd
  exact (xSeq (xSet (i := 1) nd rfl (by first | exact Or.inl rfl | exact Or.inr rfl) (xLst (xCons (xNon) (xCons (xBl) (xCons (xBl) (xCons (xInt) (xCons (xInt) (xCons (xUn un_neg f_neg (xInt)) (xCons (xOp op_pow f_pow (xInt) (xInt)) (xCons (xOp op_addA f_add (xOp op_pow f_pow (xInt) (xInt)) (xInt)) (xCons (xUn un_neg f_neg (xOp op_pow f_pow (xInt) (xInt))) (xCons (xOp op_sub f_sub (xUn un_neg f_neg (xOp op_pow f_pow (xInt) (xInt))) (xInt)) (xCons (xOp op_pow f_pow (xInt) (xInt)) (xCons (xOp op_addA f_add (xOp op_pow f_pow (xInt) (xInt)) (xInt)) xNil)))))))))))))) (xSeq (xSet (i := 1) nd rfl (by first | exact Or.inl rfl | exact Or.inr rfl) (xOp op_addA f_add (xVar 1) (xLst (xCons (xUn un_neg f_neg (xOp op_pow f_pow (xInt) (xInt))) (xCons (xOp op_sub f_sub (xUn un_neg f_neg (xOp op_pow f_pow (xInt) (xInt))) (xInt)) (xCons (xStr (y := ⟨#[]⟩) (by decide +kernel)) (xCons (xStr (y := ⟨#[97]⟩) (by decide +kernel)) (xCons (xStr (y := ⟨#[65]⟩) (by decide +kernel)) (xCons (xStr (y := ⟨#[97, 49]⟩) (by decide +kernel)) (xCons (xStr (y := ⟨#[97, 32, 98]⟩) (by decide +kernel)) (xCons (xStr (y := ⟨#[97, 98, 99, 100, 101, 102, 103, 104, 105, 106, 107, 108, 109]⟩) (by decide +kernel)) (xCons (xTup xNil) (xCons (xLst xNil) (xCons (xDict0) (xCons (xStr (y := ⟨#[97, 10]⟩) (by decide +kernel)) (xCons (xTup (xCons (xStr (y := ⟨#[97]⟩) (by decide +kernel)) xNil)) xNil)))))))))))))))) (xSeq (xSet (i := 1) nd rfl (by first | exact Or.inl rfl | exact Or.inr rfl) (xOp op_addA f_add (xVar 1) (xLst (xCons (xLst (xCons (xStr (y := ⟨#[97]⟩) (by decide +kernel)) xNil)) (xCons (xTup (xCons (xInt) (xCons (xStr (y := ⟨#[97]⟩) (by decide +kernel)) xNil))) (xCons (xLst (xCons (xInt) (xCons (xStr (y := ⟨#[97]⟩) (by decide +kernel)) xNil))) (xCons (xTup (xCons (xInt) (xCons (xInt) xNil))) (xCons (xTup (xCons (xInt) (xCons (xInt) xNil))) (xCons (xTup (xCons (xBl) (xCons (xStr (y := ⟨#[97]⟩) (by decide +kernel)) xNil))) (xCons (xTup (xCons (xInt) (xCons (xBl) xNil))) (xCons (xTup (xCons (xNon) (xCons (xNon) xNil))) (xCons (xTup (xCons (xTup (xCons (xInt) (xCons (xInt) xNil))) (xCons (xInt) xNil))) xNil)))))))))))) (xOne (xRet (xIx (hu_of hr) (xVar 1) (xCall (ok_law_next G) (hr.mono (by decide)) (by rfl) G.g_law_next G.F_law_next.kp G.b_law_next (xCons (xVar 0) (xCons (xInt) xNil))) (fun _ _ => rfl)))))))
abbrev N_law_spoilt_body : List Str := ["body", "stream", "kind", "at", "words", "one", "last"]
theorem sc_law_spoilt_body : FnScope N_law_spoilt_body ["body", "stream"] (defScope s_law_spoilt_body) := ⟨rfl, rfl, rfl, by decide +kernel, rfl, by decide +kernel, by decide +kernel⟩
theorem ok_law_spoilt_body (G : Gm K mg A) : FnOk P A.w K mg base CX0 3 A.a_law_spoilt_body A.d_law_spoilt_body ["body", "stream"] (spF K 2 (F_law_spoilt_body A.toCA)) := by
  refine fn_ok G.F_law_spoilt_body sc_law_spoilt_body rfl (fun cdv A0 outer s H E hr => ?_)
  have nd := sc_law_spoilt_body.nd
  exact (xSeq (xSet (i := 2) nd rfl (by first | exact Or.inl rfl | exact Or.inr rfl) (xCall (ok_law_next G) (hr.mono (by decide)) (by rfl) G.g_law_next G.F_law_next.kp G.b_law_next (xCons (xVar 1) (xCons (xInt) xNil)))) (xSeq (xSet (i := 3) nd rfl (by first | exact Or.inl rfl | exact Or.inr rfl) (xCall (ok_law_next G) (hr.mono (by decide)) (by rfl) G.g_law_next G.F_law_next.kp G.b_law_next (xCons (xVar 1) (xCons (xCB call_lenA f_len (by rfl) G.z_len (by decide +kernel) (xCons (xVar 0) xNil)) xNil)))) (xSeq (xIf (xCmpT (op_eqD (hr.units)) f_eq (nomark _) (xVar 2) (xInt)) (xOne (xRet (xCT call_list_of f_list (by rfl) G.z_list (by decide +kernel) (xCons (xVar 0) xNil)))) xSkip) (xSeq (xIf (xCmpT (op_eqD (hr.units)) f_eq (nomark _) (xVar 2) (xInt)) (xOne (xRet (xOp op_addA f_add (xSl (xVar 0) xPNo (xPSo (xVar 3))) (xSl (xVar 0) (xPSo (xOp op_addA f_add (xVar 3) (xInt))) xPNo)))) xSkip) (xSeq (xIf (xCmpT (op_eqD (hr.units)) f_eq (nomark _) (xVar 2) (xInt)) (xOne (xRet (xOp op_addA f_add (xVar 0) (xTup (xCons (xIx (hu_of hr) (xVar 0) (xVar 3) (fun _ _ => rfl)) xNil))))) xSkip) (xSeq (xIf (xCmpT (op_eqD (hr.units)) f_eq (nomark _) (xVar 2) (xInt)) (xSeq (xSet (i := 4) nd rfl (by first | exact Or.inl rfl | exact Or.inr rfl) (xTup (xCons (xStr (y := ⟨#[97, 115, 107]⟩) (by decide +kernel)) (xCons (xStr (y := ⟨#[102, 114, 101, 101]⟩) (by decide +kernel)) (xCons (xStr (y := ⟨#[102, 114, 101, 101, 100]⟩) (by decide +kernel)) (xCons (xStr (y := ⟨#[102, 105, 110, 105, 115, 104, 101, 100]⟩) (by decide +kernel)) (xCons (xStr (y := ⟨#[102, 105, 110, 105, 115, 104]⟩) (by decide +kernel)) (xCons (xStr (y := ⟨#[103, 114, 97, 110, 116, 101, 100]⟩) (by decide +kernel)) (xCons (xStr (y := ⟨#[98, 101, 104, 105, 110, 100]⟩) (by decide +kernel)) (xCons (xStr (y := ⟨#[99, 97, 108, 108]⟩) (by decide +kernel)) (xCons (xStr (y := ⟨#[109, 97, 114, 107, 115]⟩) (by decide +kernel)) (xCons (xStr (y := ⟨#[65, 115, 107]⟩) (by decide +kernel)) (xCons (xStr (y := ⟨#[]⟩) (by decide +kernel)) xNil))))))))))))) (xOne (xRet (xOp op_addA f_add (xTup (xCons (xIx (hu_of hr) (xVar 4) (xCall (ok_law_next G) (hr.mono (by decide)) (by rfl) G.g_law_next G.F_law_next.kp G.b_law_next (xCons (xVar 1) (xCons (xInt) xNil))) (fun _ _ => rfl)) xNil)) (xSl (xVar 0) (xPSo (xInt)) xPNo))))) xSkip) (xSeq (xIf (PW.pt (xAnd (xCmpT (op_eqD (hr.units)) f_eq (nomark _) (xVar 2) (xInt)) (xAnd1 (xCmpT (op_eqD (hr.units)) f_eq (nomark _) (xIx (hu_of hr) (xVar 0) (xInt) (fun _ _ => rfl)) (xStr (y := ⟨#[109, 97, 114, 107, 115]⟩) (by decide +kernel)))))) (xSeq (xSet (i := 5) nd rfl (by first | exact Or.inl rfl | exact Or.inr rfl) (xOp op_addA f_add (xSl (xIx (hu_of hr) (xVar 0) (xInt) (fun _ _ => rfl)) xPNo (xPSo (xUn un_neg f_neg (xInt)))) (xTup (xCons (xCall (ok_law_odd G) (hr.mono (by decide)) (by rfl) G.g_law_odd G.F_law_odd.kp G.b_law_odd (xCons (xVar 1) xNil)) xNil)))) (xSeq (xSet (i := 6) nd rfl (by first | exact Or.inl rfl | exact Or.inr rfl) (xOp op_addA f_add (xIx (hu_of hr) (xVar 0) (xInt) (fun _ _ => rfl)) (xTup (xCons (xOp op_addA f_add (xSl (xIx (hu_of hr) (xIx (hu_of hr) (xVar 0) (xInt) (fun _ _ => rfl)) (xUn un_neg f_neg (xInt)) (fun _ _ => rfl)) xPNo (xPSo (xInt))) (xTup (xCons (xInt) xNil))) xNil)))) (xOne (xRet (xOp op_addA f_add (xSl (xVar 0) xPNo (xPSo (xInt))) (xTup (xCons (xIx (hu_of hr) (xTup (xCons (xOp op_addA f_add (xIx (hu_of hr) (xVar 0) (xInt) (fun _ _ => rfl)) (xIx (hu_of hr) (xVar 0) (xInt) (fun _ _ => rfl))) (xCons (xRev (xIx (hu_of hr) (xVar 0) (xInt) (fun _ _ => rfl)) (xUn un_neg f_neg (xInt))) (xCons (xTup xNil) (xCons (xCT call_list_of f_list (by rfl) G.z_list (by decide +kernel) (xCons (xIx (hu_of hr) (xVar 0) (xInt) (fun _ _ => rfl)) xNil)) (xCons (xVar 5) (xCons (xVar 6) xNil))))))) (xCall (ok_law_next G) (hr.mono (by decide)) (by rfl) G.g_law_next G.F_law_next.kp G.b_law_next (xCons (xVar 1) (xCons (xInt) xNil))) (fun _ _ => rfl)) xNil))))))) xSkip) (xOne (xRet (xOp op_addA f_add (xOp op_addA f_add (xSl (xVar 0) xPNo (xPSo (xVar 3))) (xTup (xCons (xCall (ok_law_odd G) (hr.mono (by decide)) (by rfl) G.g_law_odd G.F_law_odd.kp G.b_law_odd (xCons (xVar 1) xNil)) xNil))) (xSl (xVar 0) (xPSo (xOp op_addA f_add (xVar 3) (xInt))) xPNo)))))))))))
abbrev N_law_is_int : List Str := ["thing", "least", "most"]
theorem sc_law_is_int : FnScope N_law_is_int ["thing", "least", "most"] (defScope s_law_is_int) := ⟨rfl, rfl, rfl, by decide +kernel, rfl, by decide +kernel, by decide +kernel⟩
theorem ok_law_is_int (G : Gm K mg A) : FnOk P A.w K mg base CX0 1 A.a_law_is_int A.d_law_is_int ["thing", "least", "most"] (spF K 3 (F_law_is_int A.toCA)) := by
  refine fn_ok G.F_law_is_int sc_law_is_int rfl (fun cdv A0 outer s H E hr => ?_)
  have nd := sc_law_is_int.nd
  exact (xOne (xRet (xAndV (xIsi (xVar 0) (by decide +kernel) (by rfl) G.z_int (by rfl) G.z_isinstance) (xAndV (xNotV (xIsi (xVar 0) (by decide +kernel) (by rfl) G.z_bool (by rfl) G.z_isinstance)) (xAndV (xCmp op_ge f_ge (nomark _) (xVar 0) (xVar 1)) (xOneV (xCmp op_le f_le (nomark _) (xVar 0) (xVar 2))))))))
abbrev N_law_is_transaction : List Str := ["thing"]
theorem sc_law_is_transaction : FnScope N_law_is_transaction ["thing"] (defScope s_law_is_transaction) := ⟨rfl, rfl, rfl, by decide +kernel, rfl, by decide +kernel, by decide +kernel⟩
theorem ok_law_is_transaction (G : Gm K mg A) : FnOk P A.w K mg base CX0 2 A.a_law_is_transaction A.d_law_is_transaction ["thing"] (spF K 1 (F_law_is_transaction A.toCA)) := by
  refine fn_ok G.F_law_is_transaction sc_law_is_transaction rfl (fun cdv A0 outer s H E hr => ?_)
  have nd := sc_law_is_transaction.nd
  exact (xSeq (xIf (PW.pt (xOr (xNot (xVal (xIsi (xVar 0) (by decide +kernel) (by rfl) G.z_tuple (by rfl) G.z_isinstance))) (xOr1 (xCmpT (op_neD (hr.units)) f_ne (nomark _) (xCB call_lenA f_len (by rfl) G.z_len (by decide +kernel) (xCons (xVar 0) xNil)) (xInt))))) (xOne (xRet (xBl))) xSkip) (xOne (xRet (xAndV (xCall (ok_law_is_int G) (hr.mono (by decide)) (by rfl) G.g_law_is_int G.F_law_is_int.kp G.b_law_is_int (xCons (xIx (hu_of hr) (xVar 0) (xInt) (fun _ _ => rfl)) (xCons (xInt) (xCons (xOp op_pow f_pow (xInt) (xInt)) xNil)))) (xOneV (xCall (ok_law_is_int G) (hr.mono (by decide)) (by rfl) G.g_law_is_int G.F_law_is_int.kp G.b_law_is_int (xCons (xIx (hu_of hr) (xVar 0) (xInt) (fun _ _ => rfl)) (xCons (xInt) (xCons (xOp op_pow f_pow (xInt) (xInt)) xNil)))))))))
abbrev N_law_is_who : List Str := ["thing"]
theorem sc_law_is_who : FnScope N_law_is_who ["thing"] (defScope s_law_is_who) := ⟨rfl, rfl, rfl, by decide +kernel, rfl, by decide +kernel, by decide +kernel⟩
theorem ok_law_is_who (G : Gm K mg A) : FnOk P A.w K mg base CX0 3 A.a_law_is_who A.d_law_is_who ["thing"] (spF K 1 (F_law_is_who A.toCA)) := by
  refine fn_ok G.F_law_is_who sc_law_is_who rfl (fun cdv A0 outer s H E hr => ?_)
  have nd := sc_law_is_who.nd
  exact (xSeq (xIf (PW.pt (xOr (xNot (xVal (xIsi (xVar 0) (by decide +kernel) (by rfl) G.z_tuple (by rfl) G.z_isinstance))) (xOr1 (xCmpT (op_neD (hr.units)) f_ne (nomark _) (xCB call_lenA f_len (by rfl) G.z_len (by decide +kernel) (xCons (xVar 0) xNil)) (xInt))))) (xOne (xRet (xBl))) xSkip) (xOne (xRet (xAndV (xCall (ok_law_is_transaction G) (hr.mono (by decide)) (by rfl) G.g_law_is_transaction G.F_law_is_transaction.kp G.b_law_is_transaction (xCons (xIx (hu_of hr) (xVar 0) (xInt) (fun _ _ => rfl)) xNil)) (xOneV (xCall (ok_law_is_int G) (hr.mono (by decide)) (by rfl) G.g_law_is_int G.F_law_is_int.kp G.b_law_is_int (xCons (xIx (hu_of hr) (xVar 0) (xInt) (fun _ _ => rfl)) (xCons (xInt) (xCons (xOp op_pow f_pow (xInt) (xInt)) xNil)))))))))
abbrev N_law_is_name : List Str := ["thing", "char"]
theorem sc_law_is_name : FnScope N_law_is_name ["thing"] (defScope s_law_is_name) := ⟨rfl, rfl, rfl, by decide +kernel, rfl, by decide +kernel, by decide +kernel⟩
theorem ok_law_is_name (G : Gm K mg A) : FnOk P A.w K mg base CX0 1 A.a_law_is_name A.d_law_is_name ["thing"] (spF K 1 (F_law_is_name A.toCA)) := by
  refine fn_ok G.F_law_is_name sc_law_is_name rfl (fun cdv A0 outer s H E hr => ?_)
  have nd := sc_law_is_name.nd
  exact (xSeq (xIf (PW.pt (xOr (xNot (xVal (xIsi (xVar 0) (by decide +kernel) (by rfl) G.z_str (by rfl) G.z_isinstance))) (xOr (xCmpT op_lt f_lt (nomark _) (xCB call_lenA f_len (by rfl) G.z_len (by decide +kernel) (xCons (xVar 0) xNil)) (xInt)) (xOr1 (xCmpT op_gt f_gt (nomark _) (xCB call_lenA f_len (by rfl) G.z_len (by decide +kernel) (xCons (xVar 0) xNil)) (xInt)))))) (xOne (xRet (xBl))) xSkip) (xOne (xRet (xCmp (op_eqD (hr.units)) f_eq (nomark _) (xComp rfl nd (xIterS (xVar 0)) (blkOk_by (N := N_law_is_name) (sc := defScope s_law_is_name) (by decide +kernel)) (fun _ _ _ _ _ => pg_name (i := 1) nd rfl (Or.inl rfl)) (fun _ _ _ _ _ => (xTst (xCmpT op_notIn_sign f_notInS rfl (xVar 1) (xStr (y := ⟨#[97, 98, 99, 100, 101, 102, 103, 104, 105, 106, 107, 108, 109, 110, 111, 112, 113, 114, 115, 116, 117, 118, 119, 120, 121, 122]⟩) (by decide +kernel))))) (fun _ _ _ _ _ => (xVar 1))) (xLst xNil)))))
abbrev N_law_is_key : List Str := ["thing"]
theorem sc_law_is_key : FnScope N_law_is_key ["thing"] (defScope s_law_is_key) := ⟨rfl, rfl, rfl, by decide +kernel, rfl, by decide +kernel, by decide +kernel⟩
theorem ok_law_is_key (G : Gm K mg A) : FnOk P A.w K mg base CX0 2 A.a_law_is_key A.d_law_is_key ["thing"] (spF K 1 (F_law_is_key A.toCA)) := by
  refine fn_ok G.F_law_is_key sc_law_is_key rfl (fun cdv A0 outer s H E hr => ?_)
  have nd := sc_law_is_key.nd
  exact (xOne (xRet (xAndV (xIsi (xVar 0) (by decide +kernel) (by rfl) G.z_tuple (by rfl) G.z_isinstance) (xAndV (xCmp (op_eqD (hr.units)) f_eq (nomark _) (xCB call_lenA f_len (by rfl) G.z_len (by decide +kernel) (xCons (xVar 0) xNil)) (xInt)) (xAndV (xCall (ok_law_is_int G) (hr.mono (by decide)) (by rfl) G.g_law_is_int G.F_law_is_int.kp G.b_law_is_int (xCons (xIx (hu_of hr) (xVar 0) (xInt) (fun _ _ => rfl)) (xCons (xInt) (xCons (xOp op_pow f_pow (xInt) (xInt)) xNil)))) (xOneV (xCall (ok_law_is_name G) (hr.mono (by decide)) (by rfl) G.g_law_is_name G.F_law_is_name.kp G.b_law_is_name (xCons (xIx (hu_of hr) (xVar 0) (xInt) (fun _ _ => rfl)) xNil))))))))
abbrev N_law_is_mark : List Str := ["thing"]
theorem sc_law_is_mark : FnScope N_law_is_mark ["thing"] (defScope s_law_is_mark) := ⟨rfl, rfl, rfl, by decide +kernel, rfl, by decide +kernel, by decide +kernel⟩
theorem ok_law_is_mark (G : Gm K mg A) : FnOk P A.w K mg base CX0 4 A.a_law_is_mark A.d_law_is_mark ["thing"] (spF K 1 (F_law_is_mark A.toCA)) := by
  refine fn_ok G.F_law_is_mark sc_law_is_mark rfl (fun cdv A0 outer s H E hr => ?_)
  have nd := sc_law_is_mark.nd
  exact (xSeq (xIf (PW.pt (xOr (xNot (xVal (xIsi (xVar 0) (by decide +kernel) (by rfl) G.z_tuple (by rfl) G.z_isinstance))) (xOr (xCmpT (op_neD (hr.units)) f_ne (nomark _) (xCB call_lenA f_len (by rfl) G.z_len (by decide +kernel) (xCons (xVar 0) xNil)) (xInt)) (xOr1 (xNot (xVal (xCall (ok_law_is_who G) (hr.mono (by decide)) (by rfl) G.g_law_is_who G.F_law_is_who.kp G.b_law_is_who (xCons (xSl (xVar 0) xPNo (xPSo (xInt))) xNil)))))))) (xOne (xRet (xBl))) xSkip) (xOne (xRet (xAndV (xCall (ok_law_is_key G) (hr.mono (by decide)) (by rfl) G.g_law_is_key G.F_law_is_key.kp G.b_law_is_key (xCons (xIx (hu_of hr) (xVar 0) (xInt) (fun _ _ => rfl)) xNil)) (xOneV (xCall (ok_law_is_int G) (hr.mono (by decide)) (by rfl) G.g_law_is_int G.F_law_is_int.kp G.b_law_is_int (xCons (xIx (hu_of hr) (xVar 0) (xInt) (fun _ _ => rfl)) (xCons (xInt) (xCons (xOp op_pow f_pow (xInt) (xInt)) xNil)))))))))
abbrev N_law_is_marks : List Str := ["thing", "k", "mark"]
theorem sc_law_is_marks : FnScope N_law_is_marks ["thing"] (defScope s_law_is_marks) := ⟨rfl, rfl, rfl, by decide +kernel, rfl, by decide +kernel, by decide +kernel⟩
theorem ok_law_is_marks (G : Gm K mg A) : FnOk P A.w K mg base CX0 5 A.a_law_is_marks A.d_law_is_marks ["thing"] (spF K 1 (F_law_is_marks A.toCA)) := by
  refine fn_ok G.F_law_is_marks sc_law_is_marks rfl (fun cdv A0 outer s H E hr => ?_)
  have nd := sc_law_is_marks.nd
  exact (xSeq (xIf (PW.pt (xOr (xNot (xVal (xIsi (xVar 0) (by decide +kernel) (by rfl) G.z_tuple (by rfl) G.z_isinstance))) (xOr (xCmpT (op_eqD (hr.units)) f_eq (nomark _) (xCB call_lenA f_len (by rfl) G.z_len (by decide +kernel) (xCons (xVar 0) xNil)) (xInt)) (xOr1 (xCmpT (op_neLD (hr.units)) f_neL (nomark _) (xComp rfl nd (xIter (xVar 0)) (blkOk_by (N := N_law_is_marks) (sc := defScope s_law_is_marks) (by decide +kernel)) (fun _ _ _ _ _ => pg_name (i := 2) nd rfl (Or.inl rfl)) (fun _ _ _ _ _ => (xTst (xNot (xVal (xCall (ok_law_is_mark G) (hr.mono (by decide)) (by rfl) G.g_law_is_mark G.F_law_is_mark.kp G.b_law_is_mark (xCons (xVar 2) xNil)))))) (fun _ _ _ _ _ => (xVar 2))) (xLst xNil)))))) (xOne (xRet (xBl))) xSkip) (xSeq (xFor PassesOwn.never rfl (xRng2 (by rfl) G.z_range (xCons (xInt) (xCons (xCB call_lenA f_len (by rfl) G.z_len (by decide +kernel) (xCons (xVar 0) xNil)) xNil))) (xgN nd rfl (by first | exact Or.inl rfl | exact Or.inr rfl)) (xOne (xIf (xNot (xCmpT (op_ltP (hu65 hr)) f_ltP (nomark _) (xIx (hu_of hr) (xVar 0) (xOp op_sub f_sub (xVar 1) (xInt)) (fun _ _ => rfl)) (xIx (hu_of hr) (xVar 0) (xVar 1) (fun _ _ => rfl)))) (xOne (xRet (xBl))) xSkip))) (xOne (xRet (xBl)))))
abbrev N_law_is_body : List Str := ["thing", "kind"]
theorem sc_law_is_body : FnScope N_law_is_body ["thing"] (defScope s_law_is_body) := ⟨rfl, rfl, rfl, by decide +kernel, rfl, by decide +kernel, by decide +kernel⟩
theorem ok_law_is_body (G : Gm K mg A) : FnOk P A.w K mg base CX0 6 A.a_law_is_body A.d_law_is_body ["thing"] (spF K 1 (F_law_is_body A.toCA)) := by
  refine fn_ok G.F_law_is_body sc_law_is_body rfl (fun cdv A0 outer s H E hr => ?_)
  have nd := sc_law_is_body.nd
  exact (xSeq (xIf (PW.pt (xOr (xNot (xVal (xIsi (xVar 0) (by decide +kernel) (by rfl) G.z_tuple (by rfl) G.z_isinstance))) (xOr (xCmpT op_lt f_lt (nomark _) (xCB call_lenA f_len (by rfl) G.z_len (by decide +kernel) (xCons (xVar 0) xNil)) (xInt)) (xOr (xNot (xVal (xIsi (xIx (hu_of hr) (xVar 0) (xInt) (fun _ _ => rfl)) (by decide +kernel) (by rfl) G.z_str (by rfl) G.z_isinstance))) (xOr1 (xNot (xVal (xCall (ok_law_is_who G) (hr.mono (by decide)) (by rfl) G.g_law_is_who G.F_law_is_who.kp G.b_law_is_who (xCons (xSl (xVar 0) (xPSo (xInt)) (xPSo (xInt))) xNil))))))))) (xOne (xRet (xBl))) xSkip) (xSeq (xSet (i := 1) nd rfl (by first | exact Or.inl rfl | exact Or.inr rfl) (xIx (hu_of hr) (xVar 0) (xInt) (fun _ _ => rfl))) (xSeq (xIf (xCmpT (op_eqD (hr.units)) f_eq (nomark _) (xVar 1) (xStr (y := ⟨#[99, 97, 108, 108]⟩) (by decide +kernel))) (xOne (xRet (xAndV (xCmp (op_eqD (hr.units)) f_eq (nomark _) (xCB call_lenA f_len (by rfl) G.z_len (by decide +kernel) (xCons (xVar 0) xNil)) (xInt)) (xOneV (xCall (ok_law_is_mark G) (hr.mono (by decide)) (by rfl) G.g_law_is_mark G.F_law_is_mark.kp G.b_law_is_mark (xCons (xSl (xVar 0) (xPSo (xInt)) xPNo) xNil)))))) xSkip) (xSeq (xIf (xNot (xVal (xCall (ok_law_is_key G) (hr.mono (by decide)) (by rfl) G.g_law_is_key G.F_law_is_key.kp G.b_law_is_key (xCons (xIx (hu_of hr) (xVar 0) (xInt) (fun _ _ => rfl)) xNil)))) (xOne (xRet (xBl))) xSkip) (xSeq (xIf (xCmpT (op_inTu (hu65 hr)) f_inTu rfl (xVar 1) (xTup (xCons (xStr (y := ⟨#[97, 115, 107]⟩) (by decide +kernel)) (xCons (xStr (y := ⟨#[102, 114, 101, 101]⟩) (by decide +kernel)) (xCons (xStr (y := ⟨#[102, 114, 101, 101, 100]⟩) (by decide +kernel)) (xCons (xStr (y := ⟨#[102, 105, 110, 105, 115, 104, 101, 100]⟩) (by decide +kernel)) xNil)))))) (xOne (xRet (xCmp (op_eqD (hr.units)) f_eq (nomark _) (xCB call_lenA f_len (by rfl) G.z_len (by decide +kernel) (xCons (xVar 0) xNil)) (xInt)))) xSkip) (xSeq (xIf (xCmpT (op_eqD (hr.units)) f_eq (nomark _) (xVar 1) (xStr (y := ⟨#[102, 105, 110, 105, 115, 104]⟩) (by decide +kernel))) (xOne (xRet (xAndV (xCmp (op_eqD (hr.units)) f_eq (nomark _) (xCB call_lenA f_len (by rfl) G.z_len (by decide +kernel) (xCons (xVar 0) xNil)) (xInt)) (xOneV (xCall (ok_law_is_int G) (hr.mono (by decide)) (by rfl) G.g_law_is_int G.F_law_is_int.kp G.b_law_is_int (xCons (xIx (hu_of hr) (xVar 0) (xInt) (fun _ _ => rfl)) (xCons (xUn un_neg f_neg (xOp op_pow f_pow (xInt) (xInt))) (xCons (xOp op_pow f_pow (xInt) (xInt)) xNil)))))))) xSkip) (xSeq (xIf (PW.pt (xOr (xCmpT op_lt f_lt (nomark _) (xCB call_lenA f_len (by rfl) G.z_len (by decide +kernel) (xCons (xVar 0) xNil)) (xInt)) (xOr1 (xNot (xVal (xCall (ok_law_is_int G) (hr.mono (by decide)) (by rfl) G.g_law_is_int G.F_law_is_int.kp G.b_law_is_int (xCons (xIx (hu_of hr) (xVar 0) (xInt) (fun _ _ => rfl)) (xCons (xInt) (xCons (xOp op_pow f_pow (xInt) (xInt)) xNil))))))))) (xOne (xRet (xBl))) xSkip) (xSeq (xIf (xCmpT (op_eqD (hr.units)) f_eq (nomark _) (xVar 1) (xStr (y := ⟨#[103, 114, 97, 110, 116, 101, 100]⟩) (by decide +kernel))) (xOne (xRet (xAndV (xCmp (op_eqD (hr.units)) f_eq (nomark _) (xCB call_lenA f_len (by rfl) G.z_len (by decide +kernel) (xCons (xVar 0) xNil)) (xInt)) (xOneV (xCall (ok_law_is_int G) (hr.mono (by decide)) (by rfl) G.g_law_is_int G.F_law_is_int.kp G.b_law_is_int (xCons (xIx (hu_of hr) (xVar 0) (xInt) (fun _ _ => rfl)) (xCons (xUn un_neg f_neg (xOp op_pow f_pow (xInt) (xInt))) (xCons (xOp op_pow f_pow (xInt) (xInt)) xNil)))))))) xSkip) (xSeq (xIf (xCmpT (op_eqD (hr.units)) f_eq (nomark _) (xVar 1) (xStr (y := ⟨#[98, 101, 104, 105, 110, 100]⟩) (by decide +kernel))) (xOne (xRet (xAndV (xCmp (op_eqD (hr.units)) f_eq (nomark _) (xCB call_lenA f_len (by rfl) G.z_len (by decide +kernel) (xCons (xVar 0) xNil)) (xInt)) (xOneV (xCall (ok_law_is_who G) (hr.mono (by decide)) (by rfl) G.g_law_is_who G.F_law_is_who.kp G.b_law_is_who (xCons (xSl (xVar 0) (xPSo (xInt)) xPNo) xNil)))))) xSkip) (xOne (xRet (xAndV (xCmp (op_eqD (hr.units)) f_eq (nomark _) (xVar 1) (xStr (y := ⟨#[109, 97, 114, 107, 115]⟩) (by decide +kernel))) (xAndV (xCmp (op_eqD (hr.units)) f_eq (nomark _) (xCB call_lenA f_len (by rfl) G.z_len (by decide +kernel) (xCons (xVar 0) xNil)) (xInt)) (xOneV (xCall (ok_law_is_marks G) (hr.mono (by decide)) (by rfl) G.g_law_is_marks G.F_law_is_marks.kp G.b_law_is_marks (xCons (xIx (hu_of hr) (xVar 0) (xInt) (fun _ _ => rfl)) xNil))))))))))))))))
abbrev N_law_is_message : List Str := ["thing"]
theorem sc_law_is_message : FnScope N_law_is_message ["thing"] (defScope s_law_is_message) := ⟨rfl, rfl, rfl, by decide +kernel, rfl, by decide +kernel, by decide +kernel⟩
theorem ok_law_is_message (G : Gm K mg A) : FnOk P A.w K mg base CX0 7 A.a_law_is_message A.d_law_is_message ["thing"] (spF K 1 (F_law_is_message A.toCA)) := by
  refine fn_ok G.F_law_is_message sc_law_is_message rfl (fun cdv A0 outer s H E hr => ?_)
  have nd := sc_law_is_message.nd
  exact (xSeq (xIf (PW.pt (xOr (xNot (xVal (xIsi (xVar 0) (by decide +kernel) (by rfl) G.z_tuple (by rfl) G.z_isinstance))) (xOr (xCmpT (op_neD (hr.units)) f_ne (nomark _) (xCB call_lenA f_len (by rfl) G.z_len (by decide +kernel) (xCons (xVar 0) xNil)) (xInt)) (xOr1 (xNot (xVal (xCall (ok_law_is_body G) (hr.mono (by decide)) (by rfl) G.g_law_is_body G.F_law_is_body.kp G.b_law_is_body (xCons (xIx (hu_of hr) (xVar 0) (xInt) (fun _ _ => rfl)) xNil)))))))) (xOne (xRet (xBl))) xSkip) (xOne (xRet (xAndV (xCall (ok_law_is_int G) (hr.mono (by decide)) (by rfl) G.g_law_is_int G.F_law_is_int.kp G.b_law_is_int (xCons (xIx (hu_of hr) (xVar 0) (xInt) (fun _ _ => rfl)) (xCons (xInt) (xCons (xOp op_pow f_pow (xInt) (xInt)) xNil)))) (xOneV (xCall (ok_law_is_int G) (hr.mono (by decide)) (by rfl) G.g_law_is_int G.F_law_is_int.kp G.b_law_is_int (xCons (xIx (hu_of hr) (xVar 0) (xInt) (fun _ _ => rfl)) (xCons (xInt) (xCons (xOp op_pow f_pow (xInt) (xInt)) xNil)))))))))
abbrev N_is_message : List Str := ["thing"]
theorem sc_is_message : FnScope N_is_message ["thing"] (defScope s_is_message) := ⟨rfl, rfl, rfl, by decide +kernel, rfl, by decide +kernel, by decide +kernel⟩
theorem ok_is_message (G : Gm K mg A) : FnOk P A.w K mg base CX0 9 A.a_is_message A.d_is_message ["thing"] (spF K 1 (F_is_message A.toCA)) := by
  refine fn_ok G.F_is_message sc_is_message rfl (fun cdv A0 outer s H E hr => ?_)
  have nd := sc_is_message.nd
  exact (xSeq (xIf (PW.pt (xOr (xTyNotT (xVar 0) (by decide +kernel) (by rfl) G.z_tuple (by rfl) G.z_type) (xOr1 (xCmpT (op_neD (hr.units)) f_ne (nomark _) (xCB call_lenA f_len (by rfl) G.z_len (by decide +kernel) (xCons (xVar 0) xNil)) (xInt))))) (xOne (xRet (xBl))) xSkip) (xOne (xRet (xAndV (xCall (ok_is_number G) (hr.mono (by decide)) (by rfl) G.g_is_number G.F_is_number.kp G.b_is_number (xCons (xIx (hu_of hr) (xVar 0) (xInt) (fun _ _ => rfl)) xNil)) (xAndV (xCall (ok_is_number G) (hr.mono (by decide)) (by rfl) G.g_is_number G.F_is_number.kp G.b_is_number (xCons (xIx (hu_of hr) (xVar 0) (xInt) (fun _ _ => rfl)) xNil)) (xOneV (xCall (ok_is_body G) (hr.mono (by decide)) (by rfl) G.g_is_body G.F_is_body.kp G.b_is_body (xCons (xIx (hu_of hr) (xVar 0) (xInt) (fun _ _ => rfl)) xNil))))))))
abbrev N_law : List Str := ["script", "k", "stream", "body", "thing", "message", "others", "other"]
theorem sc_law : FnScope N_law ["script"] (defScope s_law) := ⟨rfl, rfl, rfl, by decide +kernel, rfl, by decide +kernel, by decide +kernel⟩
theorem ok_law (G : Gm K mg A) : FnOk P A.w K mg base CX0 10 A.a_law A.d_law ["script"] (spF K 1 (F_law A.toCA)) := by
  refine fn_ok G.F_law sc_law rfl (fun cdv A0 outer s H E hr => ?_)
  have nd := sc_law.nd
  exact (xSeq (xFor PassesOwn.never rfl (xRng1 (by rfl) G.z_range (xCons (xCB (call_min2 rfl) f_min2 (by rfl) G.z_min (by decide +kernel) (xCons (xCB call_lenA f_len (by rfl) G.z_len (by decide +kernel) (xCons (xVar 0) xNil)) (xCons (xInt) xNil))) xNil)) (xgN nd rfl (by first | exact Or.inl rfl | exact Or.inr rfl)) (xSeq (xSet (i := 2) nd rfl (by first | exact Or.inl rfl | exact Or.inr rfl) (xCall (ok_law_stream G) (hr.mono (by decide)) (by rfl) G.g_law_stream G.F_law_stream.kp G.b_law_stream (xCons (xIx (hu_of hr) (xVar 0) (xVar 1) (fun _ _ => rfl)) (xCons (xVar 1) xNil)))) (xSeq (xSet (i := 3) nd rfl (by first | exact Or.inl rfl | exact Or.inr rfl) (xCall (ok_law_drawn_body G) (hr.mono (by decide)) (by rfl) G.g_law_drawn_body G.F_law_drawn_body.kp G.b_law_drawn_body (xCons (xVar 2) xNil))) (xSeq (xIf (xNot (xVal (xCall (ok_law_flag G) (hr.mono (by decide)) (by rfl) G.g_law_flag G.F_law_flag.kp G.b_law_flag (xCons (xCall (ok_is_body G) (hr.mono (by decide)) (by rfl) G.g_is_body G.F_is_body.kp G.b_is_body (xCons (xVar 3) xNil)) (xCons (xBl) xNil))))) (xOne (xRet (xBl))) xSkip) (xOne (xFor PassesOwn.never rfl (xIter (xLst (xCons (xVar 3) (xCons (xCall (ok_law_spoilt_body G) (hr.mono (by decide)) (by rfl) G.g_law_spoilt_body G.F_law_spoilt_body.kp G.b_law_spoilt_body (xCons (xVar 3) (xCons (xVar 2) xNil))) (xCons (xCall (ok_law_odd G) (hr.mono (by decide)) (by rfl) G.g_law_odd G.F_law_odd.kp G.b_law_odd (xCons (xVar 2) xNil)) xNil))))) (xgN nd rfl (by first | exact Or.inl rfl | exact Or.inr rfl)) (xSeq (xIf (xNot (xVal (xCall (ok_law_flag G) (hr.mono (by decide)) (by rfl) G.g_law_flag G.F_law_flag.kp G.b_law_flag (xCons (xCall (ok_is_body G) (hr.mono (by decide)) (by rfl) G.g_is_body G.F_is_body.kp G.b_is_body (xCons (xVar 4) xNil)) (xCons (xCall (ok_law_is_body G) (hr.mono (by decide)) (by rfl) G.g_law_is_body G.F_law_is_body.kp G.b_law_is_body (xCons (xVar 4) xNil)) xNil))))) (xOne (xRet (xBl))) xSkip) (xSeq (xSet (i := 5) nd rfl (by first | exact Or.inl rfl | exact Or.inr rfl) (xTup (xCons (xCall (ok_law_number G) (hr.mono (by decide)) (by rfl) G.g_law_number G.F_law_number.kp G.b_law_number (xCons (xVar 2) xNil)) (xCons (xCall (ok_law_number G) (hr.mono (by decide)) (by rfl) G.g_law_number G.F_law_number.kp G.b_law_number (xCons (xVar 2) xNil)) (xCons (xVar 4) xNil))))) (xSeq (xSet (i := 6) nd rfl (by first | exact Or.inl rfl | exact Or.inr rfl) (xLst (xCons (xVar 5) (xCons (xCT call_list_of f_list (by rfl) G.z_list (by decide +kernel) (xCons (xVar 5) xNil)) (xCons (xSl (xVar 5) xPNo (xPSo (xInt))) (xCons (xOp op_addA f_add (xVar 5) (xTup (xCons (xInt) xNil))) (xCons (xTup (xCons (xCall (ok_law_odd G) (hr.mono (by decide)) (by rfl) G.g_law_odd G.F_law_odd.kp G.b_law_odd (xCons (xVar 2) xNil)) (xCons (xIx (hu_of hr) (xVar 5) (xInt) (fun _ _ => rfl)) (xCons (xVar 4) xNil)))) (xCons (xVar 4) xNil)))))))) (xSeq (xExpr (xBm PySem.F.plainAttrs_list PySem.F.slot_list_append PySem.F.type_list_append mt_append f_append (xVar 6) (xCons (xTup (xCons (xIx (hu_of hr) (xVar 5) (xInt) (fun _ _ => rfl)) (xCons (xCall (ok_law_odd G) (hr.mono (by decide)) (by rfl) G.g_law_odd G.F_law_odd.kp G.b_law_odd (xCons (xVar 2) xNil)) (xCons (xVar 4) xNil)))) xNil))) (xOne (xFor PassesOwn.never rfl (xIter (xVar 6)) (xgN nd rfl (by first | exact Or.inl rfl | exact Or.inr rfl)) (xOne (xIf (xNot (xVal (xCall (ok_law_flag G) (hr.mono (by decide)) (by rfl) G.g_law_flag G.F_law_flag.kp G.b_law_flag (xCons (xCall (ok_is_message G) (hr.mono (by decide)) (by rfl) G.g_is_message G.F_is_message.kp G.b_is_message (xCons (xVar 7) xNil)) (xCons (xCall (ok_law_is_message G) (hr.mono (by decide)) (by rfl) G.g_law_is_message G.F_law_is_message.kp G.b_law_is_message (xCons (xVar 7) xNil)) xNil))))) (xOne (xRet (xBl))) xSkip)))))))))))))) (xOne (xRet (xCmp op_is_bl f_isB (nomark _) (xCall (ok_is_body G) (hr.mono (by decide)) (by rfl) G.g_is_body G.F_is_body.kp G.b_is_body (xCons (xTup (xCons (xStr (y := ⟨#[97, 115, 107]⟩) (by decide +kernel)) (xCons (xTup (xCons (xInt) (xCons (xInt) xNil))) (xCons (xInt) (xCons (xTup (xCons (xInt) (xCons (xStr (y := ⟨#[97]⟩) (by decide +kernel)) xNil))) xNil))))) xNil)) (xBl)))))
end
end Qk26

namespace Qk26
open PySem L2 RF
theorem strlen {z : Str} : z.length = z.cps.toList.length := by simp [PySem.Str.length]
abbrev Sd := Int × Int
def stC (s : Sd) : Cell := .lst [.int s.1, .int s.2]
def dNext (size : Int) (s : Sd) : Int × Sd :=
  if 0 < s.1 then (s.1 % size, (s.1 / size, s.2)) else
    let b := (s.2 * 48271 + 12820163) % 2147483647
    ((b * 16807 + 5) % 2147483399 / 3 % size, (s.1, b))
theorem dNext_lo {size : Int} (h : 0 < size) (s : Sd) : 0 ≤ (dNext size s).1 := by
  unfold dNext; split <;> exact Int.emod_nonneg _ (by omega)
theorem dNext_hi {size : Int} (h : 0 < size) (s : Sd) : (dNext size s).1 < size := by
  unfold dNext; split <;> exact Int.emod_lt_of_pos _ h
def nextC (c : CA) (n : Nat) (size : Int) (S : Sto) : Option Cell → R D
  | some (.lst [.int a, .int b]) => .ok (.int (dNext size (a, b)).1) (S.set n (stC (dNext size (a, b)).2))
  | _ => F_law_next c [.ref n, .int size] S
theorem fT_nextC (c : CA) {n : Nat} {s : Sd} {size : Int} {S : Sto} : nextC c n size S (some (stC s)) = .ok (.int (dNext size s).1) (S.set n (stC (dNext size s).2)) := (rfl)
theorem next_eq (c : CA) {n : Nat} {size : Int} {S : Sto} (h0 : 0 < size) (h1 : size < 1267650600228229401496703205376) :
    F_law_next c [.ref n, .int size] S = nextC c n size S S[n]? := by
  unfold nextC
  split
  · rename_i a b h
    unfold F_law_next b_law_next
    by_cases ha : 0 < a
    · simp only [ap_fVar, varK_some, ap_fC, ap_fBin, ap_binK, ap_fApp, ap_fNil, ap_fCons, ap_consK, ap_consK2, ap_fTest, ap_testK, ap_fSkip, ap_fSeq, ap_seqK_nx, ap_seqK_rt, ap_fIf, ap_ifK, ap_fRet, ap_retK, ap_fAsg, ap_asgK, ap_asgK2, ap_gN, ap_gSub, ap_subK1, ap_subK2, ap_subK3, ap_fIx, ap_ixK, isDict_ref, isDictC_lst, getL_ref, getLC_lst, retO_some, atI_0, oSet_ref, setC_lst, setLK_some, ixN_0, ap_fnF, ap_fnK_rt, o_mod, o_div, o_gt, o_int, o_getD, lookD_ref, R.bind_ok, List.map_cons, List.map_nil, List.length_cons, List.length_nil, List.cons_append, List.nil_append, Nat.zero_add, Nat.reduceAdd, Nat.reduceSub, List.replicate_succ, List.replicate_zero, List.getElem?_cons_zero, List.getElem?_cons_succ, List.set_cons_zero, List.set_cons_succ, Bool.false_eq_true, if_true, if_false, decide_true, Int.reduceLE, and_self, h, set_get h, h0, h1, ha, stC, dNext]
    · simp only [ap_fVar, varK_some, ap_fC, ap_fBin, ap_binK, ap_fApp, ap_fNil, ap_fCons, ap_consK, ap_consK2, ap_fTest, ap_testK, ap_fSkip, ap_fSeq, ap_seqK_nx, ap_fIf, ap_ifK, ap_fRet, ap_retK, ap_fAsg, ap_asgK, ap_asgK2, ap_gN, ap_gSub, ap_subK1, ap_subK2, ap_subK3, ap_fIx, ap_ixK, isDict_ref, isDictC_lst, getL_ref, getLC_lst, retO_some, atI_0, atI_1, oSet_ref, setC_lst, setLK_some, ixN_0, ixN_1, ap_fnF, ap_fnK_rt, o_add, o_mul, o_mod, o_div, o_gt, o_int, o_getD, lookD_ref, R.bind_ok, List.map_cons, List.map_nil, List.length_cons, List.length_nil, List.cons_append, List.nil_append, Nat.zero_add, Nat.reduceAdd, Nat.reduceSub, List.replicate_succ, List.replicate_zero, List.getElem?_cons_zero, List.getElem?_cons_succ, List.set_cons_zero, List.set_cons_succ, Bool.false_eq_true, if_true, if_false, decide_false, Int.reduceLT, Int.reduceLE, Int.reduceNeg, Int.reducePow, or_true, and_self, h, set_get h, h0, h1, ha, stC, dNext]
  · rfl
def dNumber (s : Sd) : Int × Sd :=
  let (kind, s) := dNext 6 s
  if kind = 0 then let (x, s) := dNext 3 s; (10 ^ 12 - x, s)
  else if kind = 1 then let (x, s) := dNext (10 ^ 6) s; let (y, s) := dNext (10 ^ 6) s; (x * 10 ^ 6 + y, s)
  else dNext 20 s
theorem number_eq (c : CA) {n : Nat} {s : Sd} {S : Sto} (h : S[n]? = some (stC s)) :
    F_law_number c [.ref n] S = .ok (.int (dNumber s).1) (S.set n (stC (dNumber s).2)) := by
  unfold F_law_number b_law_number
  by_cases h0 : (dNext 6 s).1 = 0
  · simp only [ap_fVar, varK_some, ap_fC, ap_fBin, ap_binK, ap_fNil, ap_fCons, ap_consK, ap_consK2, ap_fTest, ap_testK, ap_fSkip, ap_fSeq, ap_seqK_nx, ap_seqK_rt, ap_fIf, ap_ifK, ap_fRet, ap_retK, ap_fAsg, ap_asgK, ap_asgK2, ap_gN, ap_fCall, ap_callK, ap_fnF, ap_fnK_rt, o_sub, o_pow, o_eq, eqK_some, eqv_int, toP_int, R.bind_ok, R.nox_ok, List.map_cons, List.map_nil, List.length_cons, List.length_nil, List.cons_append, List.nil_append, Nat.zero_add, Nat.reduceAdd, Nat.reduceSub, List.replicate_succ, List.replicate_zero, List.getElem?_cons_zero, List.getElem?_cons_succ, List.set_cons_zero, List.set_cons_succ, List.append_nil, if_true, if_false, Nat.add_zero, Int.reduceLT, Int.reduceLE, Int.reduceNeg, Int.reducePow, and_self, Int.reduceToNat, beq_iff_eq, Int.reduceEq, List.set_set, next_eq, fT_nextC, h, set_get h, h0, dNumber]
  · by_cases h1 : (dNext 6 s).1 = 1
    · simp only [ap_fVar, varK_some, ap_fC, ap_fBin, ap_binK, ap_fNil, ap_fCons, ap_consK, ap_consK2, ap_fTest, ap_testK, ap_fSkip, ap_fSeq, ap_seqK_nx, ap_seqK_rt, ap_fIf, ap_ifK, ap_fRet, ap_retK, ap_fAsg, ap_asgK, ap_asgK2, ap_gN, ap_fCall, ap_callK, ap_fnF, ap_fnK_rt, o_add, o_sub, o_mul, o_pow, o_eq, eqK_some, eqv_int, toP_int, R.bind_ok, R.nox_ok, List.map_cons, List.map_nil, List.length_cons, List.length_nil, List.cons_append, List.nil_append, Nat.zero_add, Nat.reduceAdd, Nat.reduceSub, List.replicate_succ, List.replicate_zero, List.getElem?_cons_zero, List.getElem?_cons_succ, List.set_cons_zero, List.set_cons_succ, List.append_nil, if_true, if_false, Nat.add_zero, Int.reduceLT, Int.reduceLE, Int.reduceNeg, Int.reducePow, or_true, and_self, Int.reduceToNat, beq_iff_eq, Int.reduceEq, List.set_set, next_eq, fT_nextC, h, set_get h, h0, h1, dNumber]
    · simp only [ap_fVar, varK_some, ap_fC, ap_fBin, ap_binK, ap_fNil, ap_fCons, ap_consK, ap_consK2, ap_fTest, ap_testK, ap_fSkip, ap_fSeq, ap_seqK_nx, ap_fIf, ap_ifK, ap_fRet, ap_retK, ap_fAsg, ap_asgK, ap_asgK2, ap_gN, ap_fCall, ap_callK, ap_fnF, ap_fnK_rt, o_add, o_sub, o_mul, o_pow, o_eq, eqK_some, eqv_int, toP_int, R.bind_ok, R.nox_ok, List.map_cons, List.map_nil, List.length_cons, List.length_nil, List.cons_append, List.nil_append, Nat.zero_add, Nat.reduceAdd, Nat.reduceSub, List.replicate_succ, List.replicate_zero, List.getElem?_cons_zero, List.getElem?_cons_succ, List.set_cons_zero, List.set_cons_succ, List.append_nil, if_true, if_false, Nat.add_zero, Int.reduceLT, Int.reduceLE, Int.reduceNeg, Int.reducePow, or_true, and_self, Int.reduceToNat, beq_iff_eq, List.set_set, next_eq, fT_nextC, h, set_get h, h0, h1, dNumber]
def dInteger (s : Sd) : Int × Sd :=
  let (x, s) := dNumber s; let (y, s) := dNext 2 s; (x * (1 - 2 * y), s)
theorem dNumber_rng (s : Sd) : 0 ≤ (dNumber s).1 ∧ (dNumber s).1 ≤ 10 ^ 12 := by
  unfold dNumber
  have a1 := dNext_lo (size := 3) (by decide) (dNext 6 s).2
  have a2 := dNext_hi (size := 3) (by decide) (dNext 6 s).2
  have b1 := dNext_lo (size := 10 ^ 6) (by decide) (dNext 6 s).2
  have b2 := dNext_hi (size := 10 ^ 6) (by decide) (dNext 6 s).2
  have c1 := dNext_lo (size := 10 ^ 6) (by decide) (dNext (10 ^ 6) (dNext 6 s).2).2
  have c2 := dNext_hi (size := 10 ^ 6) (by decide) (dNext (10 ^ 6) (dNext 6 s).2).2
  have d1 := dNext_lo (size := 20) (by decide) (dNext 6 s).2
  have d2 := dNext_hi (size := 20) (by decide) (dNext 6 s).2
  simp only
  split
  · simp only; omega
  · split
    · simp only; omega
    · omega
def dLet (m : Nat) (s : Sd) : List Nat × Sd := match m with
  | 0 => ([], s)
  | m + 1 => let (x, s) := dNext 26 s; let (r, s) := dLet m s; ((97 + x.toNat) :: r, s)
def dName (s : Sd) : Str × Sd :=
  let (k, s) := dNext 2 s
  if k = 0 then let (x, s) := dNext 4 s; ((if x = 0 then ⟨#[97]⟩ else if x = 1 then ⟨#[98]⟩ else if x = 2 then ⟨#[97, 98]⟩ else ⟨#[122, 122]⟩), s)
  else let (x, s) := dNext 12 s; let (r, s) := dLet (1 + x.toNat) s; (⟨r.toArray⟩, s)
theorem dLet_len (m : Nat) (s : Sd) : (dLet m s).1.length = m := by
  induction m generalizing s with
  | zero => rfl
  | succ m ih => show ((97 + (dNext 26 s).1.toNat) :: (dLet m (dNext 26 s).2).1).length = _; rw [List.length_cons, ih]
theorem dLet_az (m : Nat) (s : Sd) : ∀ c ∈ (dLet m s).1, 97 ≤ c ∧ c ≤ 122 := by
  induction m generalizing s with
  | zero => intro c h; cases h
  | succ m ih =>
    intro c h
    rcases List.mem_cons.mp (show c ∈ (97 + (dNext 26 s).1.toNat) :: (dLet m (dNext 26 s).2).1 from h) with e | h
    · have h1 := dNext_lo (size := 26) (by decide) s
      have h2 := dNext_hi (size := 26) (by decide) s
      omega
    · exact ih _ c h
theorem join_nil (ys : List Str) : (Txt.join ⟨#[]⟩ ys).cps.toList = (ys.map (·.cps.toList)).flatten := by
  have key : ∀ (r : List Str) (acc : Array Nat), (r.foldl (fun acc p => acc ++ (⟨#[]⟩ : Str).cps ++ p.cps) acc).toList = acc.toList ++ (r.map (·.cps.toList)).flatten := by
    intro r
    induction r with
    | nil => intro acc; simp
    | cons y r ih => intro acc; rw [List.foldl_cons, ih]; simp
  cases ys with
  | nil => rfl
  | cons y r =>
    show (r.foldl (fun acc p => acc ++ (⟨#[]⟩ : Str).cps ++ p.cps) y.cps).toList = _
    rw [key]
    simp
def letS : Str := ⟨#[97, 98, 99, 100, 101, 102, 103, 104, 105, 106, 107, 108, 109, 110, 111, 112, 113, 114, 115, 116, 117, 118, 119, 120, 121, 122]⟩
def oneS (c : Nat) : Str := ⟨#[c]⟩
theorem letS_at {x : Int} (h0 : 0 ≤ x) (h1 : x < 26) : atI letS.cps.toList x = some (97 + x.toNat) := by
  rw [atI_nn h0]
  have : ∀ i < 26, letS.cps.toList[i]? = some (97 + i) := by decide
  exact this _ (by omega)
theorem let_comp (c : CA) {n : Nat} (xs : List D) : ∀ (s : Sd) (S : Sto) (acc : List D), S[n]? = some (stC s) → acc.length + xs.length ≤ 1000 →
    compX 2 fYes (ce_law_name_0 c) [some (D.ref n), some (D.str letS), none] xs acc S
      = .ok (.ref S.length) (S.set n (stC (dLet xs.length s).2) ++ [.lst (acc ++ (dLet xs.length s).1.map fun k => .str (oneS k))]) := by
  induction xs with
  | nil =>
    intro s S acc h hl
    simp only [compX_nil, List.map_nil, List.length_nil, List.append_nil, dLet]
    rw [set_self h]
  | cons d xs ih =>
    intro s S acc h hl
    have h1 := dNext_lo (size := 26) (by decide) s
    have h2 := dNext_hi (size := 26) (by decide) s
    have hz : letS.length ≤ 100000 := by decide
    rw [List.length_cons] at hl
    simp only [ap_fVar, varK_some, ap_fC, ap_fNil, ap_fCons, ap_consK, ap_consK2, ap_fIx, ap_ixK, isDict_str, getL_str, retO_some, ap_fCall, ap_callK, compX_cons, ap_compTK, ap_compEK, ap_fYes, o_getD, o_someMap, R.bind_ok, R.nox_ok, List.length_cons, List.length_nil, Nat.zero_add, Nat.reduceAdd, List.getElem?_cons_zero, List.getElem?_cons_succ, List.set_cons_zero, List.set_cons_succ, List.append_nil, Bool.false_eq_true, if_true, if_false, Nat.add_zero, Int.reduceLT, ap_ce_law_name_0, next_eq, fT_nextC, h, set_get h, hz, letS_at h1 h2]
    rw [if_pos (by omega), ih (dNext 26 s).2 _ _ (set_get h) (by rw [List.length_append, List.length_singleton]; omega)]
    simp only [List.map_cons, List.cons_append, List.nil_append, List.set_set, List.append_assoc, List.length_set, dLet, oneS, List.append_assoc]
theorem strs_of1 (l : List Nat) : strsD (l.map fun k => .str (oneS k)) = some (l.map oneS) := by
  induction l with
  | nil => rfl
  | cons a l ih =>
    show (strsD (l.map fun k => .str (oneS k))).map (oneS a :: ·) = _
    rw [ih]
    rfl
theorem sum_of1 (l : List Nat) : ((l.map oneS).map (·.length)).sum = l.length := by
  induction l with
  | nil => rfl
  | cons a l ih => rw [List.map_cons, List.map_cons, List.sum_cons, ih, List.length_cons]; show 1 + _ = _; omega
theorem flat_of1 (l : List Nat) : ((l.map oneS).map (·.cps.toList)).flatten = l := by
  induction l with
  | nil => rfl
  | cons a l ih => rw [List.map_cons, List.map_cons, List.flatten_cons, ih]; rfl
theorem join_of1 (l : List Nat) : Txt.join ⟨#[]⟩ (l.map oneS) = ⟨l.toArray⟩ := by
  have h := join_nil (l.map oneS)
  rw [flat_of1] at h
  generalize Txt.join ⟨#[]⟩ (l.map oneS) = z at h ⊢
  obtain ⟨⟨m⟩⟩ := z
  have h : m = l := h
  rw [h]
theorem name_eq (c : CA) {n : Nat} {s : Sd} {S : Sto} (h : S[n]? = some (stC s)) :
    ∃ T, F_law_name c [.ref n] S = .ok (.str (dName s).1) (S.set n (stC (dName s).2) ++ T) := by
  unfold F_law_name b_law_name
  have h1 := dNext_lo (size := 2) (by decide) s
  have h2 := dNext_hi (size := 2) (by decide) s
  have h3 := dNext_lo (size := 4) (by decide) (dNext 2 s).2
  have h4 := dNext_hi (size := 4) (by decide) (dNext 2 s).2
  have h5 := dNext_lo (size := 12) (by decide) (dNext 2 s).2
  have h6 := dNext_hi (size := 12) (by decide) (dNext 2 s).2
  by_cases h0 : (dNext 2 s).1 = 0
  · have h7 : (dNext 4 (dNext 2 s).2).1 = 0 ∨ (dNext 4 (dNext 2 s).2).1 = 1 ∨ (dNext 4 (dNext 2 s).2).1 = 2 ∨ (dNext 4 (dNext 2 s).2).1 = 3 := by omega
    refine ⟨[], ?_⟩
    rcases h7 with h7 | h7 | h7 | h7
    all_goals simp only [ap_fVar, varK_some, ap_fC, ap_fBin, ap_binK, ap_fNil, ap_fCons, ap_consK, ap_consK2, ap_fTup, ap_tupK, ap_fTest, ap_testK, ap_fSkip, ap_fSeq, ap_seqK_nx, ap_seqK_rt, ap_fIf, ap_ifK, ap_fRet, ap_retK, ap_fAsg, ap_asgK, ap_asgK2, ap_gN, ap_fIx, ap_ixK, isDict_tup, getL_tup, retO_some, atI_0, atI_1, atI_2, atI_3, ap_fCall, ap_callK, ap_fnF, ap_fnK_rt, o_eq, eqK_some, eqv_int, toP_int, o_getD, R.bind_ok, R.nox_ok, List.map_cons, List.map_nil, List.length_cons, List.length_nil, List.cons_append, List.nil_append, Nat.zero_add, Nat.reduceAdd, Nat.reduceSub, List.replicate_succ, List.replicate_zero, List.getElem?_cons_zero, List.set_cons_zero, List.set_cons_succ, List.append_nil, Bool.false_eq_true, if_true, if_false, Nat.add_zero, Nat.reduceLeDiff, Int.reduceLT, beq_iff_eq, Int.reduceEq, List.set_set, next_eq, fT_nextC, h, set_get h, h0, h7, dName]
  · generalize hm : (dNext 12 (dNext 2 s).2).1 = m at h5 h6
    generalize hs : (dNext 12 (dNext 2 s).2).2 = s1
    refine ⟨[.lst ((dLet (1 + m).toNat s1).1.map fun k => .str (oneS k))], ?_⟩
    have hr : (rngD 0 (1 + m).toNat).length = (1 + m).toNat := rngD_len
    have lc := let_comp c (n := n) (rngD 0 (1 + m).toNat) s1 (S.set n (stC s1)) [] (set_get h) (by rw [hr]; show 0 + _ ≤ _; omega)
    rw [hr] at lc
    unfold letS at lc
    have hl := dLet_len (1 + m).toNat s1
    have e : (1 + m).toNat = 1 + m.toNat := by omega
    simp only [ap_fVar, varK_some, ap_fC, ap_fBin, ap_binK, ap_fNil, ap_fCons, ap_consK, ap_consK2, ap_fTup, ap_tupK, ap_fTest, ap_testK, ap_fSkip, ap_fSeq, ap_seqK_nx, ap_fIf, ap_ifK, ap_fRet, ap_fAsg, ap_asgK, ap_asgK2, ap_gN, ap_fIx, ap_ixK, isDict_tup, getL_tup, ap_fCall, ap_callK, ap_fnF, o_add, o_eq, eqK_some, eqv_int, toP_int, ap_fRng1, ap_rng1K, ap_fComp, ap_fBm, ap_bmK, tyIn_str, o_getD, R.bind_ok, R.nox_ok, List.map_cons, List.map_nil, List.length_cons, List.length_nil, List.cons_append, List.nil_append, Nat.zero_add, Nat.reduceAdd, Nat.reduceSub, List.replicate_succ, List.replicate_zero, List.getElem?_cons_zero, List.set_cons_zero, List.set_cons_succ, List.append_nil, Bool.false_eq_true, if_true, if_false, decide_true, Nat.add_zero, Nat.reduceLeDiff, Int.reduceLT, Int.reduceNeg, Int.reducePow, beq_iff_eq, List.set_set, next_eq, fT_nextC, h, set_get h, h0, dName, hm, hs]
    rw [if_pos (by omega)]
    simp only [ap_fNil, ap_consK, ap_consK2, ap_compK_fix, R.bind_ok, List.nil_append, List.set_cons_zero, List.set_cons_succ, List.set_set, List.length_set, lc]
    rw [o_join (get_apps0) (strs_of1 _) (by rw [sum_of1, hl]; show _ + _ * 0 ≤ _; omega), join_of1]
    simp only [ap_retK, ap_fnK_rt, R.bind_ok, e]
theorem az_ok {l : List Nat} (h : ∀ c ∈ l, c < 200) : PyData.strOk ⟨l.toArray⟩ = true := by
  show (l.toArray).all _ = true
  simp only [List.all_toArray, List.all_eq_true, decide_eq_true_eq]
  intro c hc
  have := h c hc
  omega
theorem sm3 {z : Str} (h : decide (z.length ≤ 12 ∧ 1 ≤ z.length ∧ ∀ c ∈ z.cps.toList, 97 ≤ c ∧ c ≤ 122) = true) : z.length ≤ 12 ∧ 1 ≤ z.length ∧ ∀ c ∈ z.cps.toList, 97 ≤ c ∧ c ≤ 122 := of_decide_eq_true h
theorem dName_sm (s : Sd) : (dName s).1.length ≤ 12 ∧ 1 ≤ (dName s).1.length ∧ ∀ c ∈ (dName s).1.cps.toList, 97 ≤ c ∧ c ≤ 122 := by
  unfold dName
  simp only
  have h5 := dNext_lo (size := 12) (by decide) (dNext 2 s).2
  have h6 := dNext_hi (size := 12) (by decide) (dNext 2 s).2
  split
  · split
    · exact sm3 (z := ⟨#[97]⟩) (by decide)
    · split
      · exact sm3 (z := ⟨#[98]⟩) (by decide)
      · split
        · exact sm3 (z := ⟨#[97, 98]⟩) (by decide)
        · exact sm3 (z := ⟨#[122, 122]⟩) (by decide)
  · have hl := dLet_len (1 + (dNext 12 (dNext 2 s).2).1.toNat) (dNext 12 (dNext 2 s).2).2
    refine ⟨?_, ?_, dLet_az _ _⟩
    · show (dLet _ _).1.toArray.size ≤ 12
      rw [List.size_toArray, hl]; omega
    · show 1 ≤ (dLet _ _).1.toArray.size
      rw [List.size_toArray, hl]; omega
theorem atI_mem {α : Type} {l : List α} {x : Int} (h0 : 0 ≤ x) (h1 : x < l.length) : ∃ d, atI l x = some d ∧ d ∈ l := by
  rw [atI_nn h0]
  have h : x.toNat < l.length := by omega
  exact ⟨l[x.toNat], List.getElem?_eq_getElem h, List.getElem_mem h⟩
theorem az_iff (c : Nat) : (c ∈ letS.cps.toList) ↔ 97 ≤ c ∧ c ≤ 122 := by
  constructor
  · intro h
    have : ∀ c ∈ letS.cps.toList, 97 ≤ c ∧ c ≤ 122 := by decide
    exact this c h
  · intro ⟨h1, h2⟩
    have : ∀ k < 26, 97 + k ∈ letS.cps.toList := by decide
    have h := this (c - 97) (by omega)
    rwa [show 97 + (c - 97) = c by omega] at h
def intIn (a b : Int) : D → Bool
  | .int i => decide (a ≤ i) && decide (i ≤ b)
  | _ => false
def isIntD : D → Bool
  | .int _ => true
  | _ => false
theorem ty_ways {S : Sto} {d : D} {t : String} (h : tyD S d = some t) : (∃ i, d = .int i ∧ t = "int") ∨ (∃ b, d = .bl b ∧ t = "bool") ∨ (∃ z, d = .str z ∧ t = "str") ∨ (isIntD d = false ∧ (∀ i, d ≠ .int i) ∧ (∀ z, d ≠ .str z) ∧ (t = "NoneType" ∨ t = "tuple" ∨ t = "list" ∨ t = "dict")) := by
  cases d with
  | int i => cases h; exact .inl ⟨i, rfl, rfl⟩
  | bl b => cases h; exact .inr (.inl ⟨b, rfl, rfl⟩)
  | str z => cases h; exact .inr (.inr (.inl ⟨z, rfl, rfl⟩))
  | ref n =>
    rw [tyD_ref] at h
    refine .inr (.inr (.inr ⟨rfl, (fun _ e => by cases e), (fun _ e => by cases e), ?_⟩))
    unfold tyC at h
    split at h <;> cases h <;> simp
  | non => cases h; exact .inr (.inr (.inr ⟨rfl, (fun _ e => by cases e), (fun _ e => by cases e), by simp⟩))
  | rl _ => cases h; exact .inr (.inr (.inr ⟨rfl, (fun _ e => by cases e), (fun _ e => by cases e), by simp⟩))
  | tup _ => cases h; exact .inr (.inr (.inr ⟨rfl, (fun _ e => by cases e), (fun _ e => by cases e), by simp⟩))
  | kt _ => cases h
theorem intIn_no {a b : Int} {d : D} (h : ∀ i, d ≠ .int i) : intIn a b d = false := by
  cases d with
  | int i => exact absurd rfl (h i)
  | _ => rfl
theorem is_int_eq (c : CA) {S : Sto} {d : D} {a b : Int} {t : String} (h : tyD S d = some t) : F_law_is_int c [d, .int a, .int b] S = .ok (.bl (intIn a b d)) S := by
  unfold F_law_is_int b_law_is_int
  rcases ty_ways h with ⟨i, rfl, rfl⟩ | ⟨k, rfl, rfl⟩ | ⟨z, rfl, rfl⟩ | ⟨_, hi, _, ht⟩
  · by_cases h1 : a ≤ i
    · simp only [ap_fVar, varK_some, ap_fBin, ap_binK, ap_fAndV, ap_fNotV, ap_andVK, ap_notVK, ap_fRet, ap_retK, ap_fnF, ap_fnK_rt, o_le, o_ge, ap_fIsi, ap_isiK0, ap_isiK, ap_isiK2, R.bind_ok, List.map_cons, List.map_nil, List.length_cons, List.length_nil, Nat.zero_add, Nat.reduceAdd, Nat.reduceSub, List.replicate_zero, List.getElem?_cons_zero, List.getElem?_cons_succ, List.append_nil, if_true, if_false, decide_true, decide_false, or_false, Bool.not_false, String.reduceEq, h1, tyD, isiD, intIn, Bool.true_and]
    · simp only [ap_fVar, varK_some, ap_fBin, ap_binK, ap_fAndV, ap_fNotV, ap_andVK, ap_notVK, ap_fRet, ap_retK, ap_fnF, ap_fnK_rt, o_le, o_ge, ap_fIsi, ap_isiK0, ap_isiK, ap_isiK2, R.bind_ok, List.map_cons, List.map_nil, List.length_cons, List.length_nil, Nat.zero_add, Nat.reduceAdd, Nat.reduceSub, List.replicate_zero, List.getElem?_cons_zero, List.getElem?_cons_succ, List.append_nil, Bool.false_eq_true, if_true, if_false, decide_true, decide_false, or_false, Bool.not_false, String.reduceEq, h1, tyD, isiD, intIn, Bool.false_and]
  · simp only [ap_fVar, varK_some, ap_fBin, ap_binK, ap_fAndV, ap_fNotV, ap_andVK, ap_notVK, ap_fRet, ap_retK, ap_fnF, ap_fnK_rt, ap_fIsi, ap_isiK0, ap_isiK, ap_isiK2, R.bind_ok, List.map_cons, List.map_nil, List.length_cons, List.length_nil, Nat.zero_add, Nat.reduceAdd, Nat.reduceSub, List.replicate_zero, List.getElem?_cons_zero, List.getElem?_cons_succ, List.append_nil, Bool.false_eq_true, if_true, if_false, decide_true, decide_false, or_true, or_false, Bool.not_true, String.reduceEq, tyD, isiD, intIn]
  · simp only [ap_fVar, varK_some, ap_fBin, ap_binK, ap_fAndV, ap_fNotV, ap_andVK, ap_notVK, ap_fRet, ap_retK, ap_fnF, ap_fnK_rt, ap_fIsi, ap_isiK0, ap_isiK, ap_isiK2, R.bind_ok, List.map_cons, List.map_nil, List.length_cons, List.length_nil, Nat.zero_add, Nat.reduceAdd, Nat.reduceSub, List.replicate_zero, List.getElem?_cons_zero, List.getElem?_cons_succ, List.append_nil, Bool.false_eq_true, if_true, if_false, decide_false, or_false, Bool.not_false, String.reduceEq, tyD, isiD, intIn]
  · rw [intIn_no hi]
    rcases ht with rfl | rfl | rfl | rfl
    all_goals simp only [ap_fVar, varK_some, ap_fBin, ap_binK, ap_fAndV, ap_fNotV, ap_andVK, ap_notVK, ap_fRet, ap_retK, ap_fnF, ap_fnK_rt, ap_fIsi, ap_isiK0, ap_isiK, ap_isiK2, R.bind_ok, List.map_cons, List.map_nil, List.length_cons, List.length_nil, Nat.zero_add, Nat.reduceAdd, Nat.reduceSub, List.replicate_zero, List.getElem?_cons_zero, List.getElem?_cons_succ, List.append_nil, Bool.false_eq_true, if_true, if_false, decide_false, or_false, Bool.not_false, String.reduceEq, h, isiD]
theorem between_eq (c : CA) {S : Sto} {d : D} {a b : Int} {t : String} (h : tyD S d = some t) : F_is_between c [d, .int a, .int b] S = .ok (.bl (intIn a b d)) S := by
  unfold F_is_between b_is_between
  rcases ty_ways h with ⟨i, rfl, rfl⟩ | ⟨k, rfl, rfl⟩ | ⟨z, rfl, rfl⟩ | ⟨_, hi, _, ht⟩
  · by_cases h1 : a ≤ i
    · simp only [ap_fVar, varK_some, ap_fAndV, ap_andVK, ap_fChain, ap_chK1, ap_chK2, ap_chK3, ap_fRet, ap_retK, ap_fnF, ap_fnK_rt, o_le, ap_fTyIs, ap_tyK0, ap_tyK, R.bind_ok, List.map_cons, List.map_nil, List.length_cons, List.length_nil, Nat.zero_add, Nat.reduceAdd, Nat.reduceSub, List.replicate_zero, List.getElem?_cons_zero, List.getElem?_cons_succ, List.append_nil, Bool.false_eq_true, if_true, if_false, decide_true, Bool.not_true, h1, tyD, intIn, Bool.true_and]
    · simp only [ap_fVar, varK_some, ap_fAndV, ap_andVK, ap_fChain, ap_chK1, ap_chK2, ap_chK3, ap_fRet, ap_retK, ap_fnF, ap_fnK_rt, o_le, ap_fTyIs, ap_tyK0, ap_tyK, R.bind_ok, List.map_cons, List.map_nil, List.length_cons, List.length_nil, Nat.zero_add, Nat.reduceAdd, Nat.reduceSub, List.replicate_zero, List.getElem?_cons_zero, List.getElem?_cons_succ, List.append_nil, Bool.false_eq_true, if_true, if_false, decide_true, decide_false, Bool.not_true, h1, tyD, intIn, Bool.false_and]
  · simp only [ap_fVar, varK_some, ap_fAndV, ap_andVK, ap_fChain, ap_chK1, ap_chK2, ap_fRet, ap_retK, ap_fnF, ap_fnK_rt, ap_fTyIs, ap_tyK0, ap_tyK, R.bind_ok, List.map_cons, List.map_nil, List.length_cons, List.length_nil, Nat.zero_add, Nat.reduceAdd, Nat.reduceSub, List.replicate_zero, List.getElem?_cons_zero, List.getElem?_cons_succ, List.append_nil, Bool.false_eq_true, if_false, decide_false, Bool.not_false, String.reduceEq, tyD, intIn]
  · simp only [ap_fVar, varK_some, ap_fAndV, ap_andVK, ap_fChain, ap_chK1, ap_chK2, ap_fRet, ap_retK, ap_fnF, ap_fnK_rt, ap_fTyIs, ap_tyK0, ap_tyK, R.bind_ok, List.map_cons, List.map_nil, List.length_cons, List.length_nil, Nat.zero_add, Nat.reduceAdd, Nat.reduceSub, List.replicate_zero, List.getElem?_cons_zero, List.getElem?_cons_succ, List.append_nil, Bool.false_eq_true, if_false, decide_false, Bool.not_false, String.reduceEq, tyD, intIn]
  · rw [intIn_no hi]
    rcases ht with rfl | rfl | rfl | rfl
    all_goals simp only [ap_fVar, varK_some, ap_fAndV, ap_andVK, ap_fChain, ap_chK1, ap_chK2, ap_fRet, ap_retK, ap_fnF, ap_fnK_rt, ap_fTyIs, ap_tyK0, ap_tyK, R.bind_ok, List.map_cons, List.map_nil, List.length_cons, List.length_nil, Nat.zero_add, Nat.reduceAdd, Nat.reduceSub, List.replicate_zero, List.getElem?_cons_zero, List.getElem?_cons_succ, List.append_nil, Bool.false_eq_true, if_false, decide_false, Bool.not_false, String.reduceEq, h]
theorem number_is (c : CA) {S : Sto} {d : D} {t : String} (h : tyD S d = some t) : F_is_number c [d] S = .ok (.bl (intIn 0 (10 ^ 12) d)) S := by
  unfold F_is_number b_is_number
  simp only [ap_fVar, varK_some, ap_fC, ap_fNil, ap_fCons, ap_consK, ap_consK2, ap_fRet, ap_retK, ap_fCall, ap_callK, ap_fnF, ap_fnK_rt, R.bind_ok, R.nox_ok, List.map_cons, List.map_nil, List.length_cons, List.length_nil, Nat.zero_add, Nat.reduceAdd, Nat.reduceSub, List.replicate_zero, List.getElem?_cons_zero, List.append_nil, if_true, Nat.add_zero, Int.reducePow, between_eq c h]
theorem flag_eq (c : CA) {S : Sto} {x y : Bool} : F_law_flag c [.bl x, .bl y] S = .ok (.bl (x == y)) S := by
  unfold F_law_flag b_law_flag
  simp only [ap_fVar, varK_some, ap_fBin, ap_binK, ap_fAndV, ap_andVK, ap_fRet, ap_retK, ap_fnF, ap_fnK_rt, o_eq, eqK_some, eqv_bool, toP_bl, ap_fIsi, ap_isiK0, ap_isiK, ap_isiK2, R.bind_ok, List.map_cons, List.map_nil, List.length_cons, List.length_nil, Nat.zero_add, Nat.reduceAdd, Nat.reduceSub, List.replicate_zero, List.getElem?_cons_zero, List.getElem?_cons_succ, List.append_nil, if_true, if_false, decide_true, or_true, or_false, String.reduceEq, tyD, isiD]
def nameB (z : Str) : Bool := decide (1 ≤ z.length) && decide (z.length ≤ 12) && z.cps.toList.all fun c => decide (97 ≤ c) && decide (c ≤ 122)
theorem az_comp (c : CA) (xs : List Nat) (v0 : Option D) : ∀ (S : Sto) (acc : List D), acc.length + xs.length ≤ 2000 →
    compX 1 fYes (ce_is_name_0 c) [v0, none] (xs.map fun k => .str ⟨#[k]⟩) acc S
      = .ok (.ref S.length) (S ++ [.lst (acc ++ xs.map fun k => .bl (decide (97 ≤ k) && decide (k ≤ 122)))]) := by
  induction xs with
  | nil => intro S acc h; simp only [compX_nil, List.map_nil, List.append_nil]
  | cons x xs ih =>
    intro S acc h
    rw [List.length_cons] at h
    by_cases h1 : 97 ≤ x
    · simp only [ap_fVar, varK_some, ap_fC, ap_fChain, ap_chK1, ap_chK2, ap_chK3, o_leS1, compX_cons, ap_compTK, ap_compEK, ap_fYes, R.bind_ok, R.nox_ok, List.map_cons, List.getElem?_cons_zero, List.getElem?_cons_succ, List.set_cons_zero, List.set_cons_succ, if_true, decide_true, ap_ce_is_name_0, h1, Bool.true_and]
      rw [if_pos (by omega), ih _ _ (by rw [List.length_append, List.length_singleton]; omega)]
      simp only [List.cons_append, List.nil_append, List.append_assoc]
    · simp only [ap_fVar, varK_some, ap_fC, ap_fChain, ap_chK1, ap_chK2, ap_chK3, o_leS1, compX_cons, ap_compTK, ap_compEK, ap_fYes, R.bind_ok, R.nox_ok, List.map_cons, List.getElem?_cons_zero, List.getElem?_cons_succ, List.set_cons_zero, List.set_cons_succ, Bool.false_eq_true, if_true, if_false, decide_false, ap_ce_is_name_0, h1, Bool.false_and]
      rw [if_pos (by omega), ih _ _ (by rw [List.length_append, List.length_singleton]; omega)]
      simp only [List.cons_append, List.nil_append, List.append_assoc]
theorem bls_az (xs : List Nat) : blsD (xs.map fun k => .bl (decide (97 ≤ k) && decide (k ≤ 122))) = some (xs.map fun k => decide (97 ≤ k) && decide (k ≤ 122)) := by
  induction xs with
  | nil => rfl
  | cons x xs ih =>
    show (blsD (xs.map fun k => .bl (decide (97 ≤ k) && decide (k ≤ 122)))).map _ = _
    rw [ih]
    rfl
theorem o_all {m : Nat} {S : Sto} {ds : List D} {bs : List Bool} (h : S[m]? = some (.lst ds)) (h1 : blsD ds = some bs) : oAll [.ref m] S = .ok (.bl (bs.all id)) S := by
  unfold oAll
  simp only [lstD, h, h1]
theorem sgn_az (z : Str) : (z.cps.toList.map fun c => decide (97 ≤ c) && decide (c ≤ 122)).all id = z.cps.toList.all fun c => decide (97 ≤ c) && decide (c ≤ 122) := by
  rw [List.all_map]; rfl
theorem name_str (c : CA) {S : Sto} {z : Str} (h : z.length ≤ 1000) : ∃ T, F_is_name c [.str z] S = .ok (.bl (nameB z)) (S ++ T) := by
  unfold F_is_name b_is_name
  have hz : z.length ≤ 100000 := by omega
  by_cases h1 : (1 : Int) ≤ z.length
  · have h1' : 1 ≤ z.length := by omega
    by_cases h2 : (z.length : Int) ≤ 12
    · have h2' : z.length ≤ 12 := by omega
      have ac := az_comp c z.cps.toList (some (.str z)) S [] (by rw [List.length_nil, ← strlen]; omega)
      refine ⟨[.lst (z.cps.toList.map fun k => .bl (decide (97 ≤ k) && decide (k ≤ 122)))], ?_⟩
      simp only [ap_fVar, varK_some, ap_fC, ap_fApp, ap_fNil, ap_fCons, ap_consK, ap_consK2, ap_fTest, ap_testK, ap_fOr, ap_fNot, ap_orK, ap_notK, ap_fChain, ap_chK1, ap_chK2, ap_chK3, ap_fSkip, ap_fSeq, ap_seqK_nx, ap_fIf, ap_ifK, ap_fRet, ap_retK, ap_fnF, o_le, o_len, lenK_some, lenD_str, ap_fTyIs, ap_tyK0, ap_tyK, ap_fIterS, ap_iterSK, ap_fComp, ap_compK_fix, R.bind_ok, List.map_cons, List.map_nil, List.length_cons, List.length_nil, List.cons_append, List.nil_append, Nat.zero_add, Nat.reduceSub, List.replicate_succ, List.replicate_zero, List.getElem?_cons_zero, List.set_cons_zero, List.set_cons_succ, Bool.false_eq_true, if_true, if_false, decide_true, Bool.not_true, hz, tyD, h1, h2, sgnD, ac]
      rw [o_all get_app0 (bls_az _)]
      simp only [ap_retK, ap_fnK_rt, R.bind_ok, decide_true, sgn_az, nameB, h1', h2', Bool.true_and]
    · have h2' : ¬ z.length ≤ 12 := by omega
      exact ⟨[], by simp only [ap_fVar, varK_some, ap_fC, ap_fApp, ap_fNil, ap_fCons, ap_consK, ap_consK2, ap_fTest, ap_testK, ap_fOr, ap_fNot, ap_orK, ap_notK, ap_fChain, ap_chK1, ap_chK2, ap_chK3, ap_fSkip, ap_fSeq, ap_seqK_rt, ap_fIf, ap_ifK, ap_fRet, ap_retK, ap_fnF, ap_fnK_rt, o_le, o_len, lenK_some, lenD_str, ap_fTyIs, ap_tyK0, ap_tyK, R.bind_ok, List.map_cons, List.map_nil, List.length_cons, List.length_nil, List.cons_append, List.nil_append, Nat.zero_add, Nat.reduceSub, List.replicate_succ, List.replicate_zero, List.getElem?_cons_zero, List.append_nil, Bool.false_eq_true, if_true, if_false, decide_true, decide_false, Bool.not_true, Bool.not_false, hz, tyD, h1, h2, nameB, h2', Bool.and_false, Bool.false_and]⟩
  · have h1' : ¬ 1 ≤ z.length := by omega
    exact ⟨[], by simp only [ap_fVar, varK_some, ap_fC, ap_fApp, ap_fNil, ap_fCons, ap_consK, ap_consK2, ap_fTest, ap_testK, ap_fOr, ap_fNot, ap_orK, ap_notK, ap_fChain, ap_chK1, ap_chK2, ap_chK3, ap_fSkip, ap_fSeq, ap_seqK_rt, ap_fIf, ap_ifK, ap_fRet, ap_retK, ap_fnF, ap_fnK_rt, o_le, o_len, lenK_some, lenD_str, ap_fTyIs, ap_tyK0, ap_tyK, R.bind_ok, List.map_cons, List.map_nil, List.length_cons, List.length_nil, List.cons_append, List.nil_append, Nat.zero_add, Nat.reduceSub, List.replicate_succ, List.replicate_zero, List.getElem?_cons_zero, List.append_nil, Bool.false_eq_true, if_true, if_false, decide_true, decide_false, Bool.not_true, Bool.not_false, hz, tyD, h1, nameB, h1', Bool.false_and]⟩
theorem name_no (c : CA) {S : Sto} {d : D} {t : String} (h : tyD S d = some t) (h2 : ∀ z, d ≠ .str z) : F_is_name c [d] S = .ok (.bl false) S := by
  unfold F_is_name b_is_name
  rcases ty_ways h with ⟨i, rfl, rfl⟩ | ⟨k, rfl, rfl⟩ | ⟨z, rfl, rfl⟩ | ⟨_, _, _, ht⟩
  · simp only [ap_fVar, varK_some, ap_fC, ap_fApp, ap_fNil, ap_fCons, ap_consK, ap_consK2, ap_fTest, ap_testK, ap_fOr, ap_fNot, ap_orK, ap_fChain, ap_chK1, ap_fSkip, ap_fSeq, ap_seqK_rt, ap_fIf, ap_ifK, ap_fRet, ap_retK, ap_fnF, ap_fnK_rt, o_len, ap_fTyIs, ap_tyK0, ap_tyK, R.bind_ok, List.map_cons, List.map_nil, List.length_cons, List.length_nil, List.cons_append, List.nil_append, Nat.zero_add, Nat.reduceSub, List.replicate_succ, List.replicate_zero, List.getElem?_cons_zero, if_true, decide_false, Bool.not_false, String.reduceEq, h]
  · simp only [ap_fVar, varK_some, ap_fC, ap_fApp, ap_fNil, ap_fCons, ap_consK, ap_consK2, ap_fTest, ap_testK, ap_fOr, ap_fNot, ap_orK, ap_fChain, ap_chK1, ap_fSkip, ap_fSeq, ap_seqK_rt, ap_fIf, ap_ifK, ap_fRet, ap_retK, ap_fnF, ap_fnK_rt, o_len, ap_fTyIs, ap_tyK0, ap_tyK, R.bind_ok, List.map_cons, List.map_nil, List.length_cons, List.length_nil, List.cons_append, List.nil_append, Nat.zero_add, Nat.reduceSub, List.replicate_succ, List.replicate_zero, List.getElem?_cons_zero, if_true, decide_false, Bool.not_false, String.reduceEq, h]
  · exact absurd rfl (h2 z)
  · rcases ht with rfl | rfl | rfl | rfl
    all_goals simp only [ap_fVar, varK_some, ap_fC, ap_fApp, ap_fNil, ap_fCons, ap_consK, ap_consK2, ap_fTest, ap_testK, ap_fOr, ap_fNot, ap_orK, ap_fChain, ap_chK1, ap_fSkip, ap_fSeq, ap_seqK_rt, ap_fIf, ap_ifK, ap_fRet, ap_retK, ap_fnF, ap_fnK_rt, o_len, ap_fTyIs, ap_tyK0, ap_tyK, R.bind_ok, List.map_cons, List.map_nil, List.length_cons, List.length_nil, List.cons_append, List.nil_append, Nat.zero_add, Nat.reduceSub, List.replicate_succ, List.replicate_zero, List.getElem?_cons_zero, if_true, decide_false, Bool.not_false, String.reduceEq, h]
theorem lname_no (c : CA) {S : Sto} {d : D} {t : String} (h : tyD S d = some t) (h2 : ∀ z, d ≠ .str z) : F_law_is_name c [d] S = .ok (.bl false) S := by
  unfold F_law_is_name b_law_is_name
  rcases ty_ways h with ⟨i, rfl, rfl⟩ | ⟨k, rfl, rfl⟩ | ⟨z, rfl, rfl⟩ | ⟨_, _, _, ht⟩
  · simp only [ap_fVar, varK_some, ap_fC, ap_fBin, ap_fApp, ap_fNil, ap_fCons, ap_consK, ap_consK2, ap_fTest, ap_testK, ap_fOr, ap_fNot, ap_orK, ap_notK, ap_fSkip, ap_fSeq, ap_seqK_rt, ap_fIf, ap_ifK, ap_fRet, ap_retK, ap_fnF, ap_fnK_rt, o_len, ap_fIsi, ap_isiK0, ap_isiK, ap_isiK2, R.bind_ok, List.map_cons, List.map_nil, List.length_cons, List.length_nil, List.cons_append, List.nil_append, Nat.zero_add, Nat.reduceSub, List.replicate_succ, List.replicate_zero, List.getElem?_cons_zero, if_true, if_false, decide_true, decide_false, or_true, or_false, Bool.not_false, String.reduceEq, h, isiD]
  · simp only [ap_fVar, varK_some, ap_fC, ap_fBin, ap_fApp, ap_fNil, ap_fCons, ap_consK, ap_consK2, ap_fTest, ap_testK, ap_fOr, ap_fNot, ap_orK, ap_notK, ap_fSkip, ap_fSeq, ap_seqK_rt, ap_fIf, ap_ifK, ap_fRet, ap_retK, ap_fnF, ap_fnK_rt, o_len, ap_fIsi, ap_isiK0, ap_isiK, ap_isiK2, R.bind_ok, List.map_cons, List.map_nil, List.length_cons, List.length_nil, List.cons_append, List.nil_append, Nat.zero_add, Nat.reduceSub, List.replicate_succ, List.replicate_zero, List.getElem?_cons_zero, if_true, if_false, decide_true, decide_false, or_true, or_false, Bool.not_false, String.reduceEq, h, isiD]
  · exact absurd rfl (h2 z)
  · rcases ht with rfl | rfl | rfl | rfl
    all_goals simp only [ap_fVar, varK_some, ap_fC, ap_fBin, ap_fApp, ap_fNil, ap_fCons, ap_consK, ap_consK2, ap_fTest, ap_testK, ap_fOr, ap_fNot, ap_orK, ap_notK, ap_fSkip, ap_fSeq, ap_seqK_rt, ap_fIf, ap_ifK, ap_fRet, ap_retK, ap_fnF, ap_fnK_rt, o_len, ap_fIsi, ap_isiK0, ap_isiK, ap_isiK2, R.bind_ok, List.map_cons, List.map_nil, List.length_cons, List.length_nil, List.cons_append, List.nil_append, Nat.zero_add, Nat.reduceSub, List.replicate_succ, List.replicate_zero, List.getElem?_cons_zero, if_true, if_false, decide_false, or_true, or_false, Bool.not_false, String.reduceEq, h, isiD]
theorem na_comp (c : CA) (xs : List Nat) (v0 : Option D) : ∀ (S : Sto) (acc : List D), acc.length + xs.length ≤ 2000 →
    compX 1 (ct_law_is_name_0 c) (ce_law_is_name_0 c) [v0, none] (xs.map fun k => .str ⟨#[k]⟩) acc S
      = .ok (.ref S.length) (S ++ [.lst (acc ++ ((xs.filter fun k => !decide (k ∈ letS.cps.toList)).map fun k => .str (oneS k)))]) := by
  induction xs with
  | nil => intro S acc h; simp only [compX_nil, List.map_nil, List.append_nil, List.filter_nil]
  | cons x xs ih =>
    intro S acc h
    rw [List.length_cons] at h
    by_cases h1 : x ∈ letS.cps.toList
    · unfold letS at h1 ⊢
      simp only [List.toList_toArray] at h1 ⊢
      simp only [ap_fVar, varK_some, ap_fC, ap_fBin, ap_binK, ap_fTest, ap_testK, o_inS1, compX_cons, ap_compTK, ap_compEK, R.bind_ok, R.nox_ok, List.map_cons, List.getElem?_cons_zero, List.getElem?_cons_succ, List.set_cons_zero, List.set_cons_succ, Bool.false_eq_true, if_true, if_false, decide_true, Bool.not_true, ap_ct_law_is_name_0, ap_ce_law_is_name_0, h1, List.filter_cons]
      rw [ih _ _ (by omega)]
      rfl
    · unfold letS at h1 ⊢
      simp only [List.toList_toArray] at h1 ⊢
      simp only [ap_fVar, varK_some, ap_fC, ap_fBin, ap_binK, ap_fTest, ap_testK, o_inS1, compX_cons, ap_compTK, ap_compEK, R.bind_ok, R.nox_ok, List.map_cons, List.getElem?_cons_zero, List.getElem?_cons_succ, List.set_cons_zero, List.set_cons_succ, if_true, decide_false, Bool.not_false, ap_ct_law_is_name_0, ap_ce_law_is_name_0, h1, List.filter_cons]
      rw [if_pos (by omega), ih _ _ (by rw [List.length_append, List.length_singleton]; omega)]
      simp only [List.cons_append, List.nil_append, List.append_assoc, oneS]
      rfl
theorem strs_P (S : Sto) (k : Nat) (l : List Nat) (h : ∀ c ∈ l, c < 1114112) : (l.map fun k => D.str (oneS k)).mapM (toP S k) = some (l.map fun k => PyData.str (oneS k)) := by
  induction l with
  | nil => rfl
  | cons a l ih =>
    rw [List.map_cons, List.mapM_cons, toP_str, if_pos ?_, ih fun c hc => h c (List.mem_cons_of_mem _ hc)]
    · rfl
    · have := h a (List.mem_cons_self)
      show (List.toArray [a]).all _ = true
      simp [this]
theorem eqv_nil (l : List PyData) : PyData.eqv (.list l) (.list []) = l.isEmpty := by
  cases l <;> simp [PyData.eqv, PyData.eqvAll]
theorem filt_az (l : List Nat) : (List.map (fun k => PyData.str (oneS k)) (l.filter fun k => !decide (k ∈ letS.cps.toList))).isEmpty = l.all fun c => decide (97 ≤ c) && decide (c ≤ 122) := by
  induction l with
  | nil => rfl
  | cons a l ih =>
    rw [List.filter_cons, List.all_cons, ← ih]
    by_cases h : 97 ≤ a ∧ a ≤ 122
    · have h' := (az_iff a).mpr h
      simp [h', h.1, h.2]
    · have h' : ¬ a ∈ letS.cps.toList := fun q => h ((az_iff a).mp q)
      have e : (decide (97 ≤ a) && decide (a ≤ 122)) = false := by
        rw [← Bool.decide_and, decide_eq_false h]
      simp [h', e]
theorem lname_str (c : CA) {S : Sto} {z : Str} (h : z.length ≤ 1000) (hs : PyData.strOk z = true) : ∃ T, F_law_is_name c [.str z] S = .ok (.bl (nameB z)) (S ++ T) := by
  unfold F_law_is_name b_law_is_name
  have hz : z.length ≤ 100000 := by omega
  have hs' : ∀ c ∈ z.cps.toList, c < 1114112 := by
    intro c hc
    have h' : z.cps.all (· < 0x110000) = true := hs
    rw [Array.all_eq_true_iff_forall_mem] at h'
    have := h' c (Array.mem_toList_iff.mp hc)
    simpa using this
  by_cases h1 : (z.length : Int) < 1
  · have h1' : ¬ 1 ≤ z.length := by omega
    exact ⟨[], by simp only [ap_fVar, varK_some, ap_fC, ap_fBin, ap_binK, ap_fApp, ap_fNil, ap_fCons, ap_consK, ap_consK2, ap_fTest, ap_testK, ap_fOr, ap_fNot, ap_orK, ap_notK, ap_fSkip, ap_fSeq, ap_seqK_rt, ap_fIf, ap_ifK, ap_fRet, ap_retK, ap_fnF, ap_fnK_rt, o_lt, o_gt, o_len, lenK_some, lenD_str, ap_fIsi, ap_isiK0, ap_isiK, ap_isiK2, R.bind_ok, List.map_cons, List.map_nil, List.length_cons, List.length_nil, List.cons_append, List.nil_append, Nat.zero_add, Nat.reduceSub, List.replicate_succ, List.replicate_zero, List.getElem?_cons_zero, List.append_nil, Bool.false_eq_true, if_true, if_false, decide_true, decide_false, or_true, or_false, Bool.not_true, String.reduceEq, hz, tyD, isiD, h1, nameB, h1', Bool.false_and]⟩
  · have h1' : 1 ≤ z.length := by omega
    by_cases h2 : (12 : Int) < (z.length : Int)
    · have h2' : ¬ z.length ≤ 12 := by omega
      exact ⟨[], by simp only [ap_fVar, varK_some, ap_fC, ap_fBin, ap_binK, ap_fApp, ap_fNil, ap_fCons, ap_consK, ap_consK2, ap_fTest, ap_testK, ap_fOr, ap_fNot, ap_orK, ap_notK, ap_fSkip, ap_fSeq, ap_seqK_rt, ap_fIf, ap_ifK, ap_fRet, ap_retK, ap_fnF, ap_fnK_rt, o_lt, o_gt, o_len, lenK_some, lenD_str, ap_fIsi, ap_isiK0, ap_isiK, ap_isiK2, R.bind_ok, List.map_cons, List.map_nil, List.length_cons, List.length_nil, List.cons_append, List.nil_append, Nat.zero_add, Nat.reduceSub, List.replicate_succ, List.replicate_zero, List.getElem?_cons_zero, List.append_nil, Bool.false_eq_true, if_true, if_false, decide_true, decide_false, or_true, or_false, Bool.not_true, String.reduceEq, hz, tyD, isiD, h1, h2, nameB, h2', Bool.and_false, Bool.false_and]⟩
    · have h2' : z.length ≤ 12 := by omega
      have nc := na_comp c z.cps.toList (some (.str z)) S [] (by rw [List.length_nil, ← strlen]; omega)
      unfold letS at nc
      refine ⟨[.lst ((z.cps.toList.filter fun k => !decide (k ∈ letS.cps.toList)).map fun k => .str (oneS k)), .lst []], ?_⟩
      simp only [ap_fVar, varK_some, ap_fC, ap_fBin, ap_binK, ap_fApp, ap_fNil, ap_fCons, ap_consK, ap_consK2, ap_fLst, ap_lstK, ap_fTest, ap_testK, ap_fOr, ap_fNot, ap_orK, ap_notK, ap_fSkip, ap_fSeq, ap_seqK_nx, ap_fIf, ap_ifK, ap_fRet, ap_retK, ap_fnF, o_lt, o_gt, o_eq, toP_ref, toPC_lst, toP_mapM_nil, o_len, lenK_some, lenD_str, ap_fIsi, ap_isiK0, ap_isiK, ap_isiK2, ap_fIterS, ap_iterSK, ap_fComp, ap_compK_fix, o_someMap, R.bind_ok, List.map_cons, List.map_nil, List.length_cons, List.length_nil, List.cons_append, List.nil_append, Nat.zero_add, Nat.reduceSub, List.replicate_succ, List.replicate_zero, List.getElem?_cons_zero, List.getElem?_cons_succ, List.set_cons_zero, List.set_cons_succ, Bool.false_eq_true, if_true, if_false, decide_true, decide_false, Nat.reduceLeDiff, or_true, or_false, Bool.not_true, String.reduceEq, get_app, get_app0, List.append_assoc, List.length_append, hz, tyD, isiD, h1, h2, sgnD, nc]
      have sp := strs_P (S ++ [.lst ((z.cps.toList.filter fun k => !decide (k ∈ letS.cps.toList)).map fun k => .str (oneS k)), .lst []]) 19 (z.cps.toList.filter fun k => !decide (k ∈ letS.cps.toList)) (fun c hc => hs' c ((List.mem_filter.mp hc).1))
      unfold letS at sp
      have fa := filt_az z.cps.toList
      unfold letS at fa ⊢
      simp only [List.toList_toArray] at fa ⊢
      simp only [ap_retK, ap_fnK_rt, eqK_some, o_someMap, R.bind_ok, decide_true, sp, eqv_nil, fa, nameB, h1', h2', Bool.true_and]
theorem stream_eq (c : CA) (x k : Int) (S : Sto) (hk : 0 ≤ k ∧ k < 1000) : ∃ s, F_law_stream c [.int x, .int k] S = .ok (.ref S.length) (S ++ [stC s]) := by
  unfold F_law_stream b_law_stream
  by_cases h : (1000000000000000000 : Int) ≤ x
  · refine ⟨(x, (x * 48271 + k * 69621 + 77) % 2147483647), ?_⟩
    simp only [ap_fVar, varK_some, ap_fC, ap_fBin, ap_binK, ap_fApp, ap_fNil, ap_fCons, ap_consK, ap_consK2, ap_fLst, ap_lstK, ap_fTest, ap_testK, ap_fSkip, ap_fSeq, ap_seqK_nx, ap_fIf, ap_ifK, ap_fRet, ap_retK, ap_fAsg, ap_asgK, ap_asgK2, ap_gN, ap_fnF, ap_fnK_rt, o_add, o_mul, o_mod, o_pow, o_ge, o_int, R.bind_ok, List.map_cons, List.map_nil, List.length_cons, List.length_nil, List.cons_append, List.nil_append, Nat.zero_add, Nat.reduceAdd, Nat.reduceSub, List.replicate_succ, List.replicate_zero, List.getElem?_cons_zero, List.getElem?_cons_succ, List.set_cons_zero, List.set_cons_succ, if_true, decide_true, Nat.reduceLeDiff, Int.reduceLT, Int.reduceLE, Int.reduceNeg, Int.reducePow, or_true, and_self, Int.reduceToNat, h, stC]
  · refine ⟨(0, (x * 48271 + k * 69621 + 77) % 2147483647), ?_⟩
    simp only [ap_fVar, varK_some, ap_fC, ap_fBin, ap_binK, ap_fApp, ap_fNil, ap_fCons, ap_consK, ap_consK2, ap_fLst, ap_lstK, ap_fTest, ap_testK, ap_fSkip, ap_fSeq, ap_seqK_nx, ap_fIf, ap_ifK, ap_fRet, ap_retK, ap_fAsg, ap_asgK, ap_asgK2, ap_gN, ap_fnF, ap_fnK_rt, o_add, o_mul, o_mod, o_pow, o_ge, o_int, R.bind_ok, List.map_cons, List.map_nil, List.length_cons, List.length_nil, List.cons_append, List.nil_append, Nat.zero_add, Nat.reduceAdd, Nat.reduceSub, List.replicate_succ, List.replicate_zero, List.getElem?_cons_zero, List.getElem?_cons_succ, List.set_cons_zero, List.set_cons_succ, Bool.false_eq_true, if_true, if_false, decide_false, Nat.reduceLeDiff, Int.reduceLT, Int.reduceLE, Int.reduceNeg, Int.reducePow, or_true, and_self, Int.reduceToNat, h, stC]
def okD (S : Sto) : Nat → D → Prop
  | 0, _ => True
  | n + 1, d => (∃ t, tyD S d = some t) ∧ (∀ z, d = .str z → z.length ≤ 1000 ∧ PyData.strOk z = true) ∧ ∀ xs, d = .tup xs → xs.length ≤ 1000 ∧ ∀ x ∈ xs, okD S n x
def Kp (S S1 : Sto) : Prop := ∀ (i : Nat) (t : String), tyC S[i]? = some t → tyC S1[i]? = some t
theorem Kp.refl (S : Sto) : Kp S S := fun _ _ h => h
theorem Kp.trans {S S1 S2 : Sto} (a : Kp S S1) (b : Kp S1 S2) : Kp S S2 := fun i t h => b i t (a i t h)
theorem Kp.app (S T : Sto) : Kp S (S ++ T) := fun i t h => by
  cases hc : S[i]? with
  | none => rw [hc] at h; cases h
  | some x => rw [hc] at h; rw [app_get hc]; exact h
theorem Kp.set {S : Sto} {n : Nat} {xs ys : List D} (h0 : S[n]? = some (.lst xs)) : Kp S (S.set n (.lst ys)) := fun i t h => by
  by_cases hi : n = i
  · subst hi
    rw [set_get h0]
    rw [h0] at h
    exact h
  · rw [List.getElem?_set_ne hi]; exact h
theorem Kp.ty {S S1 : Sto} (k : Kp S S1) {d : D} {t : String} (h : tyD S d = some t) : tyD S1 d = some t := by
  cases d with
  | ref n => rw [tyD_ref] at h ⊢; exact k _ _ h
  | _ => exact h
theorem okD.keep {S S1 : Sto} (k : Kp S S1) : ∀ (n : Nat) (d : D), okD S n d → okD S1 n d
  | 0, _, _ => trivial
  | n + 1, d, ⟨⟨t, h1⟩, h2, h3⟩ => ⟨⟨t, k.ty h1⟩, h2, fun xs e => ⟨(h3 xs e).1, fun x hx => okD.keep k n x ((h3 xs e).2 x hx)⟩⟩
theorem okD.less {S : Sto} : ∀ (n : Nat) (d : D), okD S (n + 1) d → okD S n d
  | 0, _, _ => trivial
  | n + 1, d, ⟨h1, h2, h3⟩ => ⟨h1, h2, fun xs e => ⟨(h3 xs e).1, fun x hx => okD.less n x ((h3 xs e).2 x hx)⟩⟩
theorem okD.tup {S : Sto} {n : Nat} {xs : List D} (h1 : xs.length ≤ 1000) (h2 : ∀ x ∈ xs, okD S n x) : okD S (n + 1) (.tup xs) :=
  ⟨⟨_, rfl⟩, fun z e => (by cases e), fun ys e => by cases e; exact ⟨h1, h2⟩⟩
theorem okD.str {S : Sto} {n : Nat} {z : Str} (h1 : z.length ≤ 1000) (h2 : PyData.strOk z = true) : okD S n (.str z) := by
  cases n with
  | zero => trivial
  | succ n => exact ⟨⟨_, rfl⟩, fun z e => (by cases e; exact ⟨h1, h2⟩), fun ys e => by cases e⟩
theorem okD.atom {S : Sto} {n : Nat} {d : D} {t : String} (h : tyD S d = some t) (h1 : ∀ z, d ≠ .str z) (h2 : ∀ xs, d ≠ .tup xs) : okD S n d := by
  cases n with
  | zero => trivial
  | succ n => exact ⟨⟨_, h⟩, fun z e => absurd e (h1 z), fun ys e => absurd e (h2 ys)⟩
theorem okD.int {S : Sto} {n : Nat} {i : Int} : okD S n (.int i) := okD.atom (t := "int") rfl (fun _ e => nomatch e) (fun _ e => nomatch e)
theorem okD.mem {S : Sto} {n : Nat} {xs : List D} (h : okD S (n + 1) (.tup xs)) : ∀ x ∈ xs, okD S n x := (h.2.2 xs rfl).2
theorem tup_ways {S : Sto} {d : D} {t : String} (h : tyD S d = some t) : (∃ xs, d = .tup xs ∧ t = "tuple") ∨ ((∀ xs, d ≠ .tup xs) ∧ (t = "int" ∨ t = "bool" ∨ t = "str" ∨ t = "NoneType" ∨ t = "list" ∨ t = "dict")) := by
  cases d with
  | tup xs => cases h; exact .inl ⟨xs, rfl, rfl⟩
  | ref n =>
    rw [tyD_ref] at h
    refine .inr ⟨(fun _ e => nomatch e), ?_⟩
    unfold tyC at h
    split at h <;> cases h <;> simp
  | kt _ => cases h
  | _ => cases h; exact .inr ⟨(fun _ e => nomatch e), by simp⟩
theorem n0 : ((0 : Nat) : Int) = 0 := rfl
theorem n1 : ((1 : Nat) : Int) = 1 := rfl
theorem n2 : ((2 : Nat) : Int) = 2 := rfl
theorem n3 : ((3 : Nat) : Int) = 3 := rfl
theorem e12 : (10 : Int) ^ 12 = 1000000000000 := by decide
def nmB : D → Bool
  | .str z => nameB z
  | _ => false
theorem nmB_no {d : D} (h : ∀ z, d ≠ .str z) : nmB d = false := by
  cases d with
  | str z => exact absurd rfl (h z)
  | _ => rfl
theorem str_or (d : D) : (∃ z, d = .str z) ∨ ∀ z, d ≠ .str z := by
  cases d with
  | str z => exact .inl ⟨z, rfl⟩
  | _ => exact .inr fun _ e => nomatch e
theorem nm_is (c : CA) {S : Sto} {n : Nat} {d : D} (h : okD S (n + 1) d) : ∃ T, F_is_name c [d] S = .ok (.bl (nmB d)) (S ++ T) := by
  obtain ⟨⟨t, h1⟩, h2, _⟩ := h
  rcases str_or d with ⟨z, rfl⟩ | hn
  · exact name_str c (h2 z rfl).1
  · exact ⟨[], by rw [name_no c h1 hn, nmB_no hn, List.append_nil]⟩
theorem lnm_is (c : CA) {S : Sto} {n : Nat} {d : D} (h : okD S (n + 1) d) : ∃ T, F_law_is_name c [d] S = .ok (.bl (nmB d)) (S ++ T) := by
  obtain ⟨⟨t, h1⟩, h2, _⟩ := h
  rcases str_or d with ⟨z, rfl⟩ | hn
  · exact lname_str c (h2 z rfl).1 (h2 z rfl).2
  · exact ⟨[], by rw [lname_no c h1 hn, nmB_no hn, List.append_nil]⟩
def keyB : D → Bool
  | .tup [a, b] => intIn 0 1000000000000 a && nmB b
  | _ => false
theorem keyB_no {d : D} (h : ∀ xs, d ≠ .tup xs) : keyB d = false := by
  cases d with
  | tup xs => exact absurd rfl (h xs)
  | _ => rfl
def lenIs (k : Int) : D → Bool
  | .tup xs => decide ((xs.length : Int) = k)
  | _ => false
theorem lenIs_no {k : Int} {d : D} (h : ∀ xs, d ≠ .tup xs) : lenIs k d = false := by
  cases d with
  | tup xs => exact absurd rfl (h xs)
  | _ => rfl
theorem parts_is (c : CA) {S : Sto} {d : D} {t : String} {k : Int} (h : tyD S d = some t) : F_has_parts c [d, .int k] S = .ok (.bl (lenIs k d)) S := by
  unfold F_has_parts b_has_parts
  rcases tup_ways h with ⟨xs, rfl, rfl⟩ | ⟨hn, ht⟩
  · by_cases hk : (xs.length : Int) = k
    · simp only [ap_fVar, varK_some, ap_fBin, ap_binK, ap_fApp, ap_fNil, ap_fCons, ap_consK, ap_consK2, ap_fAndV, ap_andVK, ap_fRet, ap_retK, ap_fnF, ap_fnK_rt, o_eq, eqK_some, eqv_int, toP_int, o_len, lenK_some, lenD_tup, ap_fTyIs, ap_tyK0, ap_tyK, R.bind_ok, List.map_cons, List.map_nil, List.length_cons, List.length_nil, Nat.zero_add, Nat.reduceAdd, Nat.reduceSub, List.replicate_zero, List.getElem?_cons_zero, List.getElem?_cons_succ, List.append_nil, Bool.false_eq_true, if_true, if_false, decide_true, Bool.not_true, h, hk, lenIs, beq_self_eq_true]
    · have hk' : ((xs.length : Int) == k) = false := beq_eq_false_iff_ne.mpr hk
      simp only [ap_fVar, varK_some, ap_fBin, ap_binK, ap_fApp, ap_fNil, ap_fCons, ap_consK, ap_consK2, ap_fAndV, ap_andVK, ap_fRet, ap_retK, ap_fnF, ap_fnK_rt, o_eq, eqK_some, eqv_int, toP_int, o_len, lenK_some, lenD_tup, ap_fTyIs, ap_tyK0, ap_tyK, R.bind_ok, List.map_cons, List.map_nil, List.length_cons, List.length_nil, Nat.zero_add, Nat.reduceAdd, Nat.reduceSub, List.replicate_zero, List.getElem?_cons_zero, List.getElem?_cons_succ, List.append_nil, Bool.false_eq_true, if_true, if_false, decide_true, decide_false, Bool.not_true, h, hk, hk', lenIs]
  · rw [lenIs_no hn]
    rcases ht with rfl | rfl | rfl | rfl | rfl | rfl
    all_goals simp only [ap_fVar, varK_some, ap_fBin, ap_fApp, ap_fNil, ap_fCons, ap_consK, ap_consK2, ap_fAndV, ap_andVK, ap_fRet, ap_retK, ap_fnF, ap_fnK_rt, o_len, ap_fTyIs, ap_tyK0, ap_tyK, R.bind_ok, List.map_cons, List.map_nil, List.length_cons, List.length_nil, Nat.zero_add, Nat.reduceAdd, Nat.reduceSub, List.replicate_zero, List.getElem?_cons_zero, List.append_nil, Bool.false_eq_true, if_false, decide_false, Bool.not_false, String.reduceEq, h]
theorem key_is (c : CA) {S : Sto} {d : D} (h : okD S 2 d) : ∃ T, F_is_key c [d] S = .ok (.bl (keyB d)) (S ++ T) := by
  unfold F_is_key b_is_key
  obtain ⟨t, h1⟩ := h.1
  have hp := parts_is c (k := 2) h1
  rcases tup_ways h1 with ⟨xs, rfl, rfl⟩ | ⟨hn, ht⟩
  · match xs, hp, h with
    | [], hp, h =>
      rw [show lenIs 2 (.tup []) = false from rfl] at hp
      exact ⟨[], by simp only [ap_fVar, varK_some, ap_fC, ap_fNil, ap_fCons, ap_consK, ap_consK2, ap_fAndV, ap_andVK, ap_fRet, ap_retK, ap_fIx, ap_ixK, isDict_tup, getL_tup, ap_fCall, ap_callK, ap_fnF, ap_fnK_rt, o_getD, R.bind_ok, R.nox_ok, List.map_cons, List.map_nil, List.length_cons, List.length_nil, Nat.zero_add, Nat.reduceAdd, Nat.reduceSub, List.replicate_zero, List.getElem?_cons_zero, List.append_nil, Bool.false_eq_true, if_true, if_false, Nat.add_zero, hp, keyB]⟩
    | [a], hp, h =>
      rw [show lenIs 2 (.tup [a]) = false from rfl] at hp
      exact ⟨[], by simp only [ap_fVar, varK_some, ap_fC, ap_fNil, ap_fCons, ap_consK, ap_consK2, ap_fAndV, ap_andVK, ap_fRet, ap_retK, ap_fIx, ap_ixK, isDict_tup, getL_tup, retO_some, atI_0, ap_fCall, ap_callK, ap_fnF, ap_fnK_rt, o_getD, R.bind_ok, R.nox_ok, List.map_cons, List.map_nil, List.length_cons, List.length_nil, Nat.zero_add, Nat.reduceAdd, Nat.reduceSub, List.replicate_zero, List.getElem?_cons_zero, List.append_nil, Bool.false_eq_true, if_true, if_false, Nat.add_zero, hp, keyB]⟩
    | [a, b], hp, h =>
      rw [show lenIs 2 (.tup [a, b]) = true from rfl] at hp
      have ha := h.mem a (by simp)
      have hb := h.mem b (by simp)
      obtain ⟨ta, ha1⟩ := ha.1
      have hn := number_is c ha1
      rw [e12] at hn
      by_cases hi : intIn 0 1000000000000 a = true
      · obtain ⟨T, hT⟩ := nm_is c hb
        rw [hi] at hn
        exact ⟨T, by simp only [ap_fVar, varK_some, ap_fC, ap_fNil, ap_fCons, ap_consK, ap_consK2, ap_fAndV, ap_andVK, ap_fRet, ap_retK, ap_fIx, ap_ixK, isDict_tup, getL_tup, retO_some, atI_0, atI_1, ap_fCall, ap_callK, ap_fnF, ap_fnK_rt, o_getD, R.bind_ok, R.nox_ok, List.map_cons, List.map_nil, List.length_cons, List.length_nil, Nat.zero_add, Nat.reduceAdd, Nat.reduceSub, List.replicate_zero, List.getElem?_cons_zero, List.append_nil, Bool.false_eq_true, if_true, if_false, Nat.add_zero, hp, keyB, hn, hT, hi, Bool.true_and]⟩
      · have hi : intIn 0 1000000000000 a = false := by simpa using hi
        rw [hi] at hn
        exact ⟨[], by simp only [ap_fVar, varK_some, ap_fC, ap_fNil, ap_fCons, ap_consK, ap_consK2, ap_fAndV, ap_andVK, ap_fRet, ap_retK, ap_fIx, ap_ixK, isDict_tup, getL_tup, retO_some, atI_0, atI_1, ap_fCall, ap_callK, ap_fnF, ap_fnK_rt, o_getD, R.bind_ok, R.nox_ok, List.map_cons, List.map_nil, List.length_cons, List.length_nil, Nat.zero_add, Nat.reduceAdd, Nat.reduceSub, List.replicate_zero, List.getElem?_cons_zero, List.append_nil, Bool.false_eq_true, if_true, if_false, Nat.add_zero, hp, keyB, hn, hi, Bool.false_and]⟩
    | a :: b :: e :: r, hp, h =>
      have : ¬ (((r.length + 1 + 1 + 1 : Nat) : Int) = 2) := by omega
      rw [show lenIs 2 (.tup (a :: b :: e :: r)) = false from decide_eq_false this] at hp
      exact ⟨[], by simp only [ap_fVar, varK_some, ap_fC, ap_fNil, ap_fCons, ap_consK, ap_consK2, ap_fAndV, ap_andVK, ap_fRet, ap_retK, ap_fIx, ap_ixK, isDict_tup, getL_tup, retO_some, atI_0, ap_fCall, ap_callK, ap_fnF, ap_fnK_rt, o_getD, R.bind_ok, R.nox_ok, List.map_cons, List.map_nil, List.length_cons, List.length_nil, Nat.zero_add, Nat.reduceAdd, Nat.reduceSub, List.replicate_zero, List.getElem?_cons_zero, List.append_nil, Bool.false_eq_true, if_true, if_false, Nat.add_zero, hp, keyB]⟩
  · rw [lenIs_no hn] at hp
    exact ⟨[], by simp only [ap_fVar, varK_some, ap_fC, ap_fNil, ap_fCons, ap_consK, ap_consK2, ap_fAndV, ap_andVK, ap_fRet, ap_retK, ap_fIx, ap_ixK, ap_fCall, ap_callK, ap_fnF, ap_fnK_rt, o_getD, R.bind_ok, R.nox_ok, List.map_cons, List.map_nil, List.length_cons, List.length_nil, Nat.zero_add, Nat.reduceAdd, Nat.reduceSub, List.replicate_zero, List.getElem?_cons_zero, List.append_nil, Bool.false_eq_true, if_true, if_false, Nat.add_zero, hp, keyB_no hn]⟩
theorem lkey_is (c : CA) {S : Sto} {d : D} (h : okD S 2 d) : ∃ T, F_law_is_key c [d] S = .ok (.bl (keyB d)) (S ++ T) := by
  unfold F_law_is_key b_law_is_key
  obtain ⟨t, h1⟩ := h.1
  rcases tup_ways h1 with ⟨xs, rfl, rfl⟩ | ⟨hn, ht⟩
  · match xs, h with
    | [], h => exact ⟨[], by simp only [ap_fVar, varK_some, ap_fC, ap_fBin, ap_binK, ap_fApp, ap_fNil, ap_fCons, ap_consK, ap_consK2, ap_fAndV, ap_andVK, ap_fRet, ap_retK, ap_fIx, ap_ixK, isDict_tup, getL_tup, ap_fCall, ap_fnF, ap_fnK_rt, o_eq, eqK_some, eqv_int, toP_int, o_len, lenK_some, lenD_tup, ap_fIsi, ap_isiK0, ap_isiK, ap_isiK2, o_getD, R.bind_ok, List.map_cons, List.map_nil, List.length_cons, List.length_nil, Nat.zero_add, Nat.reduceSub, List.replicate_zero, List.getElem?_cons_zero, List.append_nil, Bool.false_eq_true, if_true, if_false, decide_true, decide_false, or_true, or_false, beq_iff_eq, Int.reduceEq, String.reduceEq, h1, isiD, keyB, n0, n1, n2]⟩
    | [a], h => exact ⟨[], by simp only [ap_fVar, varK_some, ap_fC, ap_fBin, ap_binK, ap_fApp, ap_fNil, ap_fCons, ap_consK, ap_consK2, ap_fAndV, ap_andVK, ap_fRet, ap_retK, ap_fIx, ap_ixK, isDict_tup, getL_tup, retO_some, atI_0, ap_fCall, ap_callK, ap_fnF, ap_fnK_rt, o_pow, o_eq, eqK_some, eqv_int, toP_int, o_len, lenK_some, lenD_tup, ap_fIsi, ap_isiK0, ap_isiK, ap_isiK2, o_getD, R.bind_ok, List.map_cons, List.map_nil, List.length_cons, List.length_nil, Nat.zero_add, Nat.reduceAdd, Nat.reduceSub, List.replicate_zero, List.getElem?_cons_zero, List.append_nil, Bool.false_eq_true, if_true, if_false, decide_true, decide_false, Nat.add_zero, Int.reduceLT, Int.reduceLE, Int.reduceNeg, Int.reducePow, or_true, or_false, and_self, Int.reduceToNat, beq_iff_eq, Int.reduceEq, String.reduceEq, h1, isiD, keyB, n0, n1, n2]⟩
    | [a, b], h =>
      have ha := h.mem a (by simp)
      have hb := h.mem b (by simp)
      obtain ⟨ta, ha1⟩ := ha.1
      have hn := is_int_eq c (a := 0) (b := 1000000000000) ha1
      by_cases hi : intIn 0 1000000000000 a = true
      · obtain ⟨T, hT⟩ := lnm_is c hb
        rw [hi] at hn
        exact ⟨T, by simp only [ap_fVar, varK_some, ap_fC, ap_fBin, ap_binK, ap_fApp, ap_fNil, ap_fCons, ap_consK, ap_consK2, ap_fAndV, ap_andVK, ap_fRet, ap_retK, ap_fIx, ap_ixK, isDict_tup, getL_tup, retO_some, atI_0, atI_1, ap_fCall, ap_callK, ap_fnF, ap_fnK_rt, o_pow, o_eq, eqK_some, eqv_int, toP_int, o_len, lenK_some, lenD_tup, ap_fIsi, ap_isiK0, ap_isiK, ap_isiK2, o_getD, R.bind_ok, R.nox_ok, List.map_cons, List.map_nil, List.length_cons, List.length_nil, Nat.zero_add, Nat.reduceAdd, Nat.reduceSub, List.replicate_zero, List.getElem?_cons_zero, List.append_nil, Bool.false_eq_true, if_true, if_false, decide_true, decide_false, Nat.add_zero, Int.reduceLT, Int.reduceLE, Int.reduceNeg, Int.reducePow, or_true, or_false, and_self, Int.reduceToNat, beq_iff_eq, String.reduceEq, h1, isiD, keyB, n0, n1, n2, hn, hT, hi, Bool.true_and]⟩
      · have hi : intIn 0 1000000000000 a = false := by simpa using hi
        rw [hi] at hn
        exact ⟨[], by simp only [ap_fVar, varK_some, ap_fC, ap_fBin, ap_binK, ap_fApp, ap_fNil, ap_fCons, ap_consK, ap_consK2, ap_fAndV, ap_andVK, ap_fRet, ap_retK, ap_fIx, ap_ixK, isDict_tup, getL_tup, retO_some, atI_0, atI_1, ap_fCall, ap_callK, ap_fnF, ap_fnK_rt, o_pow, o_eq, eqK_some, eqv_int, toP_int, o_len, lenK_some, lenD_tup, ap_fIsi, ap_isiK0, ap_isiK, ap_isiK2, o_getD, R.bind_ok, R.nox_ok, List.map_cons, List.map_nil, List.length_cons, List.length_nil, Nat.zero_add, Nat.reduceAdd, Nat.reduceSub, List.replicate_zero, List.getElem?_cons_zero, List.append_nil, Bool.false_eq_true, if_true, if_false, decide_true, decide_false, Nat.add_zero, Int.reduceLT, Int.reduceLE, Int.reduceNeg, Int.reducePow, or_true, or_false, and_self, Int.reduceToNat, beq_iff_eq, String.reduceEq, h1, isiD, keyB, n0, n1, n2, hn, hi, Bool.false_and]⟩
    | a :: b :: e :: r, h =>
      have : ¬ (((r.length + 1 + 1 + 1 : Nat) : Int) = 2) := by omega
      exact ⟨[], by simp only [ap_fVar, varK_some, ap_fC, ap_fBin, ap_binK, ap_fApp, ap_fNil, ap_fCons, ap_consK, ap_consK2, ap_fAndV, ap_andVK, ap_fRet, ap_retK, ap_fIx, ap_ixK, isDict_tup, getL_tup, retO_some, atI_0, ap_fCall, ap_callK, ap_fnF, ap_fnK_rt, o_pow, o_eq, eqK_some, eqv_int, toP_int, o_len, lenK_some, lenD_tup, ap_fIsi, ap_isiK0, ap_isiK, ap_isiK2, o_getD, R.bind_ok, List.map_cons, List.map_nil, List.length_cons, List.length_nil, Nat.zero_add, Nat.reduceAdd, Nat.reduceSub, List.replicate_zero, List.getElem?_cons_zero, List.append_nil, Bool.false_eq_true, if_true, if_false, decide_true, decide_false, Nat.add_zero, Int.reduceLT, Int.reduceLE, Int.reduceNeg, Int.reducePow, or_true, or_false, and_self, Int.reduceToNat, beq_iff_eq, String.reduceEq, Nat.add_assoc, h1, isiD, keyB, n0, n1, n2, this]⟩
  · rw [keyB_no hn]
    refine ⟨[], ?_⟩
    rcases ht with rfl | rfl | rfl | rfl | rfl | rfl
    all_goals simp only [ap_fVar, varK_some, ap_fBin, ap_fApp, ap_fNil, ap_fCons, ap_consK, ap_consK2, ap_fAndV, ap_andVK, ap_fRet, ap_retK, ap_fnF, ap_fnK_rt, o_len, ap_fIsi, ap_isiK0, ap_isiK, ap_isiK2, R.bind_ok, List.map_cons, List.map_nil, List.length_cons, List.length_nil, Nat.zero_add, Nat.reduceSub, List.replicate_zero, List.getElem?_cons_zero, List.append_nil, Bool.false_eq_true, if_true, if_false, decide_true, decide_false, or_true, or_false, String.reduceEq, h1, isiD]
def Dr (n : Nat) (S S1 : Sto) : Prop := (∃ s, S1[n]? = some (stC s)) ∧ (Kp S S1 ∧ Fr S S1 (fun i => i = n))
theorem Dr.trans {n : Nat} {S S1 S2 : Sto} (a : Dr n S S1) (b : Dr n S1 S2) : Dr n S S2 := ⟨b.1, a.2.1.trans b.2.1, a.2.2.trans b.2.2⟩
theorem Dr.mk0 {n : Nat} {S T : Sto} {s s1 : Sd} (h : S[n]? = some (stC s)) : Dr n S (S.set n (stC s1) ++ T) := ⟨⟨_, app_get (set_get h)⟩, (Kp.set h).trans (Kp.app _ _), (Fr.set (P := fun i => i = n) rfl).trans (Fr.app _ _ _)⟩
theorem Dr.mk1 {n : Nat} {S : Sto} {s s1 : Sd} (h : S[n]? = some (stC s)) : Dr n S (S.set n (stC s1)) := ⟨⟨_, set_get h⟩, Kp.set h, Fr.set (P := fun i => i = n) rfl⟩
theorem Dr.app {n : Nat} {S S1 T : Sto} (h : Dr n S S1) : Dr n S (S1 ++ T) := ⟨let ⟨s, h⟩ := h.1; ⟨s, app_get h⟩, h.2.1.trans (Kp.app _ _), h.2.2.trans (Fr.app _ _ _)⟩
def okA (d : D) : Prop := ∀ S m, okD S m d
theorem okA.tup {xs : List D} (h1 : xs.length ≤ 1000) (h2 : ∀ x ∈ xs, okA x) : okA (.tup xs) := fun S m => by
  cases m with
  | zero => trivial
  | succ m => exact okD.tup h1 fun x hx => h2 x hx S m
theorem okA.mem {xs : List D} (h : okA (.tup xs)) : ∀ x ∈ xs, okA x := fun x hx S m => (h S (m + 1)).mem x hx
theorem okA.len {xs : List D} (h : okA (.tup xs)) : xs.length ≤ 1000 := ((h [] 1).2.2 xs rfl).1
theorem okA.int {i : Int} : okA (.int i) := fun _ _ => okD.int
theorem okA.str {z : Str} (h1 : z.length ≤ 1000) (h2 : PyData.strOk z = true) : okA (.str z) := fun _ _ => okD.str h1 h2
def okB : Nat → D → Bool
  | _, .non => true
  | _, .bl _ => true
  | _, .int _ => true
  | _, .str z => decide (z.length ≤ 1000) && PyData.strOk z
  | n + 1, .tup xs => decide (xs.length ≤ 1000) && xs.all (okB n)
  | _, _ => false
theorem okB_ok : ∀ (n : Nat) (d : D), okB n d = true → okA d := by
  intro n
  induction n with
  | zero =>
    intro d h
    cases d with
    | non => exact fun _ _ => okD.atom (t := "NoneType") rfl (fun _ e => nomatch e) (fun _ e => nomatch e)
    | bl b => exact fun _ _ => okD.atom (t := "bool") rfl (fun _ e => nomatch e) (fun _ e => nomatch e)
    | int i => exact okA.int
    | str z =>
      have h : (decide (z.length ≤ 1000) && PyData.strOk z) = true := h
      simp only [Bool.and_eq_true, decide_eq_true_eq] at h
      exact okA.str h.1 h.2
    | _ => cases h
  | succ n ih =>
    intro d h
    cases d with
    | non => exact fun _ _ => okD.atom (t := "NoneType") rfl (fun _ e => nomatch e) (fun _ e => nomatch e)
    | bl b => exact fun _ _ => okD.atom (t := "bool") rfl (fun _ e => nomatch e) (fun _ e => nomatch e)
    | int i => exact okA.int
    | str z =>
      have h : (decide (z.length ≤ 1000) && PyData.strOk z) = true := h
      simp only [Bool.and_eq_true, decide_eq_true_eq] at h
      exact okA.str h.1 h.2
    | tup xs =>
      have h : (decide (xs.length ≤ 1000) && xs.all (okB n)) = true := h
      simp only [Bool.and_eq_true, decide_eq_true_eq, List.all_eq_true] at h
      exact okA.tup h.1 fun x hx => ih x (h.2 x hx)
    | _ => cases h
theorem odd_end {n : Nat} {S : Sto} {x : Int} {S1 : Sto} {a b e f : Nat} {la le lf : List D} {lb : List (Key × D)} (h1 : 0 ≤ x) (h2 : x < 34) (ha : S1[a]? = some (.lst la)) (hb : S1[b]? = some (.dk lb)) (he : S1[e]? = some (.lst le)) (hf : S1[f]? = some (.lst lf)) (hD : Dr n S S1) :
    ∃ d S2, ((retO S1 (atI [D.non, D.bl true, D.bl false, D.int 0, D.int 1, D.int (-1), D.int 1000000000000, D.int 1000000000001, D.int (-1000000000000), D.int (-1000000000001), D.int 1000000000000000, D.int 1000000000000001, D.int (-1000000000000000), D.int (-1000000000000001), D.str ⟨#[]⟩, D.str ⟨#[97]⟩, D.str ⟨#[65]⟩, D.str ⟨#[97, 49]⟩, D.str ⟨#[97, 32, 98]⟩, D.str ⟨#[97, 98, 99, 100, 101, 102, 103, 104, 105, 106, 107, 108, 109]⟩, D.tup [], D.ref a, D.ref b, D.str ⟨#[97, 10]⟩, D.tup [D.str ⟨#[97]⟩], D.ref e, D.tup [D.int 1, D.str ⟨#[97]⟩], D.ref f, D.tup [D.int 1, D.int 0], D.tup [D.int 0, D.int 1], D.tup [D.bl true, D.str ⟨#[97]⟩], D.tup [D.int 1, D.bl true], D.tup [D.non, D.non], D.tup [D.tup [D.int 1, D.int 0], D.int 1]] x)).bind retK).bind fnK = .ok d S2 ∧ Dr n S S2 ∧ (∀ m, okD S2 m d) ∧ ∀ xs, d = .tup xs → xs.length ≤ 100 := by
  obtain ⟨d, hd, hm⟩ := atI_mem h1 (l := [D.non, D.bl true, D.bl false, D.int 0, D.int 1, D.int (-1), D.int 1000000000000, D.int 1000000000001, D.int (-1000000000000), D.int (-1000000000001), D.int 1000000000000000, D.int 1000000000000001, D.int (-1000000000000000), D.int (-1000000000000001), D.str ⟨#[]⟩, D.str ⟨#[97]⟩, D.str ⟨#[65]⟩, D.str ⟨#[97, 49]⟩, D.str ⟨#[97, 32, 98]⟩, D.str ⟨#[97, 98, 99, 100, 101, 102, 103, 104, 105, 106, 107, 108, 109]⟩, D.tup [], D.ref a, D.ref b, D.str ⟨#[97, 10]⟩, D.tup [D.str ⟨#[97]⟩], D.ref e, D.tup [D.int 1, D.str ⟨#[97]⟩], D.ref f, D.tup [D.int 1, D.int 0], D.tup [D.int 0, D.int 1], D.tup [D.bl true, D.str ⟨#[97]⟩], D.tup [D.int 1, D.bl true], D.tup [D.non, D.non], D.tup [D.tup [D.int 1, D.int 0], D.int 1]]) h2
  rw [hd]
  clear hd
  simp only [List.mem_cons, List.not_mem_nil, or_false] at hm
  refine ⟨d, S1, rfl, hD, ?_, ?_⟩
  rotate_left
  · intro xs e
    subst e
    simp only [reduceCtorEq, D.tup.injEq, false_or, or_false] at hm
    rcases hm with rfl | rfl | rfl | rfl | rfl | rfl | rfl | rfl | rfl <;> decide
  rcases hm with rfl | rfl | rfl | rfl | rfl | rfl | rfl | rfl | rfl | rfl | rfl | rfl | rfl | rfl | rfl | rfl | rfl | rfl | rfl | rfl | rfl | rfl | rfl | rfl | rfl | rfl | rfl | rfl | rfl | rfl | rfl | rfl | rfl | rfl
  all_goals first
    | exact fun m => okB_ok 4 _ (by decide +kernel) _ m
    | exact fun m => okD.atom (t := "list") (by rw [tyD_ref, ha]; rfl) (fun _ e => nomatch e) (fun _ e => nomatch e)
    | exact fun m => okD.atom (t := "dict") (by rw [tyD_ref, hb]; rfl) (fun _ e => nomatch e) (fun _ e => nomatch e)
    | exact fun m => okD.atom (t := "list") (by rw [tyD_ref, he]; rfl) (fun _ e => nomatch e) (fun _ e => nomatch e)
    | exact fun m => okD.atom (t := "list") (by rw [tyD_ref, hf]; rfl) (fun _ e => nomatch e) (fun _ e => nomatch e)
theorem odd_eq (c : CA) {n : Nat} {s : Sd} {S : Sto} (h : S[n]? = some (stC s)) : ∃ d S1, F_law_odd c [.ref n] S = .ok d S1 ∧ Dr n S S1 ∧ (∀ m, okD S1 m d) ∧ ∀ xs, d = .tup xs → xs.length ≤ 100 := by
  unfold F_law_odd b_law_odd
  have h1 := dNext_lo (size := 34) (by decide) s
  have h2 := dNext_hi (size := 34) (by decide) s
  simp only [ap_fVar, varK_some, ap_fC, ap_fBin, ap_binK, ap_fUn, ap_fNil, ap_fCons, ap_consK, ap_consK2, ap_fTup, ap_fLst, ap_tupK, ap_lstK, ap_fSeq, ap_seqK_nx, ap_fRet, ap_fAsg, ap_asgK, ap_asgK2, ap_gN, ap_fIx, ap_ixK, isDict_ref, isDictC_lst, getL_ref, getLC_lst, ap_fCall, ap_callK, ap_fnF, o_add, o_addR, o_addC, o_sub, o_pow, o_neg, ap_fDict0, o_getD, lookD_ref, R.bind_ok, R.nox_ok, List.map_cons, List.map_nil, List.length_cons, List.length_nil, List.cons_append, List.nil_append, Nat.zero_add, Nat.reduceAdd, Nat.reduceSub, List.replicate_succ, List.replicate_zero, List.getElem?_cons_zero, List.getElem?_cons_succ, List.set_cons_zero, List.set_cons_succ, List.append_nil, Bool.false_eq_true, if_true, if_false, Nat.add_zero, Nat.reduceLeDiff, Int.reduceLT, Int.reduceLE, Int.reduceNeg, Int.reducePow, Int.reduceAdd, Int.reduceSub, and_self, Int.reduceToNat, get_app, get_app0, get_apps, List.append_assoc, List.length_append, next_eq, fT_nextC, app_get h, h, app_set h]
  exact odd_end h1 h2 get_apps get_apps get_apps get_apps (Dr.mk0 h)
theorem lst_tup {S : Sto} {xs : List D} : oList [.tup xs] S = .ok (.ref S.length) (S ++ [.lst xs]) := by
  unfold oList
  simp only [o_seqT]
theorem cutL {α : Type} {l : List α} {a b : Option Int} : (cutD l a b).length ≤ l.length := by
  unfold cutD
  rw [List.length_take, List.length_drop]; omega
theorem cutM {α : Type} {l : List α} {a b : Option Int} {x : α} (h : x ∈ cutD l a b) : x ∈ l := List.mem_of_mem_drop (List.mem_of_mem_take h)
theorem okD.tup' {S : Sto} {xs : List D} (h1 : xs.length ≤ 1000) (h2 : ∀ x ∈ xs, ∀ m, okD S m x) : ∀ m, okD S m (.tup xs)
  | 0 => trivial
  | m + 1 => okD.tup h1 fun x hx => h2 x hx m
theorem listOk {S : Sto} {n : Nat} {xs : List D} (h : S[n]? = some (.lst xs)) : ∀ m, okD S m (.ref n) := fun m => okD.atom (t := "list") (by rw [tyD_ref, h]; rfl) (fun _ e => nomatch e) (fun _ e => nomatch e)
theorem count_is (c : CA) {S : Sto} {d : D} {t : String} (h : tyD S d = some t) : F_is_count c [d] S = .ok (.bl (intIn 1 1000000000000 d)) S := by
  unfold F_is_count b_is_count
  simp only [ap_fVar, varK_some, ap_fC, ap_fNil, ap_fCons, ap_consK, ap_consK2, ap_fRet, ap_retK, ap_fCall, ap_callK, ap_fnF, ap_fnK_rt, R.bind_ok, R.nox_ok, List.map_cons, List.map_nil, List.length_cons, List.length_nil, Nat.zero_add, Nat.reduceAdd, Nat.reduceSub, List.replicate_zero, List.getElem?_cons_zero, List.append_nil, if_true, Nat.add_zero, between_eq c h]
theorem numb_is (c : CA) {S : Sto} {d : D} {t : String} (h : tyD S d = some t) : F_is_number c [d] S = .ok (.bl (intIn 0 1000000000000 d)) S := by
  rw [number_is c h, e12]
def trB : D → Bool
  | .tup [a, b] => intIn 1 1000000000000 a && intIn 0 1000000000000 b
  | _ => false
theorem trB_no {d : D} (h : ∀ xs, d ≠ .tup xs) : trB d = false := by
  cases d with
  | tup xs => exact absurd rfl (h xs)
  | _ => rfl
def whoB : D → Bool
  | .tup [t, a] => trB t && intIn 1 1000000000000 a
  | _ => false
theorem whoB_no {d : D} (h : ∀ xs, d ≠ .tup xs) : whoB d = false := by
  cases d with
  | tup xs => exact absurd rfl (h xs)
  | _ => rfl
def markB : D → Bool
  | .tup [t, a, k, n] => (trB t && intIn 1 1000000000000 a) && (keyB k && intIn 1 1000000000000 n)
  | _ => false
theorem markB_no {d : D} (h : ∀ xs, d ≠ .tup xs) : markB d = false := by
  cases d with
  | tup xs => exact absurd rfl (h xs)
  | _ => rfl
theorem len_cases (xs : List D) (k : Nat) : lenIs (k : Int) (.tup xs) = decide (xs.length = k) := by
  show decide ((xs.length : Int) = (k : Int)) = _
  by_cases h : xs.length = k
  · rw [decide_eq_true h, decide_eq_true (by omega)]
  · rw [decide_eq_false h, decide_eq_false (by omega)]
theorem two_of {xs : List D} (h : xs.length = 2) : ∃ a b, xs = [a, b] := by
  match xs, h with
  | [a, b], _ => exact ⟨a, b, rfl⟩
theorem four_of {xs : List D} (h : xs.length = 4) : ∃ a b e f, xs = [a, b, e, f] := by
  match xs, h with
  | [a, b, e, f], _ => exact ⟨a, b, e, f, rfl⟩
theorem trB_len {xs : List D} (h : ¬ xs.length = 2) : trB (.tup xs) = false := by
  match xs, h with
  | [], _ => rfl
  | [_], _ => rfl
  | [_, _], h => exact absurd rfl h
  | _ :: _ :: _ :: _, _ => rfl
theorem whoB_len {xs : List D} (h : ¬ xs.length = 2) : whoB (.tup xs) = false := by
  match xs, h with
  | [], _ => rfl
  | [_], _ => rfl
  | [_, _], h => exact absurd rfl h
  | _ :: _ :: _ :: _, _ => rfl
theorem markB_len {xs : List D} (h : ¬ xs.length = 4) : markB (.tup xs) = false := by
  match xs, h with
  | [], _ => rfl
  | [_], _ => rfl
  | [_, _], _ => rfl
  | [_, _, _], _ => rfl
  | [_, _, _, _], h => exact absurd rfl h
  | _ :: _ :: _ :: _ :: _ :: _, _ => rfl
theorem p2 (xs : List D) : lenIs 2 (.tup xs) = decide (xs.length = 2) := len_cases xs 2
theorem p4 (xs : List D) : lenIs 4 (.tup xs) = decide (xs.length = 4) := len_cases xs 4
theorem b22 : ((2 : Int) == 2) = true := by decide
theorem b44 : ((4 : Int) == 4) = true := by decide
theorem n4 : ((4 : Nat) : Int) = 4 := rfl
theorem tr_is (c : CA) {S : Sto} {d : D} (h : okD S 2 d) : F_is_transaction c [d] S = .ok (.bl (trB d)) S := by
  unfold F_is_transaction b_is_transaction
  obtain ⟨t, h1⟩ := h.1
  have hp := parts_is c (k := 2) h1
  rcases tup_ways h1 with ⟨xs, rfl, rfl⟩ | ⟨hn, ht⟩
  · rw [p2] at hp
    by_cases hl : xs.length = 2
    · rw [decide_eq_true hl] at hp
      obtain ⟨a, b, rfl⟩ := two_of hl
      obtain ⟨ta, ha⟩ := (h.mem a (by simp)).1
      obtain ⟨tb, hb⟩ := (h.mem b (by simp)).1
      have q1 := count_is c ha
      have q2 := numb_is c hb
      show _ = R.ok (D.bl (intIn 1 1000000000000 a && intIn 0 1000000000000 b)) S
      cases hx : intIn 1 1000000000000 a with
      | true => rw [hx] at q1; simp only [ap_fVar, varK_some, ap_fC, ap_fNil, ap_fCons, ap_consK, ap_consK2, ap_fAndV, ap_andVK, ap_fRet, ap_retK, ap_fIx, ap_ixK, isDict_tup, getL_tup, retO_some, atI_0, atI_1, ap_fCall, ap_callK, ap_fnF, ap_fnK_rt, o_getD, R.bind_ok, R.nox_ok, List.map_cons, List.map_nil, List.length_cons, List.length_nil, Nat.zero_add, Nat.reduceAdd, Nat.reduceSub, List.replicate_zero, List.getElem?_cons_zero, List.append_nil, Bool.false_eq_true, if_true, if_false, Nat.add_zero, hp, q1, q2, Bool.true_and]
      | false => rw [hx] at q1; simp only [ap_fVar, varK_some, ap_fC, ap_fNil, ap_fCons, ap_consK, ap_consK2, ap_fAndV, ap_andVK, ap_fRet, ap_retK, ap_fIx, ap_ixK, isDict_tup, getL_tup, retO_some, atI_0, atI_1, ap_fCall, ap_callK, ap_fnF, ap_fnK_rt, o_getD, R.bind_ok, R.nox_ok, List.map_cons, List.map_nil, List.length_cons, List.length_nil, Nat.zero_add, Nat.reduceAdd, Nat.reduceSub, List.replicate_zero, List.getElem?_cons_zero, List.append_nil, Bool.false_eq_true, if_true, if_false, Nat.add_zero, hp, q1, Bool.false_and]
    · rw [decide_eq_false hl] at hp
      simp only [ap_fVar, varK_some, ap_fC, ap_fNil, ap_fCons, ap_consK, ap_consK2, ap_fAndV, ap_andVK, ap_fRet, ap_retK, ap_fIx, ap_ixK, isDict_tup, getL_tup, ap_fCall, ap_callK, ap_fnF, ap_fnK_rt, o_getD, R.bind_ok, R.nox_ok, List.map_cons, List.map_nil, List.length_cons, List.length_nil, Nat.zero_add, Nat.reduceAdd, Nat.reduceSub, List.replicate_zero, List.getElem?_cons_zero, List.append_nil, Bool.false_eq_true, if_true, if_false, Nat.add_zero, hp, trB_len hl]
  · rw [lenIs_no hn] at hp
    simp only [ap_fVar, varK_some, ap_fC, ap_fNil, ap_fCons, ap_consK, ap_consK2, ap_fAndV, ap_andVK, ap_fRet, ap_retK, ap_fIx, ap_ixK, ap_fCall, ap_callK, ap_fnF, ap_fnK_rt, o_getD, R.bind_ok, R.nox_ok, List.map_cons, List.map_nil, List.length_cons, List.length_nil, Nat.zero_add, Nat.reduceAdd, Nat.reduceSub, List.replicate_zero, List.getElem?_cons_zero, List.append_nil, Bool.false_eq_true, if_true, if_false, Nat.add_zero, hp, trB_no hn]
theorem ltr_is (c : CA) {S : Sto} {d : D} (h : okD S 2 d) : F_law_is_transaction c [d] S = .ok (.bl (trB d)) S := by
  unfold F_law_is_transaction b_law_is_transaction
  obtain ⟨t, h1⟩ := h.1
  rcases tup_ways h1 with ⟨xs, rfl, rfl⟩ | ⟨hn, ht⟩
  · by_cases hl : xs.length = 2
    · obtain ⟨a, b, rfl⟩ := two_of hl
      obtain ⟨ta, ha⟩ := (h.mem a (by simp)).1
      obtain ⟨tb, hb⟩ := (h.mem b (by simp)).1
      have q1 := is_int_eq c (a := 1) (b := 1000000000000) ha
      have q2 := is_int_eq c (a := 0) (b := 1000000000000) hb
      show _ = R.ok (D.bl (intIn 1 1000000000000 a && intIn 0 1000000000000 b)) S
      cases hx : intIn 1 1000000000000 a with
      | true => rw [hx] at q1; simp only [ap_fVar, varK_some, ap_fC, ap_fBin, ap_binK, ap_fApp, ap_fNil, ap_fCons, ap_consK, ap_consK2, ap_fTest, ap_testK, ap_fOr, ap_fNot, ap_orK, ap_notK, ap_fAndV, ap_andVK, ap_fSkip, ap_fSeq, ap_seqK_nx, ap_fIf, ap_ifK, ap_fRet, ap_retK, ap_fIx, ap_ixK, isDict_tup, getL_tup, retO_some, atI_0, atI_1, ap_fCall, ap_callK, ap_fnF, ap_fnK_rt, o_pow, o_ne, neK_some, eqv_int, toP_int, o_len, lenK_some, lenD_tup, ap_fIsi, ap_isiK0, ap_isiK, ap_isiK2, o_getD, R.bind_ok, R.nox_ok, List.map_cons, List.map_nil, List.length_cons, List.length_nil, Nat.zero_add, Nat.reduceAdd, Nat.reduceSub, List.replicate_zero, List.getElem?_cons_zero, List.append_nil, Bool.false_eq_true, if_true, if_false, decide_true, decide_false, Nat.add_zero, Int.reduceLT, Int.reduceLE, Int.reduceNeg, Int.reducePow, or_true, or_false, and_self, Bool.not_true, Int.reduceToNat, String.reduceEq, h1, isiD, n2, b22, q1, q2, Bool.true_and]
      | false => rw [hx] at q1; simp only [ap_fVar, varK_some, ap_fC, ap_fBin, ap_binK, ap_fApp, ap_fNil, ap_fCons, ap_consK, ap_consK2, ap_fTest, ap_testK, ap_fOr, ap_fNot, ap_orK, ap_notK, ap_fAndV, ap_andVK, ap_fSkip, ap_fSeq, ap_seqK_nx, ap_fIf, ap_ifK, ap_fRet, ap_retK, ap_fIx, ap_ixK, isDict_tup, getL_tup, retO_some, atI_0, atI_1, ap_fCall, ap_callK, ap_fnF, ap_fnK_rt, o_pow, o_ne, neK_some, eqv_int, toP_int, o_len, lenK_some, lenD_tup, ap_fIsi, ap_isiK0, ap_isiK, ap_isiK2, o_getD, R.bind_ok, R.nox_ok, List.map_cons, List.map_nil, List.length_cons, List.length_nil, Nat.zero_add, Nat.reduceAdd, Nat.reduceSub, List.replicate_zero, List.getElem?_cons_zero, List.append_nil, Bool.false_eq_true, if_true, if_false, decide_true, decide_false, Nat.add_zero, Int.reduceLT, Int.reduceLE, Int.reduceNeg, Int.reducePow, or_true, or_false, and_self, Bool.not_true, Int.reduceToNat, String.reduceEq, h1, isiD, n2, b22, q1, Bool.false_and]
    · have hl' : ((xs.length : Nat) : Int) ≠ 2 := by omega
      have hb : (((xs.length : Nat) : Int) == 2) = false := beq_eq_false_iff_ne.mpr hl'
      simp only [ap_fVar, varK_some, ap_fC, ap_fBin, ap_binK, ap_fApp, ap_fNil, ap_fCons, ap_consK, ap_consK2, ap_fTest, ap_testK, ap_fOr, ap_fNot, ap_orK, ap_notK, ap_fSkip, ap_fSeq, ap_seqK_rt, ap_fIf, ap_ifK, ap_fRet, ap_retK, ap_fnF, ap_fnK_rt, o_ne, neK_some, eqv_int, toP_int, o_len, lenK_some, lenD_tup, ap_fIsi, ap_isiK0, ap_isiK, ap_isiK2, R.bind_ok, List.map_cons, List.map_nil, List.length_cons, List.length_nil, Nat.zero_add, Nat.reduceSub, List.replicate_zero, List.getElem?_cons_zero, List.append_nil, Bool.false_eq_true, if_true, if_false, decide_true, decide_false, or_true, or_false, Bool.not_true, Bool.not_false, String.reduceEq, h1, isiD, hb, hl', trB_len hl]
  · rw [trB_no hn]
    rcases ht with rfl | rfl | rfl | rfl | rfl | rfl
    all_goals simp only [ap_fVar, varK_some, ap_fC, ap_fBin, ap_fApp, ap_fNil, ap_fCons, ap_consK, ap_consK2, ap_fTest, ap_testK, ap_fOr, ap_fNot, ap_orK, ap_notK, ap_fSkip, ap_fSeq, ap_seqK_rt, ap_fIf, ap_ifK, ap_fRet, ap_retK, ap_fnF, ap_fnK_rt, o_len, ap_fIsi, ap_isiK0, ap_isiK, ap_isiK2, R.bind_ok, List.map_cons, List.map_nil, List.length_cons, List.length_nil, Nat.zero_add, Nat.reduceSub, List.replicate_zero, List.getElem?_cons_zero, List.append_nil, if_true, if_false, decide_true, decide_false, or_true, or_false, Bool.not_false, String.reduceEq, h1, isiD]
theorem who_is (c : CA) {S : Sto} {d : D} (h : okD S 3 d) : F_is_who c [d] S = .ok (.bl (whoB d)) S := by
  unfold F_is_who b_is_who
  obtain ⟨t, h1⟩ := h.1
  have hp := parts_is c (k := 2) h1
  rcases tup_ways h1 with ⟨xs, rfl, rfl⟩ | ⟨hn, ht⟩
  · rw [p2] at hp
    by_cases hl : xs.length = 2
    · rw [decide_eq_true hl] at hp
      obtain ⟨a, b, rfl⟩ := two_of hl
      have q1 := tr_is c (h.mem a (by simp))
      obtain ⟨tb, hb⟩ := (h.mem b (by simp)).1
      have q2 := count_is c hb
      show _ = R.ok (D.bl (trB a && intIn 1 1000000000000 b)) S
      cases hx : trB a with
      | true => rw [hx] at q1; simp only [ap_fVar, varK_some, ap_fC, ap_fNil, ap_fCons, ap_consK, ap_consK2, ap_fAndV, ap_andVK, ap_fRet, ap_retK, ap_fIx, ap_ixK, isDict_tup, getL_tup, retO_some, atI_0, atI_1, ap_fCall, ap_callK, ap_fnF, ap_fnK_rt, o_getD, R.bind_ok, R.nox_ok, List.map_cons, List.map_nil, List.length_cons, List.length_nil, Nat.zero_add, Nat.reduceAdd, Nat.reduceSub, List.replicate_zero, List.getElem?_cons_zero, List.append_nil, Bool.false_eq_true, if_true, if_false, Nat.add_zero, hp, q1, q2, Bool.true_and]
      | false => rw [hx] at q1; simp only [ap_fVar, varK_some, ap_fC, ap_fNil, ap_fCons, ap_consK, ap_consK2, ap_fAndV, ap_andVK, ap_fRet, ap_retK, ap_fIx, ap_ixK, isDict_tup, getL_tup, retO_some, atI_0, atI_1, ap_fCall, ap_callK, ap_fnF, ap_fnK_rt, o_getD, R.bind_ok, R.nox_ok, List.map_cons, List.map_nil, List.length_cons, List.length_nil, Nat.zero_add, Nat.reduceAdd, Nat.reduceSub, List.replicate_zero, List.getElem?_cons_zero, List.append_nil, Bool.false_eq_true, if_true, if_false, Nat.add_zero, hp, q1, Bool.false_and]
    · rw [decide_eq_false hl] at hp
      simp only [ap_fVar, varK_some, ap_fC, ap_fNil, ap_fCons, ap_consK, ap_consK2, ap_fAndV, ap_andVK, ap_fRet, ap_retK, ap_fIx, ap_ixK, isDict_tup, getL_tup, ap_fCall, ap_callK, ap_fnF, ap_fnK_rt, o_getD, R.bind_ok, R.nox_ok, List.map_cons, List.map_nil, List.length_cons, List.length_nil, Nat.zero_add, Nat.reduceAdd, Nat.reduceSub, List.replicate_zero, List.getElem?_cons_zero, List.append_nil, Bool.false_eq_true, if_true, if_false, Nat.add_zero, hp, whoB_len hl]
  · rw [lenIs_no hn] at hp
    simp only [ap_fVar, varK_some, ap_fC, ap_fNil, ap_fCons, ap_consK, ap_consK2, ap_fAndV, ap_andVK, ap_fRet, ap_retK, ap_fIx, ap_ixK, ap_fCall, ap_callK, ap_fnF, ap_fnK_rt, o_getD, R.bind_ok, R.nox_ok, List.map_cons, List.map_nil, List.length_cons, List.length_nil, Nat.zero_add, Nat.reduceAdd, Nat.reduceSub, List.replicate_zero, List.getElem?_cons_zero, List.append_nil, Bool.false_eq_true, if_true, if_false, Nat.add_zero, hp, whoB_no hn]
theorem lwho_is (c : CA) {S : Sto} {d : D} (h : okD S 3 d) : F_law_is_who c [d] S = .ok (.bl (whoB d)) S := by
  unfold F_law_is_who b_law_is_who
  obtain ⟨t, h1⟩ := h.1
  rcases tup_ways h1 with ⟨xs, rfl, rfl⟩ | ⟨hn, ht⟩
  · by_cases hl : xs.length = 2
    · obtain ⟨a, b, rfl⟩ := two_of hl
      have q1 := ltr_is c (h.mem a (by simp))
      obtain ⟨tb, hb⟩ := (h.mem b (by simp)).1
      have q2 := is_int_eq c (a := 1) (b := 1000000000000) hb
      show _ = R.ok (D.bl (trB a && intIn 1 1000000000000 b)) S
      cases hx : trB a with
      | true => rw [hx] at q1; simp only [ap_fVar, varK_some, ap_fC, ap_fBin, ap_binK, ap_fApp, ap_fNil, ap_fCons, ap_consK, ap_consK2, ap_fTest, ap_testK, ap_fOr, ap_fNot, ap_orK, ap_notK, ap_fAndV, ap_andVK, ap_fSkip, ap_fSeq, ap_seqK_nx, ap_fIf, ap_ifK, ap_fRet, ap_retK, ap_fIx, ap_ixK, isDict_tup, getL_tup, retO_some, atI_0, atI_1, ap_fCall, ap_callK, ap_fnF, ap_fnK_rt, o_pow, o_ne, neK_some, eqv_int, toP_int, o_len, lenK_some, lenD_tup, ap_fIsi, ap_isiK0, ap_isiK, ap_isiK2, o_getD, R.bind_ok, R.nox_ok, List.map_cons, List.map_nil, List.length_cons, List.length_nil, Nat.zero_add, Nat.reduceAdd, Nat.reduceSub, List.replicate_zero, List.getElem?_cons_zero, List.append_nil, Bool.false_eq_true, if_true, if_false, decide_true, decide_false, Nat.add_zero, Int.reduceLT, Int.reduceLE, Int.reduceNeg, Int.reducePow, or_true, or_false, and_self, Bool.not_true, Int.reduceToNat, String.reduceEq, h1, isiD, n2, b22, q1, q2, Bool.true_and]
      | false => rw [hx] at q1; simp only [ap_fVar, varK_some, ap_fC, ap_fBin, ap_binK, ap_fApp, ap_fNil, ap_fCons, ap_consK, ap_consK2, ap_fTest, ap_testK, ap_fOr, ap_fNot, ap_orK, ap_notK, ap_fAndV, ap_andVK, ap_fSkip, ap_fSeq, ap_seqK_nx, ap_fIf, ap_ifK, ap_fRet, ap_retK, ap_fIx, ap_ixK, isDict_tup, getL_tup, retO_some, atI_0, atI_1, ap_fCall, ap_callK, ap_fnF, ap_fnK_rt, o_pow, o_ne, neK_some, eqv_int, toP_int, o_len, lenK_some, lenD_tup, ap_fIsi, ap_isiK0, ap_isiK, ap_isiK2, o_getD, R.bind_ok, R.nox_ok, List.map_cons, List.map_nil, List.length_cons, List.length_nil, Nat.zero_add, Nat.reduceAdd, Nat.reduceSub, List.replicate_zero, List.getElem?_cons_zero, List.append_nil, Bool.false_eq_true, if_true, if_false, decide_true, decide_false, Nat.add_zero, Int.reduceLT, Int.reduceLE, Int.reduceNeg, Int.reducePow, or_true, or_false, and_self, Bool.not_true, Int.reduceToNat, String.reduceEq, h1, isiD, n2, b22, q1, Bool.false_and]
    · have hl' : ((xs.length : Nat) : Int) ≠ 2 := by omega
      have hb : (((xs.length : Nat) : Int) == 2) = false := beq_eq_false_iff_ne.mpr hl'
      simp only [ap_fVar, varK_some, ap_fC, ap_fBin, ap_binK, ap_fApp, ap_fNil, ap_fCons, ap_consK, ap_consK2, ap_fTest, ap_testK, ap_fOr, ap_fNot, ap_orK, ap_notK, ap_fSkip, ap_fSeq, ap_seqK_rt, ap_fIf, ap_ifK, ap_fRet, ap_retK, ap_fnF, ap_fnK_rt, o_ne, neK_some, eqv_int, toP_int, o_len, lenK_some, lenD_tup, ap_fIsi, ap_isiK0, ap_isiK, ap_isiK2, R.bind_ok, List.map_cons, List.map_nil, List.length_cons, List.length_nil, Nat.zero_add, Nat.reduceSub, List.replicate_zero, List.getElem?_cons_zero, List.append_nil, Bool.false_eq_true, if_true, if_false, decide_true, decide_false, or_true, or_false, Bool.not_true, Bool.not_false, String.reduceEq, h1, isiD, hb, hl', whoB_len hl]
  · rw [whoB_no hn]
    rcases ht with rfl | rfl | rfl | rfl | rfl | rfl
    all_goals simp only [ap_fVar, varK_some, ap_fC, ap_fBin, ap_fApp, ap_fNil, ap_fCons, ap_consK, ap_consK2, ap_fTest, ap_testK, ap_fOr, ap_fNot, ap_orK, ap_notK, ap_fSkip, ap_fSeq, ap_seqK_rt, ap_fIf, ap_ifK, ap_fRet, ap_retK, ap_fnF, ap_fnK_rt, o_len, ap_fIsi, ap_isiK0, ap_isiK, ap_isiK2, R.bind_ok, List.map_cons, List.map_nil, List.length_cons, List.length_nil, Nat.zero_add, Nat.reduceSub, List.replicate_zero, List.getElem?_cons_zero, List.append_nil, if_true, if_false, decide_true, decide_false, or_true, or_false, Bool.not_false, String.reduceEq, h1, isiD]
theorem cut42 {a b e f : D} : cutD [a, b, e, f] none (some 2) = [a, b] := (rfl)
theorem mark_is (c : CA) {S : Sto} {d : D} (h : okD S 3 d) : ∃ T, F_is_mark c [d] S = .ok (.bl (markB d)) (S ++ T) := by
  unfold F_is_mark b_is_mark
  obtain ⟨t, h1⟩ := h.1
  have hp := parts_is c (k := 4) h1
  rcases tup_ways h1 with ⟨xs, rfl, rfl⟩ | ⟨hn, ht⟩
  · rw [p4] at hp
    by_cases hl : xs.length = 4
    · rw [decide_eq_true hl] at hp
      obtain ⟨a, b, e, f, rfl⟩ := four_of hl
      have hw := who_is c (d := .tup [a, b]) (okD.tup (by simp) (fun x hx => h.mem x (by simp only [List.mem_cons, List.not_mem_nil, or_false] at hx ⊢; rcases hx with rfl | rfl <;> simp)))
      have hwb : whoB (.tup [a, b]) = (trB a && intIn 1 1000000000000 b) := rfl
      have hmb : markB (.tup [a, b, e, f]) = ((trB a && intIn 1 1000000000000 b) && (keyB e && intIn 1 1000000000000 f)) := rfl
      rw [hwb] at hw
      cases hx : (trB a && intIn 1 1000000000000 b) with
      | false =>
        rw [hx] at hw
        exact ⟨[], by simp only [ap_fVar, varK_some, ap_fC, ap_fNil, ap_fCons, ap_consK, ap_consK2, ap_fAndV, ap_andVK, ap_fRet, ap_retK, ap_fIx, ap_ixK, isDict_tup, getL_tup, retO_some, atI_2, ap_fCall, ap_callK, ap_fnF, ap_fnK_rt, ap_fSl, ap_slK1, ap_slK2, ap_pNo, ap_pSo, ap_pSoK, oSl_tup, o_getD, R.bind_ok, R.nox_ok, List.map_cons, List.map_nil, List.length_cons, List.length_nil, Nat.zero_add, Nat.reduceAdd, Nat.reduceSub, List.replicate_zero, List.getElem?_cons_zero, List.append_nil, Bool.false_eq_true, if_true, if_false, Nat.add_zero, hp, cut42, hw, hmb, hx, Bool.false_and]⟩
      | true =>
        rw [hx] at hw
        obtain ⟨T, hT⟩ := key_is c (h.mem e (by simp))
        obtain ⟨tf, hf⟩ := (okD.keep (Kp.app S T) _ _ (h.mem f (by simp))).1
        have q := count_is c hf
        refine ⟨T, ?_⟩
        cases hk : keyB e with
        | false => rw [hk] at hT; simp only [ap_fVar, varK_some, ap_fC, ap_fNil, ap_fCons, ap_consK, ap_consK2, ap_fAndV, ap_andVK, ap_fRet, ap_retK, ap_fIx, ap_ixK, isDict_tup, getL_tup, retO_some, atI_2, atI_3, ap_fCall, ap_callK, ap_fnF, ap_fnK_rt, ap_fSl, ap_slK1, ap_slK2, ap_pNo, ap_pSo, ap_pSoK, oSl_tup, o_getD, R.bind_ok, R.nox_ok, List.map_cons, List.map_nil, List.length_cons, List.length_nil, Nat.zero_add, Nat.reduceAdd, Nat.reduceSub, List.replicate_zero, List.getElem?_cons_zero, List.append_nil, Bool.false_eq_true, if_true, if_false, Nat.add_zero, hp, cut42, hw, hT, hmb, hx, hk, Bool.false_and, Bool.and_false]
        | true => rw [hk] at hT; simp only [ap_fVar, varK_some, ap_fC, ap_fNil, ap_fCons, ap_consK, ap_consK2, ap_fAndV, ap_andVK, ap_fRet, ap_retK, ap_fIx, ap_ixK, isDict_tup, getL_tup, retO_some, atI_2, atI_3, ap_fCall, ap_callK, ap_fnF, ap_fnK_rt, ap_fSl, ap_slK1, ap_slK2, ap_pNo, ap_pSo, ap_pSoK, oSl_tup, o_getD, R.bind_ok, R.nox_ok, List.map_cons, List.map_nil, List.length_cons, List.length_nil, Nat.zero_add, Nat.reduceAdd, Nat.reduceSub, List.replicate_zero, List.getElem?_cons_zero, List.append_nil, Bool.false_eq_true, if_true, if_false, Nat.add_zero, hp, cut42, hw, hT, q, hmb, hx, hk, Bool.true_and]
    · rw [decide_eq_false hl] at hp
      exact ⟨[], by simp only [ap_fVar, varK_some, ap_fC, ap_fNil, ap_fCons, ap_consK, ap_consK2, ap_fAndV, ap_andVK, ap_fRet, ap_retK, ap_fCall, ap_callK, ap_fnF, ap_fnK_rt, ap_fSl, ap_slK1, ap_slK2, ap_pNo, ap_pSo, ap_pSoK, oSl_tup, R.bind_ok, R.nox_ok, List.map_cons, List.map_nil, List.length_cons, List.length_nil, Nat.zero_add, Nat.reduceAdd, Nat.reduceSub, List.replicate_zero, List.getElem?_cons_zero, List.append_nil, Bool.false_eq_true, if_true, if_false, Nat.add_zero, hp, markB_len hl]⟩
  · rw [lenIs_no hn] at hp
    exact ⟨[], by simp only [ap_fVar, varK_some, ap_fC, ap_fNil, ap_fCons, ap_consK, ap_consK2, ap_fAndV, ap_andVK, ap_fRet, ap_retK, ap_fCall, ap_callK, ap_fnF, ap_fnK_rt, ap_fSl, ap_slK1, ap_slK2, ap_pNo, ap_pSo, ap_pSoK, R.bind_ok, R.nox_ok, List.map_cons, List.map_nil, List.length_cons, List.length_nil, Nat.zero_add, Nat.reduceAdd, Nat.reduceSub, List.replicate_zero, List.getElem?_cons_zero, List.append_nil, Bool.false_eq_true, if_true, if_false, Nat.add_zero, hp, markB_no hn]⟩
theorem lmark_is (c : CA) {S : Sto} {d : D} (h : okD S 3 d) : ∃ T, F_law_is_mark c [d] S = .ok (.bl (markB d)) (S ++ T) := by
  unfold F_law_is_mark b_law_is_mark
  obtain ⟨t, h1⟩ := h.1
  rcases tup_ways h1 with ⟨xs, rfl, rfl⟩ | ⟨hn, ht⟩
  · by_cases hl : xs.length = 4
    · obtain ⟨a, b, e, f, rfl⟩ := four_of hl
      have hw := lwho_is c (d := .tup [a, b]) (okD.tup (by simp) (fun x hx => h.mem x (by simp only [List.mem_cons, List.not_mem_nil, or_false] at hx ⊢; rcases hx with rfl | rfl <;> simp)))
      have hwb : whoB (.tup [a, b]) = (trB a && intIn 1 1000000000000 b) := rfl
      have hmb : markB (.tup [a, b, e, f]) = ((trB a && intIn 1 1000000000000 b) && (keyB e && intIn 1 1000000000000 f)) := rfl
      rw [hwb] at hw
      cases hx : (trB a && intIn 1 1000000000000 b) with
      | false =>
        rw [hx] at hw
        exact ⟨[], by simp only [ap_fVar, varK_some, ap_fC, ap_fBin, ap_binK, ap_fApp, ap_fNil, ap_fCons, ap_consK, ap_consK2, ap_fTest, ap_testK, ap_fOr, ap_fNot, ap_orK, ap_notK, ap_fSkip, ap_fSeq, ap_seqK_rt, ap_fIf, ap_ifK, ap_fRet, ap_retK, ap_fCall, ap_callK, ap_fnF, ap_fnK_rt, o_ne, neK_some, eqv_int, toP_int, o_len, lenK_some, lenD_tup, ap_fIsi, ap_isiK0, ap_isiK, ap_isiK2, ap_fSl, ap_slK1, ap_slK2, ap_pNo, ap_pSo, ap_pSoK, oSl_tup, R.bind_ok, R.nox_ok, List.map_cons, List.map_nil, List.length_cons, List.length_nil, Nat.zero_add, Nat.reduceAdd, Nat.reduceSub, List.replicate_zero, List.getElem?_cons_zero, List.append_nil, Bool.false_eq_true, if_true, if_false, decide_true, decide_false, Nat.add_zero, or_true, or_false, Bool.not_true, Bool.not_false, String.reduceEq, h1, isiD, n4, b44, cut42, hw, hmb, hx, Bool.false_and]⟩
      | true =>
        rw [hx] at hw
        obtain ⟨T, hT⟩ := lkey_is c (h.mem e (by simp))
        obtain ⟨tf, hf⟩ := (okD.keep (Kp.app S T) _ _ (h.mem f (by simp))).1
        have q := is_int_eq c (a := 1) (b := 1000000000000) hf
        refine ⟨T, ?_⟩
        cases hk : keyB e with
        | false => rw [hk] at hT; simp only [ap_fVar, varK_some, ap_fC, ap_fBin, ap_binK, ap_fApp, ap_fNil, ap_fCons, ap_consK, ap_consK2, ap_fTest, ap_testK, ap_fOr, ap_fNot, ap_orK, ap_notK, ap_fAndV, ap_andVK, ap_fSkip, ap_fSeq, ap_seqK_nx, ap_fIf, ap_ifK, ap_fRet, ap_retK, ap_fIx, ap_ixK, isDict_tup, getL_tup, retO_some, atI_2, atI_3, ap_fCall, ap_callK, ap_fnF, ap_fnK_rt, o_pow, o_ne, neK_some, eqv_int, toP_int, o_len, lenK_some, lenD_tup, ap_fIsi, ap_isiK0, ap_isiK, ap_isiK2, ap_fSl, ap_slK1, ap_slK2, ap_pNo, ap_pSo, ap_pSoK, oSl_tup, o_getD, R.bind_ok, R.nox_ok, List.map_cons, List.map_nil, List.length_cons, List.length_nil, Nat.zero_add, Nat.reduceAdd, Nat.reduceSub, List.replicate_zero, List.getElem?_cons_zero, List.append_nil, Bool.false_eq_true, if_true, if_false, decide_true, decide_false, Nat.add_zero, Int.reduceLT, Int.reduceLE, Int.reduceNeg, Int.reducePow, or_true, or_false, and_self, Bool.not_true, Int.reduceToNat, String.reduceEq, h1, isiD, n4, b44, cut42, hw, hT, hmb, hx, hk, Bool.false_and, Bool.and_false]
        | true => rw [hk] at hT; simp only [ap_fVar, varK_some, ap_fC, ap_fBin, ap_binK, ap_fApp, ap_fNil, ap_fCons, ap_consK, ap_consK2, ap_fTest, ap_testK, ap_fOr, ap_fNot, ap_orK, ap_notK, ap_fAndV, ap_andVK, ap_fSkip, ap_fSeq, ap_seqK_nx, ap_fIf, ap_ifK, ap_fRet, ap_retK, ap_fIx, ap_ixK, isDict_tup, getL_tup, retO_some, atI_2, atI_3, ap_fCall, ap_callK, ap_fnF, ap_fnK_rt, o_pow, o_ne, neK_some, eqv_int, toP_int, o_len, lenK_some, lenD_tup, ap_fIsi, ap_isiK0, ap_isiK, ap_isiK2, ap_fSl, ap_slK1, ap_slK2, ap_pNo, ap_pSo, ap_pSoK, oSl_tup, o_getD, R.bind_ok, R.nox_ok, List.map_cons, List.map_nil, List.length_cons, List.length_nil, Nat.zero_add, Nat.reduceAdd, Nat.reduceSub, List.replicate_zero, List.getElem?_cons_zero, List.append_nil, Bool.false_eq_true, if_true, if_false, decide_true, decide_false, Nat.add_zero, Int.reduceLT, Int.reduceLE, Int.reduceNeg, Int.reducePow, or_true, or_false, and_self, Bool.not_true, Int.reduceToNat, String.reduceEq, h1, isiD, n4, b44, cut42, hw, hT, q, hmb, hx, hk, Bool.true_and]
    · have hl' : ((xs.length : Nat) : Int) ≠ 4 := by omega
      have hb : (((xs.length : Nat) : Int) == 4) = false := beq_eq_false_iff_ne.mpr hl'
      exact ⟨[], by simp only [ap_fVar, varK_some, ap_fC, ap_fBin, ap_binK, ap_fApp, ap_fNil, ap_fCons, ap_consK, ap_consK2, ap_fTest, ap_testK, ap_fOr, ap_fNot, ap_orK, ap_notK, ap_fSkip, ap_fSeq, ap_seqK_rt, ap_fIf, ap_ifK, ap_fRet, ap_retK, ap_fCall, ap_callK, ap_fnF, ap_fnK_rt, o_ne, neK_some, eqv_int, toP_int, o_len, lenK_some, lenD_tup, ap_fIsi, ap_isiK0, ap_isiK, ap_isiK2, ap_fSl, ap_slK1, ap_slK2, ap_pNo, ap_pSo, ap_pSoK, oSl_tup, R.bind_ok, List.map_cons, List.map_nil, List.length_cons, List.length_nil, Nat.zero_add, Nat.reduceSub, List.replicate_zero, List.getElem?_cons_zero, List.append_nil, Bool.false_eq_true, if_true, if_false, decide_true, decide_false, Nat.add_zero, or_true, or_false, Bool.not_true, Bool.not_false, String.reduceEq, h1, isiD, hb, hl', markB_len hl]⟩
  · rw [markB_no hn]
    refine ⟨[], ?_⟩
    rcases ht with rfl | rfl | rfl | rfl | rfl | rfl
    all_goals simp only [ap_fVar, varK_some, ap_fC, ap_fBin, ap_fApp, ap_fNil, ap_fCons, ap_consK, ap_consK2, ap_fTest, ap_testK, ap_fOr, ap_fNot, ap_orK, ap_notK, ap_fSkip, ap_fSeq, ap_seqK_rt, ap_fIf, ap_ifK, ap_fRet, ap_retK, ap_fnF, ap_fnK_rt, o_len, ap_fIsi, ap_isiK0, ap_isiK, ap_isiK2, R.bind_ok, List.map_cons, List.map_nil, List.length_cons, List.length_nil, Nat.zero_add, Nat.reduceSub, List.replicate_zero, List.getElem?_cons_zero, List.append_nil, if_true, if_false, decide_true, decide_false, or_true, or_false, Bool.not_false, String.reduceEq, h1, isiD]
end Qk26

namespace Qk26
open PySem L2 RF
/-! draws by type -/
def dTr (s : Sd) : (Int × Int) × Sd := let (a, s) := dNumber s; let (b, s) := dNumber s; ((if 1 < a then a else 1, b), s)
theorem tr_eq (c : CA) {n : Nat} {s : Sd} {S : Sto} (h : S[n]? = some (stC s)) : F_law_transaction c [.ref n] S = .ok (eT (dTr s).1) (S.set n (stC (dTr s).2)) := by
  unfold F_law_transaction b_law_transaction
  have h1 := number_eq c h
  have h2 := number_eq c (s := (dNumber s).2) (S := S.set n (stC (dNumber s).2)) (set_get h)
  rw [List.set_set] at h2
  simp only [ap_fVar, varK_some, ap_fC, ap_fApp, ap_fNil, ap_fCons, ap_consK, ap_consK2, ap_fTup, ap_tupK, ap_fRet, ap_retK, ap_fCall, ap_callK, ap_fnF, ap_fnK_rt, o_max2, R.bind_ok, R.nox_ok, List.map_cons, List.map_nil, List.length_cons, List.length_nil, Nat.zero_add, Nat.reduceAdd, Nat.reduceSub, List.replicate_zero, List.getElem?_cons_zero, List.append_nil, if_true, Nat.add_zero, Nat.reduceLeDiff, gt_iff_lt, h1, h2, dTr, eT]
theorem dTr_ok (s : Sd) : trB (eT (dTr s).1) = true := by
  have h1 := dNumber_rng s
  have h2 := dNumber_rng (dNumber s).2
  show (intIn 1 1000000000000 (.int (if 1 < (dNumber s).1 then (dNumber s).1 else 1)) && intIn 0 1000000000000 (.int (dNumber (dNumber s).2).1)) = true
  rw [e12] at h1 h2
  simp only [intIn, Bool.and_eq_true, decide_eq_true_eq]
  refine ⟨?_, h2⟩
  split <;> omega
def dAt (s : Sd) : Int × Sd := let (a, s) := dNumber s; (if 1 < a then a else 1, s)
theorem at_eq (c : CA) {n : Nat} {s : Sd} {S : Sto} (h : S[n]? = some (stC s)) : F_law_attempt c [.ref n] S = .ok (.int (dAt s).1) (S.set n (stC (dAt s).2)) := by
  unfold F_law_attempt b_law_attempt
  simp only [ap_fVar, varK_some, ap_fC, ap_fApp, ap_fNil, ap_fCons, ap_consK, ap_consK2, ap_fRet, ap_retK, ap_fCall, ap_callK, ap_fnF, ap_fnK_rt, o_max2, R.bind_ok, R.nox_ok, List.map_cons, List.map_nil, List.length_cons, List.length_nil, Nat.zero_add, Nat.reduceSub, List.replicate_zero, List.getElem?_cons_zero, List.append_nil, if_true, Nat.add_zero, gt_iff_lt, number_eq c h, dAt]
theorem dAt_ok (s : Sd) : intIn 1 1000000000000 (.int (dAt s).1) = true := by
  have h1 := dNumber_rng s
  rw [e12] at h1
  show intIn 1 1000000000000 (.int (if 1 < (dNumber s).1 then (dNumber s).1 else 1)) = true
  simp only [intIn, Bool.and_eq_true, decide_eq_true_eq]
  split <;> omega
def dKy (s : Sd) : K2 × Sd := let (a, s) := dNumber s; let (z, s) := dName s; ((a, z), s)
theorem ky_eq (c : CA) {n : Nat} {s : Sd} {S : Sto} (h : S[n]? = some (stC s)) : ∃ T, F_law_key c [.ref n] S = .ok (eK (dKy s).1) (S.set n (stC (dKy s).2) ++ T) := by
  unfold F_law_key b_law_key
  obtain ⟨T, e⟩ := name_eq c (s := (dNumber s).2) (S := S.set n (stC (dNumber s).2)) (set_get h)
  rw [List.set_set] at e
  refine ⟨T, ?_⟩
  simp only [ap_fVar, varK_some, ap_fNil, ap_fCons, ap_consK, ap_consK2, ap_fTup, ap_tupK, ap_fRet, ap_retK, ap_fCall, ap_callK, ap_fnF, ap_fnK_rt, R.bind_ok, R.nox_ok, List.map_cons, List.map_nil, List.length_cons, List.length_nil, Nat.zero_add, Nat.reduceAdd, Nat.reduceSub, List.replicate_zero, List.getElem?_cons_zero, List.append_nil, if_true, Nat.add_zero, Nat.reduceLeDiff, number_eq c h, e, dKy, eK]
theorem dName_nm (s : Sd) : nameB (dName s).1 = true := by
  obtain ⟨h1, h2, h3⟩ := dName_sm s
  unfold nameB
  simp only [Bool.and_eq_true, decide_eq_true_eq, List.all_eq_true]
  exact ⟨⟨h2, h1⟩, h3⟩
theorem dKy_ok (s : Sd) : keyB (eK (dKy s).1) = true := by
  have h1 := dNumber_rng s
  rw [e12] at h1
  show (intIn 0 1000000000000 (.int (dNumber s).1) && nameB (dName (dNumber s).2).1) = true
  rw [dName_nm]
  simp only [intIn, Bool.and_eq_true, decide_eq_true_eq, and_true]
  exact h1
def dMk (s : Sd) : Mk × Sd := let (t, s) := dTr s; let (a, s) := dAt s; let (k, s) := dKy s; let (b, s) := dAt s; ((t, a, k, b), s)
theorem mk_eq (c : CA) {n : Nat} {s : Sd} {S : Sto} (h : S[n]? = some (stC s)) : ∃ T, F_law_mark c [.ref n] S = .ok (eM (dMk s).1) (S.set n (stC (dMk s).2) ++ T) := by
  unfold F_law_mark b_law_mark
  have e1 := tr_eq c h
  have g1 := set_get (d := stC (dTr s).2) h
  have e2 := at_eq c g1
  rw [List.set_set] at e2
  have g2 := set_get (d := stC (dAt (dTr s).2).2) h
  obtain ⟨T, e3⟩ := ky_eq c g2
  rw [List.set_set] at e3
  have g3 := app_get (T := T) (set_get (d := stC (dKy (dAt (dTr s).2).2).2) h)
  have e4 := at_eq c g3
  have hn : n < (S.set n (stC (dKy (dAt (dTr s).2).2).2)).length := by rw [List.length_set]; exact (List.getElem?_eq_some_iff.mp h).1
  rw [List.set_append_left _ _ hn, List.set_set] at e4
  refine ⟨T, ?_⟩
  simp only [ap_fVar, varK_some, ap_fNil, ap_fCons, ap_consK, ap_consK2, ap_fTup, ap_tupK, ap_fRet, ap_retK, ap_fCall, ap_callK, ap_fnF, ap_fnK_rt, R.bind_ok, R.nox_ok, List.map_cons, List.map_nil, List.length_cons, List.length_nil, Nat.zero_add, Nat.reduceAdd, Nat.reduceSub, List.replicate_zero, List.getElem?_cons_zero, List.append_nil, if_true, Nat.add_zero, Nat.reduceLeDiff, e1, e2, e3, e4, dMk, eM]
theorem dMk_ok (s : Sd) : markB (eM (dMk s).1) = true := by
  show ((trB (eT (dTr s).1) && intIn 1 1000000000000 (.int (dAt (dTr s).2).1)) && (keyB (eK (dKy (dAt (dTr s).2).2).1) && intIn 1 1000000000000 (.int (dAt (dKy (dAt (dTr s).2).2).2).1))) = true
  rw [dTr_ok, dAt_ok, dKy_ok, dAt_ok]; rfl
def dVal (s : Sd) : Int × Sd := let (x, s) := dInteger s; let (k, s) := dNext 3 s; (x * (if k = 2 then 1000 else 1), s)
theorem integer_eq (c : CA) {n : Nat} {s : Sd} {S : Sto} (h : S[n]? = some (stC s)) : F_law_integer c [.ref n] S = .ok (.int (dInteger s).1) (S.set n (stC (dInteger s).2)) := by
  unfold F_law_integer b_law_integer
  have h1 := number_eq c h
  have h0 := dNumber_rng s
  rw [e12] at h0
  have i1 := dNext_lo (size := 2) (by decide) (dNumber s).2
  have i2 := dNext_hi (size := 2) (by decide) (dNumber s).2
  have hi : (dNext 2 (dNumber s).2).1 = 0 ∨ (dNext 2 (dNumber s).2).1 = 1 := by omega
  rcases hi with hi | hi
  · simp only [ap_fVar, varK_some, ap_fC, ap_fBin, ap_binK, ap_fNil, ap_fCons, ap_consK, ap_consK2, ap_fRet, ap_retK, ap_fCall, ap_callK, ap_fnF, ap_fnK_rt, o_sub, o_mul, R.bind_ok, R.nox_ok, List.map_cons, List.map_nil, List.length_cons, List.length_nil, Nat.zero_add, Nat.reduceAdd, Nat.reduceSub, List.replicate_zero, List.getElem?_cons_zero, List.append_nil, if_true, Nat.add_zero, Int.reduceLT, Int.reduceNeg, Int.reducePow, Int.reduceMul, Int.reduceSub, or_true, and_self, List.set_set, h1, next_eq, fT_nextC, set_get h, hi, dInteger]
  · simp only [ap_fVar, varK_some, ap_fC, ap_fBin, ap_binK, ap_fNil, ap_fCons, ap_consK, ap_consK2, ap_fRet, ap_retK, ap_fCall, ap_callK, ap_fnF, ap_fnK_rt, o_sub, o_mul, R.bind_ok, R.nox_ok, List.map_cons, List.map_nil, List.length_cons, List.length_nil, Nat.zero_add, Nat.reduceAdd, Nat.reduceSub, List.replicate_zero, List.getElem?_cons_zero, List.append_nil, if_true, Nat.add_zero, Int.reduceLT, Int.reduceNeg, Int.reducePow, Int.reduceMul, Int.reduceSub, or_true, and_self, List.set_set, h1, next_eq, fT_nextC, set_get h, hi, dInteger]
theorem dInteger_rng (s : Sd) : -1000000000000 ≤ (dInteger s).1 ∧ (dInteger s).1 ≤ 1000000000000 := by
  have h0 := dNumber_rng s
  rw [e12] at h0
  have i1 := dNext_lo (size := 2) (by decide) (dNumber s).2
  have i2 := dNext_hi (size := 2) (by decide) (dNumber s).2
  have hi : (dNext 2 (dNumber s).2).1 = 0 ∨ (dNext 2 (dNumber s).2).1 = 1 := by omega
  show -1000000000000 ≤ (dNumber s).1 * (1 - 2 * (dNext 2 (dNumber s).2).1) ∧ (dNumber s).1 * (1 - 2 * (dNext 2 (dNumber s).2).1) ≤ 1000000000000
  rcases hi with hi | hi <;> rw [hi] <;> omega
theorem val_eq (c : CA) {n : Nat} {s : Sd} {S : Sto} (h : S[n]? = some (stC s)) : F_law_value c [.ref n] S = .ok (.int (dVal s).1) (S.set n (stC (dVal s).2)) := by
  unfold F_law_value b_law_value
  have h1 := integer_eq c h
  have i1 := dNext_lo (size := 3) (by decide) (dInteger s).2
  have i2 := dNext_hi (size := 3) (by decide) (dInteger s).2
  have hi : (dNext 3 (dInteger s).2).1 = 0 ∨ (dNext 3 (dInteger s).2).1 = 1 ∨ (dNext 3 (dInteger s).2).1 = 2 := by omega
  rcases hi with hi | hi | hi
  · simp only [ap_fVar, varK_some, ap_fC, ap_fBin, ap_binK, ap_fNil, ap_fCons, ap_consK, ap_consK2, ap_fTup, ap_tupK, ap_fRet, ap_retK, ap_fIx, ap_ixK, isDict_tup, getL_tup, retO_some, atI_0, ap_fCall, ap_callK, ap_fnF, ap_fnK_rt, o_mul, o_getD, R.bind_ok, R.nox_ok, List.map_cons, List.map_nil, List.length_cons, List.length_nil, Nat.zero_add, Nat.reduceAdd, Nat.reduceSub, List.replicate_zero, List.getElem?_cons_zero, List.append_nil, Bool.false_eq_true, if_true, if_false, Nat.add_zero, Nat.reduceLeDiff, Int.reduceLT, Int.reduceNeg, Int.reducePow, or_true, and_self, Int.reduceEq, List.set_set, h1, next_eq, fT_nextC, set_get h, hi, dVal]
  · simp only [ap_fVar, varK_some, ap_fC, ap_fBin, ap_binK, ap_fNil, ap_fCons, ap_consK, ap_consK2, ap_fTup, ap_tupK, ap_fRet, ap_retK, ap_fIx, ap_ixK, isDict_tup, getL_tup, retO_some, atI_1, ap_fCall, ap_callK, ap_fnF, ap_fnK_rt, o_mul, o_getD, R.bind_ok, R.nox_ok, List.map_cons, List.map_nil, List.length_cons, List.length_nil, Nat.zero_add, Nat.reduceAdd, Nat.reduceSub, List.replicate_zero, List.getElem?_cons_zero, List.append_nil, Bool.false_eq_true, if_true, if_false, Nat.add_zero, Nat.reduceLeDiff, Int.reduceLT, Int.reduceNeg, Int.reducePow, or_true, and_self, Int.reduceEq, List.set_set, h1, next_eq, fT_nextC, set_get h, hi, dVal]
  · simp only [ap_fVar, varK_some, ap_fC, ap_fBin, ap_binK, ap_fNil, ap_fCons, ap_consK, ap_consK2, ap_fTup, ap_tupK, ap_fRet, ap_retK, ap_fIx, ap_ixK, isDict_tup, getL_tup, retO_some, atI_2, ap_fCall, ap_callK, ap_fnF, ap_fnK_rt, o_mul, o_getD, R.bind_ok, R.nox_ok, List.map_cons, List.map_nil, List.length_cons, List.length_nil, Nat.zero_add, Nat.reduceAdd, Nat.reduceSub, List.replicate_zero, List.getElem?_cons_zero, List.append_nil, Bool.false_eq_true, if_true, if_false, Nat.add_zero, Nat.reduceLeDiff, Int.reduceLT, Int.reduceNeg, Int.reducePow, or_true, and_self, List.set_set, h1, next_eq, fT_nextC, set_get h, hi, dVal]
theorem dVal_ok (s : Sd) : intIn (-1000000000000000) 1000000000000000 (.int (dVal s).1) = true := by
  have h := dInteger_rng s
  show (decide (-1000000000000000 ≤ (dInteger s).1 * (if (dNext 3 (dInteger s).2).1 = 2 then 1000 else 1)) && decide ((dInteger s).1 * (if (dNext 3 (dInteger s).2).1 = 2 then 1000 else 1) ≤ 1000000000000000)) = true
  simp only [Bool.and_eq_true, decide_eq_true_eq]
  split <;> omega
/-- the letters of a name are text -/
theorem nameB_ok {z : Str} (h : nameB z = true) : z.length ≤ 1000 ∧ PyData.strOk z = true := by
  unfold nameB at h
  simp only [Bool.and_eq_true, decide_eq_true_eq, List.all_eq_true] at h
  obtain ⟨⟨h1, h2⟩, h3⟩ := h
  refine ⟨by omega, ?_⟩
  obtain ⟨⟨l⟩⟩ := z
  exact az_ok fun c hc => by have := h3 c hc; omega
theorem okA_T (t : Int × Int) : okA (eT t) := okA.tup (by simp) fun x hx => by
  simp only [List.mem_cons, List.not_mem_nil, or_false] at hx
  rcases hx with rfl | rfl <;> exact okA.int
theorem okA_K {k : K2} (h : keyB (eK k) = true) : okA (eK k) := okA.tup (by simp) fun x hx => by
  have h : (intIn 0 1000000000000 (.int k.1) && nameB k.2) = true := h
  rw [Bool.and_eq_true] at h
  obtain ⟨z1, z2⟩ := nameB_ok h.2
  simp only [List.mem_cons, List.not_mem_nil, or_false] at hx
  rcases hx with rfl | rfl
  · exact okA.int
  · exact okA.str z1 z2
theorem okM_of {m : Mk} (h : markB (eM m) = true) : okM m ∧ keyB (eK m.2.2.1) = true := by
  have h : ((trB (eT m.1) && intIn 1 1000000000000 (.int m.2.1)) && (keyB (eK m.2.2.1) && intIn 1 1000000000000 (.int m.2.2.2))) = true := h
  simp only [Bool.and_eq_true] at h
  have k : (intIn 0 1000000000000 (.int m.2.2.1.1) && nameB m.2.2.1.2) = true := h.2.1
  rw [Bool.and_eq_true] at k
  exact ⟨(nameB_ok k.2).2, h.2.1⟩
theorem okA_M {m : Mk} (h : markB (eM m) = true) : okA (eM m) := okA.tup (by simp) fun x hx => by
  simp only [List.mem_cons, List.not_mem_nil, or_false] at hx
  rcases hx with rfl | rfl | rfl | rfl
  · exact okA_T _
  · exact okA.int
  · exact okA_K (okM_of h).2
  · exact okA.int
/-- a datum that is a mark -/
theorem mark_of {S : Sto} {m : Nat} {d : D} (h : markB d = true) : ∃ k : Mk, d = eM k := by
  cases d with
  | tup xs =>
    match xs, h with
    | [t, a, k, n], h =>
      have h : ((trB t && intIn 1 1000000000000 a) && (keyB k && intIn 1 1000000000000 n)) = true := h
      simp only [Bool.and_eq_true] at h
      obtain ⟨⟨h1, h2⟩, h3, h4⟩ := h
      have int_of : ∀ {p q : Int} {d : D}, intIn p q d = true → ∃ i, d = .int i := by
        intro p q d h
        cases d with
        | int i => exact ⟨i, rfl⟩
        | _ => cases h
      obtain ⟨a, rfl⟩ := int_of h2
      obtain ⟨n, rfl⟩ := int_of h4
      cases t with
      | tup ys =>
        match ys, h1 with
        | [x, y], h1 =>
          have h1 : (intIn 1 1000000000000 x && intIn 0 1000000000000 y) = true := h1
          rw [Bool.and_eq_true] at h1
          obtain ⟨x, rfl⟩ := int_of h1.1
          obtain ⟨y, rfl⟩ := int_of h1.2
          cases k with
          | tup zs =>
            match zs, h3 with
            | [u, v], h3 =>
              have h3 : (intIn 0 1000000000000 u && nmB v) = true := h3
              rw [Bool.and_eq_true] at h3
              obtain ⟨u, rfl⟩ := int_of h3.1
              cases v with
              | str z => exact ⟨((x, y), a, (u, z), n), rfl⟩
              | _ => cases h3.2
          | _ => cases h3
      | _ => cases h1
  | _ => cases h
end Qk26

namespace Qk26
open PySem L2 RF
/-! marks in order -/
def dM : D → Mk
  | .tup [.tup [.int x, .int y], .int a, .tup [.int u, .str z], .int n] => ((x, y), a, (u, z), n)
  | _ => ((0, 0), 0, (0, ⟨#[]⟩), 0)
theorem dM_e (m : Mk) : dM (eM m) = m := by obtain ⟨⟨x, y⟩, a, ⟨u, z⟩, n⟩ := m; rfl
def ltM (a b : Mk) : Bool := PySem.W.dataLt (pM a) (pM b)
def ascL : Mk → List Mk → List Bool
  | _, [] => []
  | a, b :: r => ltM a b :: ascL b r
def ascM : List Mk → Bool
  | [] => true
  | a :: r => (ascL a r).all id
def marksB : D → Bool
  | .tup xs => !xs.isEmpty && (xs.all markB && ascM (xs.map dM))
  | _ => false
theorem marksB_no {d : D} (h : ∀ xs, d ≠ .tup xs) : marksB d = false := by
  cases d with
  | tup xs => exact absurd rfl (h xs)
  | _ => rfl
theorem es_of {S : Sto} : ∀ {xs : List D}, xs.all markB = true → ∃ ms : List Mk, xs = cM.es ms ∧ ∀ m ∈ ms, markB (eM m) = true
  | [], _ => ⟨[], rfl, fun m h => nomatch h⟩
  | x :: xs, h => by
    rw [List.all_cons, Bool.and_eq_true] at h
    obtain ⟨m, rfl⟩ := mark_of (S := S) (m := 0) h.1
    obtain ⟨ms, rfl, h2⟩ := es_of (S := S) h.2
    refine ⟨m :: ms, rfl, fun k hk => ?_⟩
    rcases List.mem_cons.mp hk with rfl | hk
    · exact h.1
    · exact h2 k hk
theorem es_dM (ms : List Mk) : (cM.es ms).map dM = ms := by
  unfold Cod.es
  rw [List.map_map]
  have e : (dM ∘ cM.e) = id := by funext m; exact dM_e m
  rw [e, List.map_id]
theorem pM_depth (m : Mk) : (pM m).depth ≤ 60 := by
  unfold pM pT pK
  simp only [PyData.depth, PyData.depthAll]
  decide
theorem lt_marks {S : Sto} {a b : Mk} (h1 : markB (eM a) = true) (h2 : markB (eM b) = true) : oLtP (eM a) (eM b) S = .ok (.bl (ltM a b)) S := by
  have t1 := cM.toP S 14 a (okM_of h1).1
  have t2 := cM.toP S 14 b (okM_of h2).1
  have t1 : toP S 20 (eM a) = some (pM a) := t1
  have t2 : toP S 20 (eM b) = some (pM b) := t2
  unfold oLtP
  rw [t1, t2]
  have al : PySem.W.alike (pM a) (pM b) = true := cM.alike a b
  have hn : (!isNonP (pM a)) = true := rfl
  have hc : (PySem.W.alike (pM a) (pM b) && !isNonP (pM a) && decide ((pM a).depth ≤ 60)) = true := by rw [al, hn, decide_eq_true (pM_depth a)]; rfl
  show (if (PySem.W.alike (pM a) (pM b) && !isNonP (pM a) && decide ((pM a).depth ≤ 60)) = true then R.ok (D.bl (PySem.W.dataLt (pM a) (pM b))) S else R.bad) = _
  rw [if_pos hc]
  rfl
theorem blsD_of {α : Type} (f : α → Bool) (xs : List α) : blsD (xs.map fun d => .bl (f d)) = some (xs.map f) := by
  induction xs with
  | nil => rfl
  | cons x xs ih =>
    show (blsD (xs.map fun d => .bl (f d))).map _ = _
    rw [ih]
    rfl
theorem all_map {α : Type} (f : α → Bool) (xs : List α) : (xs.map f).all id = xs.all f := by rw [List.all_map]; rfl
theorem mk_comp (c : CA) (v0 v2 : Option D) (xs : List D) : ∀ (S : Sto) (acc : List D), acc.length + xs.length ≤ 2000 → (∀ x ∈ xs, okD S 3 x) →
    ∃ T, compX 1 fYes (ce_are_marks_0 c) [v0, none, v2] xs acc S = .ok (.ref (S ++ T).length) (S ++ T ++ [.lst (acc ++ xs.map fun d => .bl (markB d))]) := by
  induction xs with
  | nil => intro S acc h _; exact ⟨[], by simp only [compX_nil, List.map_nil, List.append_nil]⟩
  | cons x xs ih =>
    intro S acc h hx
    rw [List.length_cons] at h
    obtain ⟨T1, e1⟩ := mark_is c (hx x (List.mem_cons_self ..))
    obtain ⟨T2, e2⟩ := ih (S ++ T1) (acc ++ [.bl (markB x)]) (by rw [List.length_append, List.length_singleton]; omega) (fun y hy => okD.keep (Kp.app S T1) _ _ (hx y (List.mem_cons_of_mem _ hy)))
    refine ⟨T1 ++ T2, ?_⟩
    simp only [ap_fVar, varK_some, ap_fNil, ap_fCons, ap_consK, ap_consK2, ap_fCall, ap_callK, compX_cons, ap_compTK, ap_compEK, ap_fYes, R.bind_ok, R.nox_ok, List.map_cons, List.length_cons, List.length_nil, Nat.zero_add, List.getElem?_cons_zero, List.getElem?_cons_succ, List.set_cons_zero, List.set_cons_succ, List.append_nil, if_true, Nat.add_zero, List.append_assoc, List.length_append, ap_ce_are_marks_0, e1]
    rw [if_pos (by omega), e2]
    simp only [List.append_assoc, List.singleton_append, List.length_append]
theorem asc_comp (c : CA) (v0 : Option D) (ms : List Mk) : ∀ (a : Mk) (S : Sto) (acc : List D), acc.length + ms.length ≤ 2000 → markB (eM a) = true → (∀ m ∈ ms, markB (eM m) = true) →
    gcompX (ptT [1, 2]) fYes (ce_are_marks_1 c) [v0, none, none] (zipD (eM a :: cM.es ms) (cM.es ms)) acc S = .ok (.ref S.length) (S ++ [.lst (acc ++ (ascL a ms).map D.bl)]) := by
  induction ms with
  | nil => intro a S acc _ _ _; show gcompX _ _ _ _ [] acc S = _; unfold gcompX; simp [ascL]
  | cons b ms ih =>
    intro a S acc h ha hm
    rw [List.length_cons] at h
    have hb := hm b (List.mem_cons_self ..)
    show gcompX _ _ _ _ (.tup [eM a, eM b] :: zipD (eM b :: cM.es ms) (cM.es ms)) acc S = _
    unfold gcompX
    rw [ap_ptT2]
    simp only
    simp only [ap_fVar, varK_some, ap_fBin, ap_binK, ap_fYes, R.bind_ok, R.nox_ok, List.getElem?_cons_zero, List.getElem?_cons_succ, List.set_cons_zero, List.set_cons_succ, if_true, ap_ce_are_marks_1, lt_marks ha hb]
    rw [if_pos (by omega), ih b S _ (by rw [List.length_append, List.length_singleton]; omega) hb (fun m hm' => hm m (List.mem_cons_of_mem _ hm'))]
    simp [ascL]
theorem cut_tail {x : D} {r : List D} : cutD (x :: r) (some 1) none = r := by
  unfold cutD
  have h1 : HT.sIx (x :: r).length 0 (some 1) = 1 := by unfold HT.sIx; simp
  have h2 : HT.sIx (x :: r).length (x :: r).length none = r.length + 1 := by unfold HT.sIx; simp
  rw [h1, h2]
  simp
/-- a comprehension of truths, then all of it -/
theorem mk_all (c : CA) (v0 v2 : Option D) (xs : List D) (S : Sto) (hl : xs.length ≤ 2000) (hx : ∀ x ∈ xs, okD S 3 x) :
    ∃ k T, compX 1 fYes (ce_are_marks_0 c) [v0, none, v2] xs [] S = .ok (.ref k) (S ++ T) ∧ oAll [.ref k] (S ++ T) = .ok (.bl (xs.all markB)) (S ++ T) := by
  obtain ⟨T, e⟩ := mk_comp c v0 v2 xs S [] (by rw [List.length_nil]; omega) hx
  rw [List.append_assoc] at e
  refine ⟨_, _, e, ?_⟩
  rw [← List.append_assoc, o_all (get_app0) (blsD_of markB xs), all_map]
theorem asc_all (c : CA) (v0 : Option D) (a : Mk) (ms : List Mk) (S : Sto) (hl : ms.length ≤ 2000) (ha : markB (eM a) = true) (hm : ∀ m ∈ ms, markB (eM m) = true) :
    ∃ k T, gcompX (ptT [1, 2]) fYes (ce_are_marks_1 c) [v0, none, none] (zipD (eM a :: cM.es ms) (cM.es ms)) [] S = .ok (.ref k) (S ++ T) ∧ oAll [.ref k] (S ++ T) = .ok (.bl ((ascL a ms).all id)) (S ++ T) := by
  refine ⟨_, _, asc_comp c v0 ms a S [] (by rw [List.length_nil]; omega) ha hm, ?_⟩
  have h := blsD_of id (ascL a ms)
  rw [List.map_id] at h
  exact o_all (get_app0) h
theorem marks_is (c : CA) {S : Sto} {d : D} (h : okD S 4 d) : ∃ T, F_are_marks c [d] S = .ok (.bl (marksB d)) (S ++ T) := by
  unfold F_are_marks b_are_marks
  obtain ⟨t, h1⟩ := h.1
  rcases tup_ways h1 with ⟨xs, rfl, rfl⟩ | ⟨hn, ht⟩
  · have hl := (h.2.2 xs rfl).1
    cases xs with
    | nil => exact ⟨[], by simp only [ap_fVar, varK_some, ap_fC, ap_fBin, ap_binK, ap_fNil, ap_fTup, ap_tupK, ap_fTest, ap_testK, ap_fOr, ap_orK, ap_fSkip, ap_fSeq, ap_seqK_rt, ap_fIf, ap_ifK, ap_fRet, ap_retK, ap_fnF, ap_fnK_rt, ap_fTyIs, ap_tyK0, ap_tyK, o_eqE, R.bind_ok, List.map_cons, List.map_nil, List.length_cons, List.length_nil, List.cons_append, List.nil_append, Nat.zero_add, Nat.reduceSub, List.replicate_succ, List.replicate_zero, List.getElem?_cons_zero, List.append_nil, Bool.false_eq_true, if_true, if_false, decide_true, Nat.reduceLeDiff, Bool.not_true, h1, o_eqE, marksB, List.isEmpty_nil, Bool.false_and]⟩
    | cons x xs =>
      obtain ⟨k, T, e, al⟩ := mk_all c (some (.tup (x :: xs))) none (x :: xs) S (by omega) h.mem
      cases hb : (x :: xs).all markB with
      | false =>
        rw [hb] at al
        have hv : marksB (.tup (x :: xs)) = false := by show (!false && ((x :: xs).all markB && _)) = false; rw [hb]; rfl
        exact ⟨T, by simp only [ap_fVar, varK_some, ap_fC, ap_fBin, ap_binK, ap_fApp, ap_fNil, ap_fCons, ap_consK, ap_consK2, ap_fTup, ap_tupK, ap_fTest, ap_testK, ap_fOr, ap_fNot, ap_orK, ap_notK, ap_fSkip, ap_fSeq, ap_seqK_nx, ap_seqK_rt, ap_fIf, ap_ifK, ap_fRet, ap_retK, ap_fnF, ap_fnK_rt, ap_fTyIs, ap_tyK0, ap_tyK, ap_fIter, ap_iterK_tup, ap_fComp, ap_compK_fix, o_eqE, R.bind_ok, List.map_cons, List.map_nil, List.length_cons, List.length_nil, List.cons_append, List.nil_append, Nat.zero_add, Nat.reduceSub, List.replicate_succ, List.replicate_zero, List.getElem?_cons_zero, List.set_cons_zero, List.set_cons_succ, Bool.false_eq_true, if_true, if_false, decide_true, Nat.reduceLeDiff, Bool.not_true, Bool.not_false, h1, o_eqE, List.isEmpty_cons, hv, e, al]⟩
      | true =>
        rw [hb] at al
        obtain ⟨ms, hm, hms⟩ := es_of (S := S) hb
        cases ms with
        | nil => cases hm
        | cons a ms =>
          have hm : x :: xs = eM a :: cM.es ms := hm
          generalize hr : cM.es ms = r at hm
          injection hm with m1 m2
          subst m1
          subst m2
          subst hr
          have hl' : (cM.es ms).length = ms.length := Cod.es_len
          rw [List.length_cons] at hl
          obtain ⟨k2, T2, e2, al2⟩ := asc_all c (some (.tup (eM a :: cM.es ms))) a ms (S ++ T) (by omega) (hms a (List.mem_cons_self ..)) (fun m hm' => hms m (List.mem_cons_of_mem _ hm'))
          have hv : marksB (.tup (eM a :: cM.es ms)) = (ascL a ms).all id := by
            show (!false && ((eM a :: cM.es ms).all markB && ascM (dM (eM a) :: (cM.es ms).map dM))) = _
            rw [hb, dM_e, es_dM]; rfl
          rw [List.append_assoc] at e2 al2
          exact ⟨T ++ T2, by simp only [ap_fVar, varK_some, ap_fC, ap_fBin, ap_binK, ap_fApp, ap_fNil, ap_fCons, ap_consK, ap_consK2, ap_fTup, ap_tupK, ap_fTest, ap_testK, ap_fOr, ap_fNot, ap_orK, ap_notK, ap_fSkip, ap_fSeq, ap_seqK_nx, ap_fIf, ap_ifK, ap_fRet, ap_retK, ap_fnF, ap_fnK_rt, ap_fTyIs, ap_tyK0, ap_tyK, ap_fIter, ap_iterK_tup, ap_fComp, ap_compK_fix, ap_fSl, ap_slK1, ap_slK2, ap_pNo, ap_pSo, ap_pSoK, oSl_tup, ap_fGComp, ap_unset0, ap_unset1, o_eqE, ap_gcompK_fix, ap_fZip, ap_zipK, R.bind_ok, List.map_cons, List.map_nil, List.length_cons, List.length_nil, List.cons_append, List.nil_append, Nat.zero_add, Nat.reduceSub, List.replicate_succ, List.replicate_zero, List.getElem?_cons_zero, List.set_cons_zero, List.set_cons_succ, Bool.false_eq_true, if_true, if_false, decide_true, Nat.reduceLeDiff, Bool.not_true, h1, o_eqE, List.isEmpty_cons, e, al, ap_fGComp, ap_fZip, ap_zipK, ap_gcompK_fix, ap_unset0, ap_unset1, cut_tail, e2, al2, hv]⟩
  · rw [marksB_no hn]
    refine ⟨[], ?_⟩
    rcases ht with rfl | rfl | rfl | rfl | rfl | rfl
    all_goals simp only [ap_fVar, varK_some, ap_fC, ap_fBin, ap_binK, ap_fNil, ap_fTup, ap_tupK, ap_fTest, ap_testK, ap_fOr, ap_orK, ap_fSkip, ap_fSeq, ap_seqK_rt, ap_fIf, ap_ifK, ap_fRet, ap_retK, ap_fnF, ap_fnK_rt, ap_fTyIs, ap_tyK0, ap_tyK, R.bind_ok, List.map_cons, List.map_nil, List.length_cons, List.length_nil, List.cons_append, List.nil_append, Nat.zero_add, Nat.reduceSub, List.replicate_succ, List.replicate_zero, List.getElem?_cons_zero, List.append_nil, if_true, decide_false, Nat.reduceLeDiff, Bool.not_false, String.reduceEq, h1]
/-! the law's way -/
theorem filt_comp (c : CA) (v0 v1 : Option D) (xs : List D) : ∀ (S : Sto) (acc : List D), acc.length + xs.length ≤ 2000 → (∀ x ∈ xs, okD S 3 x) →
    ∃ T, compX 2 (ct_law_is_marks_0 c) (ce_law_is_marks_0 c) [v0, v1, none] xs acc S = .ok (.ref (S ++ T).length) (S ++ T ++ [.lst (acc ++ xs.filter fun d => !markB d)]) := by
  induction xs with
  | nil => intro S acc h _; exact ⟨[], by simp only [compX_nil, List.append_nil, List.filter_nil]⟩
  | cons x xs ih =>
    intro S acc h hx
    rw [List.length_cons] at h
    obtain ⟨T1, e1⟩ := lmark_is c (hx x (List.mem_cons_self ..))
    have hk := fun y hy => okD.keep (Kp.app S T1) _ _ (hx y (List.mem_cons_of_mem _ hy))
    cases hb : markB x with
    | true =>
      rw [hb] at e1
      obtain ⟨T2, e2⟩ := ih (S ++ T1) acc (by omega) hk
      refine ⟨T1 ++ T2, ?_⟩
      simp only [ap_fVar, varK_some, ap_fNil, ap_fCons, ap_consK, ap_consK2, ap_fTest, ap_testK, ap_fNot, ap_notK, ap_fCall, ap_callK, compX_cons, ap_compTK, R.bind_ok, R.nox_ok, List.length_cons, List.length_nil, Nat.zero_add, List.getElem?_cons_zero, List.getElem?_cons_succ, List.set_cons_zero, List.set_cons_succ, List.append_nil, Bool.false_eq_true, if_true, if_false, Nat.add_zero, Bool.not_true, List.append_assoc, List.length_append, ap_ct_law_is_marks_0, e1]
      rw [e2, List.filter_cons, hb]
      simp only [List.append_assoc, List.length_append, Bool.not_true, Bool.false_eq_true, if_false]
    | false =>
      rw [hb] at e1
      obtain ⟨T2, e2⟩ := ih (S ++ T1) (acc ++ [x]) (by rw [List.length_append, List.length_singleton]; omega) hk
      refine ⟨T1 ++ T2, ?_⟩
      simp only [ap_fVar, varK_some, ap_fNil, ap_fCons, ap_consK, ap_consK2, ap_fTest, ap_testK, ap_fNot, ap_notK, ap_fCall, ap_callK, compX_cons, ap_compTK, ap_compEK, R.bind_ok, R.nox_ok, List.length_cons, List.length_nil, Nat.zero_add, List.getElem?_cons_zero, List.getElem?_cons_succ, List.set_cons_zero, List.set_cons_succ, List.append_nil, if_true, Nat.add_zero, Bool.not_false, List.append_assoc, List.length_append, ap_ct_law_is_marks_0, ap_ce_law_is_marks_0, e1]
      rw [if_pos (by omega), e2, List.filter_cons, hb]
      simp only [List.append_assoc, List.length_append, List.singleton_append, Bool.not_false, if_true]
theorem filt_emp (xs : List D) : (!(xs.filter fun d => !markB d).isEmpty) = !xs.all markB := by
  induction xs with
  | nil => rfl
  | cons x xs ih =>
    rw [List.filter_cons, List.all_cons]
    cases hb : markB x with
    | true => rw [Bool.true_and, ← ih]; rfl
    | false => rfl
/-- the comprehension, held against the empty list -/
theorem filt_all (c : CA) (v0 v1 : Option D) (xs : List D) (S : Sto) (hl : xs.length ≤ 2000) (hx : ∀ x ∈ xs, okD S 3 x) :
    ∃ k T, compX 2 (ct_law_is_marks_0 c) (ce_law_is_marks_0 c) [v0, v1, none] xs [] S = .ok (.ref k) (S ++ T) ∧ oNeL (.ref k) (.ref (S ++ T).length) (S ++ T ++ [.lst []]) = .ok (.bl (!xs.all markB)) (S ++ T ++ [.lst []]) := by
  obtain ⟨T, e⟩ := filt_comp c v0 v1 xs S [] (by rw [List.length_nil]; omega) hx
  rw [List.append_assoc] at e
  refine ⟨_, _, e, ?_⟩
  rw [← List.append_assoc, neL_nil (app_get get_app0) get_app0, List.nil_append, filt_emp]
theorem rngD_succ {lo : Int} {n : Nat} : rngD lo (n + 1) = .int lo :: rngD (lo + 1) n := by
  unfold rngD
  rw [List.range_succ_eq_map, List.map_cons, List.map_map]
  refine congr (congrArg List.cons (by simp)) (List.map_congr_left fun k _ => ?_)
  show D.int (lo + ((k + 1 : Nat) : Int)) = D.int (lo + 1 + (k : Int))
  congr 1
  omega
theorem atI_es {ms : List Mk} {i : Nat} {m : Mk} {j : Int} (h : ms[i]? = some m) (hj : j = i) : atI (cM.es ms) j = some (eM m) := by
  rw [atI_nn (by omega), show j.toNat = i by omega]
  unfold Cod.es
  rw [List.getElem?_map, h]
  rfl
theorem asc_loop (c : CA) (ms : List Mk) : ∀ (pre : List Mk) (a : Mk) (v1 : Option D) (S : Sto), (∀ m ∈ pre ++ a :: ms, markB (eM m) = true) →
    ∃ v, loopX (gN 1) (lb_law_is_marks_0 c) (rngD ((pre.length : Nat) + 1) ms.length) [some (.tup (cM.es (pre ++ a :: ms))), v1, none] S
      = .ok (if (ascL a ms).all id = true then .nx [some (.tup (cM.es (pre ++ a :: ms))), v, none] else .rt (.bl false)) S := by
  induction ms with
  | nil => intro pre a v1 S _; exact ⟨v1, rfl⟩
  | cons b ms ih =>
    intro pre a v1 S h
    rw [List.length_cons, rngD_succ]
    have h1 : atI (cM.es (pre ++ a :: b :: ms)) ((pre.length : Int) + 1 - 1) = some (eM a) := atI_es (i := pre.length) (by simp) (by omega)
    have h2 : atI (cM.es (pre ++ a :: b :: ms)) ((pre.length : Int) + 1) = some (eM b) := atI_es (i := pre.length + 1) (by simp) (by omega)
    have ha := h a (by simp)
    have hb := h b (by simp)
    have lt := fun S : Sto => lt_marks (S := S) ha hb
    have e0 : pre ++ a :: b :: ms = (pre ++ [a]) ++ b :: ms := by simp
    cases hq : ltM a b with
    | false =>
      refine ⟨v1, ?_⟩
      simp only [ap_fVar, varK_some, ap_fC, ap_fBin, ap_binK, ap_fTest, ap_testK, ap_fNot, ap_notK, ap_fSkip, ap_fIf, ap_ifK, ap_fRet, ap_retK, ap_gN, ap_fIx, ap_ixK, isDict_tup, getL_tup, retO_some, o_sub, loopX_cons, ap_turnK0, ap_turnK_rt, o_getD, R.bind_ok, List.getElem?_cons_zero, List.getElem?_cons_succ, List.set_cons_zero, List.set_cons_succ, Bool.false_eq_true, if_true, if_false, Bool.not_false, ap_lb_law_is_marks_0, h1, h2, lt, hq, ascL, List.all_cons, id, Bool.false_and]
    | true =>
      obtain ⟨v, e⟩ := ih (pre ++ [a]) b (some (.int ((pre.length : Int) + 1))) S (by rw [← e0]; exact h)
      rw [← e0, List.length_append, List.length_singleton, Int.natCast_add] at e
      refine ⟨v, ?_⟩
      simp only [ap_fVar, varK_some, ap_fC, ap_fBin, ap_binK, ap_fTest, ap_testK, ap_fNot, ap_notK, ap_fSkip, ap_fIf, ap_ifK, ap_fRet, ap_retK, ap_gN, ap_fIx, ap_ixK, isDict_tup, getL_tup, retO_some, o_sub, loopX_cons, ap_turnK0, ap_turnK_nx, o_getD, R.bind_ok, List.getElem?_cons_zero, List.getElem?_cons_succ, List.set_cons_zero, List.set_cons_succ, Bool.false_eq_true, if_false, Bool.not_true, ap_lb_law_is_marks_0, h1, h2, lt, hq, ascL, List.all_cons, id, Bool.true_and]
      exact e
theorem lmarks_is (c : CA) {S : Sto} {d : D} (h : okD S 4 d) : ∃ T, F_law_is_marks c [d] S = .ok (.bl (marksB d)) (S ++ T) := by
  unfold F_law_is_marks b_law_is_marks
  obtain ⟨t, h1⟩ := h.1
  rcases tup_ways h1 with ⟨xs, rfl, rfl⟩ | ⟨hn, ht⟩
  · have hl := (h.2.2 xs rfl).1
    cases xs with
    | nil => exact ⟨[], by simp only [ap_fVar, varK_some, ap_fC, ap_fBin, ap_binK, ap_fApp, ap_fNil, ap_fCons, ap_consK, ap_consK2, ap_fLst, ap_lstK, ap_fTest, ap_testK, ap_fOr, ap_fNot, ap_orK, ap_notK, ap_fSkip, ap_fSeq, ap_seqK_rt, ap_fIf, ap_ifK, ap_fRet, ap_retK, ap_fnF, ap_fnK_rt, o_eq, eqK_some, eqv_int, toP_int, o_len, lenK_some, lenD_tup, ap_fIsi, ap_isiK0, ap_isiK, ap_isiK2, ap_fIter, ap_iterK_tup, ap_fComp, ap_compK_fix, compX_nil, R.bind_ok, List.map_cons, List.map_nil, List.length_cons, List.length_nil, List.cons_append, List.nil_append, Nat.zero_add, Nat.reduceSub, List.replicate_succ, List.replicate_zero, List.getElem?_cons_zero, List.set_cons_zero, List.set_cons_succ, List.append_nil, Bool.false_eq_true, if_true, if_false, decide_true, decide_false, Nat.reduceLeDiff, or_true, or_false, Bool.not_true, String.reduceEq, List.append_assoc, List.length_append, h1, isiD, marksB, List.isEmpty_nil, Bool.false_and, n0, beq_self_eq_true]⟩
    | cons x xs =>
      have hl0 : (((x :: xs).length : Nat) : Int) ≠ 0 := by rw [List.length_cons]; omega
      have hl1 : ((((x :: xs).length : Nat) : Int) == 0) = false := beq_eq_false_iff_ne.mpr hl0
      obtain ⟨k, T, e, al⟩ := filt_all c (some (.tup (x :: xs))) none (x :: xs) S (by omega) h.mem
      rw [List.length_cons] at hl0 hl1
      simp only [List.append_assoc, List.length_append] at al
      cases hb : (x :: xs).all markB with
      | false =>
        rw [hb] at al
        have hv : marksB (.tup (x :: xs)) = false := by show (!false && ((x :: xs).all markB && _)) = false; rw [hb]; rfl
        exact ⟨T ++ [.lst []], by simp only [ap_fVar, varK_some, ap_fC, ap_fBin, ap_binK, ap_fApp, ap_fNil, ap_fCons, ap_consK, ap_consK2, ap_fLst, ap_lstK, ap_fTest, ap_testK, ap_fOr, ap_fNot, ap_orK, ap_notK, ap_fSkip, ap_fSeq, ap_seqK_rt, ap_fIf, ap_ifK, ap_fRet, ap_retK, ap_fnF, ap_fnK_rt, o_eq, eqK_some, eqv_int, toP_int, o_len, lenK_some, lenD_tup, ap_fIsi, ap_isiK0, ap_isiK, ap_isiK2, ap_fIter, ap_iterK_tup, ap_fComp, ap_compK_fix, R.bind_ok, List.map_cons, List.map_nil, List.length_cons, List.length_nil, List.cons_append, List.nil_append, Nat.zero_add, Nat.reduceSub, List.replicate_succ, List.replicate_zero, List.getElem?_cons_zero, List.set_cons_zero, List.set_cons_succ, Bool.false_eq_true, if_true, if_false, decide_true, decide_false, Nat.reduceLeDiff, or_true, or_false, Bool.not_true, Bool.not_false, String.reduceEq, List.append_assoc, List.length_append, h1, isiD, hl0, hl1, hv, e, al]⟩
      | true =>
        rw [hb] at al
        obtain ⟨ms, hm, hms⟩ := es_of (S := S) hb
        cases ms with
        | nil => cases hm
        | cons a ms =>
          have hm : x :: xs = eM a :: cM.es ms := hm
          generalize hr : cM.es ms = r at hm
          injection hm with m1 m2
          subst m1
          subst m2
          subst hr
          have hl' : (cM.es ms).length = ms.length := Cod.es_len
          rw [List.length_cons, hl'] at hl
          rw [hl'] at hl0 hl1
          have hv : marksB (.tup (eM a :: cM.es ms)) = (ascL a ms).all id := by
            show (!false && ((eM a :: cM.es ms).all markB && ascM (dM (eM a) :: (cM.es ms).map dM))) = _
            rw [hb, dM_e, es_dM]; rfl
          obtain ⟨v, e2⟩ := asc_loop c ms [] a none (S ++ (T ++ [.lst []])) hms
          have e2 : loopX (gN 1) (lb_law_is_marks_0 c) (rngD 1 ms.length) [some (.tup (eM a :: cM.es ms)), none, none] (S ++ (T ++ [.lst []])) = _ := e2
          have hr1 : (((ms.length + 1 : Nat) : Int) - 1).toNat = ms.length := by omega
          have hr2 : (-4611686018427387904 : Int) ≤ ((ms.length + 1 : Nat) : Int) ∧ ((ms.length + 1 : Nat) : Int) < 4611686018427387904 := by omega
          refine ⟨T ++ [.lst []], ?_⟩
          cases hq : (ascL a ms).all id with
          | true =>
            rw [hq, if_pos rfl] at e2
            rw [hq] at hv
            simp only [ap_fVar, varK_some, ap_fC, ap_fBin, ap_binK, ap_fApp, ap_fNil, ap_fCons, ap_consK, ap_consK2, ap_fLst, ap_lstK, ap_fTest, ap_testK, ap_fOr, ap_fNot, ap_orK, ap_notK, ap_fSkip, ap_fSeq, ap_seqK_nx, ap_fIf, ap_ifK, ap_fRet, ap_retK, ap_fnF, ap_fnK_rt, o_eq, eqK_some, eqv_int, toP_int, o_len, lenK_some, lenD_tup, ap_fIsi, ap_isiK0, ap_isiK, ap_isiK2, ap_fFor, ap_forK_fix, ap_fIter, ap_iterK_tup, ap_fComp, ap_compK_fix, ap_fRng2, ap_rng2K, R.bind_ok, List.map_cons, List.map_nil, List.length_cons, List.length_nil, List.cons_append, List.nil_append, Nat.zero_add, Nat.reduceSub, List.replicate_succ, List.replicate_zero, List.getElem?_cons_zero, List.set_cons_zero, List.set_cons_succ, Bool.false_eq_true, if_true, if_false, decide_true, decide_false, Nat.reduceLeDiff, Int.reduceLT, Int.reduceLE, Int.reduceNeg, Int.reducePow, or_true, or_false, and_self, Bool.not_true, String.reduceEq, List.append_assoc, List.length_append, h1, isiD, hl0, hl1, hv, e, al, hl', hr1, hr2, e2]
          | false =>
            rw [hq, if_neg (by decide)] at e2
            rw [hq] at hv
            simp only [ap_fVar, varK_some, ap_fC, ap_fBin, ap_binK, ap_fApp, ap_fNil, ap_fCons, ap_consK, ap_consK2, ap_fLst, ap_lstK, ap_fTest, ap_testK, ap_fOr, ap_fNot, ap_orK, ap_notK, ap_fSkip, ap_fSeq, ap_seqK_nx, ap_seqK_rt, ap_fIf, ap_ifK, ap_fRet, ap_retK, ap_fnF, ap_fnK_rt, o_eq, eqK_some, eqv_int, toP_int, o_len, lenK_some, lenD_tup, ap_fIsi, ap_isiK0, ap_isiK, ap_isiK2, ap_fFor, ap_forK_fix, ap_fIter, ap_iterK_tup, ap_fComp, ap_compK_fix, ap_fRng2, ap_rng2K, R.bind_ok, List.map_cons, List.map_nil, List.length_cons, List.length_nil, List.cons_append, List.nil_append, Nat.zero_add, Nat.reduceSub, List.replicate_succ, List.replicate_zero, List.getElem?_cons_zero, List.set_cons_zero, List.set_cons_succ, Bool.false_eq_true, if_true, if_false, decide_true, decide_false, Nat.reduceLeDiff, Int.reduceLT, Int.reduceLE, Int.reduceNeg, Int.reducePow, or_true, or_false, and_self, Bool.not_true, String.reduceEq, List.append_assoc, List.length_append, h1, isiD, hl0, hl1, hv, e, al, hl', hr1, hr2, e2]
  · rw [marksB_no hn]
    refine ⟨[], ?_⟩
    rcases ht with rfl | rfl | rfl | rfl | rfl | rfl
    all_goals simp only [ap_fVar, varK_some, ap_fC, ap_fBin, ap_fApp, ap_fNil, ap_fCons, ap_consK, ap_consK2, ap_fTest, ap_testK, ap_fOr, ap_fNot, ap_orK, ap_notK, ap_fSkip, ap_fSeq, ap_seqK_rt, ap_fIf, ap_ifK, ap_fRet, ap_retK, ap_fnF, ap_fnK_rt, o_len, ap_fIsi, ap_isiK0, ap_isiK, ap_isiK2, R.bind_ok, List.map_cons, List.map_nil, List.length_cons, List.length_nil, List.cons_append, List.nil_append, Nat.zero_add, Nat.reduceSub, List.replicate_succ, List.replicate_zero, List.getElem?_cons_zero, List.append_nil, if_true, if_false, decide_true, decide_false, or_true, or_false, Bool.not_false, String.reduceEq, h1, isiD]
end Qk26

namespace Qk26
open PySem L2 RF
/-! words -/
def sW0 : Str := ⟨#[97, 115, 107]⟩
theorem kW0 : PyData.strOk ⟨#[97, 115, 107]⟩ = true := by decide +kernel
def sW1 : Str := ⟨#[102, 114, 101, 101]⟩
theorem kW1 : PyData.strOk ⟨#[102, 114, 101, 101]⟩ = true := by decide +kernel
def sW2 : Str := ⟨#[102, 114, 101, 101, 100]⟩
theorem kW2 : PyData.strOk ⟨#[102, 114, 101, 101, 100]⟩ = true := by decide +kernel
def sW3 : Str := ⟨#[102, 105, 110, 105, 115, 104, 101, 100]⟩
theorem kW3 : PyData.strOk ⟨#[102, 105, 110, 105, 115, 104, 101, 100]⟩ = true := by decide +kernel
def sW4 : Str := ⟨#[102, 105, 110, 105, 115, 104]⟩
theorem kW4 : PyData.strOk ⟨#[102, 105, 110, 105, 115, 104]⟩ = true := by decide +kernel
def sW5 : Str := ⟨#[103, 114, 97, 110, 116, 101, 100]⟩
theorem kW5 : PyData.strOk ⟨#[103, 114, 97, 110, 116, 101, 100]⟩ = true := by decide +kernel
def sW6 : Str := ⟨#[98, 101, 104, 105, 110, 100]⟩
theorem kW6 : PyData.strOk ⟨#[98, 101, 104, 105, 110, 100]⟩ = true := by decide +kernel
def sW7 : Str := ⟨#[99, 97, 108, 108]⟩
theorem kW7 : PyData.strOk ⟨#[99, 97, 108, 108]⟩ = true := by decide +kernel
def sW8 : Str := ⟨#[109, 97, 114, 107, 115]⟩
theorem kW8 : PyData.strOk ⟨#[109, 97, 114, 107, 115]⟩ = true := by decide +kernel
def wd (z : Str) : Nat := if z = sW0 then 0 else if z = sW1 then 1 else if z = sW2 then 2 else if z = sW3 then 3 else if z = sW4 then 4 else if z = sW5 then 5 else if z = sW6 then 6 else if z = sW7 then 7 else if z = sW8 then 8 else 9
def wq (z s : Str) : Bool := PyData.eqv (.str z) (.str s)
theorem wq_eq {z s : Str} : wq z s = decide (z = s) := by
  unfold wq
  simp only [PyData.eqv]
  by_cases h : z = s
  · subst h; simp
  · simp [h]
theorem wd_ways (z : Str) : (z = sW0 ∧ wd z = 0) ∨ (z = sW1 ∧ wd z = 1) ∨ (z = sW2 ∧ wd z = 2) ∨ (z = sW3 ∧ wd z = 3) ∨ (z = sW4 ∧ wd z = 4) ∨ (z = sW5 ∧ wd z = 5) ∨ (z = sW6 ∧ wd z = 6) ∨ (z = sW7 ∧ wd z = 7) ∨ (z = sW8 ∧ wd z = 8) ∨ (wd z = 9 ∧ ¬ z = sW0 ∧ ¬ z = sW1 ∧ ¬ z = sW2 ∧ ¬ z = sW3 ∧ ¬ z = sW4 ∧ ¬ z = sW5 ∧ ¬ z = sW6 ∧ ¬ z = sW7 ∧ ¬ z = sW8) := by
  unfold wd
  by_cases h0 : z = sW0
  · subst h0; simp [show ¬ sW0 = sW1 by decide, show ¬ sW0 = sW2 by decide, show ¬ sW0 = sW3 by decide, show ¬ sW0 = sW4 by decide, show ¬ sW0 = sW5 by decide, show ¬ sW0 = sW6 by decide, show ¬ sW0 = sW7 by decide, show ¬ sW0 = sW8 by decide]
  rw [if_neg h0]
  by_cases h1 : z = sW1
  · subst h1; simp [show ¬ sW1 = sW0 by decide, show ¬ sW1 = sW2 by decide, show ¬ sW1 = sW3 by decide, show ¬ sW1 = sW4 by decide, show ¬ sW1 = sW5 by decide, show ¬ sW1 = sW6 by decide, show ¬ sW1 = sW7 by decide, show ¬ sW1 = sW8 by decide]
  rw [if_neg h1]
  by_cases h2 : z = sW2
  · subst h2; simp [show ¬ sW2 = sW0 by decide, show ¬ sW2 = sW1 by decide, show ¬ sW2 = sW3 by decide, show ¬ sW2 = sW4 by decide, show ¬ sW2 = sW5 by decide, show ¬ sW2 = sW6 by decide, show ¬ sW2 = sW7 by decide, show ¬ sW2 = sW8 by decide]
  rw [if_neg h2]
  by_cases h3 : z = sW3
  · subst h3; simp [show ¬ sW3 = sW0 by decide, show ¬ sW3 = sW1 by decide, show ¬ sW3 = sW2 by decide, show ¬ sW3 = sW4 by decide, show ¬ sW3 = sW5 by decide, show ¬ sW3 = sW6 by decide, show ¬ sW3 = sW7 by decide, show ¬ sW3 = sW8 by decide]
  rw [if_neg h3]
  by_cases h4 : z = sW4
  · subst h4; simp [show ¬ sW4 = sW0 by decide, show ¬ sW4 = sW1 by decide, show ¬ sW4 = sW2 by decide, show ¬ sW4 = sW3 by decide, show ¬ sW4 = sW5 by decide, show ¬ sW4 = sW6 by decide, show ¬ sW4 = sW7 by decide, show ¬ sW4 = sW8 by decide]
  rw [if_neg h4]
  by_cases h5 : z = sW5
  · subst h5; simp [show ¬ sW5 = sW0 by decide, show ¬ sW5 = sW1 by decide, show ¬ sW5 = sW2 by decide, show ¬ sW5 = sW3 by decide, show ¬ sW5 = sW4 by decide, show ¬ sW5 = sW6 by decide, show ¬ sW5 = sW7 by decide, show ¬ sW5 = sW8 by decide]
  rw [if_neg h5]
  by_cases h6 : z = sW6
  · subst h6; simp [show ¬ sW6 = sW0 by decide, show ¬ sW6 = sW1 by decide, show ¬ sW6 = sW2 by decide, show ¬ sW6 = sW3 by decide, show ¬ sW6 = sW4 by decide, show ¬ sW6 = sW5 by decide, show ¬ sW6 = sW7 by decide, show ¬ sW6 = sW8 by decide]
  rw [if_neg h6]
  by_cases h7 : z = sW7
  · subst h7; simp [show ¬ sW7 = sW0 by decide, show ¬ sW7 = sW1 by decide, show ¬ sW7 = sW2 by decide, show ¬ sW7 = sW3 by decide, show ¬ sW7 = sW4 by decide, show ¬ sW7 = sW5 by decide, show ¬ sW7 = sW6 by decide, show ¬ sW7 = sW8 by decide]
  rw [if_neg h7]
  by_cases h8 : z = sW8
  · subst h8; simp [show ¬ sW8 = sW0 by decide, show ¬ sW8 = sW1 by decide, show ¬ sW8 = sW2 by decide, show ¬ sW8 = sW3 by decide, show ¬ sW8 = sW4 by decide, show ¬ sW8 = sW5 by decide, show ¬ sW8 = sW6 by decide, show ¬ sW8 = sW7 by decide]
  rw [if_neg h8]
  exact .inr (.inr (.inr (.inr (.inr (.inr (.inr (.inr (.inr ⟨rfl, h0, h1, h2, h3, h4, h5, h6, h7, h8⟩))))))))
theorem wq_0 {z : Str} : wq z sW0 = decide (wd z = 0) := by
  rw [wq_eq]
  rcases wd_ways z with ⟨rfl, h⟩ | ⟨rfl, h⟩ | ⟨rfl, h⟩ | ⟨rfl, h⟩ | ⟨rfl, h⟩ | ⟨rfl, h⟩ | ⟨rfl, h⟩ | ⟨rfl, h⟩ | ⟨rfl, h⟩ | ⟨h, h0, h1, h2, h3, h4, h5, h6, h7, h8⟩
  · rw [h]; decide
  · rw [h]; decide
  · rw [h]; decide
  · rw [h]; decide
  · rw [h]; decide
  · rw [h]; decide
  · rw [h]; decide
  · rw [h]; decide
  · rw [h]; decide
  · rw [h, decide_eq_false h0]; rfl
theorem wq0 {z : Str} : PyData.eqv (.str z) (.str ⟨#[97, 115, 107]⟩) = decide (wd z = 0) := wq_0
theorem wq_1 {z : Str} : wq z sW1 = decide (wd z = 1) := by
  rw [wq_eq]
  rcases wd_ways z with ⟨rfl, h⟩ | ⟨rfl, h⟩ | ⟨rfl, h⟩ | ⟨rfl, h⟩ | ⟨rfl, h⟩ | ⟨rfl, h⟩ | ⟨rfl, h⟩ | ⟨rfl, h⟩ | ⟨rfl, h⟩ | ⟨h, h0, h1, h2, h3, h4, h5, h6, h7, h8⟩
  · rw [h]; decide
  · rw [h]; decide
  · rw [h]; decide
  · rw [h]; decide
  · rw [h]; decide
  · rw [h]; decide
  · rw [h]; decide
  · rw [h]; decide
  · rw [h]; decide
  · rw [h, decide_eq_false h1]; rfl
theorem wq1 {z : Str} : PyData.eqv (.str z) (.str ⟨#[102, 114, 101, 101]⟩) = decide (wd z = 1) := wq_1
theorem wq_2 {z : Str} : wq z sW2 = decide (wd z = 2) := by
  rw [wq_eq]
  rcases wd_ways z with ⟨rfl, h⟩ | ⟨rfl, h⟩ | ⟨rfl, h⟩ | ⟨rfl, h⟩ | ⟨rfl, h⟩ | ⟨rfl, h⟩ | ⟨rfl, h⟩ | ⟨rfl, h⟩ | ⟨rfl, h⟩ | ⟨h, h0, h1, h2, h3, h4, h5, h6, h7, h8⟩
  · rw [h]; decide
  · rw [h]; decide
  · rw [h]; decide
  · rw [h]; decide
  · rw [h]; decide
  · rw [h]; decide
  · rw [h]; decide
  · rw [h]; decide
  · rw [h]; decide
  · rw [h, decide_eq_false h2]; rfl
theorem wq2 {z : Str} : PyData.eqv (.str z) (.str ⟨#[102, 114, 101, 101, 100]⟩) = decide (wd z = 2) := wq_2
theorem wq_3 {z : Str} : wq z sW3 = decide (wd z = 3) := by
  rw [wq_eq]
  rcases wd_ways z with ⟨rfl, h⟩ | ⟨rfl, h⟩ | ⟨rfl, h⟩ | ⟨rfl, h⟩ | ⟨rfl, h⟩ | ⟨rfl, h⟩ | ⟨rfl, h⟩ | ⟨rfl, h⟩ | ⟨rfl, h⟩ | ⟨h, h0, h1, h2, h3, h4, h5, h6, h7, h8⟩
  · rw [h]; decide
  · rw [h]; decide
  · rw [h]; decide
  · rw [h]; decide
  · rw [h]; decide
  · rw [h]; decide
  · rw [h]; decide
  · rw [h]; decide
  · rw [h]; decide
  · rw [h, decide_eq_false h3]; rfl
theorem wq3 {z : Str} : PyData.eqv (.str z) (.str ⟨#[102, 105, 110, 105, 115, 104, 101, 100]⟩) = decide (wd z = 3) := wq_3
theorem wq_4 {z : Str} : wq z sW4 = decide (wd z = 4) := by
  rw [wq_eq]
  rcases wd_ways z with ⟨rfl, h⟩ | ⟨rfl, h⟩ | ⟨rfl, h⟩ | ⟨rfl, h⟩ | ⟨rfl, h⟩ | ⟨rfl, h⟩ | ⟨rfl, h⟩ | ⟨rfl, h⟩ | ⟨rfl, h⟩ | ⟨h, h0, h1, h2, h3, h4, h5, h6, h7, h8⟩
  · rw [h]; decide
  · rw [h]; decide
  · rw [h]; decide
  · rw [h]; decide
  · rw [h]; decide
  · rw [h]; decide
  · rw [h]; decide
  · rw [h]; decide
  · rw [h]; decide
  · rw [h, decide_eq_false h4]; rfl
theorem wq4 {z : Str} : PyData.eqv (.str z) (.str ⟨#[102, 105, 110, 105, 115, 104]⟩) = decide (wd z = 4) := wq_4
theorem wq_5 {z : Str} : wq z sW5 = decide (wd z = 5) := by
  rw [wq_eq]
  rcases wd_ways z with ⟨rfl, h⟩ | ⟨rfl, h⟩ | ⟨rfl, h⟩ | ⟨rfl, h⟩ | ⟨rfl, h⟩ | ⟨rfl, h⟩ | ⟨rfl, h⟩ | ⟨rfl, h⟩ | ⟨rfl, h⟩ | ⟨h, h0, h1, h2, h3, h4, h5, h6, h7, h8⟩
  · rw [h]; decide
  · rw [h]; decide
  · rw [h]; decide
  · rw [h]; decide
  · rw [h]; decide
  · rw [h]; decide
  · rw [h]; decide
  · rw [h]; decide
  · rw [h]; decide
  · rw [h, decide_eq_false h5]; rfl
theorem wq5 {z : Str} : PyData.eqv (.str z) (.str ⟨#[103, 114, 97, 110, 116, 101, 100]⟩) = decide (wd z = 5) := wq_5
theorem wq_6 {z : Str} : wq z sW6 = decide (wd z = 6) := by
  rw [wq_eq]
  rcases wd_ways z with ⟨rfl, h⟩ | ⟨rfl, h⟩ | ⟨rfl, h⟩ | ⟨rfl, h⟩ | ⟨rfl, h⟩ | ⟨rfl, h⟩ | ⟨rfl, h⟩ | ⟨rfl, h⟩ | ⟨rfl, h⟩ | ⟨h, h0, h1, h2, h3, h4, h5, h6, h7, h8⟩
  · rw [h]; decide
  · rw [h]; decide
  · rw [h]; decide
  · rw [h]; decide
  · rw [h]; decide
  · rw [h]; decide
  · rw [h]; decide
  · rw [h]; decide
  · rw [h]; decide
  · rw [h, decide_eq_false h6]; rfl
theorem wq6 {z : Str} : PyData.eqv (.str z) (.str ⟨#[98, 101, 104, 105, 110, 100]⟩) = decide (wd z = 6) := wq_6
theorem wq_7 {z : Str} : wq z sW7 = decide (wd z = 7) := by
  rw [wq_eq]
  rcases wd_ways z with ⟨rfl, h⟩ | ⟨rfl, h⟩ | ⟨rfl, h⟩ | ⟨rfl, h⟩ | ⟨rfl, h⟩ | ⟨rfl, h⟩ | ⟨rfl, h⟩ | ⟨rfl, h⟩ | ⟨rfl, h⟩ | ⟨h, h0, h1, h2, h3, h4, h5, h6, h7, h8⟩
  · rw [h]; decide
  · rw [h]; decide
  · rw [h]; decide
  · rw [h]; decide
  · rw [h]; decide
  · rw [h]; decide
  · rw [h]; decide
  · rw [h]; decide
  · rw [h]; decide
  · rw [h, decide_eq_false h7]; rfl
theorem wq7 {z : Str} : PyData.eqv (.str z) (.str ⟨#[99, 97, 108, 108]⟩) = decide (wd z = 7) := wq_7
theorem wq_8 {z : Str} : wq z sW8 = decide (wd z = 8) := by
  rw [wq_eq]
  rcases wd_ways z with ⟨rfl, h⟩ | ⟨rfl, h⟩ | ⟨rfl, h⟩ | ⟨rfl, h⟩ | ⟨rfl, h⟩ | ⟨rfl, h⟩ | ⟨rfl, h⟩ | ⟨rfl, h⟩ | ⟨rfl, h⟩ | ⟨h, h0, h1, h2, h3, h4, h5, h6, h7, h8⟩
  · rw [h]; decide
  · rw [h]; decide
  · rw [h]; decide
  · rw [h]; decide
  · rw [h]; decide
  · rw [h]; decide
  · rw [h]; decide
  · rw [h]; decide
  · rw [h]; decide
  · rw [h, decide_eq_false h8]; rfl
theorem wq8 {z : Str} : PyData.eqv (.str z) (.str ⟨#[109, 97, 114, 107, 115]⟩) = decide (wd z = 8) := wq_8
theorem wd_lt (z : Str) : wd z < 10 := by
  rcases wd_ways z with ⟨_, h⟩ | ⟨_, h⟩ | ⟨_, h⟩ | ⟨_, h⟩ | ⟨_, h⟩ | ⟨_, h⟩ | ⟨_, h⟩ | ⟨_, h⟩ | ⟨_, h⟩ | ⟨h, _⟩ <;> omega
def lenW (k : Nat) : Int := if k ≤ 3 then 4 else if k = 4 then 5 else if k = 5 ∨ k = 8 then 6 else if k = 6 ∨ k = 7 then 7 else 0
theorem get_len {z : Str} {S : Sto} : getGV (gd_LENGTHS.lookup z) (.int 0) S = .ok (.int (lenW (wd z))) S := by
  rcases wd_ways z with ⟨rfl, h⟩ | ⟨rfl, h⟩ | ⟨rfl, h⟩ | ⟨rfl, h⟩ | ⟨rfl, h⟩ | ⟨rfl, h⟩ | ⟨rfl, h⟩ | ⟨rfl, h⟩ | ⟨rfl, h⟩ | ⟨h, h0, h1, h2, h3, h4, h5, h6, h7, h8⟩
  · rw [h, show gd_LENGTHS.lookup sW0 = some 4 by decide +kernel]; rfl
  · rw [h, show gd_LENGTHS.lookup sW1 = some 4 by decide +kernel]; rfl
  · rw [h, show gd_LENGTHS.lookup sW2 = some 4 by decide +kernel]; rfl
  · rw [h, show gd_LENGTHS.lookup sW3 = some 4 by decide +kernel]; rfl
  · rw [h, show gd_LENGTHS.lookup sW4 = some 5 by decide +kernel]; rfl
  · rw [h, show gd_LENGTHS.lookup sW5 = some 6 by decide +kernel]; rfl
  · rw [h, show gd_LENGTHS.lookup sW6 = some 7 by decide +kernel]; rfl
  · rw [h, show gd_LENGTHS.lookup sW7 = some 7 by decide +kernel]; rfl
  · rw [h, show gd_LENGTHS.lookup sW8 = some 6 by decide +kernel]; rfl
  · have e : gd_LENGTHS.lookup z = none := by
      unfold gd_LENGTHS
      simp only [List.lookup_cons, List.lookup_nil]
      rw [show (z == ⟨#[97, 115, 107]⟩) = false from beq_eq_false_iff_ne.mpr h0]
      rw [show (z == ⟨#[102, 114, 101, 101]⟩) = false from beq_eq_false_iff_ne.mpr h1]
      rw [show (z == ⟨#[102, 114, 101, 101, 100]⟩) = false from beq_eq_false_iff_ne.mpr h2]
      rw [show (z == ⟨#[102, 105, 110, 105, 115, 104, 101, 100]⟩) = false from beq_eq_false_iff_ne.mpr h3]
      rw [show (z == ⟨#[102, 105, 110, 105, 115, 104]⟩) = false from beq_eq_false_iff_ne.mpr h4]
      rw [show (z == ⟨#[103, 114, 97, 110, 116, 101, 100]⟩) = false from beq_eq_false_iff_ne.mpr h5]
      rw [show (z == ⟨#[98, 101, 104, 105, 110, 100]⟩) = false from beq_eq_false_iff_ne.mpr h6]
      rw [show (z == ⟨#[99, 97, 108, 108]⟩) = false from beq_eq_false_iff_ne.mpr h7]
      rw [show (z == ⟨#[109, 97, 114, 107, 115]⟩) = false from beq_eq_false_iff_ne.mpr h8]
    rw [h, e]; rfl
theorem in4 {S : Sto} {z : Str} (h : PyData.strOk z = true) : oInTu false (.str z) (.tup [.str ⟨#[97, 115, 107]⟩, .str ⟨#[102, 114, 101, 101]⟩, .str ⟨#[102, 114, 101, 101, 100]⟩, .str ⟨#[102, 105, 110, 105, 115, 104, 101, 100]⟩]) S = .ok (.bl (decide (wd z ≤ 3))) S := by
  unfold oInTu
  rw [show (20 : Nat) = 19 + 1 from rfl, toP_tup, toP_mapM_cons, toP_mapM_cons, toP_mapM_cons, toP_mapM_cons, toP_mapM_nil, toP_str, toP_str, toP_str, toP_str, toP_str, if_pos h, if_pos kW0, if_pos kW1, if_pos kW2, if_pos kW3]
  have sym : ∀ s : Str, PyData.eqv (.str s) (.str z) = wq z s := by
    intro s
    have h1 : PyData.eqv (.str s) (.str z) = decide (s = z) := wq_eq
    rw [h1, wq_eq]
    by_cases q : s = z
    · subst q; rfl
    · rw [decide_eq_false q, decide_eq_false (fun e => q e.symm)]
  show R.ok (D.bl (PyData.eqv (.str sW0) (.str z) || (PyData.eqv (.str sW1) (.str z) || (PyData.eqv (.str sW2) (.str z) || (PyData.eqv (.str sW3) (.str z) || false))))) S = _
  rw [sym, sym, sym, sym, wq_0, wq_1, wq_2, wq_3, Bool.or_false]
  congr 2
  generalize wd z = k
  by_cases h0 : k ≤ 3
  · have : k = 0 ∨ k = 1 ∨ k = 2 ∨ k = 3 := by omega
    rcases this with rfl | rfl | rfl | rfl <;> decide
  · have a0 : ¬ k = 0 := by omega
    have a1 : ¬ k = 1 := by omega
    have a2 : ¬ k = 2 := by omega
    have a3 : ¬ k = 3 := by omega
    simp [a0, a1, a2, a3, h0]
/-! bodies -/
def itB (k : Nat) : List D → Bool
  | [t, a, x] => decide (k ≤ 3) && (whoB (.tup [t, a]) && keyB x)
  | [t, a, x, v] => decide (k = 4) && (whoB (.tup [t, a]) && (keyB x && intIn (-1000000000000000) 1000000000000000 v))
  | [t, a, x, n, v] => (decide (k = 5) && (markB (.tup [t, a, x, n]) && intIn (-1000000000000000) 1000000000000000 v)) || (decide (k = 8) && (markB (.tup [t, a, x, n]) && marksB v))
  | [t, a, x, n, u, m] => (decide (k = 6) && (markB (.tup [t, a, x, n]) && whoB (.tup [u, m]))) || (decide (k = 7) && (whoB (.tup [t, a]) && markB (.tup [x, n, u, m])))
  | _ => false
def bodyB : D → Bool
  | .tup (.str z :: r) => itB (wd z) r
  | _ => false
theorem itB_len {k : Nat} {r : List D} (h : ¬ lenW k = ((r.length + 1 : Nat) : Int)) : itB k r = false := by
  match r, h with
  | [], _ => rfl
  | [_], _ => rfl
  | [_, _], _ => rfl
  | [t, a, x], h =>
    have hk : ¬ k ≤ 3 := fun z => h (by unfold lenW; rw [if_pos z]; rfl)
    simp [itB, hk]
  | [t, a, x, v], h =>
    have hk : ¬ k = 4 := fun z => h (by subst z; rfl)
    simp [itB, hk]
  | [t, a, x, n, v], h =>
    have hk : ¬ k = 5 := fun z => h (by subst z; rfl)
    have hk2 : ¬ k = 8 := fun z => h (by subst z; rfl)
    simp [itB, hk, hk2]
  | [t, a, x, n, u, m], h =>
    have hk : ¬ k = 6 := fun z => h (by subst z; rfl)
    have hk2 : ¬ k = 7 := fun z => h (by subst z; rfl)
    simp [itB, hk, hk2]
  | _ :: _ :: _ :: _ :: _ :: _ :: _ :: _, _ => rfl
theorem value_is (c : CA) {S : Sto} {d : D} {t : String} (h : tyD S d = some t) : F_is_value c [d] S = .ok (.bl (intIn (-1000000000000000) 1000000000000000 d)) S := by
  unfold F_is_value b_is_value
  simp only [ap_fVar, varK_some, ap_fC, ap_fUn, ap_fNil, ap_fCons, ap_consK, ap_consK2, ap_fRet, ap_retK, ap_fCall, ap_callK, ap_fnF, ap_fnK_rt, o_neg, R.bind_ok, R.nox_ok, List.map_cons, List.map_nil, List.length_cons, List.length_nil, Nat.zero_add, Nat.reduceAdd, Nat.reduceSub, List.replicate_zero, List.getElem?_cons_zero, List.append_nil, if_true, Nat.add_zero, Int.reduceNeg, between_eq c h]
end Qk26

namespace Qk26
open PySem L2 RF
theorem okD.sub {S : Sto} {n : Nat} {xs ys : List D} (h : okD S (n + 1) (.tup xs)) (hl : ys.length ≤ 1000) (hs : ∀ y ∈ ys, y ∈ xs) : okD S (n + 1) (.tup ys) := okD.tup hl fun y hy => h.mem y (hs y hy)
theorem ix4 {a b e f g : D} {r : List D} : atI (a :: b :: e :: f :: g :: r) 4 = some g := by rw [atI_nn (by decide)]; rfl
theorem ix5 {a b e f g i : D} {r : List D} : atI (a :: b :: e :: f :: g :: i :: r) 5 = some i := by rw [atI_nn (by decide)]; rfl
/-- the parts of a body, by their number -/
theorem items_is (c : CA) {S : Sto} {z : Str} {r : List D} (hz : PyData.strOk z = true) (h : okD S 5 (.tup r)) (hl : lenW (wd z) = ((r.length + 1 : Nat) : Int)) :
    ∃ T, F_are_items c [.str z, .tup r] S = .ok (.bl (itB (wd z) r)) (S ++ T) := by
  unfold F_are_items b_are_items
  have h4 := okD.less _ _ h
  have h3 := okD.less _ _ h4
  generalize hk : wd z = k at hl
  have hk9 : k < 10 := hk ▸ wd_lt z
  by_cases k3 : k ≤ 3
  · have hr : r.length = 3 := by unfold lenW at hl; rw [if_pos k3] at hl; omega
    match r, hr with
    | [t, a, x], _ =>
      have n4 : ¬ k = 4 := by omega
      have n5 : ¬ k = 5 := by omega
      have n6 : ¬ k = 6 := by omega
      have n7 : ¬ k = 7 := by omega
      have n8 : ¬ k = 8 := by omega
      have hv : itB k [t, a, x] = (whoB (.tup [t, a]) && keyB x) := by show (decide (k ≤ 3) && _) = _; rw [decide_eq_true k3, Bool.true_and]
      have e1 := who_is c (h3.sub (ys := [t, a]) (by simp) (by simp))
      have c1 : cutD [t, a, x] none (some 2) = [t, a] := rfl
      cases hw : whoB (.tup [t, a]) with
      | false =>
        rw [hw] at e1
        exact ⟨[], by simp only [ap_fVar, varK_some, ap_fC, ap_fBin, ap_binK, ap_fNil, ap_fCons, ap_consK, ap_consK2, ap_fTest, ap_testK, ap_fAndV, ap_andVK, ap_fSkip, ap_fSeq, ap_seqK_nx, ap_fIf, ap_ifK, ap_fRet, ap_retK, ap_fIx, ap_ixK, isDict_tup, getL_tup, retO_some, atI_2, ap_fCall, ap_callK, ap_fnF, ap_fnK_rt, o_eq, eqK_some, toP_str, ap_fSl, ap_slK1, ap_slK2, ap_pNo, ap_pSo, ap_pSoK, oSl_tup, o_getD, R.bind_ok, R.nox_ok, List.map_cons, List.map_nil, List.length_cons, List.length_nil, Nat.zero_add, Nat.reduceAdd, Nat.reduceSub, List.replicate_zero, List.getElem?_cons_zero, List.getElem?_cons_succ, List.append_nil, Bool.false_eq_true, if_true, if_false, decide_false, Nat.add_zero, hz, kW4, kW5, kW6, kW7, kW8, wq4, wq5, wq6, wq7, wq8, hk, n4, n5, n6, n7, n8, c1, e1, hv, hw, Bool.false_and]⟩
      | true =>
        rw [hw] at e1
        obtain ⟨T, e2⟩ := key_is c (okD.less _ _ (h3.mem x (by simp) |> fun q => (h.mem x (by simp) |> okD.less _ _)))
        exact ⟨T, by simp only [ap_fVar, varK_some, ap_fC, ap_fBin, ap_binK, ap_fNil, ap_fCons, ap_consK, ap_consK2, ap_fTest, ap_testK, ap_fAndV, ap_andVK, ap_fSkip, ap_fSeq, ap_seqK_nx, ap_fIf, ap_ifK, ap_fRet, ap_retK, ap_fIx, ap_ixK, isDict_tup, getL_tup, retO_some, atI_2, ap_fCall, ap_callK, ap_fnF, ap_fnK_rt, o_eq, eqK_some, toP_str, ap_fSl, ap_slK1, ap_slK2, ap_pNo, ap_pSo, ap_pSoK, oSl_tup, o_getD, R.bind_ok, R.nox_ok, List.map_cons, List.map_nil, List.length_cons, List.length_nil, Nat.zero_add, Nat.reduceAdd, Nat.reduceSub, List.replicate_zero, List.getElem?_cons_zero, List.getElem?_cons_succ, List.append_nil, Bool.false_eq_true, if_true, if_false, decide_false, Nat.add_zero, hz, kW4, kW5, kW6, kW7, kW8, wq4, wq5, wq6, wq7, wq8, hk, n4, n5, n6, n7, n8, c1, e1, e2, hv, hw, Bool.true_and]⟩
  · by_cases k4 : k = 4
    · subst k4
      have hr : r.length = 4 := by have : (5 : Int) = ((r.length + 1 : Nat) : Int) := hl; omega
      match r, hr with
      | [t, a, x, v], _ =>
        have hv : itB 4 [t, a, x, v] = (whoB (.tup [t, a]) && (keyB x && intIn (-1000000000000000) 1000000000000000 v)) := rfl
        have e1 := who_is c (h3.sub (ys := [t, a]) (by simp) (by simp))
        have c1 : cutD [t, a, x, v] none (some 2) = [t, a] := rfl
        cases hw : whoB (.tup [t, a]) with
        | false =>
          rw [hw] at e1
          exact ⟨[], by simp only [ap_fVar, varK_some, ap_fC, ap_fBin, ap_binK, ap_fNil, ap_fCons, ap_consK, ap_consK2, ap_fTest, ap_testK, ap_fAndV, ap_andVK, ap_fSkip, ap_fSeq, ap_seqK_rt, ap_fIf, ap_ifK, ap_fRet, ap_retK, ap_fIx, ap_ixK, isDict_tup, getL_tup, retO_some, atI_2, ap_fCall, ap_callK, ap_fnF, ap_fnK_rt, o_eq, eqK_some, toP_str, ap_fSl, ap_slK1, ap_slK2, ap_pNo, ap_pSo, ap_pSoK, oSl_tup, o_getD, R.bind_ok, R.nox_ok, List.map_cons, List.map_nil, List.length_cons, List.length_nil, Nat.zero_add, Nat.reduceAdd, Nat.reduceSub, List.replicate_zero, List.getElem?_cons_zero, List.getElem?_cons_succ, List.append_nil, Bool.false_eq_true, if_true, if_false, decide_true, Nat.add_zero, Int.reduceNeg, hz, kW4, wq4, hk, c1, e1, hv, hw, Bool.false_and]⟩
        | true =>
          rw [hw] at e1
          obtain ⟨T, e2⟩ := key_is c (okD.less _ _ (okD.less _ _ (h.mem x (by simp))))
          obtain ⟨tv, hv1⟩ := (okD.keep (Kp.app S T) _ _ (h.mem v (by simp))).1
          have e3 := value_is c hv1
          refine ⟨T, ?_⟩
          cases hx : keyB x with
          | false => rw [hx] at e2; simp only [ap_fVar, varK_some, ap_fC, ap_fBin, ap_binK, ap_fNil, ap_fCons, ap_consK, ap_consK2, ap_fTest, ap_testK, ap_fAndV, ap_andVK, ap_fSkip, ap_fSeq, ap_seqK_rt, ap_fIf, ap_ifK, ap_fRet, ap_retK, ap_fIx, ap_ixK, isDict_tup, getL_tup, retO_some, atI_2, atI_3, ap_fCall, ap_callK, ap_fnF, ap_fnK_rt, o_eq, eqK_some, toP_str, ap_fSl, ap_slK1, ap_slK2, ap_pNo, ap_pSo, ap_pSoK, oSl_tup, o_getD, R.bind_ok, R.nox_ok, List.map_cons, List.map_nil, List.length_cons, List.length_nil, Nat.zero_add, Nat.reduceAdd, Nat.reduceSub, List.replicate_zero, List.getElem?_cons_zero, List.getElem?_cons_succ, List.append_nil, Bool.false_eq_true, if_true, if_false, decide_true, Nat.add_zero, Int.reduceNeg, hz, kW4, wq4, hk, c1, e1, e2, hv, hw, hx, Bool.true_and, Bool.false_and]
          | true => rw [hx] at e2; simp only [ap_fVar, varK_some, ap_fC, ap_fBin, ap_binK, ap_fNil, ap_fCons, ap_consK, ap_consK2, ap_fTest, ap_testK, ap_fAndV, ap_andVK, ap_fSkip, ap_fSeq, ap_seqK_rt, ap_fIf, ap_ifK, ap_fRet, ap_retK, ap_fIx, ap_ixK, isDict_tup, getL_tup, retO_some, atI_2, atI_3, ap_fCall, ap_callK, ap_fnF, ap_fnK_rt, o_eq, eqK_some, toP_str, ap_fSl, ap_slK1, ap_slK2, ap_pNo, ap_pSo, ap_pSoK, oSl_tup, o_getD, R.bind_ok, R.nox_ok, List.map_cons, List.map_nil, List.length_cons, List.length_nil, Nat.zero_add, Nat.reduceAdd, Nat.reduceSub, List.replicate_zero, List.getElem?_cons_zero, List.getElem?_cons_succ, List.append_nil, Bool.false_eq_true, if_true, if_false, decide_true, Nat.add_zero, Int.reduceNeg, hz, kW4, wq4, hk, c1, e1, e2, e3, hv, hw, hx, Bool.true_and]
    · by_cases k5 : k = 5
      · subst k5
        have hr : r.length = 5 := by have : (6 : Int) = ((r.length + 1 : Nat) : Int) := hl; omega
        match r, hr with
        | [t, a, x, n, v], _ =>
          have hv : itB 5 [t, a, x, n, v] = (markB (.tup [t, a, x, n]) && intIn (-1000000000000000) 1000000000000000 v) := by show ((true && _) || (false && _)) = _; rw [Bool.true_and, Bool.false_and, Bool.or_false]
          obtain ⟨T, e1⟩ := mark_is c (okD.less _ _ (okD.less _ _ (h.sub (ys := [t, a, x, n]) (by simp) (by simp))))
          have c1 : cutD [t, a, x, n, v] none (some 4) = [t, a, x, n] := rfl
          obtain ⟨tv, hv1⟩ := (okD.keep (Kp.app S T) _ _ (h.mem v (by simp))).1
          have e3 := value_is c hv1
          refine ⟨T, ?_⟩
          cases hx : markB (.tup [t, a, x, n]) with
          | false => rw [hx] at e1; simp only [ap_fVar, varK_some, ap_fC, ap_fBin, ap_binK, ap_fNil, ap_fCons, ap_consK, ap_consK2, ap_fTest, ap_testK, ap_fAndV, ap_andVK, ap_fSkip, ap_fSeq, ap_seqK_nx, ap_seqK_rt, ap_fIf, ap_ifK, ap_fRet, ap_retK, ap_fIx, ap_ixK, isDict_tup, getL_tup, ap_fCall, ap_callK, ap_fnF, ap_fnK_rt, o_eq, eqK_some, toP_str, ap_fSl, ap_slK1, ap_slK2, ap_pNo, ap_pSo, ap_pSoK, oSl_tup, o_getD, R.bind_ok, R.nox_ok, List.map_cons, List.map_nil, List.length_cons, List.length_nil, Nat.zero_add, Nat.reduceAdd, Nat.reduceSub, List.replicate_zero, List.getElem?_cons_zero, List.getElem?_cons_succ, List.append_nil, Bool.false_eq_true, if_true, if_false, decide_true, decide_false, Nat.add_zero, Int.reduceNeg, Nat.reduceEqDiff, hz, kW4, kW5, wq4, wq5, hk, c1, e1, hv, hx, Bool.false_and]
          | true => rw [hx] at e1; simp only [ap_fVar, varK_some, ap_fC, ap_fBin, ap_binK, ap_fNil, ap_fCons, ap_consK, ap_consK2, ap_fTest, ap_testK, ap_fAndV, ap_andVK, ap_fSkip, ap_fSeq, ap_seqK_nx, ap_seqK_rt, ap_fIf, ap_ifK, ap_fRet, ap_retK, ap_fIx, ap_ixK, isDict_tup, getL_tup, retO_some, ap_fCall, ap_callK, ap_fnF, ap_fnK_rt, o_eq, eqK_some, toP_str, ap_fSl, ap_slK1, ap_slK2, ap_pNo, ap_pSo, ap_pSoK, oSl_tup, o_getD, R.bind_ok, R.nox_ok, List.map_cons, List.map_nil, List.length_cons, List.length_nil, Nat.zero_add, Nat.reduceAdd, Nat.reduceSub, List.replicate_zero, List.getElem?_cons_zero, List.getElem?_cons_succ, List.append_nil, Bool.false_eq_true, if_true, if_false, decide_true, decide_false, Nat.add_zero, Int.reduceNeg, Nat.reduceEqDiff, hz, kW4, kW5, wq4, wq5, hk, c1, ix4, e1, e3, hv, hx, Bool.true_and]
      · by_cases k6 : k = 6
        · subst k6
          have hr : r.length = 6 := by have : (7 : Int) = ((r.length + 1 : Nat) : Int) := hl; omega
          match r, hr with
          | [t, a, x, n, u, m], _ =>
            have hv : itB 6 [t, a, x, n, u, m] = (markB (.tup [t, a, x, n]) && whoB (.tup [u, m])) := by show ((true && _) || (false && _)) = _; rw [Bool.true_and, Bool.false_and, Bool.or_false]
            obtain ⟨T, e1⟩ := mark_is c (okD.less _ _ (okD.less _ _ (h.sub (ys := [t, a, x, n]) (by simp) (by simp))))
            have c1 : cutD [t, a, x, n, u, m] none (some 4) = [t, a, x, n] := rfl
            have c2 : cutD [t, a, x, n, u, m] (some 4) none = [u, m] := rfl
            have e3 := who_is c (okD.keep (Kp.app S T) _ _ (h3.sub (ys := [u, m]) (by simp) (by simp)))
            refine ⟨T, ?_⟩
            cases hx : markB (.tup [t, a, x, n]) with
            | false => rw [hx] at e1; simp only [ap_fVar, varK_some, ap_fC, ap_fBin, ap_binK, ap_fNil, ap_fCons, ap_consK, ap_consK2, ap_fTest, ap_testK, ap_fAndV, ap_andVK, ap_fSkip, ap_fSeq, ap_seqK_nx, ap_seqK_rt, ap_fIf, ap_ifK, ap_fRet, ap_retK, ap_fIx, ap_ixK, isDict_tup, getL_tup, ap_fCall, ap_callK, ap_fnF, ap_fnK_rt, o_eq, eqK_some, toP_str, ap_fSl, ap_slK1, ap_slK2, ap_pNo, ap_pSo, ap_pSoK, oSl_tup, o_getD, R.bind_ok, R.nox_ok, List.map_cons, List.map_nil, List.length_cons, List.length_nil, Nat.zero_add, Nat.reduceAdd, Nat.reduceSub, List.replicate_zero, List.getElem?_cons_zero, List.getElem?_cons_succ, List.append_nil, Bool.false_eq_true, if_true, if_false, decide_true, decide_false, Nat.add_zero, Nat.reduceEqDiff, hz, kW4, kW5, kW6, wq4, wq5, wq6, hk, c1, c2, e1, hv, hx, Bool.false_and]
            | true => rw [hx] at e1; simp only [ap_fVar, varK_some, ap_fC, ap_fBin, ap_binK, ap_fNil, ap_fCons, ap_consK, ap_consK2, ap_fTest, ap_testK, ap_fAndV, ap_andVK, ap_fSkip, ap_fSeq, ap_seqK_nx, ap_seqK_rt, ap_fIf, ap_ifK, ap_fRet, ap_retK, ap_fIx, ap_ixK, isDict_tup, getL_tup, ap_fCall, ap_callK, ap_fnF, ap_fnK_rt, o_eq, eqK_some, toP_str, ap_fSl, ap_slK1, ap_slK2, ap_pNo, ap_pSo, ap_pSoK, oSl_tup, o_getD, R.bind_ok, R.nox_ok, List.map_cons, List.map_nil, List.length_cons, List.length_nil, Nat.zero_add, Nat.reduceAdd, Nat.reduceSub, List.replicate_zero, List.getElem?_cons_zero, List.getElem?_cons_succ, List.append_nil, Bool.false_eq_true, if_true, if_false, decide_true, decide_false, Nat.add_zero, Nat.reduceEqDiff, hz, kW4, kW5, kW6, wq4, wq5, wq6, hk, c1, c2, e1, e3, hv, hx, Bool.true_and]
        · by_cases k7 : k = 7
          · subst k7
            have hr : r.length = 6 := by have : (7 : Int) = ((r.length + 1 : Nat) : Int) := hl; omega
            match r, hr with
            | [t, a, x, n, u, m], _ =>
              have hv : itB 7 [t, a, x, n, u, m] = (whoB (.tup [t, a]) && markB (.tup [x, n, u, m])) := rfl
              have e1 := who_is c (h3.sub (ys := [t, a]) (by simp) (by simp))
              have c1 : cutD [t, a, x, n, u, m] none (some 2) = [t, a] := rfl
              have c2 : cutD [t, a, x, n, u, m] (some 2) none = [x, n, u, m] := rfl
              obtain ⟨T, e3⟩ := mark_is c (okD.less _ _ (okD.less _ _ (h.sub (ys := [x, n, u, m]) (by simp) (by simp))))
              cases hx : whoB (.tup [t, a]) with
              | false => rw [hx] at e1; exact ⟨[], by simp only [ap_fVar, varK_some, ap_fC, ap_fBin, ap_binK, ap_fNil, ap_fCons, ap_consK, ap_consK2, ap_fTest, ap_testK, ap_fAndV, ap_andVK, ap_fSkip, ap_fSeq, ap_seqK_nx, ap_seqK_rt, ap_fIf, ap_ifK, ap_fRet, ap_retK, ap_fIx, ap_ixK, isDict_tup, getL_tup, retO_some, atI_2, ap_fCall, ap_callK, ap_fnF, ap_fnK_rt, o_eq, eqK_some, toP_str, ap_fSl, ap_slK1, ap_slK2, ap_pNo, ap_pSo, ap_pSoK, oSl_tup, o_getD, R.bind_ok, R.nox_ok, List.map_cons, List.map_nil, List.length_cons, List.length_nil, Nat.zero_add, Nat.reduceAdd, Nat.reduceSub, List.replicate_zero, List.getElem?_cons_zero, List.getElem?_cons_succ, List.append_nil, Bool.false_eq_true, if_true, if_false, decide_true, decide_false, Nat.add_zero, Nat.reduceEqDiff, hz, kW4, kW5, kW6, kW7, wq4, wq5, wq6, wq7, hk, c1, c2, e1, hv, hx, Bool.false_and]⟩
              | true => rw [hx] at e1; exact ⟨T, by simp only [ap_fVar, varK_some, ap_fC, ap_fBin, ap_binK, ap_fNil, ap_fCons, ap_consK, ap_consK2, ap_fTest, ap_testK, ap_fAndV, ap_andVK, ap_fSkip, ap_fSeq, ap_seqK_nx, ap_seqK_rt, ap_fIf, ap_ifK, ap_fRet, ap_retK, ap_fIx, ap_ixK, isDict_tup, getL_tup, retO_some, atI_2, ap_fCall, ap_callK, ap_fnF, ap_fnK_rt, o_eq, eqK_some, toP_str, ap_fSl, ap_slK1, ap_slK2, ap_pNo, ap_pSo, ap_pSoK, oSl_tup, o_getD, R.bind_ok, R.nox_ok, List.map_cons, List.map_nil, List.length_cons, List.length_nil, Nat.zero_add, Nat.reduceAdd, Nat.reduceSub, List.replicate_zero, List.getElem?_cons_zero, List.getElem?_cons_succ, List.append_nil, Bool.false_eq_true, if_true, if_false, decide_true, decide_false, Nat.add_zero, Nat.reduceEqDiff, hz, kW4, kW5, kW6, kW7, wq4, wq5, wq6, wq7, hk, c1, c2, e1, e3, hv, hx, Bool.true_and]⟩
          · by_cases k8 : k = 8
            · subst k8
              have hr : r.length = 5 := by have : (6 : Int) = ((r.length + 1 : Nat) : Int) := hl; omega
              match r, hr with
              | [t, a, x, n, v], _ =>
                have hv : itB 8 [t, a, x, n, v] = (markB (.tup [t, a, x, n]) && marksB v) := rfl
                obtain ⟨T, e1⟩ := mark_is c (okD.less _ _ (okD.less _ _ (h.sub (ys := [t, a, x, n]) (by simp) (by simp))))
                have c1 : cutD [t, a, x, n, v] none (some 4) = [t, a, x, n] := rfl
                cases hx : markB (.tup [t, a, x, n]) with
                | false => rw [hx] at e1; exact ⟨T, by simp only [ap_fVar, varK_some, ap_fC, ap_fBin, ap_binK, ap_fNil, ap_fCons, ap_consK, ap_consK2, ap_fTest, ap_testK, ap_fAndV, ap_andVK, ap_fSkip, ap_fSeq, ap_seqK_nx, ap_seqK_rt, ap_fIf, ap_ifK, ap_fRet, ap_retK, ap_fIx, ap_ixK, isDict_tup, getL_tup, ap_fCall, ap_callK, ap_fnF, ap_fnK_rt, o_eq, eqK_some, toP_str, ap_fSl, ap_slK1, ap_slK2, ap_pNo, ap_pSo, ap_pSoK, oSl_tup, o_getD, R.bind_ok, R.nox_ok, List.map_cons, List.map_nil, List.length_cons, List.length_nil, Nat.zero_add, Nat.reduceAdd, Nat.reduceSub, List.replicate_zero, List.getElem?_cons_zero, List.getElem?_cons_succ, List.append_nil, Bool.false_eq_true, if_true, if_false, decide_true, decide_false, Nat.add_zero, Nat.reduceEqDiff, hz, kW4, kW5, kW6, kW7, kW8, wq4, wq5, wq6, wq7, wq8, hk, c1, e1, hv, hx, Bool.false_and]⟩
                | true =>
                  rw [hx] at e1
                  obtain ⟨T2, e3⟩ := marks_is c (okD.keep (Kp.app S T) _ _ (h.mem v (by simp)))
                  rw [List.append_assoc] at e3
                  exact ⟨T ++ T2, by simp only [ap_fVar, varK_some, ap_fC, ap_fBin, ap_binK, ap_fNil, ap_fCons, ap_consK, ap_consK2, ap_fTest, ap_testK, ap_fAndV, ap_andVK, ap_fSkip, ap_fSeq, ap_seqK_nx, ap_seqK_rt, ap_fIf, ap_ifK, ap_fRet, ap_retK, ap_fIx, ap_ixK, isDict_tup, getL_tup, retO_some, ap_fCall, ap_callK, ap_fnF, ap_fnK_rt, o_eq, eqK_some, toP_str, ap_fSl, ap_slK1, ap_slK2, ap_pNo, ap_pSo, ap_pSoK, oSl_tup, o_getD, R.bind_ok, R.nox_ok, List.map_cons, List.map_nil, List.length_cons, List.length_nil, Nat.zero_add, Nat.reduceAdd, Nat.reduceSub, List.replicate_zero, List.getElem?_cons_zero, List.getElem?_cons_succ, List.append_nil, Bool.false_eq_true, if_true, if_false, decide_true, decide_false, Nat.add_zero, Nat.reduceEqDiff, hz, kW4, kW5, kW6, kW7, kW8, wq4, wq5, wq6, wq7, wq8, hk, c1, ix4, e1, e3, hv, hx, Bool.true_and]⟩
            · exfalso
              have k9 : k = 9 := by omega
              subst k9
              have : (0 : Int) = ((r.length + 1 : Nat) : Int) := hl
              omega
theorem bodyB_no {d : D} (h : ∀ xs, d ≠ .tup xs) : bodyB d = false := by
  cases d with
  | tup xs => exact absurd rfl (h xs)
  | _ => rfl
theorem bodyB_w {w : D} {r : List D} (h : ∀ z, w ≠ .str z) : bodyB (.tup (w :: r)) = false := by
  cases w with
  | str z => exact absurd rfl (h z)
  | _ => rfl
theorem ty_nostr {S : Sto} {d : D} {t : String} (h : tyD S d = some t) (h2 : ∀ z, d ≠ .str z) : t = "int" ∨ t = "bool" ∨ t = "tuple" ∨ t = "NoneType" ∨ t = "list" ∨ t = "dict" := by
  cases d with
  | str z => exact absurd rfl (h2 z)
  | ref n =>
    rw [tyD_ref] at h
    unfold tyC at h
    split at h <;> cases h <;> simp
  | kt _ => cases h
  | _ => cases h; simp
theorem str_ty {S : Sto} {z : Str} : tyD S (.str z) = some "str" := rfl
theorem body_is (c : CA) {S : Sto} {d : D} (h : okD S 6 d) : ∃ T, F_is_body c [d] S = .ok (.bl (bodyB d)) (S ++ T) := by
  unfold F_is_body b_is_body
  obtain ⟨t, h1⟩ := h.1
  rcases tup_ways h1 with ⟨xs, rfl, rfl⟩ | ⟨hn, ht⟩
  · have hl := (h.2.2 xs rfl).1
    cases xs with
    | nil => exact ⟨[], by simp only [ap_fVar, varK_some, ap_fC, ap_fBin, ap_binK, ap_fNil, ap_fTup, ap_tupK, ap_fTest, ap_testK, ap_fOr, ap_orK, ap_fSkip, ap_fSeq, ap_seqK_rt, ap_fIf, ap_ifK, ap_fRet, ap_retK, ap_fIx, ap_ixK, isDict_tup, getL_tup, ap_fnF, ap_fnK_rt, ap_fTyIs, ap_tyK0, ap_tyK, o_getD, o_eqE, R.bind_ok, List.map_cons, List.map_nil, List.length_cons, List.length_nil, List.cons_append, List.nil_append, Nat.zero_add, Nat.reduceSub, List.replicate_succ, List.replicate_zero, List.getElem?_cons_zero, List.append_nil, Bool.false_eq_true, if_true, if_false, decide_true, Nat.reduceLeDiff, Bool.not_true, h1, o_eqE, bodyB, List.isEmpty_nil]⟩
    | cons w r =>
      have hw := h.mem w (by simp)
      obtain ⟨tw, hw1⟩ := hw.1
      rcases str_or w with ⟨z, rfl⟩ | hns
      · have hz := (hw.2.1 z rfl).2
        rw [List.length_cons] at hl
        have hl2 : r.length + 1 ≤ 100000 := by omega
        have hv : bodyB (.tup (.str z :: r)) = itB (wd z) r := rfl
        by_cases hc : lenW (wd z) = ((r.length + 1 : Nat) : Int)
        · have hcb : (lenW (wd z) == ((r.length + 1 : Nat) : Int)) = true := by rw [hc]; exact beq_self_eq_true _
          obtain ⟨T, e⟩ := items_is c hz (okD.less _ _ (h.sub (ys := r) (by omega) (fun y hy => List.mem_cons_of_mem _ hy))) hc
          exact ⟨T, by simp only [ap_fVar, varK_some, ap_fC, ap_fBin, ap_binK, ap_fApp, ap_fNil, ap_fCons, ap_consK, ap_consK2, ap_fTup, ap_tupK, ap_fTest, ap_testK, ap_fOr, ap_orK, ap_fAndV, ap_andVK, ap_fSkip, ap_fSeq, ap_seqK_nx, ap_fIf, ap_ifK, ap_fRet, ap_retK, ap_fAsg, ap_asgK, ap_asgK2, ap_gN, ap_fIx, ap_ixK, isDict_tup, getL_tup, retO_some, atI_0, ap_fCall, ap_callK, ap_fnF, ap_fnK_rt, o_eq, eqK_some, eqv_int, toP_int, o_len, lenK_some, lenD_tup, ap_fTyIs, ap_tyK0, ap_tyK, ap_fSl, ap_slK1, ap_slK2, ap_pNo, ap_pSo, ap_pSoK, oSl_tup, o_getD, o_eqE, ap_fGetG, ap_getGK, R.bind_ok, R.nox_ok, List.map_cons, List.map_nil, List.length_cons, List.length_nil, List.cons_append, List.nil_append, Nat.zero_add, Nat.reduceAdd, Nat.reduceSub, List.replicate_succ, List.replicate_zero, List.getElem?_cons_zero, List.getElem?_cons_succ, List.set_cons_zero, List.set_cons_succ, List.append_nil, Bool.false_eq_true, if_true, if_false, decide_true, Nat.add_zero, Nat.reduceLeDiff, Bool.not_true, beq_iff_eq, h1, o_eqE, List.isEmpty_cons, str_ty, get_len, hl2, hc, hcb, cut_tail, e, hv, ap_fGetG, ap_getGK]⟩
        · have hcb : (lenW (wd z) == ((r.length + 1 : Nat) : Int)) = false := beq_eq_false_iff_ne.mpr hc
          have hi := itB_len hc
          exact ⟨[], by simp only [ap_fVar, varK_some, ap_fC, ap_fBin, ap_binK, ap_fApp, ap_fNil, ap_fCons, ap_consK, ap_consK2, ap_fTup, ap_tupK, ap_fTest, ap_testK, ap_fOr, ap_orK, ap_fAndV, ap_andVK, ap_fSkip, ap_fSeq, ap_seqK_nx, ap_fIf, ap_ifK, ap_fRet, ap_retK, ap_fAsg, ap_asgK, ap_asgK2, ap_gN, ap_fIx, ap_ixK, isDict_tup, getL_tup, retO_some, atI_0, ap_fCall, ap_callK, ap_fnF, ap_fnK_rt, o_eq, eqK_some, eqv_int, toP_int, o_len, lenK_some, lenD_tup, ap_fTyIs, ap_tyK0, ap_tyK, ap_fSl, ap_slK1, ap_slK2, ap_pNo, ap_pSo, ap_pSoK, oSl_tup, o_getD, o_eqE, ap_fGetG, ap_getGK, R.bind_ok, List.map_cons, List.map_nil, List.length_cons, List.length_nil, List.cons_append, List.nil_append, Nat.zero_add, Nat.reduceAdd, Nat.reduceSub, List.replicate_succ, List.replicate_zero, List.getElem?_cons_zero, List.getElem?_cons_succ, List.set_cons_zero, List.set_cons_succ, List.append_nil, Bool.false_eq_true, if_true, if_false, decide_true, Nat.add_zero, Nat.reduceLeDiff, Bool.not_true, h1, o_eqE, List.isEmpty_cons, str_ty, get_len, hl2, hc, hcb, hv, hi, ap_fGetG, ap_getGK]⟩
      · rw [bodyB_w hns]
        refine ⟨[], ?_⟩
        rcases ty_nostr hw1 hns with rfl | rfl | rfl | rfl | rfl | rfl
        all_goals simp only [ap_fVar, varK_some, ap_fC, ap_fBin, ap_binK, ap_fNil, ap_fTup, ap_tupK, ap_fTest, ap_testK, ap_fOr, ap_orK, ap_fSkip, ap_fSeq, ap_seqK_rt, ap_fIf, ap_ifK, ap_fRet, ap_retK, ap_fIx, ap_ixK, isDict_tup, getL_tup, retO_some, atI_0, ap_fnF, ap_fnK_rt, ap_fTyIs, ap_tyK0, ap_tyK, o_getD, o_eqE, R.bind_ok, List.map_cons, List.map_nil, List.length_cons, List.length_nil, List.cons_append, List.nil_append, Nat.zero_add, Nat.reduceSub, List.replicate_succ, List.replicate_zero, List.getElem?_cons_zero, List.append_nil, Bool.false_eq_true, if_true, if_false, decide_true, decide_false, Nat.reduceLeDiff, Bool.not_true, Bool.not_false, String.reduceEq, h1, o_eqE, List.isEmpty_cons, hw1]
  · rw [bodyB_no hn]
    refine ⟨[], ?_⟩
    rcases ht with rfl | rfl | rfl | rfl | rfl | rfl
    all_goals simp only [ap_fVar, varK_some, ap_fC, ap_fBin, ap_binK, ap_fNil, ap_fTup, ap_tupK, ap_fTest, ap_testK, ap_fOr, ap_orK, ap_fSkip, ap_fSeq, ap_seqK_rt, ap_fIf, ap_ifK, ap_fRet, ap_retK, ap_fnF, ap_fnK_rt, ap_fTyIs, ap_tyK0, ap_tyK, R.bind_ok, List.map_cons, List.map_nil, List.length_cons, List.length_nil, List.cons_append, List.nil_append, Nat.zero_add, Nat.reduceSub, List.replicate_succ, List.replicate_zero, List.getElem?_cons_zero, List.append_nil, if_true, decide_false, Nat.reduceLeDiff, Bool.not_false, String.reduceEq, h1]
end Qk26

namespace Qk26
open PySem L2 RF
/-! the law's way -/
theorem itB_who {k : Nat} {t a : D} {r : List D} (h : whoB (.tup [t, a]) = false) : itB k (t :: a :: r) = false := by
  have hm : ∀ x n, markB (.tup [t, a, x, n]) = false := by
    intro x n
    have h : (trB t && intIn 1 1000000000000 a) = false := h
    show ((trB t && intIn 1 1000000000000 a) && (keyB x && intIn 1 1000000000000 n)) = false
    rw [h]; rfl
  match r with
  | [] => rfl
  | [x] => simp [itB, h]
  | [x, v] => simp [itB, h]
  | [x, n, v] => simp [itB, hm]
  | [x, n, u, m] => simp [itB, h, hm]
  | _ :: _ :: _ :: _ :: _ :: _ => rfl
theorem markB_key {t a x n : D} : markB (.tup [t, a, x, n]) = (whoB (.tup [t, a]) && (keyB x && intIn 1 1000000000000 n)) := rfl
theorem itB_key {k : Nat} {t a x : D} {r : List D} (h : keyB x = false) (h7 : ¬ k = 7) : itB k (t :: a :: x :: r) = false := by
  match r with
  | [] => simp [itB, h]
  | [v] => simp [itB, h]
  | [n, v] => simp [itB, markB_key, h]
  | [n, u, m] => simp [itB, markB_key, h, h7]
  | _ :: _ :: _ :: _ :: _ => rfl
theorem itB_key7 {t a x : D} {r : List D} : itB 7 (t :: a :: x :: r) = (decide (r.length = 3) && (whoB (.tup [t, a]) && markB (.tup (x :: r)))) := by
  match r with
  | [] => rfl
  | [v] => rfl
  | [n, v] => rfl
  | [n, u, m] => rfl
  | a :: b :: e :: f :: r =>
    have : ¬ (a :: b :: e :: f :: r).length = 3 := by simp
    rw [decide_eq_false this]; rfl
theorem itB_call {k : Nat} {t a x : D} {r : List D} (h : k = 7) (hw : whoB (.tup [t, a]) = true) : itB k (t :: a :: x :: r) = (decide (r.length = 3) && markB (.tup (x :: r))) := by
  subst h
  rw [itB_key7, hw, Bool.true_and]
theorem itB_3 {k : Nat} {t a x : D} {r : List D} (h : k ≤ 3) (hw : whoB (.tup [t, a]) = true) (hx : keyB x = true) : itB k (t :: a :: x :: r) = decide (r.length = 0) := by
  have n4 : ¬ k = 4 := by omega
  have n5 : ¬ k = 5 := by omega
  have n6 : ¬ k = 6 := by omega
  have n7 : ¬ k = 7 := by omega
  have n8 : ¬ k = 8 := by omega
  match r with
  | [] => simp [itB, h, hw, hx]
  | [v] => simp [itB, n4]
  | [n, v] => simp [itB, n5, n8]
  | [n, u, m] => simp [itB, n6, n7]
  | _ :: _ :: _ :: _ :: _ => rfl
theorem itB_4 {t a x : D} {r : List D} (hw : whoB (.tup [t, a]) = true) (hx : keyB x = true) : itB 4 (t :: a :: x :: r) = match r with | [v] => intIn (-1000000000000000) 1000000000000000 v | _ => false := by
  match r with
  | [] => rfl
  | [v] => simp [itB, hw, hx]
  | [n, v] => rfl
  | [n, u, m] => rfl
  | _ :: _ :: _ :: _ :: _ => rfl
theorem itB_56 {k : Nat} {t a x : D} {r : List D} (h : k = 5 ∨ k = 6 ∨ k = 8 ∨ k = 9) (hw : whoB (.tup [t, a]) = true) (hx : keyB x = true) : itB k (t :: a :: x :: r) = match r with
    | [n, v] => intIn 1 1000000000000 n && ((decide (k = 5) && intIn (-1000000000000000) 1000000000000000 v) || (decide (k = 8) && marksB v))
    | [n, u, m] => intIn 1 1000000000000 n && (decide (k = 6) && whoB (.tup [u, m]))
    | _ => false := by
  have n3 : ¬ k ≤ 3 := by omega
  have n4 : ¬ k = 4 := by omega
  have n7 : ¬ k = 7 := by omega
  match r with
  | [] => simp [itB, n3]
  | [v] => simp [itB, n4]
  | [n, v] =>
    simp only [itB, markB_key, hw, hx, Bool.true_and]
    cases intIn 1 1000000000000 n <;> simp
  | [n, u, m] =>
    simp only [itB, markB_key, hw, hx, Bool.true_and, n7, decide_false, Bool.false_and, Bool.or_false]
    cases intIn 1 1000000000000 n <;> simp
  | _ :: _ :: _ :: _ :: _ => rfl
end Qk26

namespace Qk26
open PySem L2 RF
theorem cut13 {w t a : D} {r : List D} : cutD (w :: t :: a :: r) (some 1) (some 3) = [t, a] := by
  unfold cutD
  have h1 : HT.sIx (w :: t :: a :: r).length 0 (some 1) = 1 := by rw [show (1 : Int) = ((1 : Nat) : Int) from rfl, HT.sIx_nat]; simp only [List.length_cons]; omega
  have h2 : HT.sIx (w :: t :: a :: r).length (w :: t :: a :: r).length (some 3) = 3 := by rw [show (3 : Int) = ((3 : Nat) : Int) from rfl, HT.sIx_nat]; simp only [List.length_cons]; omega
  rw [h1, h2]
  rfl
theorem cut3 {w t a : D} {r : List D} : cutD (w :: t :: a :: r) (some 3) none = r := by
  unfold cutD
  have h1 : HT.sIx (w :: t :: a :: r).length 0 (some 3) = 3 := by rw [show (3 : Int) = ((3 : Nat) : Int) from rfl, HT.sIx_nat]; simp only [List.length_cons]; omega
  rw [h1, HT.sIx_none]
  simp
theorem cut5 {w t a x n : D} {r : List D} : cutD (w :: t :: a :: x :: n :: r) (some 5) none = r := by
  unfold cutD
  have h1 : HT.sIx (w :: t :: a :: x :: n :: r).length 0 (some 5) = 5 := by rw [show (5 : Int) = ((5 : Nat) : Int) from rfl, HT.sIx_nat]; simp only [List.length_cons]; omega
  rw [h1, HT.sIx_none]
  simp
theorem bodyB_short {xs : List D} (h : xs.length < 4) : bodyB (.tup xs) = false := by
  match xs, h with
  | [], _ => rfl
  | [w], _ => cases w <;> rfl
  | [w, a], _ => cases w <;> rfl
  | [w, a, b], _ => cases w <;> rfl
  | _ :: _ :: _ :: _ :: _, h => simp at h; omega
theorem four_or {xs : List D} (h : ¬ xs.length < 4) : ∃ w t a x r, xs = w :: t :: a :: x :: r := by
  match xs, h with
  | [], h => simp at h
  | [_], h => simp at h
  | [_, _], h => simp at h
  | [_, _, _], h => simp at h
  | w :: t :: a :: x :: r, _ => exact ⟨w, t, a, x, r, rfl⟩
theorem b77 : ((7 : Int) == 7) = true := by decide
theorem m4 : ((4 : Nat) : Int) = 4 := rfl
theorem m5 : ((5 : Nat) : Int) = 5 := rfl
theorem m6 : ((6 : Nat) : Int) = 6 := rfl
theorem m7 : ((7 : Nat) : Int) = 7 := rfl
theorem ix3 {a b e f : D} {r : List D} : atI (a :: b :: e :: f :: r) 3 = some f := by rw [atI_nn (by decide)]; rfl
/-- a number that is not another -/
theorem nb {n : Nat} {k : Int} (h : ¬ (n : Int) = k) : ((n : Int) == k) = false := beq_eq_false_iff_ne.mpr h
theorem lbody_is (c : CA) {S : Sto} {d : D} (h : okD S 6 d) : ∃ T, F_law_is_body c [d] S = .ok (.bl (bodyB d)) (S ++ T) := by
  unfold F_law_is_body b_law_is_body
  obtain ⟨t, h1⟩ := h.1
  rcases tup_ways h1 with ⟨xs, rfl, rfl⟩ | ⟨hn, ht⟩
  · have hl := (h.2.2 xs rfl).1
    by_cases hs : xs.length < 4
    · rw [bodyB_short hs]
      have hs' : ((xs.length : Nat) : Int) < 4 := by omega
      exact ⟨[], by simp only [ap_fVar, varK_some, ap_fC, ap_fBin, ap_binK, ap_fApp, ap_fNil, ap_fCons, ap_consK, ap_consK2, ap_fTest, ap_testK, ap_fOr, ap_fNot, ap_orK, ap_notK, ap_fSkip, ap_fSeq, ap_seqK_rt, ap_fIf, ap_ifK, ap_fRet, ap_retK, ap_fIx, ap_ixK, isDict_tup, getL_tup, ap_fnF, ap_fnK_rt, o_lt, o_len, lenK_some, lenD_tup, ap_fIsi, ap_isiK0, ap_isiK, ap_isiK2, o_getD, R.bind_ok, List.map_cons, List.map_nil, List.length_cons, List.length_nil, List.cons_append, List.nil_append, Nat.zero_add, Nat.reduceSub, List.replicate_succ, List.replicate_zero, List.getElem?_cons_zero, List.append_nil, Bool.false_eq_true, if_true, if_false, decide_true, decide_false, or_true, or_false, Bool.not_true, String.reduceEq, h1, isiD, hs']⟩
    · obtain ⟨w, t, a, x, r, rfl⟩ := four_or hs
      · skip
        have hw := h.mem w (by simp)
        obtain ⟨tw, hw1⟩ := hw.1
        have g1 : ¬ ((r.length + 4 : Nat) : Int) < 4 := by omega
        have hle : (w :: t :: a :: x :: r).length = r.length + 4 := rfl
        rcases str_or w with ⟨z, rfl⟩ | hns
        · have hz := (hw.2.1 z rfl).2
          have hv : bodyB (.tup (.str z :: t :: a :: x :: r)) = itB (wd z) (t :: a :: x :: r) := rfl
          have e1 := lwho_is c (okD.less _ _ (okD.less _ _ (okD.less _ _ (h.sub (ys := [t, a]) (by simp) (by simp)))))
          cases hwb : whoB (.tup [t, a]) with
          | false =>
            rw [hwb] at e1
            have hi := itB_who (k := wd z) (r := x :: r) hwb
            exact ⟨[], by simp only [ap_fVar, varK_some, ap_fC, ap_fBin, ap_binK, ap_fApp, ap_fNil, ap_fCons, ap_consK, ap_consK2, ap_fTest, ap_testK, ap_fOr, ap_fNot, ap_orK, ap_notK, ap_fSkip, ap_fSeq, ap_seqK_rt, ap_fIf, ap_ifK, ap_fRet, ap_retK, ap_fIx, ap_ixK, isDict_tup, getL_tup, retO_some, atI_0, ap_fCall, ap_callK, ap_fnF, ap_fnK_rt, o_lt, o_len, lenK_some, lenD_tup, ap_fIsi, ap_isiK0, ap_isiK, ap_isiK2, ap_fSl, ap_slK1, ap_slK2, ap_pSo, ap_pSoK, oSl_tup, o_getD, R.bind_ok, R.nox_ok, List.map_cons, List.map_nil, List.length_cons, List.length_nil, List.cons_append, List.nil_append, Nat.zero_add, Nat.reduceAdd, Nat.reduceSub, List.replicate_succ, List.replicate_zero, List.getElem?_cons_zero, List.append_nil, Bool.false_eq_true, if_true, if_false, decide_true, decide_false, Nat.add_zero, or_true, or_false, Bool.not_true, Bool.not_false, String.reduceEq, Nat.add_assoc, h1, isiD, g1, str_ty, cut13, e1, hv, hi]⟩
          | true =>
            rw [hwb] at e1
            generalize hk : wd z = k at hv
            by_cases k7 : k = 7
            · have hi := itB_call (r := r) (x := x) k7 hwb
              subst k7
              by_cases hr : r.length = 3
              · have hr1 : ((r.length + 4 : Nat) : Int) = 7 := by omega
                have hr2 : (((r.length + 4 : Nat) : Int) == 7) = true := by rw [hr1]; rfl
                obtain ⟨T, e2⟩ := lmark_is c (okD.less _ _ (okD.less _ _ (okD.less _ _ (h.sub (ys := x :: r) (by rw [List.length_cons]; omega) (by simp +contextual)))))
                rw [decide_eq_true hr, Bool.true_and] at hi
                exact ⟨T, by simp only [ap_fVar, varK_some, ap_fC, ap_fBin, ap_binK, ap_fApp, ap_fNil, ap_fCons, ap_consK, ap_consK2, ap_fTest, ap_testK, ap_fOr, ap_fNot, ap_orK, ap_notK, ap_fAndV, ap_andVK, ap_fSkip, ap_fSeq, ap_seqK_nx, ap_seqK_rt, ap_fIf, ap_ifK, ap_fRet, ap_retK, ap_fAsg, ap_asgK, ap_asgK2, ap_gN, ap_fIx, ap_ixK, isDict_tup, getL_tup, retO_some, atI_0, ap_fCall, ap_callK, ap_fnF, ap_fnK_rt, o_lt, o_eq, eqK_some, eqv_int, toP_int, toP_str, o_len, lenK_some, lenD_tup, ap_fIsi, ap_isiK0, ap_isiK, ap_isiK2, ap_fSl, ap_slK1, ap_slK2, ap_pNo, ap_pSo, ap_pSoK, oSl_tup, o_getD, R.bind_ok, R.nox_ok, List.map_cons, List.map_nil, List.length_cons, List.length_nil, List.cons_append, List.nil_append, Nat.zero_add, Nat.reduceAdd, Nat.reduceSub, List.replicate_succ, List.replicate_zero, List.getElem?_cons_zero, List.getElem?_cons_succ, List.set_cons_zero, List.set_cons_succ, List.append_nil, Bool.false_eq_true, if_true, if_false, decide_true, decide_false, Nat.add_zero, Int.reduceLT, or_true, or_false, Bool.not_true, String.reduceEq, Nat.add_assoc, h1, isiD, g1, str_ty, cut13, cut3, e1, hv, hi, hz, kW7, wq7, hk, hr1, hr2, b77, e2]⟩
              · have hr1 : ¬ ((r.length + 4 : Nat) : Int) = 7 := by omega
                have hr2 := nb hr1
                rw [decide_eq_false hr, Bool.false_and] at hi
                exact ⟨[], by simp only [ap_fVar, varK_some, ap_fC, ap_fBin, ap_binK, ap_fApp, ap_fNil, ap_fCons, ap_consK, ap_consK2, ap_fTest, ap_testK, ap_fOr, ap_fNot, ap_orK, ap_notK, ap_fAndV, ap_andVK, ap_fSkip, ap_fSeq, ap_seqK_nx, ap_seqK_rt, ap_fIf, ap_ifK, ap_fRet, ap_retK, ap_fAsg, ap_asgK, ap_asgK2, ap_gN, ap_fIx, ap_ixK, isDict_tup, getL_tup, retO_some, atI_0, ap_fCall, ap_callK, ap_fnF, ap_fnK_rt, o_lt, o_eq, eqK_some, eqv_int, toP_int, toP_str, o_len, lenK_some, lenD_tup, ap_fIsi, ap_isiK0, ap_isiK, ap_isiK2, ap_fSl, ap_slK1, ap_slK2, ap_pNo, ap_pSo, ap_pSoK, oSl_tup, o_getD, R.bind_ok, R.nox_ok, List.map_cons, List.map_nil, List.length_cons, List.length_nil, List.cons_append, List.nil_append, Nat.zero_add, Nat.reduceAdd, Nat.reduceSub, List.replicate_succ, List.replicate_zero, List.getElem?_cons_zero, List.getElem?_cons_succ, List.set_cons_zero, List.set_cons_succ, List.append_nil, Bool.false_eq_true, if_true, if_false, decide_true, decide_false, Nat.add_zero, or_true, or_false, Bool.not_true, String.reduceEq, Nat.add_assoc, h1, isiD, g1, str_ty, cut13, cut3, e1, hv, hi, hz, kW7, wq7, hk, hr1, hr2, b77]⟩
            · obtain ⟨T, e2⟩ := lkey_is c (okD.less _ _ (okD.less _ _ (okD.less _ _ (h.mem x (by simp)))))
              cases hx : keyB x with
              | false =>
                rw [hx] at e2
                have hi := itB_key (t := t) (a := a) (r := r) hx k7
                exact ⟨T, by simp only [ap_fVar, varK_some, ap_fC, ap_fBin, ap_binK, ap_fApp, ap_fNil, ap_fCons, ap_consK, ap_consK2, ap_fTest, ap_testK, ap_fOr, ap_fNot, ap_orK, ap_notK, ap_fAndV, ap_andVK, ap_fSkip, ap_fSeq, ap_seqK_nx, ap_seqK_rt, ap_fIf, ap_ifK, ap_fRet, ap_retK, ap_fAsg, ap_asgK, ap_asgK2, ap_gN, ap_fIx, ap_ixK, isDict_tup, getL_tup, retO_some, atI_0, atI_3, ap_fCall, ap_callK, ap_fnF, ap_fnK_rt, o_lt, o_eq, eqK_some, eqv_int, toP_int, toP_str, o_len, lenK_some, lenD_tup, ap_fIsi, ap_isiK0, ap_isiK, ap_isiK2, ap_fSl, ap_slK1, ap_slK2, ap_pNo, ap_pSo, ap_pSoK, oSl_tup, o_getD, R.bind_ok, R.nox_ok, List.map_cons, List.map_nil, List.length_cons, List.length_nil, List.cons_append, List.nil_append, Nat.zero_add, Nat.reduceAdd, Nat.reduceSub, List.replicate_succ, List.replicate_zero, List.getElem?_cons_zero, List.getElem?_cons_succ, List.set_cons_zero, List.set_cons_succ, List.append_nil, Bool.false_eq_true, if_true, if_false, decide_true, decide_false, Nat.add_zero, or_true, or_false, Bool.not_true, Bool.not_false, beq_iff_eq, String.reduceEq, Nat.add_assoc, h1, isiD, g1, str_ty, cut13, e1, hv, hi, hz, kW7, wq7, hk, k7, ix3, e2]⟩
              | true =>
                rw [hx] at e2
                by_cases k3 : k ≤ 3
                · have hi := itB_3 (r := r) k3 hwb hx
                  refine ⟨T, ?_⟩
                  by_cases hr : r.length = 0
                  · have hr1 : ((r.length + 4 : Nat) : Int) = 4 := by omega
                    have hr2 : (((r.length + 4 : Nat) : Int) == 4) = true := by rw [hr1]; rfl
                    rw [decide_eq_true hr] at hi
                    simp only [ap_fVar, varK_some, ap_fC, ap_fBin, ap_binK, ap_fApp, ap_fNil, ap_fCons, ap_consK, ap_consK2, ap_fTup, ap_tupK, ap_fTest, ap_testK, ap_fOr, ap_fNot, ap_orK, ap_notK, ap_fAndV, ap_andVK, ap_fSkip, ap_fSeq, ap_seqK_nx, ap_seqK_rt, ap_fIf, ap_ifK, ap_fRet, ap_retK, ap_fAsg, ap_asgK, ap_asgK2, ap_gN, ap_fIx, ap_ixK, isDict_tup, getL_tup, retO_some, atI_0, atI_3, ap_fCall, ap_callK, ap_fnF, ap_fnK_rt, o_lt, o_eq, eqK_some, eqv_int, toP_int, toP_str, o_len, lenK_some, lenD_tup, ap_fIsi, ap_isiK0, ap_isiK, ap_isiK2, ap_fSl, ap_slK1, ap_slK2, ap_pNo, ap_pSo, ap_pSoK, oSl_tup, o_getD, R.bind_ok, R.nox_ok, List.map_cons, List.map_nil, List.length_cons, List.length_nil, List.cons_append, List.nil_append, Nat.zero_add, Nat.reduceAdd, Nat.reduceSub, List.replicate_succ, List.replicate_zero, List.getElem?_cons_zero, List.getElem?_cons_succ, List.set_cons_zero, List.set_cons_succ, List.append_nil, Bool.false_eq_true, if_true, if_false, decide_true, decide_false, Nat.add_zero, Nat.reduceLeDiff, Int.reduceLT, or_true, or_false, Bool.not_true, String.reduceEq, Nat.add_assoc, h1, isiD, g1, str_ty, cut13, e1, hv, hi, hz, kW7, wq7, hk, k7, ix3, e2, in4 hz, m4, m5, m6, m7, b44, b77, Int.reduceBEq, k3, hr1, hr2, b44]
                  · have hr1 : ¬ ((r.length + 4 : Nat) : Int) = 4 := by omega
                    have hr2 := nb hr1
                    rw [decide_eq_false hr] at hi
                    simp only [ap_fVar, varK_some, ap_fC, ap_fBin, ap_binK, ap_fApp, ap_fNil, ap_fCons, ap_consK, ap_consK2, ap_fTup, ap_tupK, ap_fTest, ap_testK, ap_fOr, ap_fNot, ap_orK, ap_notK, ap_fAndV, ap_andVK, ap_fSkip, ap_fSeq, ap_seqK_nx, ap_seqK_rt, ap_fIf, ap_ifK, ap_fRet, ap_retK, ap_fAsg, ap_asgK, ap_asgK2, ap_gN, ap_fIx, ap_ixK, isDict_tup, getL_tup, retO_some, atI_0, atI_3, ap_fCall, ap_callK, ap_fnF, ap_fnK_rt, o_lt, o_eq, eqK_some, eqv_int, toP_int, toP_str, o_len, lenK_some, lenD_tup, ap_fIsi, ap_isiK0, ap_isiK, ap_isiK2, ap_fSl, ap_slK1, ap_slK2, ap_pNo, ap_pSo, ap_pSoK, oSl_tup, o_getD, R.bind_ok, R.nox_ok, List.map_cons, List.map_nil, List.length_cons, List.length_nil, List.cons_append, List.nil_append, Nat.zero_add, Nat.reduceAdd, Nat.reduceSub, List.replicate_succ, List.replicate_zero, List.getElem?_cons_zero, List.getElem?_cons_succ, List.set_cons_zero, List.set_cons_succ, List.append_nil, Bool.false_eq_true, if_true, if_false, decide_true, decide_false, Nat.add_zero, Nat.reduceLeDiff, or_true, or_false, Bool.not_true, beq_iff_eq, String.reduceEq, Nat.add_assoc, h1, isiD, g1, str_ty, cut13, e1, hv, hi, hz, kW7, wq7, hk, k7, ix3, e2, in4 hz, m4, m5, m6, m7, b44, b77, Int.reduceBEq, k3, hr1, hr2, b44]
                · by_cases k4 : k = 4
                  · subst k4
                    have hi := itB_4 (r := r) hwb hx
                    match r, hi with
                    | [v], hi =>
                      obtain ⟨tv, hv1⟩ := (okD.keep (Kp.app S T) _ _ (h.mem v (by simp))).1
                      have e3 := is_int_eq c (a := -1000000000000000) (b := 1000000000000000) hv1
                      exact ⟨T, by simp only [ap_fVar, varK_some, ap_fC, ap_fBin, ap_binK, ap_fUn, ap_fApp, ap_fNil, ap_fCons, ap_consK, ap_consK2, ap_fTup, ap_tupK, ap_fTest, ap_testK, ap_fOr, ap_fNot, ap_orK, ap_notK, ap_fAndV, ap_andVK, ap_fSkip, ap_fSeq, ap_seqK_nx, ap_seqK_rt, ap_fIf, ap_ifK, ap_fRet, ap_retK, ap_fAsg, ap_asgK, ap_asgK2, ap_gN, ap_fIx, ap_ixK, isDict_tup, getL_tup, retO_some, atI_0, atI_3, ap_fCall, ap_callK, ap_fnF, ap_fnK_rt, o_pow, o_neg, o_lt, o_eq, eqK_some, eqv_int, toP_int, toP_str, o_len, lenK_some, lenD_tup, ap_fIsi, ap_isiK0, ap_isiK, ap_isiK2, ap_fSl, ap_slK1, ap_slK2, ap_pNo, ap_pSo, ap_pSoK, oSl_tup, o_getD, R.bind_ok, R.nox_ok, List.map_cons, List.map_nil, List.length_cons, List.length_nil, List.cons_append, List.nil_append, Nat.zero_add, Nat.reduceAdd, Nat.reduceSub, List.replicate_succ, List.replicate_zero, List.getElem?_cons_zero, List.getElem?_cons_succ, List.set_cons_zero, List.set_cons_succ, List.append_nil, Bool.false_eq_true, if_true, if_false, decide_true, decide_false, Nat.add_zero, Nat.reduceLeDiff, Int.reduceLT, Int.reduceLE, Int.reduceNeg, Int.reducePow, Nat.reduceEqDiff, or_true, or_false, and_self, Bool.not_true, Int.reduceToNat, String.reduceEq, h1, isiD, str_ty, cut13, e1, hv, hi, hz, kW7, wq7, kW4, wq4, hk, ix3, ix4, e2, in4 hz, m4, m5, m6, m7, b44, b77, Int.reduceBEq, show ¬ (4 ≤ 3) by decide, e3]⟩
                    | [], hi => exact ⟨T, by simp only [ap_fVar, varK_some, ap_fC, ap_fBin, ap_binK, ap_fApp, ap_fNil, ap_fCons, ap_consK, ap_consK2, ap_fTup, ap_tupK, ap_fTest, ap_testK, ap_fOr, ap_fNot, ap_orK, ap_notK, ap_fAndV, ap_andVK, ap_fSkip, ap_fSeq, ap_seqK_nx, ap_seqK_rt, ap_fIf, ap_ifK, ap_fRet, ap_retK, ap_fAsg, ap_asgK, ap_asgK2, ap_gN, ap_fIx, ap_ixK, isDict_tup, getL_tup, retO_some, atI_0, atI_3, ap_fCall, ap_callK, ap_fnF, ap_fnK_rt, o_lt, o_eq, eqK_some, eqv_int, toP_int, toP_str, o_len, lenK_some, lenD_tup, ap_fIsi, ap_isiK0, ap_isiK, ap_isiK2, ap_fSl, ap_slK1, ap_slK2, ap_pNo, ap_pSo, ap_pSoK, oSl_tup, o_getD, R.bind_ok, R.nox_ok, List.map_cons, List.map_nil, List.length_cons, List.length_nil, List.cons_append, List.nil_append, Nat.zero_add, Nat.reduceAdd, Nat.reduceSub, List.replicate_succ, List.replicate_zero, List.getElem?_cons_zero, List.getElem?_cons_succ, List.set_cons_zero, List.set_cons_succ, List.append_nil, Bool.false_eq_true, if_true, if_false, decide_true, decide_false, Nat.add_zero, Nat.reduceLeDiff, Int.reduceLT, Nat.reduceEqDiff, or_true, or_false, Bool.not_true, String.reduceEq, h1, isiD, str_ty, cut13, e1, hv, hi, hz, kW7, wq7, kW4, wq4, hk, ix3, ix4, e2, in4 hz, m4, m5, m6, m7, b44, b77, Int.reduceBEq, show ¬ (4 ≤ 3) by decide]⟩
                    | n :: v :: r, hi =>
                      have hr1 : ¬ ((r.length + 6 : Nat) : Int) = 5 := by omega
                      have hr2 := nb hr1
                      have g1 : ¬ ((r.length + 6 : Nat) : Int) < 4 := by omega
                      exact ⟨T, by simp only [ap_fVar, varK_some, ap_fC, ap_fBin, ap_binK, ap_fUn, ap_fApp, ap_fNil, ap_fCons, ap_consK, ap_consK2, ap_fTup, ap_tupK, ap_fTest, ap_testK, ap_fOr, ap_fNot, ap_orK, ap_notK, ap_fAndV, ap_andVK, ap_fSkip, ap_fSeq, ap_seqK_nx, ap_seqK_rt, ap_fIf, ap_ifK, ap_fRet, ap_retK, ap_fAsg, ap_asgK, ap_asgK2, ap_gN, ap_fIx, ap_ixK, isDict_tup, getL_tup, retO_some, atI_0, atI_3, ap_fCall, ap_callK, ap_fnF, ap_fnK_rt, o_pow, o_neg, o_lt, o_eq, eqK_some, eqv_int, toP_int, toP_str, o_len, lenK_some, lenD_tup, ap_fIsi, ap_isiK0, ap_isiK, ap_isiK2, ap_fSl, ap_slK1, ap_slK2, ap_pNo, ap_pSo, ap_pSoK, oSl_tup, o_getD, R.bind_ok, R.nox_ok, List.map_cons, List.map_nil, List.length_cons, List.length_nil, List.cons_append, List.nil_append, Nat.zero_add, Nat.reduceAdd, Nat.reduceSub, List.replicate_succ, List.replicate_zero, List.getElem?_cons_zero, List.getElem?_cons_succ, List.set_cons_zero, List.set_cons_succ, List.append_nil, Bool.false_eq_true, if_true, if_false, decide_true, decide_false, Nat.add_zero, Nat.reduceLeDiff, Int.reduceLT, Int.reduceLE, Int.reduceNeg, Int.reducePow, Nat.reduceEqDiff, or_true, or_false, and_self, Bool.not_true, Int.reduceToNat, beq_iff_eq, String.reduceEq, Nat.add_assoc, h1, isiD, g1, str_ty, cut13, e1, hv, hi, hz, kW7, wq7, kW4, wq4, hk, ix3, ix4, e2, in4 hz, m4, m5, m6, m7, b44, b77, Int.reduceBEq, show ¬ (4 ≤ 3) by decide, hr1, hr2]⟩
                  · have hk9 : k < 10 := hk ▸ wd_lt z
                    have hk4 : k = 5 ∨ k = 6 ∨ k = 8 ∨ k = 9 := by omega
                    have hi := itB_56 (r := r) hk4 hwb hx
                    match r, hi with
                    | [], hi => exact ⟨T, by simp only [ap_fVar, varK_some, ap_fC, ap_fBin, ap_binK, ap_fApp, ap_fNil, ap_fCons, ap_consK, ap_consK2, ap_fTup, ap_tupK, ap_fTest, ap_testK, ap_fOr, ap_fNot, ap_orK, ap_notK, ap_fAndV, ap_andVK, ap_fSkip, ap_fSeq, ap_seqK_nx, ap_seqK_rt, ap_fIf, ap_ifK, ap_fRet, ap_retK, ap_fAsg, ap_asgK, ap_asgK2, ap_gN, ap_fIx, ap_ixK, isDict_tup, getL_tup, retO_some, atI_0, atI_3, ap_fCall, ap_callK, ap_fnF, ap_fnK_rt, o_lt, o_eq, eqK_some, eqv_int, toP_int, toP_str, o_len, lenK_some, lenD_tup, ap_fIsi, ap_isiK0, ap_isiK, ap_isiK2, ap_fSl, ap_slK1, ap_slK2, ap_pNo, ap_pSo, ap_pSoK, oSl_tup, o_getD, R.bind_ok, R.nox_ok, List.map_cons, List.map_nil, List.length_cons, List.length_nil, List.cons_append, List.nil_append, Nat.zero_add, Nat.reduceAdd, Nat.reduceSub, List.replicate_succ, List.replicate_zero, List.getElem?_cons_zero, List.getElem?_cons_succ, List.set_cons_zero, List.set_cons_succ, List.append_nil, Bool.false_eq_true, if_true, if_false, decide_true, decide_false, Nat.add_zero, Nat.reduceLeDiff, Int.reduceLT, or_true, or_false, Bool.not_true, String.reduceEq, h1, isiD, str_ty, cut13, e1, hv, hi, hz, kW7, wq7, kW4, wq4, hk, k7, k4, ix3, ix4, e2, in4 hz, m4, m5, m6, m7, b44, b77, Int.reduceBEq, k3]⟩
                    | [v], hi => exact ⟨T, by simp only [ap_fVar, varK_some, ap_fC, ap_fBin, ap_binK, ap_fUn, ap_fApp, ap_fNil, ap_fCons, ap_consK, ap_consK2, ap_fTup, ap_tupK, ap_fTest, ap_testK, ap_fOr, ap_fNot, ap_orK, ap_notK, ap_fAndV, ap_andVK, ap_fSkip, ap_fSeq, ap_seqK_nx, ap_seqK_rt, ap_fIf, ap_ifK, ap_fRet, ap_retK, ap_fAsg, ap_asgK, ap_asgK2, ap_gN, ap_fIx, ap_ixK, isDict_tup, getL_tup, retO_some, atI_0, atI_3, ap_fCall, ap_callK, ap_fnF, ap_fnK_rt, o_pow, o_neg, o_lt, o_eq, eqK_some, eqv_int, toP_int, toP_str, o_len, lenK_some, lenD_tup, ap_fIsi, ap_isiK0, ap_isiK, ap_isiK2, ap_fSl, ap_slK1, ap_slK2, ap_pNo, ap_pSo, ap_pSoK, oSl_tup, o_getD, R.bind_ok, R.nox_ok, List.map_cons, List.map_nil, List.length_cons, List.length_nil, List.cons_append, List.nil_append, Nat.zero_add, Nat.reduceAdd, Nat.reduceSub, List.replicate_succ, List.replicate_zero, List.getElem?_cons_zero, List.getElem?_cons_succ, List.set_cons_zero, List.set_cons_succ, List.append_nil, Bool.false_eq_true, if_true, if_false, decide_true, decide_false, Nat.add_zero, Nat.reduceLeDiff, Int.reduceLT, Int.reduceLE, Int.reduceNeg, Int.reducePow, or_true, or_false, and_self, Bool.not_true, Int.reduceToNat, String.reduceEq, h1, isiD, str_ty, cut13, e1, hv, hi, hz, kW7, wq7, kW4, wq4, hk, k7, k4, ix3, ix4, e2, in4 hz, m4, m5, m6, m7, b44, b77, Int.reduceBEq, k3]⟩
                    | [n, v], hi =>
                      obtain ⟨tn, hn1⟩ := (okD.keep (Kp.app S T) _ _ (h.mem n (by simp))).1
                      have e3 := is_int_eq c (a := 1) (b := 1000000000000) hn1
                      cases hin : intIn 1 1000000000000 n with
                      | false =>
                        rw [hin] at e3
                        exact ⟨T, by simp only [ap_fVar, varK_some, ap_fC, ap_fBin, ap_binK, ap_fUn, ap_fApp, ap_fNil, ap_fCons, ap_consK, ap_consK2, ap_fTup, ap_tupK, ap_fTest, ap_testK, ap_fOr, ap_fNot, ap_orK, ap_notK, ap_fAndV, ap_andVK, ap_fSkip, ap_fSeq, ap_seqK_nx, ap_seqK_rt, ap_fIf, ap_ifK, ap_fRet, ap_retK, ap_fAsg, ap_asgK, ap_asgK2, ap_gN, ap_fIx, ap_ixK, isDict_tup, getL_tup, retO_some, atI_0, atI_3, ap_fCall, ap_callK, ap_fnF, ap_fnK_rt, o_pow, o_neg, o_lt, o_eq, eqK_some, eqv_int, toP_int, toP_str, o_len, lenK_some, lenD_tup, ap_fIsi, ap_isiK0, ap_isiK, ap_isiK2, ap_fSl, ap_slK1, ap_slK2, ap_pNo, ap_pSo, ap_pSoK, oSl_tup, o_getD, R.bind_ok, R.nox_ok, List.map_cons, List.map_nil, List.length_cons, List.length_nil, List.cons_append, List.nil_append, Nat.zero_add, Nat.reduceAdd, Nat.reduceSub, List.replicate_succ, List.replicate_zero, List.getElem?_cons_zero, List.getElem?_cons_succ, List.set_cons_zero, List.set_cons_succ, List.append_nil, Bool.false_eq_true, if_true, if_false, decide_true, decide_false, Nat.add_zero, Nat.reduceLeDiff, Int.reduceLT, Int.reduceLE, Int.reduceNeg, Int.reducePow, or_true, or_false, and_self, Bool.not_true, Bool.not_false, Int.reduceToNat, String.reduceEq, h1, isiD, str_ty, cut13, e1, hv, hi, hin, hz, kW7, wq7, kW4, wq4, hk, k7, k4, ix3, ix4, e2, in4 hz, m4, m5, m6, m7, b44, b77, Int.reduceBEq, k3, e3, Bool.false_and]⟩
                      | true =>
                        rw [hin] at e3
                        have okv := okD.keep (Kp.app S T) _ _ (h.mem v (by simp))
                        obtain ⟨tv, hv1⟩ := okv.1
                        have e4 := is_int_eq c (a := -1000000000000000) (b := 1000000000000000) hv1
                        obtain ⟨T2, e5⟩ := lmarks_is c (okD.less _ _ okv)
                        rw [List.append_assoc] at e5
                        rcases hk4 with rfl | rfl | rfl | rfl
                        · exact ⟨T, by simp only [ap_fVar, varK_some, ap_fC, ap_fBin, ap_binK, ap_fUn, ap_fApp, ap_fNil, ap_fCons, ap_consK, ap_consK2, ap_fTup, ap_tupK, ap_fTest, ap_testK, ap_fOr, ap_fNot, ap_orK, ap_notK, ap_fAndV, ap_andVK, ap_fSkip, ap_fSeq, ap_seqK_nx, ap_seqK_rt, ap_fIf, ap_ifK, ap_fRet, ap_retK, ap_fAsg, ap_asgK, ap_asgK2, ap_gN, ap_fIx, ap_ixK, isDict_tup, getL_tup, retO_some, atI_0, atI_3, ap_fCall, ap_callK, ap_fnF, ap_fnK_rt, o_pow, o_neg, o_lt, o_eq, eqK_some, eqv_int, toP_int, toP_str, o_len, lenK_some, lenD_tup, ap_fIsi, ap_isiK0, ap_isiK, ap_isiK2, ap_fSl, ap_slK1, ap_slK2, ap_pNo, ap_pSo, ap_pSoK, oSl_tup, o_getD, R.bind_ok, R.nox_ok, List.map_cons, List.map_nil, List.length_cons, List.length_nil, List.cons_append, List.nil_append, Nat.zero_add, Nat.reduceAdd, Nat.reduceSub, List.replicate_succ, List.replicate_zero, List.getElem?_cons_zero, List.getElem?_cons_succ, List.set_cons_zero, List.set_cons_succ, List.append_nil, Bool.false_eq_true, if_true, if_false, decide_true, decide_false, Nat.add_zero, Nat.reduceLeDiff, Int.reduceLT, Int.reduceLE, Int.reduceNeg, Int.reducePow, Nat.reduceEqDiff, or_true, or_false, and_self, Bool.not_true, Int.reduceToNat, String.reduceEq, h1, isiD, str_ty, cut13, e1, hv, hi, hin, hz, kW7, wq7, kW4, wq4, kW5, wq5, hk, ix3, ix4, ix5, e2, in4 hz, m4, m5, m6, m7, b44, b77, Int.reduceBEq, k3, e3, e4, Bool.true_and, Bool.false_and, Bool.or_false]⟩
                        · exact ⟨T, by simp only [ap_fVar, varK_some, ap_fC, ap_fBin, ap_binK, ap_fUn, ap_fApp, ap_fNil, ap_fCons, ap_consK, ap_consK2, ap_fTup, ap_tupK, ap_fTest, ap_testK, ap_fOr, ap_fNot, ap_orK, ap_notK, ap_fAndV, ap_andVK, ap_fSkip, ap_fSeq, ap_seqK_nx, ap_seqK_rt, ap_fIf, ap_ifK, ap_fRet, ap_retK, ap_fAsg, ap_asgK, ap_asgK2, ap_gN, ap_fIx, ap_ixK, isDict_tup, getL_tup, retO_some, atI_0, atI_3, ap_fCall, ap_callK, ap_fnF, ap_fnK_rt, o_pow, o_neg, o_lt, o_eq, eqK_some, eqv_int, toP_int, toP_str, o_len, lenK_some, lenD_tup, ap_fIsi, ap_isiK0, ap_isiK, ap_isiK2, ap_fSl, ap_slK1, ap_slK2, ap_pNo, ap_pSo, ap_pSoK, oSl_tup, o_getD, R.bind_ok, R.nox_ok, List.map_cons, List.map_nil, List.length_cons, List.length_nil, List.cons_append, List.nil_append, Nat.zero_add, Nat.reduceAdd, Nat.reduceSub, List.replicate_succ, List.replicate_zero, List.getElem?_cons_zero, List.getElem?_cons_succ, List.set_cons_zero, List.set_cons_succ, List.append_nil, Bool.false_eq_true, if_true, if_false, decide_true, decide_false, Nat.add_zero, Nat.reduceLeDiff, Int.reduceLT, Int.reduceLE, Int.reduceNeg, Int.reducePow, Nat.reduceEqDiff, or_true, or_false, and_self, Bool.not_true, Int.reduceToNat, String.reduceEq, h1, isiD, str_ty, cut13, e1, hv, hi, hin, hz, kW7, wq7, kW4, wq4, kW5, wq5, kW6, wq6, hk, ix3, ix4, ix5, e2, in4 hz, m4, m5, m6, m7, b44, b77, Int.reduceBEq, k3, e3, e4, Bool.true_and, Bool.false_and, Bool.or_false]⟩
                        · exact ⟨T ++ T2, by simp only [ap_fVar, varK_some, ap_fC, ap_fBin, ap_binK, ap_fUn, ap_fApp, ap_fNil, ap_fCons, ap_consK, ap_consK2, ap_fTup, ap_tupK, ap_fTest, ap_testK, ap_fOr, ap_fNot, ap_orK, ap_notK, ap_fAndV, ap_andVK, ap_fSkip, ap_fSeq, ap_seqK_nx, ap_fIf, ap_ifK, ap_fRet, ap_retK, ap_fAsg, ap_asgK, ap_asgK2, ap_gN, ap_fIx, ap_ixK, isDict_tup, getL_tup, retO_some, atI_0, atI_3, ap_fCall, ap_callK, ap_fnF, ap_fnK_rt, o_pow, o_neg, o_lt, o_eq, eqK_some, eqv_int, toP_int, toP_str, o_len, lenK_some, lenD_tup, ap_fIsi, ap_isiK0, ap_isiK, ap_isiK2, ap_fSl, ap_slK1, ap_slK2, ap_pNo, ap_pSo, ap_pSoK, oSl_tup, o_getD, R.bind_ok, R.nox_ok, List.map_cons, List.map_nil, List.length_cons, List.length_nil, List.cons_append, List.nil_append, Nat.zero_add, Nat.reduceAdd, Nat.reduceSub, List.replicate_succ, List.replicate_zero, List.getElem?_cons_zero, List.getElem?_cons_succ, List.set_cons_zero, List.set_cons_succ, List.append_nil, Bool.false_eq_true, if_true, if_false, decide_true, decide_false, Nat.add_zero, Nat.reduceLeDiff, Int.reduceLT, Int.reduceLE, Int.reduceNeg, Int.reducePow, Nat.reduceEqDiff, or_true, or_false, and_self, Bool.not_true, Int.reduceToNat, String.reduceEq, h1, isiD, str_ty, cut13, e1, hv, hi, hin, hz, kW7, wq7, kW4, wq4, kW5, wq5, kW6, wq6, kW8, wq8, hk, ix3, ix4, ix5, e2, in4 hz, m4, m5, m6, m7, b44, b77, Int.reduceBEq, k3, e3, e5, Bool.true_and, Bool.false_and, Bool.false_or]⟩
                        · exact ⟨T, by simp only [ap_fVar, varK_some, ap_fC, ap_fBin, ap_binK, ap_fUn, ap_fApp, ap_fNil, ap_fCons, ap_consK, ap_consK2, ap_fTup, ap_tupK, ap_fTest, ap_testK, ap_fOr, ap_fNot, ap_orK, ap_notK, ap_fAndV, ap_andVK, ap_fSkip, ap_fSeq, ap_seqK_nx, ap_fIf, ap_ifK, ap_fRet, ap_retK, ap_fAsg, ap_asgK, ap_asgK2, ap_gN, ap_fIx, ap_ixK, isDict_tup, getL_tup, retO_some, atI_0, atI_3, ap_fCall, ap_callK, ap_fnF, ap_fnK_rt, o_pow, o_neg, o_lt, o_eq, eqK_some, eqv_int, toP_int, toP_str, o_len, lenK_some, lenD_tup, ap_fIsi, ap_isiK0, ap_isiK, ap_isiK2, ap_fSl, ap_slK1, ap_slK2, ap_pNo, ap_pSo, ap_pSoK, oSl_tup, o_getD, R.bind_ok, R.nox_ok, List.map_cons, List.map_nil, List.length_cons, List.length_nil, List.cons_append, List.nil_append, Nat.zero_add, Nat.reduceAdd, Nat.reduceSub, List.replicate_succ, List.replicate_zero, List.getElem?_cons_zero, List.getElem?_cons_succ, List.set_cons_zero, List.set_cons_succ, List.append_nil, Bool.false_eq_true, if_true, if_false, decide_true, decide_false, Nat.add_zero, Nat.reduceLeDiff, Int.reduceLT, Int.reduceLE, Int.reduceNeg, Int.reducePow, Nat.reduceEqDiff, or_true, or_false, and_self, Bool.not_true, Int.reduceToNat, String.reduceEq, h1, isiD, str_ty, cut13, e1, hv, hi, hin, hz, kW7, wq7, kW4, wq4, kW5, wq5, kW6, wq6, kW8, wq8, hk, ix3, ix4, ix5, e2, in4 hz, m4, m5, m6, m7, b44, b77, Int.reduceBEq, k3, e3, Bool.true_and, Bool.false_and, Bool.or_false]⟩
                    | [n, u, m], hi =>
                      obtain ⟨tn, hn1⟩ := (okD.keep (Kp.app S T) _ _ (h.mem n (by simp))).1
                      have e3 := is_int_eq c (a := 1) (b := 1000000000000) hn1
                      cases hin : intIn 1 1000000000000 n with
                      | false =>
                        rw [hin] at e3
                        exact ⟨T, by simp only [ap_fVar, varK_some, ap_fC, ap_fBin, ap_binK, ap_fUn, ap_fApp, ap_fNil, ap_fCons, ap_consK, ap_consK2, ap_fTup, ap_tupK, ap_fTest, ap_testK, ap_fOr, ap_fNot, ap_orK, ap_notK, ap_fAndV, ap_andVK, ap_fSkip, ap_fSeq, ap_seqK_nx, ap_seqK_rt, ap_fIf, ap_ifK, ap_fRet, ap_retK, ap_fAsg, ap_asgK, ap_asgK2, ap_gN, ap_fIx, ap_ixK, isDict_tup, getL_tup, retO_some, atI_0, atI_3, ap_fCall, ap_callK, ap_fnF, ap_fnK_rt, o_pow, o_neg, o_lt, o_eq, eqK_some, eqv_int, toP_int, toP_str, o_len, lenK_some, lenD_tup, ap_fIsi, ap_isiK0, ap_isiK, ap_isiK2, ap_fSl, ap_slK1, ap_slK2, ap_pNo, ap_pSo, ap_pSoK, oSl_tup, o_getD, R.bind_ok, R.nox_ok, List.map_cons, List.map_nil, List.length_cons, List.length_nil, List.cons_append, List.nil_append, Nat.zero_add, Nat.reduceAdd, Nat.reduceSub, List.replicate_succ, List.replicate_zero, List.getElem?_cons_zero, List.getElem?_cons_succ, List.set_cons_zero, List.set_cons_succ, List.append_nil, Bool.false_eq_true, if_true, if_false, decide_true, decide_false, Nat.add_zero, Nat.reduceLeDiff, Int.reduceLT, Int.reduceLE, Int.reduceNeg, Int.reducePow, or_true, or_false, and_self, Bool.not_true, Bool.not_false, Int.reduceToNat, String.reduceEq, h1, isiD, str_ty, cut13, e1, hv, hi, hin, hz, kW7, wq7, kW4, wq4, hk, k7, k4, ix3, ix4, e2, in4 hz, m4, m5, m6, m7, b44, b77, Int.reduceBEq, k3, e3, Bool.false_and]⟩
                      | true =>
                        rw [hin] at e3
                        have e4 := lwho_is c (okD.keep (Kp.app S T) _ _ (okD.less _ _ (okD.less _ _ (okD.less _ _ (h.sub (ys := [u, m]) (by simp) (by simp))))))
                        rcases hk4 with rfl | rfl | rfl | rfl
                        · exact ⟨T, by simp only [ap_fVar, varK_some, ap_fC, ap_fBin, ap_binK, ap_fUn, ap_fApp, ap_fNil, ap_fCons, ap_consK, ap_consK2, ap_fTup, ap_tupK, ap_fTest, ap_testK, ap_fOr, ap_fNot, ap_orK, ap_notK, ap_fAndV, ap_andVK, ap_fSkip, ap_fSeq, ap_seqK_nx, ap_seqK_rt, ap_fIf, ap_ifK, ap_fRet, ap_retK, ap_fAsg, ap_asgK, ap_asgK2, ap_gN, ap_fIx, ap_ixK, isDict_tup, getL_tup, retO_some, atI_0, atI_3, ap_fCall, ap_callK, ap_fnF, ap_fnK_rt, o_pow, o_neg, o_lt, o_eq, eqK_some, eqv_int, toP_int, toP_str, o_len, lenK_some, lenD_tup, ap_fIsi, ap_isiK0, ap_isiK, ap_isiK2, ap_fSl, ap_slK1, ap_slK2, ap_pNo, ap_pSo, ap_pSoK, oSl_tup, o_getD, R.bind_ok, R.nox_ok, List.map_cons, List.map_nil, List.length_cons, List.length_nil, List.cons_append, List.nil_append, Nat.zero_add, Nat.reduceAdd, Nat.reduceSub, List.replicate_succ, List.replicate_zero, List.getElem?_cons_zero, List.getElem?_cons_succ, List.set_cons_zero, List.set_cons_succ, List.append_nil, Bool.false_eq_true, if_true, if_false, decide_true, decide_false, Nat.add_zero, Nat.reduceLeDiff, Int.reduceLT, Int.reduceLE, Int.reduceNeg, Int.reducePow, Nat.reduceEqDiff, or_true, or_false, and_self, Bool.not_true, Int.reduceToNat, String.reduceEq, h1, isiD, str_ty, cut13, e1, hv, hi, hin, hz, kW7, wq7, kW4, wq4, kW5, wq5, hk, ix3, ix4, ix5, e2, in4 hz, m4, m5, m6, m7, b44, b77, Int.reduceBEq, k3, e3, e4, Bool.true_and, Bool.false_and, Bool.or_false]⟩
                        · exact ⟨T, by simp only [ap_fVar, varK_some, ap_fC, ap_fBin, ap_binK, ap_fUn, ap_fApp, ap_fNil, ap_fCons, ap_consK, ap_consK2, ap_fTup, ap_tupK, ap_fTest, ap_testK, ap_fOr, ap_fNot, ap_orK, ap_notK, ap_fAndV, ap_andVK, ap_fSkip, ap_fSeq, ap_seqK_nx, ap_seqK_rt, ap_fIf, ap_ifK, ap_fRet, ap_retK, ap_fAsg, ap_asgK, ap_asgK2, ap_gN, ap_fIx, ap_ixK, isDict_tup, getL_tup, retO_some, atI_0, atI_3, ap_fCall, ap_callK, ap_fnF, ap_fnK_rt, o_pow, o_neg, o_lt, o_eq, eqK_some, eqv_int, toP_int, toP_str, o_len, lenK_some, lenD_tup, ap_fIsi, ap_isiK0, ap_isiK, ap_isiK2, ap_fSl, ap_slK1, ap_slK2, ap_pNo, ap_pSo, ap_pSoK, oSl_tup, o_getD, R.bind_ok, R.nox_ok, List.map_cons, List.map_nil, List.length_cons, List.length_nil, List.cons_append, List.nil_append, Nat.zero_add, Nat.reduceAdd, Nat.reduceSub, List.replicate_succ, List.replicate_zero, List.getElem?_cons_zero, List.getElem?_cons_succ, List.set_cons_zero, List.set_cons_succ, List.append_nil, Bool.false_eq_true, if_true, if_false, decide_true, decide_false, Nat.add_zero, Nat.reduceLeDiff, Int.reduceLT, Int.reduceLE, Int.reduceNeg, Int.reducePow, Nat.reduceEqDiff, or_true, or_false, and_self, Bool.not_true, Int.reduceToNat, String.reduceEq, h1, isiD, str_ty, cut13, cut5, e1, hv, hi, hin, hz, kW7, wq7, kW4, wq4, kW5, wq5, kW6, wq6, hk, ix3, ix4, ix5, e2, in4 hz, m4, m5, m6, m7, b44, b77, Int.reduceBEq, k3, e3, e4, Bool.true_and, Bool.false_and, Bool.or_false]⟩
                        · exact ⟨T, by simp only [ap_fVar, varK_some, ap_fC, ap_fBin, ap_binK, ap_fUn, ap_fApp, ap_fNil, ap_fCons, ap_consK, ap_consK2, ap_fTup, ap_tupK, ap_fTest, ap_testK, ap_fOr, ap_fNot, ap_orK, ap_notK, ap_fAndV, ap_andVK, ap_fSkip, ap_fSeq, ap_seqK_nx, ap_fIf, ap_ifK, ap_fRet, ap_retK, ap_fAsg, ap_asgK, ap_asgK2, ap_gN, ap_fIx, ap_ixK, isDict_tup, getL_tup, retO_some, atI_0, atI_3, ap_fCall, ap_callK, ap_fnF, ap_fnK_rt, o_pow, o_neg, o_lt, o_eq, eqK_some, eqv_int, toP_int, toP_str, o_len, lenK_some, lenD_tup, ap_fIsi, ap_isiK0, ap_isiK, ap_isiK2, ap_fSl, ap_slK1, ap_slK2, ap_pNo, ap_pSo, ap_pSoK, oSl_tup, o_getD, R.bind_ok, R.nox_ok, List.map_cons, List.map_nil, List.length_cons, List.length_nil, List.cons_append, List.nil_append, Nat.zero_add, Nat.reduceAdd, Nat.reduceSub, List.replicate_succ, List.replicate_zero, List.getElem?_cons_zero, List.getElem?_cons_succ, List.set_cons_zero, List.set_cons_succ, List.append_nil, Bool.false_eq_true, if_true, if_false, decide_true, decide_false, Nat.add_zero, Nat.reduceLeDiff, Int.reduceLT, Int.reduceLE, Int.reduceNeg, Int.reducePow, Nat.reduceEqDiff, or_true, or_false, and_self, Bool.not_true, Int.reduceToNat, String.reduceEq, h1, isiD, str_ty, cut13, e1, hv, hi, hin, hz, kW7, wq7, kW4, wq4, kW5, wq5, kW6, wq6, kW8, wq8, hk, ix3, ix4, ix5, e2, in4 hz, m4, m5, m6, m7, b44, b77, Int.reduceBEq, k3, e3, Bool.true_and, Bool.false_and, Bool.false_or]⟩
                        · exact ⟨T, by simp only [ap_fVar, varK_some, ap_fC, ap_fBin, ap_binK, ap_fUn, ap_fApp, ap_fNil, ap_fCons, ap_consK, ap_consK2, ap_fTup, ap_tupK, ap_fTest, ap_testK, ap_fOr, ap_fNot, ap_orK, ap_notK, ap_fAndV, ap_andVK, ap_fSkip, ap_fSeq, ap_seqK_nx, ap_fIf, ap_ifK, ap_fRet, ap_retK, ap_fAsg, ap_asgK, ap_asgK2, ap_gN, ap_fIx, ap_ixK, isDict_tup, getL_tup, retO_some, atI_0, atI_3, ap_fCall, ap_callK, ap_fnF, ap_fnK_rt, o_pow, o_neg, o_lt, o_eq, eqK_some, eqv_int, toP_int, toP_str, o_len, lenK_some, lenD_tup, ap_fIsi, ap_isiK0, ap_isiK, ap_isiK2, ap_fSl, ap_slK1, ap_slK2, ap_pNo, ap_pSo, ap_pSoK, oSl_tup, o_getD, R.bind_ok, R.nox_ok, List.map_cons, List.map_nil, List.length_cons, List.length_nil, List.cons_append, List.nil_append, Nat.zero_add, Nat.reduceAdd, Nat.reduceSub, List.replicate_succ, List.replicate_zero, List.getElem?_cons_zero, List.getElem?_cons_succ, List.set_cons_zero, List.set_cons_succ, List.append_nil, Bool.false_eq_true, if_true, if_false, decide_true, decide_false, Nat.add_zero, Nat.reduceLeDiff, Int.reduceLT, Int.reduceLE, Int.reduceNeg, Int.reducePow, Nat.reduceEqDiff, or_true, or_false, and_self, Bool.not_true, Int.reduceToNat, String.reduceEq, h1, isiD, str_ty, cut13, e1, hv, hi, hin, hz, kW7, wq7, kW4, wq4, kW5, wq5, kW6, wq6, kW8, wq8, hk, ix3, ix4, ix5, e2, in4 hz, m4, m5, m6, m7, b44, b77, Int.reduceBEq, k3, e3, Bool.true_and, Bool.false_and, Bool.or_false]⟩
                    | n :: u :: m :: p :: r, hi =>
                      have hb6 : ¬ ((r.length + 8 : Nat) : Int) = 6 := by omega
                      have hb7 : ¬ ((r.length + 8 : Nat) : Int) = 7 := by omega
                      have b6 := nb hb6
                      have b7 := nb hb7
                      have g1 : ¬ ((r.length + 8 : Nat) : Int) < 4 := by omega
                      have g2 : ¬ ((r.length + 8 : Nat) : Int) < 6 := by omega
                      obtain ⟨tn, hn1⟩ := (okD.keep (Kp.app S T) _ _ (h.mem n (by simp))).1
                      have e3 := is_int_eq c (a := 1) (b := 1000000000000) hn1
                      cases hin : intIn 1 1000000000000 n with
                      | false =>
                        rw [hin] at e3
                        exact ⟨T, by simp only [ap_fVar, varK_some, ap_fC, ap_fBin, ap_binK, ap_fUn, ap_fApp, ap_fNil, ap_fCons, ap_consK, ap_consK2, ap_fTup, ap_tupK, ap_fTest, ap_testK, ap_fOr, ap_fNot, ap_orK, ap_notK, ap_fAndV, ap_andVK, ap_fSkip, ap_fSeq, ap_seqK_nx, ap_seqK_rt, ap_fIf, ap_ifK, ap_fRet, ap_retK, ap_fAsg, ap_asgK, ap_asgK2, ap_gN, ap_fIx, ap_ixK, isDict_tup, getL_tup, retO_some, atI_0, atI_3, ap_fCall, ap_callK, ap_fnF, ap_fnK_rt, o_pow, o_neg, o_lt, o_eq, eqK_some, eqv_int, toP_int, toP_str, o_len, lenK_some, lenD_tup, ap_fIsi, ap_isiK0, ap_isiK, ap_isiK2, ap_fSl, ap_slK1, ap_slK2, ap_pNo, ap_pSo, ap_pSoK, oSl_tup, o_getD, R.bind_ok, R.nox_ok, List.map_cons, List.map_nil, List.length_cons, List.length_nil, List.cons_append, List.nil_append, Nat.zero_add, Nat.reduceAdd, Nat.reduceSub, List.replicate_succ, List.replicate_zero, List.getElem?_cons_zero, List.getElem?_cons_succ, List.set_cons_zero, List.set_cons_succ, List.append_nil, Bool.false_eq_true, if_true, if_false, decide_true, decide_false, Nat.add_zero, Nat.reduceLeDiff, Int.reduceLT, Int.reduceLE, Int.reduceNeg, Int.reducePow, or_true, or_false, and_self, Bool.not_true, Bool.not_false, Int.reduceToNat, beq_iff_eq, String.reduceEq, Nat.add_assoc, h1, isiD, g1, g2, str_ty, cut13, e1, hv, hi, hin, hz, kW7, wq7, kW4, wq4, hk, k7, k4, ix3, ix4, e2, in4 hz, m4, m5, m6, m7, b44, b77, Int.reduceBEq, k3, e3, Bool.false_and]⟩
                      | true =>
                        rw [hin] at e3
                        rcases hk4 with rfl | rfl | rfl | rfl
                        all_goals exact ⟨T, by simp only [ap_fVar, varK_some, ap_fC, ap_fBin, ap_binK, ap_fUn, ap_fApp, ap_fNil, ap_fCons, ap_consK, ap_consK2, ap_fTup, ap_tupK, ap_fTest, ap_testK, ap_fOr, ap_fNot, ap_orK, ap_notK, ap_fAndV, ap_andVK, ap_fSkip, ap_fSeq, ap_seqK_nx, ap_seqK_rt, ap_fIf, ap_ifK, ap_fRet, ap_retK, ap_fAsg, ap_asgK, ap_asgK2, ap_gN, ap_fIx, ap_ixK, isDict_tup, getL_tup, retO_some, atI_0, atI_3, ap_fCall, ap_callK, ap_fnF, ap_fnK_rt, o_pow, o_neg, o_lt, o_eq, eqK_some, eqv_int, toP_int, toP_str, o_len, lenK_some, lenD_tup, ap_fIsi, ap_isiK0, ap_isiK, ap_isiK2, ap_fSl, ap_slK1, ap_slK2, ap_pNo, ap_pSo, ap_pSoK, oSl_tup, o_getD, R.bind_ok, R.nox_ok, List.map_cons, List.map_nil, List.length_cons, List.length_nil, List.cons_append, List.nil_append, Nat.zero_add, Nat.reduceAdd, Nat.reduceSub, List.replicate_succ, List.replicate_zero, List.getElem?_cons_zero, List.getElem?_cons_succ, List.set_cons_zero, List.set_cons_succ, List.append_nil, Bool.false_eq_true, if_true, if_false, decide_true, decide_false, Nat.add_zero, Nat.reduceLeDiff, Int.reduceLT, Int.reduceLE, Int.reduceNeg, Int.reducePow, Nat.reduceEqDiff, or_true, or_false, and_self, Bool.not_true, Int.reduceToNat, beq_iff_eq, String.reduceEq, Nat.add_assoc, h1, isiD, g1, g2, hb6, hb7, b6, b7, str_ty, cut13, e1, hv, hi, hin, hz, kW7, wq7, kW4, wq4, kW5, wq5, kW6, wq6, kW8, wq8, hk, ix3, ix4, ix5, e2, in4 hz, m4, m5, m6, m7, b44, b77, Int.reduceBEq, k3, e3, Bool.true_and, Bool.false_and, Bool.or_false]⟩
        · rw [bodyB_w hns]
          refine ⟨[], ?_⟩
          rcases ty_nostr hw1 hns with rfl | rfl | rfl | rfl | rfl | rfl
          all_goals simp only [ap_fVar, varK_some, ap_fC, ap_fBin, ap_binK, ap_fApp, ap_fNil, ap_fCons, ap_consK, ap_consK2, ap_fTest, ap_testK, ap_fOr, ap_fNot, ap_orK, ap_notK, ap_fSkip, ap_fSeq, ap_seqK_rt, ap_fIf, ap_ifK, ap_fRet, ap_retK, ap_fIx, ap_ixK, isDict_tup, getL_tup, retO_some, atI_0, ap_fCall, ap_callK, ap_fnF, ap_fnK_rt, o_lt, o_len, lenK_some, lenD_tup, ap_fIsi, ap_isiK0, ap_isiK, ap_isiK2, ap_fSl, ap_slK1, ap_slK2, ap_pSo, ap_pSoK, oSl_tup, o_getD, R.bind_ok, List.map_cons, List.map_nil, List.length_cons, List.length_nil, List.cons_append, List.nil_append, Nat.zero_add, Nat.reduceAdd, Nat.reduceSub, List.replicate_succ, List.replicate_zero, List.getElem?_cons_zero, List.append_nil, Bool.false_eq_true, if_true, if_false, decide_true, decide_false, Nat.add_zero, or_true, or_false, Bool.not_true, Bool.not_false, String.reduceEq, Nat.add_assoc, h1, isiD, g1, hw1]
  · rw [bodyB_no hn]
    refine ⟨[], ?_⟩
    rcases ht with rfl | rfl | rfl | rfl | rfl | rfl
    all_goals simp only [ap_fVar, varK_some, ap_fC, ap_fBin, ap_fApp, ap_fNil, ap_fCons, ap_consK, ap_consK2, ap_fTest, ap_testK, ap_fOr, ap_fNot, ap_orK, ap_notK, ap_fSkip, ap_fSeq, ap_seqK_rt, ap_fIf, ap_ifK, ap_fRet, ap_retK, ap_fnF, ap_fnK_rt, o_len, ap_fIsi, ap_isiK0, ap_isiK, ap_isiK2, R.bind_ok, List.map_cons, List.map_nil, List.length_cons, List.length_nil, List.cons_append, List.nil_append, Nat.zero_add, Nat.reduceSub, List.replicate_succ, List.replicate_zero, List.getElem?_cons_zero, List.append_nil, if_true, if_false, decide_true, decide_false, or_true, or_false, Bool.not_false, String.reduceEq, h1, isiD]
end Qk26

namespace Qk26
open PySem L2 RF
/-! messages -/
def msgB : D → Bool
  | .tup [a, b, x] => bodyB x && (intIn 0 1000000000000 a && intIn 0 1000000000000 b)
  | _ => false
theorem msgB_no {d : D} (h : ∀ xs, d ≠ .tup xs) : msgB d = false := by
  cases d with
  | tup xs => exact absurd rfl (h xs)
  | _ => rfl
theorem msgB_len {xs : List D} (h : ¬ xs.length = 3) : msgB (.tup xs) = false := by
  match xs, h with
  | [], _ => rfl
  | [_], _ => rfl
  | [_, _], _ => rfl
  | [_, _, _], h => exact absurd rfl h
  | _ :: _ :: _ :: _ :: _, _ => rfl
theorem three_of {xs : List D} (h : xs.length = 3) : ∃ a b e, xs = [a, b, e] := by
  match xs, h with
  | [a, b, e], _ => exact ⟨a, b, e, rfl⟩
theorem b33 : ((3 : Int) == 3) = true := by decide
theorem msg_is (c : CA) {S : Sto} {d : D} (h : okD S 7 d) : ∃ T, F_is_message c [d] S = .ok (.bl (msgB d)) (S ++ T) := by
  unfold F_is_message b_is_message
  obtain ⟨t, h1⟩ := h.1
  rcases tup_ways h1 with ⟨xs, rfl, rfl⟩ | ⟨hn, ht⟩
  · by_cases hl : xs.length = 3
    · obtain ⟨a, b, x, rfl⟩ := three_of hl
      obtain ⟨ta, ha⟩ := (h.mem a (by simp)).1
      obtain ⟨tb, hb⟩ := (h.mem b (by simp)).1
      have q1 := numb_is c ha
      have q2 := numb_is c hb
      have hv : msgB (.tup [a, b, x]) = (bodyB x && (intIn 0 1000000000000 a && intIn 0 1000000000000 b)) := rfl
      obtain ⟨T, e⟩ := body_is c (h.mem x (by simp))
      cases hx : intIn 0 1000000000000 a with
      | false => rw [hx] at q1; exact ⟨[], by simp only [ap_fVar, varK_some, ap_fC, ap_fBin, ap_binK, ap_fApp, ap_fNil, ap_fCons, ap_consK, ap_consK2, ap_fTest, ap_testK, ap_fOr, ap_orK, ap_fAndV, ap_andVK, ap_fSkip, ap_fSeq, ap_seqK_nx, ap_fIf, ap_ifK, ap_fRet, ap_retK, ap_fIx, ap_ixK, isDict_tup, getL_tup, retO_some, atI_0, atI_1, ap_fCall, ap_callK, ap_fnF, ap_fnK_rt, o_ne, neK_some, eqv_int, toP_int, o_len, lenK_some, lenD_tup, ap_fTyIs, ap_tyK0, ap_tyK, o_getD, R.bind_ok, R.nox_ok, List.map_cons, List.map_nil, List.length_cons, List.length_nil, Nat.zero_add, Nat.reduceAdd, Nat.reduceSub, List.replicate_zero, List.getElem?_cons_zero, List.append_nil, Bool.false_eq_true, if_true, if_false, decide_true, Nat.add_zero, Bool.not_true, h1, n3, b33, q1, hv, hx, Bool.false_and, Bool.and_false]⟩
      | true =>
        rw [hx] at q1
        cases hy : intIn 0 1000000000000 b with
        | false => rw [hy] at q2; exact ⟨[], by simp only [ap_fVar, varK_some, ap_fC, ap_fBin, ap_binK, ap_fApp, ap_fNil, ap_fCons, ap_consK, ap_consK2, ap_fTest, ap_testK, ap_fOr, ap_orK, ap_fAndV, ap_andVK, ap_fSkip, ap_fSeq, ap_seqK_nx, ap_fIf, ap_ifK, ap_fRet, ap_retK, ap_fIx, ap_ixK, isDict_tup, getL_tup, retO_some, atI_0, atI_1, atI_2, ap_fCall, ap_callK, ap_fnF, ap_fnK_rt, o_ne, neK_some, eqv_int, toP_int, o_len, lenK_some, lenD_tup, ap_fTyIs, ap_tyK0, ap_tyK, o_getD, R.bind_ok, R.nox_ok, List.map_cons, List.map_nil, List.length_cons, List.length_nil, Nat.zero_add, Nat.reduceAdd, Nat.reduceSub, List.replicate_zero, List.getElem?_cons_zero, List.append_nil, Bool.false_eq_true, if_true, if_false, decide_true, Nat.add_zero, Bool.not_true, h1, n3, b33, q1, q2, hv, hx, hy, Bool.false_and, Bool.and_false]⟩
        | true => rw [hy] at q2; exact ⟨T, by simp only [ap_fVar, varK_some, ap_fC, ap_fBin, ap_binK, ap_fApp, ap_fNil, ap_fCons, ap_consK, ap_consK2, ap_fTest, ap_testK, ap_fOr, ap_orK, ap_fAndV, ap_andVK, ap_fSkip, ap_fSeq, ap_seqK_nx, ap_fIf, ap_ifK, ap_fRet, ap_retK, ap_fIx, ap_ixK, isDict_tup, getL_tup, retO_some, atI_0, atI_1, atI_2, ap_fCall, ap_callK, ap_fnF, ap_fnK_rt, o_ne, neK_some, eqv_int, toP_int, o_len, lenK_some, lenD_tup, ap_fTyIs, ap_tyK0, ap_tyK, o_getD, R.bind_ok, R.nox_ok, List.map_cons, List.map_nil, List.length_cons, List.length_nil, Nat.zero_add, Nat.reduceAdd, Nat.reduceSub, List.replicate_zero, List.getElem?_cons_zero, List.append_nil, Bool.false_eq_true, if_true, if_false, decide_true, Nat.add_zero, Bool.not_true, h1, n3, b33, q1, q2, e, hv, hx, hy, Bool.true_and, Bool.and_true]⟩
    · have hl' : ¬ ((xs.length : Nat) : Int) = 3 := by omega
      have hb := nb hl'
      exact ⟨[], by simp only [ap_fVar, varK_some, ap_fC, ap_fBin, ap_binK, ap_fApp, ap_fNil, ap_fCons, ap_consK, ap_consK2, ap_fTest, ap_testK, ap_fOr, ap_orK, ap_fSkip, ap_fSeq, ap_seqK_rt, ap_fIf, ap_ifK, ap_fRet, ap_retK, ap_fnF, ap_fnK_rt, o_ne, neK_some, eqv_int, toP_int, o_len, lenK_some, lenD_tup, ap_fTyIs, ap_tyK0, ap_tyK, R.bind_ok, List.map_cons, List.map_nil, List.length_cons, List.length_nil, Nat.zero_add, Nat.reduceSub, List.replicate_zero, List.getElem?_cons_zero, List.append_nil, Bool.false_eq_true, if_true, if_false, decide_true, Bool.not_true, Bool.not_false, h1, hl', hb, msgB_len hl]⟩
  · rw [msgB_no hn]
    refine ⟨[], ?_⟩
    rcases ht with rfl | rfl | rfl | rfl | rfl | rfl
    all_goals simp only [ap_fVar, varK_some, ap_fC, ap_fBin, ap_fApp, ap_fNil, ap_fCons, ap_consK, ap_consK2, ap_fTest, ap_testK, ap_fOr, ap_orK, ap_fSkip, ap_fSeq, ap_seqK_rt, ap_fIf, ap_ifK, ap_fRet, ap_retK, ap_fnF, ap_fnK_rt, o_len, ap_fTyIs, ap_tyK0, ap_tyK, R.bind_ok, List.map_cons, List.map_nil, List.length_cons, List.length_nil, Nat.zero_add, Nat.reduceSub, List.replicate_zero, List.getElem?_cons_zero, List.append_nil, if_true, decide_false, Bool.not_false, String.reduceEq, h1]
theorem lmsg_is (c : CA) {S : Sto} {d : D} (h : okD S 7 d) : ∃ T, F_law_is_message c [d] S = .ok (.bl (msgB d)) (S ++ T) := by
  unfold F_law_is_message b_law_is_message
  obtain ⟨t, h1⟩ := h.1
  rcases tup_ways h1 with ⟨xs, rfl, rfl⟩ | ⟨hn, ht⟩
  · by_cases hl : xs.length = 3
    · obtain ⟨a, b, x, rfl⟩ := three_of hl
      have hv : msgB (.tup [a, b, x]) = (bodyB x && (intIn 0 1000000000000 a && intIn 0 1000000000000 b)) := rfl
      obtain ⟨T, e⟩ := lbody_is c (h.mem x (by simp))
      obtain ⟨ta, ha⟩ := (okD.keep (Kp.app S T) _ _ (h.mem a (by simp))).1
      obtain ⟨tb, hb⟩ := (okD.keep (Kp.app S T) _ _ (h.mem b (by simp))).1
      have q1 := is_int_eq c (a := 0) (b := 1000000000000) ha
      have q2 := is_int_eq c (a := 0) (b := 1000000000000) hb
      refine ⟨T, ?_⟩
      cases hx : bodyB x with
      | false => rw [hx] at e; simp only [ap_fVar, varK_some, ap_fC, ap_fBin, ap_binK, ap_fApp, ap_fNil, ap_fCons, ap_consK, ap_consK2, ap_fTest, ap_testK, ap_fOr, ap_fNot, ap_orK, ap_notK, ap_fSkip, ap_fSeq, ap_seqK_rt, ap_fIf, ap_ifK, ap_fRet, ap_retK, ap_fIx, ap_ixK, isDict_tup, getL_tup, retO_some, atI_2, ap_fCall, ap_callK, ap_fnF, ap_fnK_rt, o_ne, neK_some, eqv_int, toP_int, o_len, lenK_some, lenD_tup, ap_fIsi, ap_isiK0, ap_isiK, ap_isiK2, o_getD, R.bind_ok, R.nox_ok, List.map_cons, List.map_nil, List.length_cons, List.length_nil, Nat.zero_add, Nat.reduceAdd, Nat.reduceSub, List.replicate_zero, List.getElem?_cons_zero, List.append_nil, Bool.false_eq_true, if_true, if_false, decide_true, decide_false, Nat.add_zero, or_true, or_false, Bool.not_true, Bool.not_false, String.reduceEq, h1, isiD, n3, b33, e, hv, hx, Bool.false_and]
      | true =>
        rw [hx] at e
        cases hy : intIn 0 1000000000000 a with
        | false => rw [hy] at q1; simp only [ap_fVar, varK_some, ap_fC, ap_fBin, ap_binK, ap_fApp, ap_fNil, ap_fCons, ap_consK, ap_consK2, ap_fTest, ap_testK, ap_fOr, ap_fNot, ap_orK, ap_notK, ap_fAndV, ap_andVK, ap_fSkip, ap_fSeq, ap_seqK_nx, ap_fIf, ap_ifK, ap_fRet, ap_retK, ap_fIx, ap_ixK, isDict_tup, getL_tup, retO_some, atI_0, atI_1, atI_2, ap_fCall, ap_callK, ap_fnF, ap_fnK_rt, o_pow, o_ne, neK_some, eqv_int, toP_int, o_len, lenK_some, lenD_tup, ap_fIsi, ap_isiK0, ap_isiK, ap_isiK2, o_getD, R.bind_ok, R.nox_ok, List.map_cons, List.map_nil, List.length_cons, List.length_nil, Nat.zero_add, Nat.reduceAdd, Nat.reduceSub, List.replicate_zero, List.getElem?_cons_zero, List.append_nil, Bool.false_eq_true, if_true, if_false, decide_true, decide_false, Nat.add_zero, Int.reduceLT, Int.reduceLE, Int.reduceNeg, Int.reducePow, or_true, or_false, and_self, Bool.not_true, Int.reduceToNat, String.reduceEq, h1, isiD, n3, b33, e, q1, hv, hx, hy, Bool.false_and, Bool.and_false]
        | true => rw [hy] at q1; simp only [ap_fVar, varK_some, ap_fC, ap_fBin, ap_binK, ap_fApp, ap_fNil, ap_fCons, ap_consK, ap_consK2, ap_fTest, ap_testK, ap_fOr, ap_fNot, ap_orK, ap_notK, ap_fAndV, ap_andVK, ap_fSkip, ap_fSeq, ap_seqK_nx, ap_fIf, ap_ifK, ap_fRet, ap_retK, ap_fIx, ap_ixK, isDict_tup, getL_tup, retO_some, atI_0, atI_1, atI_2, ap_fCall, ap_callK, ap_fnF, ap_fnK_rt, o_pow, o_ne, neK_some, eqv_int, toP_int, o_len, lenK_some, lenD_tup, ap_fIsi, ap_isiK0, ap_isiK, ap_isiK2, o_getD, R.bind_ok, R.nox_ok, List.map_cons, List.map_nil, List.length_cons, List.length_nil, Nat.zero_add, Nat.reduceAdd, Nat.reduceSub, List.replicate_zero, List.getElem?_cons_zero, List.append_nil, Bool.false_eq_true, if_true, if_false, decide_true, decide_false, Nat.add_zero, Int.reduceLT, Int.reduceLE, Int.reduceNeg, Int.reducePow, or_true, or_false, and_self, Bool.not_true, Int.reduceToNat, String.reduceEq, h1, isiD, n3, b33, e, q1, q2, hv, hx, hy, Bool.true_and]
    · have hl' : ¬ ((xs.length : Nat) : Int) = 3 := by omega
      have hb := nb hl'
      exact ⟨[], by simp only [ap_fVar, varK_some, ap_fC, ap_fBin, ap_binK, ap_fApp, ap_fNil, ap_fCons, ap_consK, ap_consK2, ap_fTest, ap_testK, ap_fOr, ap_fNot, ap_orK, ap_notK, ap_fSkip, ap_fSeq, ap_seqK_rt, ap_fIf, ap_ifK, ap_fRet, ap_retK, ap_fIx, ap_ixK, isDict_tup, getL_tup, ap_fCall, ap_fnF, ap_fnK_rt, o_ne, neK_some, eqv_int, toP_int, o_len, lenK_some, lenD_tup, ap_fIsi, ap_isiK0, ap_isiK, ap_isiK2, o_getD, R.bind_ok, List.map_cons, List.map_nil, List.length_cons, List.length_nil, Nat.zero_add, Nat.reduceSub, List.replicate_zero, List.getElem?_cons_zero, List.append_nil, Bool.false_eq_true, if_true, if_false, decide_true, decide_false, or_true, or_false, Bool.not_true, Bool.not_false, String.reduceEq, h1, isiD, hl', hb, msgB_len hl]⟩
  · rw [msgB_no hn]
    refine ⟨[], ?_⟩
    rcases ht with rfl | rfl | rfl | rfl | rfl | rfl
    all_goals simp only [ap_fVar, varK_some, ap_fC, ap_fBin, ap_fApp, ap_fNil, ap_fCons, ap_consK, ap_consK2, ap_fTest, ap_testK, ap_fOr, ap_fNot, ap_orK, ap_notK, ap_fSkip, ap_fSeq, ap_seqK_rt, ap_fIf, ap_ifK, ap_fRet, ap_retK, ap_fnF, ap_fnK_rt, o_len, ap_fIsi, ap_isiK0, ap_isiK, ap_isiK2, R.bind_ok, List.map_cons, List.map_nil, List.length_cons, List.length_nil, Nat.zero_add, Nat.reduceSub, List.replicate_zero, List.getElem?_cons_zero, List.append_nil, if_true, if_false, decide_true, decide_false, or_true, or_false, Bool.not_false, String.reduceEq, h1, isiD]
theorem both_msg (c : CA) {S : Sto} {d : D} (h : okD S 7 d) : ∃ T1 T2, F_is_message c [d] S = .ok (.bl (msgB d)) (S ++ T1) ∧ F_law_is_message c [d] (S ++ T1) = .ok (.bl (msgB d)) (S ++ (T1 ++ T2)) := by
  obtain ⟨T1, e1⟩ := msg_is c h
  obtain ⟨T2, e2⟩ := lmsg_is c (okD.keep (Kp.app S T1) _ _ h)
  exact ⟨T1, T2, e1, by rw [e2, List.append_assoc]⟩
theorem both_body (c : CA) {S : Sto} {d : D} (h : okD S 6 d) : ∃ T1 T2, F_is_body c [d] S = .ok (.bl (bodyB d)) (S ++ T1) ∧ F_law_is_body c [d] (S ++ T1) = .ok (.bl (bodyB d)) (S ++ (T1 ++ T2)) := by
  obtain ⟨T1, e1⟩ := body_is c h
  obtain ⟨T2, e2⟩ := lbody_is c (okD.keep (Kp.app S T1) _ _ h)
  exact ⟨T1, T2, e1, by rw [e2, List.append_assoc]⟩
/-! draws, by what they keep -/
theorem Dr.rfl' {n : Nat} {S : Sto} (h : ∃ s, S[n]? = some (stC s)) : Dr n S S := ⟨h, Kp.refl _, Fr.refl _ _⟩
theorem tr_d (c : CA) {n : Nat} {S : Sto} (h : ∃ s, S[n]? = some (stC s)) : ∃ t S1, F_law_transaction c [.ref n] S = .ok (eT t) S1 ∧ Dr n S S1 ∧ trB (eT t) = true := by
  obtain ⟨s, h⟩ := h
  exact ⟨_, _, tr_eq c h, Dr.mk1 h, dTr_ok s⟩
theorem at_d (c : CA) {n : Nat} {S : Sto} (h : ∃ s, S[n]? = some (stC s)) : ∃ (a : Int) (S1 : Sto), F_law_attempt c [.ref n] S = .ok (.int a) S1 ∧ Dr n S S1 ∧ intIn 1 1000000000000 (.int a) = true := by
  obtain ⟨s, h⟩ := h
  exact ⟨_, _, at_eq c h, Dr.mk1 h, dAt_ok s⟩
theorem ky_d (c : CA) {n : Nat} {S : Sto} (h : ∃ s, S[n]? = some (stC s)) : ∃ k S1, F_law_key c [.ref n] S = .ok (eK k) S1 ∧ Dr n S S1 ∧ keyB (eK k) = true := by
  obtain ⟨s, h⟩ := h
  obtain ⟨T, e⟩ := ky_eq c h
  exact ⟨_, _, e, Dr.mk0 h, dKy_ok s⟩
theorem mk_d (c : CA) {n : Nat} {S : Sto} (h : ∃ s, S[n]? = some (stC s)) : ∃ m S1, F_law_mark c [.ref n] S = .ok (eM m) S1 ∧ Dr n S S1 ∧ markB (eM m) = true := by
  obtain ⟨s, h⟩ := h
  obtain ⟨T, e⟩ := mk_eq c h
  exact ⟨_, _, e, Dr.mk0 h, dMk_ok s⟩
theorem val_d (c : CA) {n : Nat} {S : Sto} (h : ∃ s, S[n]? = some (stC s)) : ∃ (a : Int) (S1 : Sto), F_law_value c [.ref n] S = .ok (.int a) S1 ∧ Dr n S S1 ∧ intIn (-1000000000000000) 1000000000000000 (.int a) = true := by
  obtain ⟨s, h⟩ := h
  exact ⟨_, _, val_eq c h, Dr.mk1 h, dVal_ok s⟩
theorem num_d (c : CA) {n : Nat} {S : Sto} (h : ∃ s, S[n]? = some (stC s)) : ∃ (a : Int) (S1 : Sto), F_law_number c [.ref n] S = .ok (.int a) S1 ∧ Dr n S S1 := by
  obtain ⟨s, h⟩ := h
  exact ⟨_, _, number_eq c h, Dr.mk1 h⟩
theorem nx_d (c : CA) {n : Nat} {S : Sto} {k : Int} (h0 : 0 < k) (h1 : k < 1000000) (h : ∃ s, S[n]? = some (stC s)) : ∃ (a : Int) (S1 : Sto), F_law_next c [.ref n, .int k] S = .ok (.int a) S1 ∧ Dr n S S1 ∧ 0 ≤ a ∧ a < k := by
  obtain ⟨s, h⟩ := h
  have e := next_eq c (n := n) (S := S) h0 (by omega : k < 1267650600228229401496703205376)
  rw [h, fT_nextC] at e
  exact ⟨_, _, e, Dr.mk1 h, dNext_lo h0 s, dNext_hi h0 s⟩
theorem odd_d (c : CA) {n : Nat} {S : Sto} (h : ∃ s, S[n]? = some (stC s)) : ∃ d S1, F_law_odd c [.ref n] S = .ok d S1 ∧ Dr n S S1 ∧ (∀ m, okD S1 m d) ∧ ∀ xs, d = .tup xs → xs.length ≤ 100 := by
  obtain ⟨s, h⟩ := h
  exact odd_eq c h
/-- a list beyond what was there -/
theorem Dr.out {n l : Nat} {S S1 : Sto} {x : Cell} (h : Dr n S S1) (hl : S.length ≤ l) (hn : l ≠ n) : Dr n S (S1.set l x) := by
  refine ⟨?_, ?_, ?_⟩
  · obtain ⟨s, hs⟩ := h.1
    exact ⟨s, by rw [List.getElem?_set_ne hn]; exact hs⟩
  · intro i t ht
    have hi : i < S.length := by
      by_cases q : i < S.length
      · exact q
      · rw [List.getElem?_eq_none (by omega)] at ht; cases ht
    rw [List.getElem?_set_ne (by omega)]
    exact h.2.1 i t ht
  · exact Fr.new h.2.2 (Fr.set (P := fun i => i = l) rfl) fun i hi z => absurd z (by omega)
theorem marks_d (c : CA) {n : Nat} {S : Sto} (h : ∃ s, S[n]? = some (stC s)) : ∃ ms S1, F_law_marks_drawn c [.ref n] S = .ok (.tup (cM.es ms)) S1 ∧ Dr n S S1 ∧ (∀ m ∈ ms, markB (eM m) = true) ∧ ms ≠ [] ∧ ms.length ≤ 4 ∧ ∃ bs : List Mk, ms = cM.sort bs ∧ bs.Nodup := by
  unfold F_law_marks_drawn b_law_marks_drawn
  have hn : n < S.length := by obtain ⟨s, h⟩ := h; exact (List.getElem?_eq_some_iff.mp h).1
  have hD0 : Dr n S (S ++ [.lst []]) := (Dr.rfl' h).app
  obtain ⟨x, S1, e1, d1, x0, x1⟩ := nx_d c (k := 4) (by decide) (by decide) hD0.1
  have g1 : S1[S.length]? = some (.lst (cM.es [])) := d1.2.2.get (by rw [get_app0]; rfl) (by omega)
  have hD1 := hD0.trans d1
  generalize hN : (1 + x).toNat = N
  have hr : (rngD 0 N).length = N := rngD_len
  let P : Nat → Lc → Sto → Prop := fun j e S2 => ∃ v2 v3 bs, e = [some (.ref n), some (.ref S.length), v2, v3] ∧ Dr n S S2 ∧ S2[S.length]? = some (.lst (cM.es bs)) ∧ (∀ m ∈ bs, markB (eM m) = true) ∧ bs.Nodup ∧ bs.length ≤ j ∧ (0 < j → bs ≠ [])
  have step : ∀ j e S2 d, (rngD 0 N)[j]? = some d → P j e S2 → ∃ e1 S3, Turn1 (gN 2) (lb_law_marks_drawn_0 c) d e S2 e1 S3 ∧ P (j + 1) e1 S3 := by
    rintro j e S2 d hd ⟨v2, v3, bs, rfl, hD, hg, hm, hnd, hlen, hne⟩
    have hj : j < N := by rw [← hr]; exact (List.getElem?_eq_some_iff.mp hd).1
    obtain ⟨m, S3, e3, d3, hmb⟩ := mk_d c hD.1
    have g3 : S3[S.length]? = some (.lst (cM.es bs)) := d3.2.2.get hg (by omega)
    have okb : ∀ b ∈ bs, okM b := fun b hb => (okM_of (hm b hb)).1
    by_cases hin : m ∈ bs
    · have hi := Cod.oin (C := cM) (neg := true) (a := m) (b := true) g3 okb (okM_of hmb).1 (by simp [hin])
      refine ⟨[some (.ref n), some (.ref S.length), some d, some (eM m)], S3, ?_, _, _, bs, rfl, hD.trans d3, g3, hm, hnd, by omega, fun _ => fun z => by rw [z] at hin; cases hin⟩
      unfold Turn1
      have hi : oInL true (eM m) (.ref S.length) S3 = _ := hi
      simp only [ap_fVar, varK_some, ap_fBin, ap_binK, ap_fNil, ap_fCons, ap_consK, ap_consK2, ap_fTest, ap_testK, ap_fSkip, ap_fSeq, ap_seqK_nx, ap_fIf, ap_ifK, ap_fDrop, ap_fAsg, ap_asgK, ap_asgK2, ap_gN, ap_fCall, ap_callK, ap_fBm, ap_bmK, tyIn_ref, o_append, R.bind_ok, R.nox_ok, List.length_cons, List.length_nil, Nat.zero_add, List.getElem?_cons_zero, List.getElem?_cons_succ, List.set_cons_zero, List.set_cons_succ, List.append_nil, Bool.false_eq_true, if_true, if_false, Nat.add_zero, Bool.not_true, ap_lb_law_marks_drawn_0, e3, hi]
    · have hi := Cod.oin (C := cM) (neg := true) (a := m) (b := false) g3 okb (okM_of hmb).1 (by simp [hin])
      have hi : oInL true (eM m) (.ref S.length) S3 = _ := hi
      have hlen2 : (cM.es bs).length < 100000 := by rw [Cod.es_len]; omega
      refine ⟨[some (.ref n), some (.ref S.length), some d, some (eM m)], S3.set S.length (.lst (cM.es (bs ++ [m]))), ?_, _, _, bs ++ [m], rfl, (hD.trans d3).out (Nat.le_refl _) (by omega), set_get g3, ?_, ?_, by rw [List.length_append, List.length_singleton]; omega, fun _ => by simp⟩
      · unfold Turn1
        have e5 : cM.es (bs ++ [m]) = cM.es bs ++ [eM m] := by unfold Cod.es; rw [List.map_append]; rfl
        simp only [ap_fVar, varK_some, ap_fBin, ap_binK, ap_fNil, ap_fCons, ap_consK, ap_consK2, ap_fTest, ap_testK, ap_fSkip, ap_fSeq, ap_seqK_nx, ap_fIf, ap_ifK, ap_fDrop, ap_dropK, ap_fAsg, ap_asgK, ap_asgK2, ap_gN, ap_fCall, ap_callK, ap_fBm, ap_bmK, tyIn_ref, tyInC_lst, o_append, o_appC, R.bind_ok, R.nox_ok, List.length_cons, List.length_nil, Nat.zero_add, List.getElem?_cons_zero, List.getElem?_cons_succ, List.set_cons_zero, List.set_cons_succ, List.append_nil, if_true, decide_true, Nat.add_zero, Bool.not_false, ap_lb_law_marks_drawn_0, e3, hi, g3, hlen2, e5]
      · intro k hk
        rcases List.mem_append.mp hk with hk | hk
        · exact hm k hk
        · rw [List.mem_singleton.mp hk]; exact hmb
      · rw [List.nodup_append]
        exact ⟨hnd, by simp, fun a ha b hb e => by rw [List.mem_singleton] at hb; subst hb; subst e; exact hin ha⟩
  obtain ⟨e4, S4, h4, v2, v3, bs, rfl, hD4, g4, hm4, hnd4, hlen4, hne4⟩ := loopX_ok P step (e := [some (.ref n), some (.ref S.length), none, none]) (S := S1) ⟨none, none, [], rfl, hD1, g1, (fun m h => nomatch h), List.nodup_nil, Nat.zero_le _, fun z => absurd z (by omega)⟩
  rw [hr] at hlen4 hne4
  have hso := Cod.osort (C := cM) g4 (fun b hb => (okM_of (hm4 b hb)).1) (by omega)
  have hcap : (cM.es (cM.sort bs)).length ≤ 100000 := by rw [Cod.es_len, Cod.sort_len]; omega
  refine ⟨cM.sort bs, S4 ++ [.lst (cM.es (cM.sort bs))], ?_, hD4.app, fun m hm => hm4 m (Cod.sort_mem.mp hm), ?_, by rw [Cod.sort_len]; omega, bs, rfl, hnd4⟩
  · have hb : -4611686018427387904 ≤ 1 + x ∧ 1 + x < 4611686018427387904 := by omega
    simp only [ap_fVar, varK_some, ap_fC, ap_fBin, ap_binK, ap_fApp, ap_fNil, ap_fCons, ap_consK, ap_consK2, ap_fLst, ap_lstK, ap_fSeq, ap_seqK_nx, ap_fRet, ap_retK, ap_fAsg, ap_asgK, ap_asgK2, ap_gN, ap_fCall, ap_callK, ap_fnF, ap_fnK_rt, o_add, ap_fFor, ap_forK_fix, ap_fRng1, ap_rng1K, o_seqR, o_seqC, o_tupR, o_tupC, R.bind_ok, R.nox_ok, List.map_cons, List.map_nil, List.length_cons, List.length_nil, List.cons_append, List.nil_append, Nat.zero_add, Nat.reduceAdd, Nat.reduceSub, List.replicate_succ, List.replicate_zero, List.getElem?_cons_zero, List.getElem?_cons_succ, List.set_cons_zero, List.set_cons_succ, List.append_nil, if_true, Nat.add_zero, Nat.reduceLeDiff, Int.reduceNeg, Int.reducePow, and_self, get_app0, e1, hb, hN, h4, hso, hcap]
  · intro z
    have : (cM.sort bs).length = 0 := by rw [z]; rfl
    rw [Cod.sort_len] at this
    exact hne4 (by omega) (List.length_eq_zero_iff.mp this)
end Qk26

namespace Qk26
open PySem L2 RF
theorem asc_pw : ∀ {a : Mk} {ms : List Mk}, (a :: ms).Pairwise (fun a b => PySem.W.dataLt (pM a) (pM b) = true) → (ascL a ms).all id = true
  | a, [], _ => rfl
  | a, b :: ms, h => by
    rw [List.pairwise_cons] at h
    show (ltM a b && (ascL b ms).all id) = true
    rw [asc_pw h.2, Bool.and_true]
    exact h.1 b (List.mem_cons_self ..)
theorem marks_true {ms bs : List Mk} (h1 : ∀ m ∈ ms, markB (eM m) = true) (h2 : ms ≠ []) (h3 : ms = cM.sort bs) (h4 : bs.Nodup) : marksB (.tup (cM.es ms)) = true := by
  have ha : (cM.es ms).all markB = true := by
    unfold Cod.es
    rw [List.all_map, List.all_eq_true]
    exact h1
  have hp := sort_asc mLin h4
  rw [← h3] at hp
  have hs : ascM ms = true := by
    cases ms with
    | nil => rfl
    | cons a ms => exact asc_pw hp
  have he : (cM.es ms).isEmpty = false := by
    cases ms with
    | nil => exact absurd rfl h2
    | cons a ms => rfl
  show (!(cM.es ms).isEmpty && ((cM.es ms).all markB && ascM ((cM.es ms).map dM))) = true
  rw [he, ha, es_dM, hs]; rfl
/-! a body that is drawn -/
theorem wdL0 : wd ⟨#[97, 115, 107]⟩ = 0 := by decide +kernel
theorem wdL1 : wd ⟨#[102, 114, 101, 101]⟩ = 1 := by decide +kernel
theorem wdL2 : wd ⟨#[102, 114, 101, 101, 100]⟩ = 2 := by decide +kernel
theorem wdL3 : wd ⟨#[102, 105, 110, 105, 115, 104, 101, 100]⟩ = 3 := by decide +kernel
theorem wdL4 : wd ⟨#[102, 105, 110, 105, 115, 104]⟩ = 4 := by decide +kernel
theorem wdL5 : wd ⟨#[103, 114, 97, 110, 116, 101, 100]⟩ = 5 := by decide +kernel
theorem wdL6 : wd ⟨#[98, 101, 104, 105, 110, 100]⟩ = 6 := by decide +kernel
theorem wdL7 : wd ⟨#[99, 97, 108, 108]⟩ = 7 := by decide +kernel
theorem wdL8 : wd ⟨#[109, 97, 114, 107, 115]⟩ = 8 := by decide +kernel
theorem ix6 {a b e f g i j : D} {r : List D} : atI (a :: b :: e :: f :: g :: i :: j :: r) 6 = some j := by rw [atI_nn (by decide)]; rfl
theorem ix7 {a b e f g i j k : D} {r : List D} : atI (a :: b :: e :: f :: g :: i :: j :: k :: r) 7 = some k := by rw [atI_nn (by decide)]; rfl
theorem ix8 {a b e f g i j k l : D} {r : List D} : atI (a :: b :: e :: f :: g :: i :: j :: k :: l :: r) 8 = some l := by rw [atI_nn (by decide)]; rfl
/-- what a drawn body is -/
structure Bdy (z : Str) (r : List D) : Prop where
  ok : okA (.tup (.str z :: r))
  tr : itB (wd z) r = true
  l3 : 3 ≤ r.length
  l6 : r.length ≤ 6
  m8 : wd z = 8 → ∃ t a k n ms, r = [t, a, k, n, .tup (cM.es ms)] ∧ ms ≠ [] ∧ ms.length ≤ 4 ∧ ∀ m ∈ ms, markB (eM m) = true
theorem okA_es {ms : List Mk} (h : ∀ m ∈ ms, markB (eM m) = true) (hl : ms.length ≤ 4) : okA (.tup (cM.es ms)) := okA.tup (by rw [Cod.es_len]; omega) fun x hx => by
  obtain ⟨m, hm, rfl⟩ := List.mem_map.mp hx
  exact okA_M (h m hm)
theorem who_true {t : Int × Int} {a : Int} (h1 : trB (eT t) = true) (h2 : intIn 1 1000000000000 (.int a) = true) : whoB (.tup [eT t, .int a]) = true := by
  show (trB (eT t) && intIn 1 1000000000000 (.int a)) = true
  rw [h1, h2]; rfl
theorem mark_true {t : Int × Int} {a n : Int} {k : K2} (h1 : trB (eT t) = true) (h2 : intIn 1 1000000000000 (.int a) = true) (h3 : keyB (eK k) = true) (h4 : intIn 1 1000000000000 (.int n) = true) : markB (.tup [eT t, .int a, eK k, .int n]) = true := by
  show ((trB (eT t) && intIn 1 1000000000000 (.int a)) && (keyB (eK k) && intIn 1 1000000000000 (.int n))) = true
  rw [h1, h2, h3, h4]; rfl
theorem body_d (c : CA) {n : Nat} {S : Sto} (h : ∃ s, S[n]? = some (stC s)) : ∃ z r S1, F_law_drawn_body c [.ref n] S = .ok (.tup (.str z :: r)) S1 ∧ Dr n S S1 ∧ Bdy z r := by
  unfold F_law_drawn_body b_law_drawn_body
  obtain ⟨i, S1, e1, d1, i0, i1⟩ := nx_d c (k := 9) (by decide) (by decide) h
  obtain ⟨t, S2, e2, d2, h2⟩ := tr_d c d1.1
  obtain ⟨a, S3, e3, d3, h3⟩ := at_d c d2.1
  obtain ⟨k, S4, e4, d4, h4⟩ := ky_d c d3.1
  have D4 := ((d1.trans d2).trans d3).trans d4
  have ot := okA_T t
  have ok := okA_K h4
  have hw := who_true h2 h3
  have hi : i = 0 ∨ i = 1 ∨ i = 2 ∨ i = 3 ∨ i = 4 ∨ i = 5 ∨ i = 6 ∨ i = 7 ∨ i = 8 := by omega
  rcases hi with rfl | rfl | rfl | rfl | rfl | rfl | rfl | rfl | rfl
  · refine ⟨⟨#[97, 115, 107]⟩, [eT t, .int a, eK k], S4, ?_, D4, ⟨okA.tup (by simp) (fun x hx => by
        simp only [List.mem_cons, List.not_mem_nil, or_false] at hx
        rcases hx with rfl | rfl | rfl | rfl
        · exact okA.str (by decide) (by decide +kernel)
        · exact ot
        · exact okA.int
        · exact ok), by rw [wdL0]; exact (by show (true && (whoB _ && keyB _)) = true; rw [hw, h4]; rfl), by simp, by simp, (fun z => by rw [wdL0] at z; cases z)⟩⟩
    simp only [ap_fVar, varK_some, ap_fC, ap_fBin, ap_binK, ap_fNil, ap_fCons, ap_consK, ap_consK2, ap_fTup, ap_tupK, ap_fTest, ap_testK, ap_fSkip, ap_fSeq, ap_seqK_nx, ap_fIf, ap_ifK, ap_fRet, ap_retK, ap_fAsg, ap_asgK, ap_asgK2, ap_gN, ap_fIx, ap_ixK, isDict_tup, getL_tup, retO_some, atI_0, ap_fCall, ap_callK, ap_fnF, ap_fnK_rt, o_addT, o_eq, eqK_some, toP_str, o_getD, R.bind_ok, R.nox_ok, List.map_cons, List.map_nil, List.length_cons, List.length_nil, List.cons_append, List.nil_append, Nat.zero_add, Nat.reduceAdd, Nat.reduceSub, List.replicate_succ, List.replicate_zero, List.getElem?_cons_zero, List.getElem?_cons_succ, List.set_cons_zero, List.set_cons_succ, List.append_nil, Bool.false_eq_true, if_true, if_false, decide_false, Nat.add_zero, Nat.reduceLeDiff, Nat.reduceEqDiff, e1, e2, e3, e4, kW0, wq0, wdL0, kW1, wq1, wdL1, kW2, wq2, wdL2, kW3, wq3, wdL3, kW4, wq4, wdL4, kW5, wq5, wdL5, kW6, wq6, wdL6, kW7, wq7, wdL7, kW8, wq8, wdL8, ix3, ix4, ix5, ix6, ix7, ix8, Nat.reduceEqDiff]
  · refine ⟨⟨#[102, 114, 101, 101]⟩, [eT t, .int a, eK k], S4, ?_, D4, ⟨okA.tup (by simp) (fun x hx => by
        simp only [List.mem_cons, List.not_mem_nil, or_false] at hx
        rcases hx with rfl | rfl | rfl | rfl
        · exact okA.str (by decide) (by decide +kernel)
        · exact ot
        · exact okA.int
        · exact ok), by rw [wdL1]; exact (by show (true && (whoB _ && keyB _)) = true; rw [hw, h4]; rfl), by simp, by simp, (fun z => by rw [wdL1] at z; cases z)⟩⟩
    simp only [ap_fVar, varK_some, ap_fC, ap_fBin, ap_binK, ap_fNil, ap_fCons, ap_consK, ap_consK2, ap_fTup, ap_tupK, ap_fTest, ap_testK, ap_fSkip, ap_fSeq, ap_seqK_nx, ap_fIf, ap_ifK, ap_fRet, ap_retK, ap_fAsg, ap_asgK, ap_asgK2, ap_gN, ap_fIx, ap_ixK, isDict_tup, getL_tup, retO_some, atI_1, ap_fCall, ap_callK, ap_fnF, ap_fnK_rt, o_addT, o_eq, eqK_some, toP_str, o_getD, R.bind_ok, R.nox_ok, List.map_cons, List.map_nil, List.length_cons, List.length_nil, List.cons_append, List.nil_append, Nat.zero_add, Nat.reduceAdd, Nat.reduceSub, List.replicate_succ, List.replicate_zero, List.getElem?_cons_zero, List.getElem?_cons_succ, List.set_cons_zero, List.set_cons_succ, List.append_nil, Bool.false_eq_true, if_true, if_false, decide_false, Nat.add_zero, Nat.reduceLeDiff, Nat.reduceEqDiff, e1, e2, e3, e4, kW0, wq0, wdL0, kW1, wq1, wdL1, kW2, wq2, wdL2, kW3, wq3, wdL3, kW4, wq4, wdL4, kW5, wq5, wdL5, kW6, wq6, wdL6, kW7, wq7, wdL7, kW8, wq8, wdL8, ix3, ix4, ix5, ix6, ix7, ix8, Nat.reduceEqDiff]
  · refine ⟨⟨#[102, 114, 101, 101, 100]⟩, [eT t, .int a, eK k], S4, ?_, D4, ⟨okA.tup (by simp) (fun x hx => by
        simp only [List.mem_cons, List.not_mem_nil, or_false] at hx
        rcases hx with rfl | rfl | rfl | rfl
        · exact okA.str (by decide) (by decide +kernel)
        · exact ot
        · exact okA.int
        · exact ok), by rw [wdL2]; exact (by show (true && (whoB _ && keyB _)) = true; rw [hw, h4]; rfl), by simp, by simp, (fun z => by rw [wdL2] at z; cases z)⟩⟩
    simp only [ap_fVar, varK_some, ap_fC, ap_fBin, ap_binK, ap_fNil, ap_fCons, ap_consK, ap_consK2, ap_fTup, ap_tupK, ap_fTest, ap_testK, ap_fSkip, ap_fSeq, ap_seqK_nx, ap_fIf, ap_ifK, ap_fRet, ap_retK, ap_fAsg, ap_asgK, ap_asgK2, ap_gN, ap_fIx, ap_ixK, isDict_tup, getL_tup, retO_some, atI_2, ap_fCall, ap_callK, ap_fnF, ap_fnK_rt, o_addT, o_eq, eqK_some, toP_str, o_getD, R.bind_ok, R.nox_ok, List.map_cons, List.map_nil, List.length_cons, List.length_nil, List.cons_append, List.nil_append, Nat.zero_add, Nat.reduceAdd, Nat.reduceSub, List.replicate_succ, List.replicate_zero, List.getElem?_cons_zero, List.getElem?_cons_succ, List.set_cons_zero, List.set_cons_succ, List.append_nil, Bool.false_eq_true, if_true, if_false, decide_false, Nat.add_zero, Nat.reduceLeDiff, Nat.reduceEqDiff, e1, e2, e3, e4, kW0, wq0, wdL0, kW1, wq1, wdL1, kW2, wq2, wdL2, kW3, wq3, wdL3, kW4, wq4, wdL4, kW5, wq5, wdL5, kW6, wq6, wdL6, kW7, wq7, wdL7, kW8, wq8, wdL8, ix3, ix4, ix5, ix6, ix7, ix8, Nat.reduceEqDiff]
  · refine ⟨⟨#[102, 105, 110, 105, 115, 104, 101, 100]⟩, [eT t, .int a, eK k], S4, ?_, D4, ⟨okA.tup (by simp) (fun x hx => by
        simp only [List.mem_cons, List.not_mem_nil, or_false] at hx
        rcases hx with rfl | rfl | rfl | rfl
        · exact okA.str (by decide) (by decide +kernel)
        · exact ot
        · exact okA.int
        · exact ok), by rw [wdL3]; exact (by show (true && (whoB _ && keyB _)) = true; rw [hw, h4]; rfl), by simp, by simp, (fun z => by rw [wdL3] at z; cases z)⟩⟩
    simp only [ap_fVar, varK_some, ap_fC, ap_fBin, ap_binK, ap_fNil, ap_fCons, ap_consK, ap_consK2, ap_fTup, ap_tupK, ap_fTest, ap_testK, ap_fSkip, ap_fSeq, ap_seqK_nx, ap_fIf, ap_ifK, ap_fRet, ap_retK, ap_fAsg, ap_asgK, ap_asgK2, ap_gN, ap_fIx, ap_ixK, isDict_tup, getL_tup, retO_some, atI_3, ap_fCall, ap_callK, ap_fnF, ap_fnK_rt, o_addT, o_eq, eqK_some, toP_str, o_getD, R.bind_ok, R.nox_ok, List.map_cons, List.map_nil, List.length_cons, List.length_nil, List.cons_append, List.nil_append, Nat.zero_add, Nat.reduceAdd, Nat.reduceSub, List.replicate_succ, List.replicate_zero, List.getElem?_cons_zero, List.getElem?_cons_succ, List.set_cons_zero, List.set_cons_succ, List.append_nil, Bool.false_eq_true, if_true, if_false, decide_false, Nat.add_zero, Nat.reduceLeDiff, Nat.reduceEqDiff, e1, e2, e3, e4, kW0, wq0, wdL0, kW1, wq1, wdL1, kW2, wq2, wdL2, kW3, wq3, wdL3, kW4, wq4, wdL4, kW5, wq5, wdL5, kW6, wq6, wdL6, kW7, wq7, wdL7, kW8, wq8, wdL8, ix3, ix4, ix5, ix6, ix7, ix8, Nat.reduceEqDiff]
  · obtain ⟨v, S5, e5, d5, h5⟩ := val_d c d4.1
    refine ⟨⟨#[102, 105, 110, 105, 115, 104]⟩, [eT t, .int a, eK k, .int v], S5, ?_, D4.trans d5, ⟨okA.tup (by simp) (fun x hx => by
        simp only [List.mem_cons, List.not_mem_nil, or_false] at hx
        rcases hx with rfl | rfl | rfl | rfl | rfl
        · exact okA.str (by decide) (by decide +kernel)
        · exact ot
        · exact okA.int
        · exact ok
        · exact okA.int), by rw [wdL4]; exact (by show (true && (whoB _ && (keyB _ && intIn _ _ _))) = true; rw [hw, h4, h5]; rfl), by simp, by simp, (fun z => by rw [wdL4] at z; cases z)⟩⟩
    simp only [ap_fVar, varK_some, ap_fC, ap_fBin, ap_binK, ap_fNil, ap_fCons, ap_consK, ap_consK2, ap_fTup, ap_tupK, ap_fTest, ap_testK, ap_fSkip, ap_fSeq, ap_seqK_nx, ap_seqK_rt, ap_fIf, ap_ifK, ap_fRet, ap_retK, ap_fAsg, ap_asgK, ap_asgK2, ap_gN, ap_fIx, ap_ixK, isDict_tup, getL_tup, retO_some, ap_fCall, ap_callK, ap_fnF, ap_fnK_rt, o_addT, o_eq, eqK_some, toP_str, o_getD, R.bind_ok, R.nox_ok, List.map_cons, List.map_nil, List.length_cons, List.length_nil, List.cons_append, List.nil_append, Nat.zero_add, Nat.reduceAdd, Nat.reduceSub, List.replicate_succ, List.replicate_zero, List.getElem?_cons_zero, List.getElem?_cons_succ, List.set_cons_zero, List.set_cons_succ, List.append_nil, Bool.false_eq_true, if_true, if_false, decide_true, Nat.add_zero, Nat.reduceLeDiff, e1, e2, e3, e4, e5, kW0, wq0, wdL0, kW1, wq1, wdL1, kW2, wq2, wdL2, kW3, wq3, wdL3, kW4, wq4, wdL4, kW5, wq5, wdL5, kW6, wq6, wdL6, kW7, wq7, wdL7, kW8, wq8, wdL8, ix3, ix4, ix5, ix6, ix7, ix8, Nat.reduceEqDiff]
  · obtain ⟨b, S5, e5, d5, h5⟩ := at_d c d4.1
    obtain ⟨v, S6, e6, d6, h6⟩ := val_d c d5.1
    refine ⟨⟨#[103, 114, 97, 110, 116, 101, 100]⟩, [eT t, .int a, eK k, .int b, .int v], S6, ?_, (D4.trans d5).trans d6, ⟨okA.tup (by simp) (fun x hx => by
        simp only [List.mem_cons, List.not_mem_nil, or_false] at hx
        rcases hx with rfl | rfl | rfl | rfl | rfl | rfl
        · exact okA.str (by decide) (by decide +kernel)
        · exact ot
        · exact okA.int
        · exact ok
        · exact okA.int
        · exact okA.int), by rw [wdL5]; exact (by show ((true && (markB _ && intIn _ _ _)) || _) = true; rw [mark_true h2 h3 h4 h5, h6]; rfl), by simp, by simp, (fun z => by rw [wdL5] at z; cases z)⟩⟩
    simp only [ap_fVar, varK_some, ap_fC, ap_fBin, ap_binK, ap_fNil, ap_fCons, ap_consK, ap_consK2, ap_fTup, ap_tupK, ap_fTest, ap_testK, ap_fSkip, ap_fSeq, ap_seqK_nx, ap_seqK_rt, ap_fIf, ap_ifK, ap_fRet, ap_retK, ap_fAsg, ap_asgK, ap_asgK2, ap_gN, ap_fIx, ap_ixK, isDict_tup, getL_tup, retO_some, ap_fCall, ap_callK, ap_fnF, ap_fnK_rt, o_addT, o_eq, eqK_some, toP_str, o_getD, R.bind_ok, R.nox_ok, List.map_cons, List.map_nil, List.length_cons, List.length_nil, List.cons_append, List.nil_append, Nat.zero_add, Nat.reduceAdd, Nat.reduceSub, List.replicate_succ, List.replicate_zero, List.getElem?_cons_zero, List.getElem?_cons_succ, List.set_cons_zero, List.set_cons_succ, List.append_nil, Bool.false_eq_true, if_true, if_false, decide_true, decide_false, Nat.add_zero, Nat.reduceLeDiff, Nat.reduceEqDiff, e1, e2, e3, e4, e5, e6, kW0, wq0, wdL0, kW1, wq1, wdL1, kW2, wq2, wdL2, kW3, wq3, wdL3, kW4, wq4, wdL4, kW5, wq5, wdL5, kW6, wq6, wdL6, kW7, wq7, wdL7, kW8, wq8, wdL8, ix3, ix4, ix5, ix6, ix7, ix8, Nat.reduceEqDiff]
  · obtain ⟨b, S5, e5, d5, h5⟩ := at_d c d4.1
    obtain ⟨u, S6, e6, d6, h6⟩ := tr_d c d5.1
    obtain ⟨m, S7, e7, d7, h7⟩ := at_d c d6.1
    refine ⟨⟨#[98, 101, 104, 105, 110, 100]⟩, [eT t, .int a, eK k, .int b, eT u, .int m], S7, ?_, ((D4.trans d5).trans d6).trans d7, ⟨okA.tup (by simp) (fun x hx => by
        simp only [List.mem_cons, List.not_mem_nil, or_false] at hx
        rcases hx with rfl | rfl | rfl | rfl | rfl | rfl | rfl
        · exact okA.str (by decide) (by decide +kernel)
        · exact ot
        · exact okA.int
        · exact ok
        · exact okA.int
        · exact okA_T u
        · exact okA.int), by rw [wdL6]; exact (by show ((true && (markB _ && whoB _)) || _) = true; rw [mark_true h2 h3 h4 h5, who_true h6 h7]; rfl), by simp, by simp, (fun z => by rw [wdL6] at z; cases z)⟩⟩
    simp only [ap_fVar, varK_some, ap_fC, ap_fBin, ap_binK, ap_fNil, ap_fCons, ap_consK, ap_consK2, ap_fTup, ap_tupK, ap_fTest, ap_testK, ap_fSkip, ap_fSeq, ap_seqK_nx, ap_seqK_rt, ap_fIf, ap_ifK, ap_fRet, ap_retK, ap_fAsg, ap_asgK, ap_asgK2, ap_gN, ap_fIx, ap_ixK, isDict_tup, getL_tup, retO_some, ap_fCall, ap_callK, ap_fnF, ap_fnK_rt, o_addT, o_eq, eqK_some, toP_str, o_getD, R.bind_ok, R.nox_ok, List.map_cons, List.map_nil, List.length_cons, List.length_nil, List.cons_append, List.nil_append, Nat.zero_add, Nat.reduceAdd, Nat.reduceSub, List.replicate_succ, List.replicate_zero, List.getElem?_cons_zero, List.getElem?_cons_succ, List.set_cons_zero, List.set_cons_succ, List.append_nil, Bool.false_eq_true, if_true, if_false, decide_true, decide_false, Nat.add_zero, Nat.reduceLeDiff, Nat.reduceEqDiff, e1, e2, e3, e4, e5, e6, e7, kW0, wq0, wdL0, kW1, wq1, wdL1, kW2, wq2, wdL2, kW3, wq3, wdL3, kW4, wq4, wdL4, kW5, wq5, wdL5, kW6, wq6, wdL6, kW7, wq7, wdL7, kW8, wq8, wdL8, ix3, ix4, ix5, ix6, ix7, ix8, Nat.reduceEqDiff]
  · obtain ⟨u, S5, e5, d5, h5⟩ := tr_d c d4.1
    obtain ⟨m, S6, e6, d6, h6⟩ := at_d c d5.1
    obtain ⟨b, S7, e7, d7, h7⟩ := at_d c d6.1
    refine ⟨⟨#[99, 97, 108, 108]⟩, [eT t, .int a, eT u, .int m, eK k, .int b], S7, ?_, ((D4.trans d5).trans d6).trans d7, ⟨okA.tup (by simp) (fun x hx => by
        simp only [List.mem_cons, List.not_mem_nil, or_false] at hx
        rcases hx with rfl | rfl | rfl | rfl | rfl | rfl | rfl
        · exact okA.str (by decide) (by decide +kernel)
        · exact ot
        · exact okA.int
        · exact okA_T u
        · exact okA.int
        · exact ok
        · exact okA.int), by rw [wdL7]; exact (by show (whoB (.tup [eT t, .int a]) && markB (.tup [eT u, .int m, eK k, .int b])) = true; rw [hw, mark_true h5 h6 h4 h7]; rfl), by simp, by simp, (fun z => by rw [wdL7] at z; cases z)⟩⟩
    simp only [ap_fVar, varK_some, ap_fC, ap_fBin, ap_binK, ap_fNil, ap_fCons, ap_consK, ap_consK2, ap_fTup, ap_tupK, ap_fTest, ap_testK, ap_fSkip, ap_fSeq, ap_seqK_nx, ap_seqK_rt, ap_fIf, ap_ifK, ap_fRet, ap_retK, ap_fAsg, ap_asgK, ap_asgK2, ap_gN, ap_fIx, ap_ixK, isDict_tup, getL_tup, retO_some, ap_fCall, ap_callK, ap_fnF, ap_fnK_rt, o_addT, o_eq, eqK_some, toP_str, o_getD, R.bind_ok, R.nox_ok, List.map_cons, List.map_nil, List.length_cons, List.length_nil, List.cons_append, List.nil_append, Nat.zero_add, Nat.reduceAdd, Nat.reduceSub, List.replicate_succ, List.replicate_zero, List.getElem?_cons_zero, List.getElem?_cons_succ, List.set_cons_zero, List.set_cons_succ, List.append_nil, Bool.false_eq_true, if_true, if_false, decide_true, decide_false, Nat.add_zero, Nat.reduceLeDiff, Nat.reduceEqDiff, e1, e2, e3, e4, e5, e6, e7, kW0, wq0, wdL0, kW1, wq1, wdL1, kW2, wq2, wdL2, kW3, wq3, wdL3, kW4, wq4, wdL4, kW5, wq5, wdL5, kW6, wq6, wdL6, kW7, wq7, wdL7, kW8, wq8, wdL8, ix3, ix4, ix5, ix6, ix7, ix8, Nat.reduceEqDiff]
  · obtain ⟨b, S5, e5, d5, h5⟩ := at_d c d4.1
    obtain ⟨ms, S6, e6, d6, m1, m2, m3, bs, m4, m5⟩ := marks_d c d5.1
    refine ⟨⟨#[109, 97, 114, 107, 115]⟩, [eT t, .int a, eK k, .int b, .tup (cM.es ms)], S6, ?_, (D4.trans d5).trans d6, ⟨okA.tup (by simp) (fun x hx => by
        simp only [List.mem_cons, List.not_mem_nil, or_false] at hx
        rcases hx with rfl | rfl | rfl | rfl | rfl | rfl
        · exact okA.str (by decide) (by decide +kernel)
        · exact ot
        · exact okA.int
        · exact ok
        · exact okA.int
        · exact okA_es m1 m3), by rw [wdL8]; exact (by show (markB (.tup [eT t, .int a, eK k, .int b]) && marksB (.tup (cM.es ms))) = true; rw [mark_true h2 h3 h4 h5, marks_true m1 m2 m4 m5]; rfl), by simp, by simp, fun _ => ⟨_, _, _, _, ms, rfl, m2, m3, m1⟩⟩⟩
    simp only [ap_fVar, varK_some, ap_fC, ap_fBin, ap_binK, ap_fNil, ap_fCons, ap_consK, ap_consK2, ap_fTup, ap_tupK, ap_fTest, ap_testK, ap_fSkip, ap_fSeq, ap_seqK_nx, ap_seqK_rt, ap_fIf, ap_ifK, ap_fRet, ap_retK, ap_fAsg, ap_asgK, ap_asgK2, ap_gN, ap_fIx, ap_ixK, isDict_tup, getL_tup, retO_some, ap_fCall, ap_callK, ap_fnF, ap_fnK_rt, o_addT, o_eq, eqK_some, toP_str, o_getD, R.bind_ok, R.nox_ok, List.map_cons, List.map_nil, List.length_cons, List.length_nil, List.cons_append, List.nil_append, Nat.zero_add, Nat.reduceAdd, Nat.reduceSub, List.replicate_succ, List.replicate_zero, List.getElem?_cons_zero, List.getElem?_cons_succ, List.set_cons_zero, List.set_cons_succ, List.append_nil, Bool.false_eq_true, if_true, if_false, decide_true, decide_false, Nat.add_zero, Nat.reduceLeDiff, Nat.reduceEqDiff, e1, e2, e3, e4, e5, e6, kW0, wq0, wdL0, kW1, wq1, wdL1, kW2, wq2, wdL2, kW3, wq3, wdL3, kW4, wq4, wdL4, kW5, wq5, wdL5, kW6, wq6, wdL6, kW7, wq7, wdL7, kW8, wq8, wdL8, ix3, ix4, ix5, ix6, ix7, ix8, Nat.reduceEqDiff]
end Qk26

namespace Qk26
open PySem L2 RF
theorem okm {S : Sto} {d : D} (h : okA d) : ∀ m, okD S m d := fun m => h S m
theorem words_ok {d : D} (h : d ∈ [D.str ⟨#[97, 115, 107]⟩, .str ⟨#[102, 114, 101, 101]⟩, .str ⟨#[102, 114, 101, 101, 100]⟩, .str ⟨#[102, 105, 110, 105, 115, 104, 101, 100]⟩, .str ⟨#[102, 105, 110, 105, 115, 104]⟩, .str ⟨#[103, 114, 97, 110, 116, 101, 100]⟩, .str ⟨#[98, 101, 104, 105, 110, 100]⟩, .str ⟨#[99, 97, 108, 108]⟩, .str ⟨#[109, 97, 114, 107, 115]⟩, .str ⟨#[65, 115, 107]⟩, .str ⟨#[]⟩]) : okA d := by
  simp only [List.mem_cons, List.not_mem_nil, or_false] at h
  rcases h with rfl | rfl | rfl | rfl | rfl | rfl | rfl | rfl | rfl | rfl | rfl <;> exact okB_ok 4 _ (by decide +kernel)
theorem cut_last {ms : List Mk} {m : Mk} : cutD (cM.es (ms ++ [m])) none (some (-1)) = cM.es ms := by
  unfold cutD
  have hl : (cM.es (ms ++ [m])).length = ms.length + 1 := by rw [Cod.es_len]; simp
  have h2 : HT.sIx (cM.es (ms ++ [m])).length (cM.es (ms ++ [m])).length (some (-1)) = ms.length := by
    unfold HT.sIx
    simp only [hl]
    rw [if_pos (by decide)]
    omega
  have h1 : HT.sIx (cM.es (ms ++ [m])).length 0 none = 0 := rfl
  rw [h1, h2]
  unfold Cod.es
  simp
theorem atI_lastM {ms : List Mk} {m : Mk} : atI (cM.es (ms ++ [m])) (-1) = some (eM m) := by
  have e : cM.es (ms ++ [m]) = cM.es ms ++ [eM m] := by unfold Cod.es; rw [List.map_append]; rfl
  rw [e]
  exact atI_last _ _
theorem cut03 {a b e f : D} : cutD [a, b, e, f] none (some 3) = [a, b, e] := (rfl)
theorem es_ok {ms : List Mk} (h : ∀ m ∈ ms, markB (eM m) = true) : ∀ x ∈ cM.es ms, okA x := fun x hx => by
  obtain ⟨m, hm, rfl⟩ := List.mem_map.mp hx
  exact okA_M (h m hm)
theorem opt_ok {S : Sto} {ms : List Mk} {m : Mk} {o : D} {l : Nat} {ys : List D} (h2 : (ms ++ [m]).length ≤ 4) (h3 : ∀ k ∈ ms ++ [m], markB (eM k) = true) (ho : ∀ j, okD S j o) (hl : S[l]? = some (.lst ys)) {d : D}
    (hd : d ∈ [D.tup (cM.es (ms ++ [m]) ++ cM.es (ms ++ [m])), .tup (cM.es (ms ++ [m])).reverse, .tup [], .ref l, .tup (cM.es ms ++ [o]), .tup (cM.es (ms ++ [m]) ++ [.tup [eT m.1, .int m.2.1, eK m.2.2.1, .int 0]])]) : ∀ j, okD S j d := by
  have hes := es_ok h3
  have hl4 : (cM.es (ms ++ [m])).length ≤ 4 := by rw [Cod.es_len]; exact h2
  have hl3 : (cM.es ms).length ≤ 4 := by rw [Cod.es_len]; rw [List.length_append, List.length_singleton] at h2; omega
  simp only [List.mem_cons, List.not_mem_nil, or_false] at hd
  rcases hd with rfl | rfl | rfl | rfl | rfl | rfl
  · refine okm (okA.tup (by rw [List.length_append]; omega) fun x hx => ?_)
    rcases List.mem_append.mp hx with hx | hx <;> exact hes x hx
  · exact okm (okA.tup (by rw [List.length_reverse]; omega) fun x hx => hes x (List.mem_reverse.mp hx))
  · exact okm (okA.tup (by simp) fun x hx => nomatch hx)
  · exact listOk hl
  · refine okD.tup' (by rw [List.length_append, List.length_singleton]; omega) fun x hx => ?_
    rcases List.mem_append.mp hx with hx | hx
    · exact okm (es_ok (fun k hk => h3 k (List.mem_append_left _ hk)) x hx)
    · rw [List.mem_singleton.mp hx]; exact ho
  · refine okm (okA.tup (by rw [List.length_append, List.length_singleton]; omega) fun x hx => ?_)
    rcases List.mem_append.mp hx with hx | hx
    · exact hes x hx
    · rw [List.mem_singleton.mp hx]
      have hm := h3 m (by simp)
      exact okA.tup (by simp) fun y hy => by
        simp only [List.mem_cons, List.not_mem_nil, or_false] at hy
        rcases hy with rfl | rfl | rfl | rfl
        · exact okA_T _
        · exact okA.int
        · exact okA_K (okM_of hm).2
        · exact okA.int
theorem spoilt_d (c : CA) {n : Nat} {S : Sto} {z : Str} {r : List D} (h : ∃ s, S[n]? = some (stC s)) (B : Bdy z r) : ∃ d S1, F_law_spoilt_body c [.tup (.str z :: r), .ref n] S = .ok d S1 ∧ Dr n S S1 ∧ ∀ m, okD S1 m d := by
  unfold F_law_spoilt_body b_law_spoilt_body
  obtain ⟨kind, S1, e1, d1, i1, i2⟩ := nx_d c (k := 7) (by decide) (by decide) h
  have hl3 := B.l3
  have hl6 := B.l6
  have hlen : (D.str z :: r).length = r.length + 1 := rfl
  generalize hxs : D.str z :: r = xs at hlen
  have okx : okA (.tup xs) := hxs ▸ B.ok
  have hmem := okx.mem
  obtain ⟨at_, S2, e2, d2, a0, a1⟩ := nx_d c (k := (xs.length : Nat)) (by omega) (by omega) d1.1
  have hD := d1.trans d2
  obtain ⟨y, hy, hym⟩ := atI_mem (l := xs) a0 a1
  have c1 := cutL (l := xs) (a := none) (b := some at_)
  have c2 := cutL (l := xs) (a := some (at_ + 1)) (b := none)
  have z1 : (cutD xs none (some at_)).length + (cutD xs (some (at_ + 1)) none).length ≤ 100000 := by omega
  have z2 : xs.length + 1 ≤ 100000 := by omega
  have z3 : (cutD xs none (some at_)).length + 1 ≤ 100000 := by omega
  have z4 : (cutD xs none (some at_)).length + (1 + (cutD xs (some (at_ + 1)) none).length) ≤ 100000 := by omega
  by_cases k0 : kind = 0
  · refine ⟨.ref S2.length, S2 ++ [.lst xs], ?_, hD.app, listOk get_app0⟩
    simp only [ap_fVar, varK_some, ap_fC, ap_fBin, ap_binK, ap_fApp, ap_fNil, ap_fCons, ap_consK, ap_consK2, ap_fTest, ap_testK, ap_fSkip, ap_fSeq, ap_seqK_nx, ap_seqK_rt, ap_fIf, ap_ifK, ap_fRet, ap_retK, ap_fAsg, ap_asgK, ap_asgK2, ap_gN, ap_fCall, ap_callK, ap_fnF, ap_fnK_rt, o_eq, eqK_some, eqv_int, toP_int, o_len, lenK_some, lenD_tup, R.bind_ok, R.nox_ok, List.map_cons, List.map_nil, List.length_cons, List.length_nil, List.cons_append, List.nil_append, Nat.zero_add, Nat.reduceAdd, Nat.reduceSub, List.replicate_succ, List.replicate_zero, List.getElem?_cons_zero, List.getElem?_cons_succ, List.set_cons_zero, List.set_cons_succ, List.append_nil, if_true, Nat.add_zero, beq_iff_eq, e1, e2, k0, lst_tup]
  by_cases k1 : kind = 1
  · refine ⟨.tup (cutD xs none (some at_) ++ cutD xs (some (at_ + 1)) none), S2, ?_, hD, okm (okA.tup (by rw [List.length_append]; omega) fun x hm => ?_)⟩
    · simp only [ap_fVar, varK_some, ap_fC, ap_fBin, ap_binK, ap_fApp, ap_fNil, ap_fCons, ap_consK, ap_consK2, ap_fTest, ap_testK, ap_fSkip, ap_fSeq, ap_seqK_nx, ap_seqK_rt, ap_fIf, ap_ifK, ap_fRet, ap_retK, ap_fAsg, ap_asgK, ap_asgK2, ap_gN, ap_fCall, ap_callK, ap_fnF, ap_fnK_rt, o_add, o_addT, o_eq, eqK_some, eqv_int, toP_int, o_len, lenK_some, lenD_tup, ap_fSl, ap_slK1, ap_slK2, ap_pNo, ap_pSo, ap_pSoK, oSl_tup, R.bind_ok, R.nox_ok, List.map_cons, List.map_nil, List.length_cons, List.length_nil, List.cons_append, List.nil_append, Nat.zero_add, Nat.reduceAdd, Nat.reduceSub, List.replicate_succ, List.replicate_zero, List.getElem?_cons_zero, List.getElem?_cons_succ, List.set_cons_zero, List.set_cons_succ, List.append_nil, if_true, if_false, Nat.add_zero, beq_iff_eq, Int.reduceEq, e1, e2, k0, k1, z1]
    · rcases List.mem_append.mp hm with hm | hm
      · exact hmem x (cutM hm)
      · exact hmem x (cutM hm)
  by_cases k2 : kind = 2
  · refine ⟨.tup (xs ++ [y]), S2, ?_, hD, okm (okA.tup (by rw [List.length_append, List.length_singleton]; omega) fun x hm => ?_)⟩
    · simp only [ap_fVar, varK_some, ap_fC, ap_fBin, ap_binK, ap_fApp, ap_fNil, ap_fCons, ap_consK, ap_consK2, ap_fTup, ap_tupK, ap_fTest, ap_testK, ap_fSkip, ap_fSeq, ap_seqK_nx, ap_seqK_rt, ap_fIf, ap_ifK, ap_fRet, ap_retK, ap_fAsg, ap_asgK, ap_asgK2, ap_gN, ap_fIx, ap_ixK, isDict_tup, getL_tup, retO_some, ap_fCall, ap_callK, ap_fnF, ap_fnK_rt, o_add, o_addT, o_eq, eqK_some, eqv_int, toP_int, o_len, lenK_some, lenD_tup, ap_fSl, ap_slK1, ap_slK2, ap_pNo, ap_pSo, ap_pSoK, oSl_tup, o_getD, R.bind_ok, R.nox_ok, List.map_cons, List.map_nil, List.length_cons, List.length_nil, List.cons_append, List.nil_append, Nat.zero_add, Nat.reduceAdd, Nat.reduceSub, List.replicate_succ, List.replicate_zero, List.getElem?_cons_zero, List.getElem?_cons_succ, List.set_cons_zero, List.set_cons_succ, List.append_nil, Bool.false_eq_true, if_true, if_false, Nat.add_zero, Nat.reduceLeDiff, beq_iff_eq, Int.reduceEq, e1, e2, k0, k1, k2, hy, z2]
    · rcases List.mem_append.mp hm with hm | hm
      · exact hmem x hm
      · rw [List.mem_singleton.mp hm]; exact hmem y hym
  by_cases k3 : kind = 3
  · obtain ⟨j, S3, e3, d3, j0, j1⟩ := nx_d c (k := 11) (by decide) (by decide) d2.1
    obtain ⟨w, hw, hwm⟩ := atI_mem (l := [D.str ⟨#[97, 115, 107]⟩, .str ⟨#[102, 114, 101, 101]⟩, .str ⟨#[102, 114, 101, 101, 100]⟩, .str ⟨#[102, 105, 110, 105, 115, 104, 101, 100]⟩, .str ⟨#[102, 105, 110, 105, 115, 104]⟩, .str ⟨#[103, 114, 97, 110, 116, 101, 100]⟩, .str ⟨#[98, 101, 104, 105, 110, 100]⟩, .str ⟨#[99, 97, 108, 108]⟩, .str ⟨#[109, 97, 114, 107, 115]⟩, .str ⟨#[65, 115, 107]⟩, .str ⟨#[]⟩]) j0 j1
    have hwo := words_ok hwm
    have ct : cutD xs (some 1) none = r := by rw [← hxs]; exact cut_tail
    have z5 : 1 + r.length ≤ 100000 := by omega
    refine ⟨.tup (w :: r), S3, ?_, hD.trans d3, okm (okA.tup (by rw [List.length_cons]; omega) fun x hm => ?_)⟩
    · simp only [ap_fVar, varK_some, ap_fC, ap_fBin, ap_binK, ap_fApp, ap_fNil, ap_fCons, ap_consK, ap_consK2, ap_fTup, ap_tupK, ap_fTest, ap_testK, ap_fSkip, ap_fSeq, ap_seqK_nx, ap_seqK_rt, ap_fIf, ap_ifK, ap_fRet, ap_retK, ap_fAsg, ap_asgK, ap_asgK2, ap_gN, ap_fIx, ap_ixK, isDict_tup, getL_tup, retO_some, ap_fCall, ap_callK, ap_fnF, ap_fnK_rt, o_add, o_addT, o_eq, eqK_some, eqv_int, toP_int, o_len, lenK_some, lenD_tup, ap_fSl, ap_slK1, ap_slK2, ap_pNo, ap_pSo, ap_pSoK, oSl_tup, o_getD, R.bind_ok, R.nox_ok, List.map_cons, List.map_nil, List.length_cons, List.length_nil, List.cons_append, List.nil_append, Nat.zero_add, Nat.reduceAdd, Nat.reduceSub, List.replicate_succ, List.replicate_zero, List.getElem?_cons_zero, List.getElem?_cons_succ, List.set_cons_zero, List.set_cons_succ, List.append_nil, Bool.false_eq_true, if_true, if_false, Nat.add_zero, Nat.reduceLeDiff, beq_iff_eq, Int.reduceEq, e1, e2, e3, k0, k1, k2, k3, hw, ct, z5]
    · rcases List.mem_cons.mp hm with rfl | hm
      · exact hwo
      · exact hmem x (by rw [← hxs]; exact List.mem_cons_of_mem _ hm)
  have odd : ∃ d S1, (((F_law_odd c [.ref n] S2).bind fun o S3 => R.ok (D.tup (cutD xs none (some at_) ++ (o :: cutD xs (some (at_ + 1)) none))) S3) = .ok d S1) ∧ Dr n S S1 ∧ ∀ m, okD S1 m d := by
    obtain ⟨o, S3, e3, d3, o1, _⟩ := odd_d c d2.1
    refine ⟨.tup (cutD xs none (some at_) ++ (o :: cutD xs (some (at_ + 1)) none)), S3, ?_, hD.trans d3, okD.tup' (by rw [List.length_append, List.length_cons]; omega) fun x hm => ?_⟩
    · rw [e3]; rfl
    · rcases List.mem_append.mp hm with hm | hm
      · exact okm (hmem x (cutM hm))
      · rcases List.mem_cons.mp hm with rfl | hm
        · exact o1
        · exact okm (hmem x (cutM hm))
  have hz := (B.ok.mem (.str z) (by simp) S 1).2.1 z rfl
  have i0 : atI xs 0 = some (.str z) := by rw [← hxs, atI_nn (by decide)]; rfl
  by_cases k4 : kind = 4 ∧ wd z = 8
  · obtain ⟨k4, hw8⟩ := k4
    obtain ⟨t, a, k, b, ms, rfl, m1, m2, m3⟩ := B.m8 hw8
    obtain ⟨ms', m, rfl⟩ : ∃ ms' m, ms = ms' ++ [m] := ⟨_, _, (List.dropLast_concat_getLast m1).symm⟩
    obtain ⟨o, S3, e3, d3, o1, _⟩ := odd_d c d2.1
    have hgl : (S3 ++ [Cell.lst (cM.es (ms' ++ [m]))])[S3.length]? = some (.lst (cM.es (ms' ++ [m]))) := get_app0
    have hD3 := (hD.trans d3).app (T := [Cell.lst (cM.es (ms' ++ [m]))])
    obtain ⟨j, S4, e4, d4, j0, j1⟩ := nx_d c (k := 6) (by decide) (by decide) hD3.1
    have hn3 : S3.length ≠ n := by
      obtain ⟨s, q⟩ := d3.1
      have := (List.getElem?_eq_some_iff.mp q).1
      omega
    obtain ⟨w, hw, hwm⟩ := atI_mem (l := [D.tup (cM.es (ms' ++ [m]) ++ cM.es (ms' ++ [m])), .tup (cM.es (ms' ++ [m])).reverse, .tup [], .ref S3.length, .tup (cM.es ms' ++ [o]), .tup (cM.es (ms' ++ [m]) ++ [.tup [eT m.1, .int m.2.1, eK m.2.2.1, .int 0]])]) j0 j1
    have hwo := opt_ok (S := S4) m2 m3 (fun q => okD.keep ((Kp.app _ _).trans d4.2.1) _ _ (o1 q)) (d4.2.2.get hgl hn3) hwm
    have l1 : (cM.es (ms' ++ [m])).length ≤ 4 := by rw [Cod.es_len]; exact m2
    have l2 : (cM.es ms').length ≤ 4 := by rw [Cod.es_len]; rw [List.length_append, List.length_singleton] at m2; omega
    have y1 : (cM.es (ms' ++ [m])).length + (cM.es (ms' ++ [m])).length ≤ 100000 := by omega
    have y2 : (cM.es ms').length + 1 ≤ 100000 := by omega
    have y3 : (cM.es (ms' ++ [m])).length + 1 ≤ 100000 := by omega
    have i5 : atI xs 5 = some (.tup (cM.es (ms' ++ [m]))) := by rw [← hxs]; exact ix5
    have ct : cutD xs none (some 5) = [.str z, t, a, k, b] := by rw [← hxs]; rfl
    have em : eM m = .tup [eT m.1, .int m.2.1, eK m.2.2.1, .int m.2.2.2] := rfl
    refine ⟨.tup [.str z, t, a, k, b, w], S4, ?_, hD3.trans d4, okD.tup' (by simp) fun x hx => ?_⟩
    · simp only [ap_fVar, varK_some, ap_fC, ap_fBin, ap_binK, ap_fUn, ap_fApp, ap_fNil, ap_fCons, ap_consK, ap_consK2, ap_fTup, ap_tupK, ap_fTest, ap_testK, ap_fAnd, ap_andK, ap_fSkip, ap_fSeq, ap_seqK_nx, ap_seqK_rt, ap_fIf, ap_ifK, ap_fRet, ap_retK, ap_fAsg, ap_asgK, ap_asgK2, ap_gN, ap_fIx, ap_ixK, isDict_tup, getL_tup, retO_some, ap_fCall, ap_callK, ap_fnF, ap_fnK_rt, o_add, o_addT, o_neg, o_eq, eqK_some, eqv_int, toP_int, toP_str, o_len, lenK_some, lenD_tup, ap_fSl, ap_slK1, ap_slK2, ap_pNo, ap_pSo, ap_pSoK, oSl_tup, o_getD, ap_fRev, ap_revK, R.bind_ok, R.nox_ok, List.map_cons, List.map_nil, List.length_cons, List.length_nil, List.cons_append, List.nil_append, Nat.zero_add, Nat.reduceAdd, Nat.reduceSub, List.replicate_succ, List.replicate_zero, List.getElem?_cons_zero, List.getElem?_cons_succ, List.set_cons_zero, List.set_cons_succ, List.append_nil, Bool.false_eq_true, if_true, if_false, decide_true, Nat.add_zero, Nat.reduceLeDiff, Int.reduceNeg, beq_iff_eq, Int.reduceEq, e1, e2, e3, k0, k1, k2, k3, k4, i0, i5, ct, hz.2, kW8, wq8, hw8, cut_last, atI_lastM, y1, y2, y3, e4, hw, lst_tup, em, cut03]
    · simp only [List.mem_cons, List.not_mem_nil, or_false] at hx
      rcases hx with rfl | rfl | rfl | rfl | rfl | rfl
      · exact okm (hmem _ (by rw [← hxs]; simp))
      · exact okm (hmem _ (by rw [← hxs]; simp))
      · exact okm (hmem _ (by rw [← hxs]; simp))
      · exact okm (hmem _ (by rw [← hxs]; simp))
      · exact okm (hmem _ (by rw [← hxs]; simp))
      · exact hwo
  · obtain ⟨d, S9, e9, q1, q2⟩ := odd
    refine ⟨d, S9, ?_, q1, q2⟩
    obtain ⟨o, S3, e3, d3, o1, _⟩ := odd_d c d2.1
    rw [e3] at e9
    have e9 : R.ok (D.tup (cutD xs none (some at_) ++ (o :: cutD xs (some (at_ + 1)) none))) S3 = .ok d S9 := e9
    cases e9
    by_cases k4' : kind = 4
    · have w8 : ¬ wd z = 8 := fun q => k4 ⟨k4', q⟩
      simp only [ap_fVar, varK_some, ap_fC, ap_fBin, ap_binK, ap_fApp, ap_fNil, ap_fCons, ap_consK, ap_consK2, ap_fTup, ap_tupK, ap_fTest, ap_testK, ap_fAnd, ap_andK, ap_fSkip, ap_fSeq, ap_seqK_nx, ap_fIf, ap_ifK, ap_fRet, ap_retK, ap_fAsg, ap_asgK, ap_asgK2, ap_gN, ap_fIx, ap_ixK, isDict_tup, getL_tup, retO_some, ap_fCall, ap_callK, ap_fnF, ap_fnK_rt, o_add, o_addT, o_eq, eqK_some, eqv_int, toP_int, toP_str, o_len, lenK_some, lenD_tup, ap_fSl, ap_slK1, ap_slK2, ap_pNo, ap_pSo, ap_pSoK, oSl_tup, o_getD, R.bind_ok, R.nox_ok, List.map_cons, List.map_nil, List.length_cons, List.length_nil, List.cons_append, List.nil_append, Nat.zero_add, Nat.reduceAdd, Nat.reduceSub, List.replicate_succ, List.replicate_zero, List.getElem?_cons_zero, List.getElem?_cons_succ, List.set_cons_zero, List.set_cons_succ, List.append_nil, Bool.false_eq_true, if_true, if_false, decide_false, Nat.add_zero, Nat.reduceLeDiff, beq_iff_eq, Int.reduceEq, List.append_assoc, Nat.add_assoc, List.length_append, e1, e2, e3, k0, k1, k2, k3, k4', i0, hz.2, kW8, wq8, w8, z3, z4]
    · simp only [ap_fVar, varK_some, ap_fC, ap_fBin, ap_binK, ap_fApp, ap_fNil, ap_fCons, ap_consK, ap_consK2, ap_fTup, ap_tupK, ap_fTest, ap_testK, ap_fAnd, ap_andK, ap_fSkip, ap_fSeq, ap_seqK_nx, ap_fIf, ap_ifK, ap_fRet, ap_retK, ap_fAsg, ap_asgK, ap_asgK2, ap_gN, ap_fIx, ap_ixK, isDict_tup, getL_tup, ap_fCall, ap_callK, ap_fnF, ap_fnK_rt, o_add, o_addT, o_eq, eqK_some, eqv_int, toP_int, o_len, lenK_some, lenD_tup, ap_fSl, ap_slK1, ap_slK2, ap_pNo, ap_pSo, ap_pSoK, oSl_tup, o_getD, R.bind_ok, R.nox_ok, List.map_cons, List.map_nil, List.length_cons, List.length_nil, List.cons_append, List.nil_append, Nat.zero_add, Nat.reduceAdd, Nat.reduceSub, List.replicate_succ, List.replicate_zero, List.getElem?_cons_zero, List.getElem?_cons_succ, List.set_cons_zero, List.set_cons_succ, List.append_nil, Bool.false_eq_true, if_true, if_false, Nat.add_zero, Nat.reduceLeDiff, beq_iff_eq, List.append_assoc, Nat.add_assoc, List.length_append, e1, e2, e3, k0, k1, k2, k3, k4', z3, z4]
end Qk26

namespace Qk26
open PySem L2 RF
theorem loop0 (c : CA) {l : Nat} {ys : List D} {S0 : Sto} (hl : S0[l]? = some (.lst ys)) (hy : ∀ d ∈ ys, okD S0 7 d) (v0 v1 v2 v3 v4 v5 v6 v7 : Option D) :
    ∃ f T, loopL l (gN 7) (lb_law_0 c) ys 0 [v0, v1, v2, v3, v4, v5, v6, v7] S0 = .ok (.nx [v0, v1, v2, v3, v4, v5, v6, f]) (S0 ++ T) := by
  let P : Nat → Lc → Sto → Prop := fun j e S1 => (∃ T, S1 = S0 ++ T) ∧ ∃ f, e = [v0, v1, v2, v3, v4, v5, v6, f]
  have step : ∀ j e S1 d, ys[j]? = some d → P j e S1 → ∃ e1 S2, Turn1 (gN 7) (lb_law_0 c) d e S1 e1 S2 ∧ P (j + 1) e1 S2 := by
    rintro j e S1 d hd ⟨⟨T, rfl⟩, f, rfl⟩
    obtain ⟨T1, T2, e1, e2⟩ := both_msg c (okD.keep (Kp.app S0 T) _ _ (hy d (List.mem_of_getElem? hd)))
    refine ⟨[v0, v1, v2, v3, v4, v5, v6, some d], S0 ++ T ++ (T1 ++ T2), ?_, ⟨_, List.append_assoc ..⟩, _, rfl⟩
    unfold Turn1
    simp only [List.append_assoc] at e1 e2
    simp only [ap_fVar, varK_some, ap_fC, ap_fNil, ap_fCons, ap_consK, ap_consK2, ap_fTest, ap_testK, ap_fNot, ap_notK, ap_fSkip, ap_fIf, ap_ifK, ap_fRet, ap_retK, ap_gN, ap_fCall, ap_callK, R.bind_ok, R.nox_ok, List.length_cons, List.length_nil, Nat.zero_add, Nat.reduceAdd, List.getElem?_cons_zero, List.getElem?_cons_succ, List.set_cons_zero, List.set_cons_succ, List.append_nil, Bool.false_eq_true, if_true, if_false, Nat.add_zero, Bool.not_true, List.append_assoc, ap_lb_law_0, e1, e2, flag_eq, beq_self_eq_true]
  obtain ⟨e1, S1, h, ⟨T, rfl⟩, f, rfl⟩ := loopL_ok P (fun j e S1 hp => by obtain ⟨⟨T, rfl⟩, _⟩ := hp; exact app_get hl) step (e := [v0, v1, v2, v3, v4, v5, v6, v7]) (S := S0) ⟨⟨[], (List.append_nil _).symm⟩, v7, rfl⟩
  exact ⟨f, T, h⟩
theorem Dr.lt {n : Nat} {S S1 : Sto} (h : Dr n S S1) : n < S1.length := by
  obtain ⟨s, q⟩ := h.1
  exact (List.getElem?_eq_some_iff.mp q).1
theorem okD.up {S S1 : Sto} (k : Kp S S1) {d : D} (h : ∀ m, okD S m d) : ∀ m, okD S1 m d := fun m => okD.keep k _ _ (h m)
theorem cut02 {a b e : D} : cutD [a, b, e] none (some 2) = [a, b] := (rfl)
theorem turn1 (c : CA) {n : Nat} {S : Sto} {d : D} (h : ∃ s, S[n]? = some (stC s)) (hd : ∀ m, okD S m d) (v0 v1 v3 v5 v6 v7 : Option D) :
    ∃ f5 f6 f7 S1, lb_law_1 c [v0, v1, some (.ref n), v3, some d, v5, v6, v7] S = .ok (.nx [v0, v1, some (.ref n), v3, some d, f5, f6, f7]) S1 ∧ Dr n S S1 := by
  obtain ⟨T1, T2, e1, e2⟩ := both_body c (hd 6)
  have D1 : Dr n S (S ++ (T1 ++ T2)) := (Dr.rfl' h).app
  obtain ⟨a, S2, e3, d3⟩ := num_d c D1.1
  obtain ⟨b, S3, e4, d4⟩ := num_d c d3.1
  have D3 := (D1.trans d3).trans d4
  have hd3 := okD.up D3.2.1 hd
  let ms : D := .tup [.int a, .int b, d]
  have hms : ∀ m, okD S3 m ms := okD.tup' (by simp) fun x hx => by
    simp only [List.mem_cons, List.not_mem_nil, or_false] at hx
    rcases hx with rfl | rfl | rfl
    · exact fun _ => okD.int
    · exact fun _ => okD.int
    · exact hd3
  -- list(message)
  have D4 := D3.app (T := [Cell.lst [.int a, .int b, d]])
  obtain ⟨o, S5, e5, d5, o1, _⟩ := odd_d c D4.1
  have D5 := D4.trans d5
  let ys : List D := [ms, .ref S3.length, .tup [.int a, .int b], .tup [.int a, .int b, d, .int 0], .tup [o, .int b, d], d]
  have g5 : S5[S3.length]? = some (.lst [.int a, .int b, d]) := d5.2.2.get (by rw [get_app0]; rfl) (by have := D3.lt; omega)
  have D6 := D5.app (T := [Cell.lst ys])
  obtain ⟨p, S7, e7, d7, p1, _⟩ := odd_d c D6.1
  have D7 := D6.trans d7
  have g7 : S7[S5.length]? = some (.lst ys) := d7.2.2.get (by rw [get_app0]; rfl) (by have := D5.lt; omega)
  have hls : S.length ≤ S5.length := D5.2.2.le
  have D8 : Dr n S (S7.set S5.length (.lst (ys ++ [.tup [.int a, p, d]]))) := D7.out hls (by have := D5.lt; omega)
  have g8 := set_get (d := .lst (ys ++ [.tup [.int a, p, d]])) g7
  have k3 : Kp S3 (S7.set S5.length (.lst (ys ++ [.tup [.int a, p, d]]))) := (((Kp.app S3 [Cell.lst [.int a, .int b, d]]).trans d5.2.1).trans ((Kp.app S5 [Cell.lst ys]).trans d7.2.1)).trans (Kp.set g7)
  have k5 : Kp S5 (S7.set S5.length (.lst (ys ++ [.tup [.int a, p, d]]))) := ((Kp.app S5 [Cell.lst ys]).trans d7.2.1).trans (Kp.set g7)
  have k7 : Kp S7 (S7.set S5.length (.lst (ys ++ [.tup [.int a, p, d]]))) := Kp.set g7
  have g9 : (S7.set S5.length (.lst (ys ++ [.tup [.int a, p, d]])))[S3.length]? = some (.lst [.int a, .int b, d]) := by
    have hlt : S3.length < S5.length := (List.getElem?_eq_some_iff.mp g5).1
    rw [List.getElem?_set_ne (by omega)]
    exact d7.2.2.get (app_get g5) (by have := D3.lt; omega)
  obtain ⟨f, T, e9⟩ := loop0 c g8 (fun x hx => by
    simp only [ys, ms, List.cons_append, List.nil_append, List.mem_cons, List.not_mem_nil, or_false] at hx
    have hdk := okD.up k3 hd3
    rcases hx with rfl | rfl | rfl | rfl | rfl | rfl | rfl
    · exact okD.up k3 hms 7
    · exact listOk g9 7
    · exact okD.tup' (by simp) (fun y hy => by
        simp only [List.mem_cons, List.not_mem_nil, or_false] at hy
        rcases hy with rfl | rfl <;> exact fun _ => okD.int) 7
    · exact okD.tup' (by simp) (fun y hy => by
        simp only [List.mem_cons, List.not_mem_nil, or_false] at hy
        rcases hy with rfl | rfl | rfl | rfl
        · exact fun _ => okD.int
        · exact fun _ => okD.int
        · exact hdk
        · exact fun _ => okD.int) 7
    · exact okD.tup' (by simp) (fun y hy => by
        simp only [List.mem_cons, List.not_mem_nil, or_false] at hy
        rcases hy with rfl | rfl | rfl
        · exact okD.up k5 o1
        · exact fun _ => okD.int
        · exact hdk) 7
    · exact hdk 7
    · exact okD.tup' (by simp) (fun y hy => by
        simp only [List.mem_cons, List.not_mem_nil, or_false] at hy
        rcases hy with rfl | rfl | rfl
        · exact fun _ => okD.int
        · exact okD.up k7 p1
        · exact hdk) 7) v0 v1 (some (.ref n)) v3 (some d) (some ms) (some (.ref S5.length)) v7
  refine ⟨some ms, some (.ref S5.length), f, _, ?_, D8.app (T := T)⟩
  have q6 : (6 : Nat) + 1 ≤ 100000 := by decide
  simp only [ap_fVar, varK_some, ap_fC, ap_fBin, ap_binK, ap_fApp, ap_fNil, ap_fCons, ap_consK, ap_consK2, ap_fTup, ap_fLst, ap_tupK, ap_lstK, ap_fTest, ap_testK, ap_fNot, ap_notK, ap_fSkip, ap_fSeq, ap_seqK_nx, ap_fIf, ap_ifK, ap_fRet, ap_retK, ap_fDrop, ap_dropK, ap_fAsg, ap_asgK, ap_asgK2, ap_gN, ap_fIx, ap_ixK, isDict_tup, getL_tup, retO_some, atI_0, atI_1, ap_fCall, ap_callK, o_addT, ap_fFor, ap_fIter, ap_iterK_ref, ap_fSl, ap_slK1, ap_slK2, ap_pNo, ap_pSo, ap_pSoK, oSl_tup, ap_fBm, ap_bmK, tyIn_ref, tyInC_lst, o_getD, o_append, o_appC, R.bind_ok, R.nox_ok, List.length_cons, List.length_nil, List.cons_append, List.nil_append, Nat.zero_add, Nat.reduceAdd, List.getElem?_cons_zero, List.getElem?_cons_succ, List.set_cons_zero, List.set_cons_succ, List.append_nil, Bool.false_eq_true, if_true, if_false, decide_true, Nat.add_zero, Nat.reduceLeDiff, Bool.not_true, Nat.reduceLT, get_app0, ap_lb_law_1, e1, e2, flag_eq, beq_self_eq_true, e3, e4, lst_tup, cut02, e5, e7, g7, e9, ys, ms]
  simp only [ys, ms, List.cons_append, List.nil_append] at e9
  simp only [ap_forK_live, iterC_lst, R.bind_ok, set_get g7, e9]
theorem loop1 (c : CA) {l n : Nat} {ys : List D} {S0 : Sto} (h0 : ∃ s, S0[n]? = some (stC s)) (hln : ¬ l = n) (hl : S0[l]? = some (.lst ys)) (hy : ∀ d ∈ ys, ∀ m, okD S0 m d) (v0 v1 v3 v4 v5 v6 v7 : Option D) :
    ∃ e S1, loopL l (gN 4) (lb_law_1 c) ys 0 [v0, v1, some (.ref n), v3, v4, v5, v6, v7] S0 = .ok (.nx e) S1 ∧ Dr n S0 S1 ∧ ∃ f4 f5 f6 f7, e = [v0, v1, some (.ref n), v3, f4, f5, f6, f7] := by
  let P : Nat → Lc → Sto → Prop := fun j e S1 => Dr n S0 S1 ∧ ∃ f4 f5 f6 f7, e = [v0, v1, some (.ref n), v3, f4, f5, f6, f7]
  have step : ∀ j e S1 d, ys[j]? = some d → P j e S1 → ∃ e1 S2, Turn1 (gN 4) (lb_law_1 c) d e S1 e1 S2 ∧ P (j + 1) e1 S2 := by
    rintro j e S1 d hd ⟨hD, f4, f5, f6, f7, rfl⟩
    obtain ⟨g5, g6, g7, S2, e2, d2⟩ := turn1 c hD.1 (okD.up hD.2.1 (hy d (List.mem_of_getElem? hd))) v0 v1 v3 f5 f6 f7
    refine ⟨_, S2, ?_, hD.trans d2, some d, g5, g6, g7, rfl⟩
    unfold Turn1
    simp only [ap_gN, R.bind_ok, List.set_cons_zero, List.set_cons_succ]
    exact e2
  obtain ⟨e1, S1, h, hp⟩ := loopL_ok P (fun j e S1 hp => hp.1.2.2.get hl hln) step (e := [v0, v1, some (.ref n), v3, v4, v5, v6, v7]) (S := S0) ⟨Dr.rfl' h0, v4, v5, v6, v7, rfl⟩
  exact ⟨e1, S1, h, hp⟩
theorem turn2 (c : CA) (x : Int) (k : Nat) (ns : List Int) (hk : ns[k]? = some x) (hk9 : k < 900) (e2 e3 e4 e5 e6 e7 : Option D) (S : Sto) :
    ∃ f2 f3 f4 f5 f6 f7 S1, lb_law_2 c [some (.rl (ns.map D.int)), some (.int (0 + (k : Nat))), e2, e3, e4, e5, e6, e7] S = .ok (.nx [some (.rl (ns.map D.int)), some (.int (0 + (k : Nat))), f2, f3, f4, f5, f6, f7]) S1 := by
  have hx : atI (ns.map D.int) (0 + (k : Nat)) = some (.int x) := by
    rw [atI_nn (by omega), List.getElem?_map, show (0 + (k : Int)).toNat = k by omega, hk]; rfl
  obtain ⟨s, hs⟩ := stream_eq c x (0 + (k : Nat)) S (by omega)
  have g0 : ∃ s', (S ++ [stC s])[S.length]? = some (stC s') := ⟨s, by rw [get_app0]; rfl⟩
  obtain ⟨z, r, S1, e1, d1, B⟩ := body_d c g0
  obtain ⟨T, eb⟩ := body_is c (B.ok S1 6)
  have hb : bodyB (.tup (.str z :: r)) = true := B.tr
  rw [hb] at eb
  have d2 := d1.app (T := T)
  obtain ⟨sp, S3, e3', d3, o3⟩ := spoilt_d c d2.1 B
  obtain ⟨o, S4, e4', d4, o4, _⟩ := odd_d c d3.1
  have D4 := (d2.trans d3).trans d4
  have hlt := D4.lt
  obtain ⟨e, S5, e5', _, f4, f5, f6, f7, rfl⟩ := loop1 c (l := S4.length) (n := S.length) (ys := [.tup (.str z :: r), sp, o]) (S0 := S4 ++ [Cell.lst [.tup (.str z :: r), sp, o]]) (D4.app (T := [Cell.lst [.tup (.str z :: r), sp, o]])).1 (by omega) get_app0 (fun d hd => by
    have kk := Kp.app S4 [Cell.lst [.tup (.str z :: r), sp, o]]
    simp only [List.mem_cons, List.not_mem_nil, or_false] at hd
    rcases hd with rfl | rfl | rfl
    · exact okm B.ok
    · exact okD.up (d4.2.1.trans kk) o3
    · exact okD.up kk o4) (some (.rl (ns.map D.int))) (some (.int (0 + (k : Nat)))) (some (.tup (.str z :: r))) e4 e5 e6 e7
  refine ⟨some (.ref S.length), some (.tup (.str z :: r)), f4, f5, f6, f7, S5, ?_⟩
  simp only [ap_fVar, varK_some, ap_fC, ap_fNil, ap_fCons, ap_consK, ap_consK2, ap_fLst, ap_lstK, ap_fTest, ap_testK, ap_fNot, ap_notK, ap_fSkip, ap_fSeq, ap_seqK_nx, ap_fIf, ap_ifK, ap_fRet, ap_retK, ap_fAsg, ap_asgK, ap_asgK2, ap_gN, ap_fIx, ap_ixK, isDict_rl, getL_rl, retO_some, ap_fCall, ap_callK, ap_fFor, ap_forK_live, ap_fIter, ap_iterK_ref, iterC_lst, o_getD, R.bind_ok, R.nox_ok, List.length_cons, List.length_nil, Nat.zero_add, Nat.reduceAdd, List.getElem?_cons_zero, List.getElem?_cons_succ, List.set_cons_zero, List.set_cons_succ, List.append_nil, Bool.false_eq_true, if_true, if_false, Nat.add_zero, Nat.reduceLeDiff, Bool.not_true, get_app0, ap_lb_law_2, hx, hs, e1, eb, flag_eq, beq_self_eq_true, e3', e4', e5']
theorem loop2 (c : CA) (ns : List Int) (M : Nat) (hM : M ≤ ns.length) (hl : M < 900) (S : Sto) : ∃ e S1, loopX (gN 1) (lb_law_2 c) (rngD 0 M) [some (.rl (ns.map D.int)), none, none, none, none, none, none, none] S = .ok (.nx e) S1 := by
  let P : Nat → Lc → Sto → Prop := fun j e S1 => ∃ f1 f2 f3 f4 f5 f6 f7, e = [some (.rl (ns.map D.int)), f1, f2, f3, f4, f5, f6, f7]
  have step : ∀ j e S1 d, (rngD 0 M)[j]? = some d → P j e S1 → ∃ e1 S2, Turn1 (gN 1) (lb_law_2 c) d e S1 e1 S2 ∧ P (j + 1) e1 S2 := by
    rintro j e S1 d hd ⟨f1, f2, f3, f4, f5, f6, f7, rfl⟩
    obtain ⟨hj, rfl⟩ := rngD_get hd
    obtain ⟨g2, g3, g4, g5, g6, g7, S2, t⟩ := turn2 c (ns[j]'(by omega)) j ns (List.getElem?_eq_getElem (by omega)) (by omega) f2 f3 f4 f5 f6 f7 S1
    refine ⟨_, S2, ?_, some (.int (0 + (j : Nat))), g2, g3, g4, g5, g6, g7, rfl⟩
    unfold Turn1
    simp only [ap_gN, R.bind_ok, List.set_cons_zero, List.set_cons_succ]
    exact t
  obtain ⟨e1, S1, h, _⟩ := loopX_ok P step (e := [some (.rl (ns.map D.int)), none, none, none, none, none, none, none]) (S := S) ⟨none, none, none, none, none, none, none, rfl⟩
  exact ⟨e1, S1, h⟩
theorem last_ok : okA (.tup [.str ⟨#[97, 115, 107]⟩, .tup [.int 1, .int 0], .int 1, .tup [.int 0, .str ⟨#[97]⟩]]) := okB_ok 5 _ (by decide +kernel)
theorem bodyB_str {z : Str} {r : List D} : bodyB (.tup (.str z :: r)) = itB (wd z) r := rfl
theorem last_b : bodyB (.tup [.str ⟨#[97, 115, 107]⟩, .tup [.int 1, .int 0], .int 1, .tup [.int 0, .str ⟨#[97]⟩]]) = true := by
  rw [bodyB_str, wdL0]
  decide
theorem main_law (c : CA) (ns : List Int) (h1 : ns.length ≤ 63) (h2 : ∀ z ∈ ns, Builtin.Int.intBits z ≤ 1048576) : isTrue1 (F_law c [.rl (ns.map D.int)] []) := by
  have hl : ∃ M : Nat, (if (30 : Int) < (ns.length : Int) then 30 else (ns.length : Int)) = (M : Int) ∧ M ≤ ns.length ∧ M < 900 := by
    split
    · exact ⟨30, rfl, by omega, by omega⟩
    · exact ⟨ns.length, rfl, by omega, by omega⟩
  obtain ⟨M, hM, h3, h4⟩ := hl
  obtain ⟨e, S1, h5⟩ := loop2 c ns M h3 h4 []
  obtain ⟨T, h6⟩ := body_is c (last_ok S1 6)
  rw [last_b] at h6
  have hr : -4611686018427387904 ≤ (M : Int) ∧ (M : Int) < 4611686018427387904 := by omega
  unfold F_law b_law
  simp only [ap_fVar, varK_some, ap_fC, ap_fBin, ap_binK, ap_fApp, ap_fNil, ap_fCons, ap_consK, ap_consK2, ap_fTup, ap_tupK, ap_fSeq, ap_seqK_nx, ap_fRet, ap_retK, ap_fCall, ap_callK, ap_fnF, ap_fnK_rt, o_min2, o_isB, o_len, lenK_some, lenD_rl, ap_fFor, ap_forK_fix, ap_fRng1, ap_rng1K, R.bind_ok, R.nox_ok, List.map_cons, List.map_nil, List.length_cons, List.length_nil, List.cons_append, List.nil_append, Nat.zero_add, Nat.reduceAdd, Nat.reduceSub, List.replicate_succ, List.replicate_zero, List.getElem?_cons_zero, List.append_nil, if_true, decide_true, Nat.add_zero, Nat.reduceLeDiff, Int.reduceNeg, Int.reducePow, and_self, List.length_map, hM, hr, Int.toNat_natCast, h5, h6, isTrue1]
end Qk26

namespace Qk26
open PySem L2 RF
theorem all_mk {l : PySem.W.OpenLaw} {w : World} {K : PySem.W.Frag} {h : Heap} {mg : Str → Option Value} {fa  : Addr} {t_MOST_LETTERS t_MOST_NUMBER t_MOST_VALUE : Tok} (X : K.In h) (G : h.Ns mainGlobals mg) (hfa : mg "law" = some (.ref fa))
    {f0 : Addr} {od0 an0 : Option Addr} {sl0 : Array (Option Value)} {oc0 kV0 dc0 pm0 cd0 ct0 : Value}
    {f1 : Addr} {od1 an1 : Option Addr} {sl1 : Array (Option Value)} {oc1 kV1 dc1 pm1 cd1 ct1 : Value}
    {f2 : Addr} {od2 an2 : Option Addr} {sl2 : Array (Option Value)} {oc2 kV2 dc2 pm2 cd2 ct2 : Value}
    {f3 : Addr} {od3 an3 : Option Addr} {sl3 : Array (Option Value)} {oc3 kV3 dc3 pm3 cd3 ct3 : Value}
    {f4 : Addr} {od4 an4 : Option Addr} {sl4 : Array (Option Value)} {oc4 kV4 dc4 pm4 cd4 ct4 : Value}
    {f5 : Addr} {od5 an5 : Option Addr} {sl5 : Array (Option Value)} {oc5 kV5 dc5 pm5 cd5 ct5 : Value}
    {f6 : Addr} {od6 an6 : Option Addr} {sl6 : Array (Option Value)} {oc6 kV6 dc6 pm6 cd6 ct6 : Value}
    {f7 : Addr} {od7 an7 : Option Addr} {sl7 : Array (Option Value)} {oc7 kV7 dc7 pm7 cd7 ct7 : Value}
    {f8 : Addr} {od8 an8 : Option Addr} {sl8 : Array (Option Value)} {oc8 kV8 dc8 pm8 cd8 ct8 : Value}
    {f9 : Addr} {od9 an9 : Option Addr} {sl9 : Array (Option Value)} {oc9 kV9 dc9 pm9 cd9 ct9 : Value}
    {f10 : Addr} {od10 an10 : Option Addr} {sl10 : Array (Option Value)} {oc10 kV10 dc10 pm10 cd10 ct10 : Value}
    {f11 : Addr} {od11 an11 : Option Addr} {sl11 : Array (Option Value)} {oc11 kV11 dc11 pm11 cd11 ct11 : Value}
    {f12 : Addr} {od12 an12 : Option Addr} {sl12 : Array (Option Value)} {oc12 kV12 dc12 pm12 cd12 ct12 : Value}
    {f13 : Addr} {od13 an13 : Option Addr} {sl13 : Array (Option Value)} {oc13 kV13 dc13 pm13 cd13 ct13 : Value}
    {f14 : Addr} {od14 an14 : Option Addr} {sl14 : Array (Option Value)} {oc14 kV14 dc14 pm14 cd14 ct14 : Value}
    {f15 : Addr} {od15 an15 : Option Addr} {sl15 : Array (Option Value)} {oc15 kV15 dc15 pm15 cd15 ct15 : Value}
    {f16 : Addr} {od16 an16 : Option Addr} {sl16 : Array (Option Value)} {oc16 kV16 dc16 pm16 cd16 ct16 : Value}
    {f17 : Addr} {od17 an17 : Option Addr} {sl17 : Array (Option Value)} {oc17 kV17 dc17 pm17 cd17 ct17 : Value}
    {f18 : Addr} {od18 an18 : Option Addr} {sl18 : Array (Option Value)} {oc18 kV18 dc18 pm18 cd18 ct18 : Value}
    {f19 : Addr} {od19 an19 : Option Addr} {sl19 : Array (Option Value)} {oc19 kV19 dc19 pm19 cd19 ct19 : Value}
    {f20 : Addr} {od20 an20 : Option Addr} {sl20 : Array (Option Value)} {oc20 kV20 dc20 pm20 cd20 ct20 : Value}
    {f21 : Addr} {od21 an21 : Option Addr} {sl21 : Array (Option Value)} {oc21 kV21 dc21 pm21 cd21 ct21 : Value}
    {f22 : Addr} {od22 an22 : Option Addr} {sl22 : Array (Option Value)} {oc22 kV22 dc22 pm22 cd22 ct22 : Value}
    {f23 : Addr} {od23 an23 : Option Addr} {sl23 : Array (Option Value)} {oc23 kV23 dc23 pm23 cd23 ct23 : Value}
    {f24 : Addr} {od24 an24 : Option Addr} {sl24 : Array (Option Value)} {oc24 kV24 dc24 pm24 cd24 ct24 : Value}
    {f25 : Addr} {od25 an25 : Option Addr} {sl25 : Array (Option Value)} {oc25 kV25 dc25 pm25 cd25 ct25 : Value}
    {f26 : Addr} {od26 an26 : Option Addr} {sl26 : Array (Option Value)} {oc26 kV26 dc26 pm26 cd26 ct26 : Value}
    {f27 : Addr} {od27 an27 : Option Addr} {sl27 : Array (Option Value)} {oc27 kV27 dc27 pm27 cd27 ct27 : Value}
    {f28 : Addr} {od28 an28 : Option Addr} {sl28 : Array (Option Value)} {oc28 kV28 dc28 pm28 cd28 ct28 : Value}
    {f29 : Addr} {od29 an29 : Option Addr} {sl29 : Array (Option Value)} {oc29 kV29 dc29 pm29 cd29 ct29 : Value}
    {f30 : Addr} {od30 an30 : Option Addr} {sl30 : Array (Option Value)} {oc30 kV30 dc30 pm30 cd30 ct30 : Value}
    {f31 : Addr} {od31 an31 : Option Addr} {sl31 : Array (Option Value)} {oc31 kV31 dc31 pm31 cd31 ct31 : Value}
    {f32 : Addr} {od32 an32 : Option Addr} {sl32 : Array (Option Value)} {oc32 kV32 dc32 pm32 cd32 ct32 : Value}
    {f33 : Addr} {od33 an33 : Option Addr} {sl33 : Array (Option Value)} {oc33 kV33 dc33 pm33 cd33 ct33 : Value}
    {f34 : Addr} {od34 an34 : Option Addr} {sl34 : Array (Option Value)} {oc34 kV34 dc34 pm34 cd34 ct34 : Value}
    {f35 : Addr} {od35 an35 : Option Addr} {sl35 : Array (Option Value)} {oc35 kV35 dc35 pm35 cd35 ct35 : Value}
    {f36 : Addr} {od36 an36 : Option Addr} {sl36 : Array (Option Value)} {oc36 kV36 dc36 pm36 cd36 ct36 : Value}
    {f37 : Addr} {od37 an37 : Option Addr} {sl37 : Array (Option Value)} {oc37 kV37 dc37 pm37 cd37 ct37 : Value}
    {f38 : Addr} {od38 an38 : Option Addr} {sl38 : Array (Option Value)} {oc38 kV38 dc38 pm38 cd38 ct38 : Value}
    {DG0 : Addr} {gn0 : Nat} {gt0_0 gu0_0 gt0_1 gu0_1 gt0_2 gu0_2 gt0_3 gu0_3 gt0_4 gu0_4 gt0_5 gu0_5 gt0_6 gu0_6 gt0_7 gu0_7 gt0_8 gu0_8 : Tok}
    (main : ∀ (c : CA) (ns : List Int), ns.length ≤ 63 → (∀ z ∈ ns, Builtin.Int.intBits z ≤ 1048576) → isTrue1 (F_law c [.rl (ns.map D.int)] []))
    (aG0 : PySem.W.nsIn K mainGlobals "LENGTHS" = some (some (.ref DG0)))
    (sG0 : (DG0 == sysModules) = false)
    (lG0 : K.lookup DG0 = some ⟨.type "dict", none, .dict #[⟨PyData.keyHash w.params "ask", .str "ask" gt0_0, .int 4 gu0_0⟩, ⟨PyData.keyHash w.params "free", .str "free" gt0_1, .int 4 gu0_1⟩, ⟨PyData.keyHash w.params "freed", .str "freed" gt0_2, .int 4 gu0_2⟩, ⟨PyData.keyHash w.params "finished", .str "finished" gt0_3, .int 4 gu0_3⟩, ⟨PyData.keyHash w.params "finish", .str "finish" gt0_4, .int 5 gu0_4⟩, ⟨PyData.keyHash w.params "granted", .str "granted" gt0_5, .int 6 gu0_5⟩, ⟨PyData.keyHash w.params "behind", .str "behind" gt0_6, .int 7 gu0_6⟩, ⟨PyData.keyHash w.params "call", .str "call" gt0_7, .int 7 gu0_7⟩, ⟨PyData.keyHash w.params "marks", .str "marks" gt0_8, .int 6 gu0_8⟩] gn0, #[]⟩)
    (a0 : PySem.W.nsIn K mainGlobals "_law_stream" = some (some (.ref f0)))
    (l0 : K.lookup f0 = some ⟨oc0, od0, .func (PySem.W.fnOf "_law_stream" "_law_stream" (defArgs s_law_stream) (defBody s_law_stream) (defScope s_law_stream) .none kV0 dc0 pm0 an0 cd0 ct0), sl0⟩)
    (c0 : PySem.W.codeIn K cd0 "_law_stream" = true)
    (k0 : PySem.W.keepIn K (.ref f0) = true)
    (a1 : PySem.W.nsIn K mainGlobals "_law_next" = some (some (.ref f1)))
    (l1 : K.lookup f1 = some ⟨oc1, od1, .func (PySem.W.fnOf "_law_next" "_law_next" (defArgs s_law_next) (defBody s_law_next) (defScope s_law_next) .none kV1 dc1 pm1 an1 cd1 ct1), sl1⟩)
    (c1 : PySem.W.codeIn K cd1 "_law_next" = true)
    (k1 : PySem.W.keepIn K (.ref f1) = true)
    (a2 : PySem.W.nsIn K mainGlobals "_law_number" = some (some (.ref f2)))
    (l2 : K.lookup f2 = some ⟨oc2, od2, .func (PySem.W.fnOf "_law_number" "_law_number" (defArgs s_law_number) (defBody s_law_number) (defScope s_law_number) .none kV2 dc2 pm2 an2 cd2 ct2), sl2⟩)
    (c2 : PySem.W.codeIn K cd2 "_law_number" = true)
    (k2 : PySem.W.keepIn K (.ref f2) = true)
    (a3 : PySem.W.nsIn K mainGlobals "_law_attempt" = some (some (.ref f3)))
    (l3 : K.lookup f3 = some ⟨oc3, od3, .func (PySem.W.fnOf "_law_attempt" "_law_attempt" (defArgs s_law_attempt) (defBody s_law_attempt) (defScope s_law_attempt) .none kV3 dc3 pm3 an3 cd3 ct3), sl3⟩)
    (c3 : PySem.W.codeIn K cd3 "_law_attempt" = true)
    (k3 : PySem.W.keepIn K (.ref f3) = true)
    (a4 : PySem.W.nsIn K mainGlobals "_law_transaction" = some (some (.ref f4)))
    (l4 : K.lookup f4 = some ⟨oc4, od4, .func (PySem.W.fnOf "_law_transaction" "_law_transaction" (defArgs s_law_transaction) (defBody s_law_transaction) (defScope s_law_transaction) .none kV4 dc4 pm4 an4 cd4 ct4), sl4⟩)
    (c4 : PySem.W.codeIn K cd4 "_law_transaction" = true)
    (k4 : PySem.W.keepIn K (.ref f4) = true)
    (a5 : PySem.W.nsIn K mainGlobals "_law_name" = some (some (.ref f5)))
    (l5 : K.lookup f5 = some ⟨oc5, od5, .func (PySem.W.fnOf "_law_name" "_law_name" (defArgs s_law_name) (defBody s_law_name) (defScope s_law_name) .none kV5 dc5 pm5 an5 cd5 ct5), sl5⟩)
    (c5 : PySem.W.codeIn K cd5 "_law_name" = true)
    (k5 : PySem.W.keepIn K (.ref f5) = true)
    (a6 : PySem.W.nsIn K mainGlobals "_law_key" = some (some (.ref f6)))
    (l6 : K.lookup f6 = some ⟨oc6, od6, .func (PySem.W.fnOf "_law_key" "_law_key" (defArgs s_law_key) (defBody s_law_key) (defScope s_law_key) .none kV6 dc6 pm6 an6 cd6 ct6), sl6⟩)
    (c6 : PySem.W.codeIn K cd6 "_law_key" = true)
    (k6 : PySem.W.keepIn K (.ref f6) = true)
    (a7 : PySem.W.nsIn K mainGlobals "_law_integer" = some (some (.ref f7)))
    (l7 : K.lookup f7 = some ⟨oc7, od7, .func (PySem.W.fnOf "_law_integer" "_law_integer" (defArgs s_law_integer) (defBody s_law_integer) (defScope s_law_integer) .none kV7 dc7 pm7 an7 cd7 ct7), sl7⟩)
    (c7 : PySem.W.codeIn K cd7 "_law_integer" = true)
    (k7 : PySem.W.keepIn K (.ref f7) = true)
    (a8 : PySem.W.nsIn K mainGlobals "_law_value" = some (some (.ref f8)))
    (l8 : K.lookup f8 = some ⟨oc8, od8, .func (PySem.W.fnOf "_law_value" "_law_value" (defArgs s_law_value) (defBody s_law_value) (defScope s_law_value) .none kV8 dc8 pm8 an8 cd8 ct8), sl8⟩)
    (c8 : PySem.W.codeIn K cd8 "_law_value" = true)
    (k8 : PySem.W.keepIn K (.ref f8) = true)
    (a9 : PySem.W.nsIn K mainGlobals "_law_mark" = some (some (.ref f9)))
    (l9 : K.lookup f9 = some ⟨oc9, od9, .func (PySem.W.fnOf "_law_mark" "_law_mark" (defArgs s_law_mark) (defBody s_law_mark) (defScope s_law_mark) .none kV9 dc9 pm9 an9 cd9 ct9), sl9⟩)
    (c9 : PySem.W.codeIn K cd9 "_law_mark" = true)
    (k9 : PySem.W.keepIn K (.ref f9) = true)
    (a10 : PySem.W.nsIn K mainGlobals "_law_marks_drawn" = some (some (.ref f10)))
    (l10 : K.lookup f10 = some ⟨oc10, od10, .func (PySem.W.fnOf "_law_marks_drawn" "_law_marks_drawn" (defArgs s_law_marks_drawn) (defBody s_law_marks_drawn) (defScope s_law_marks_drawn) .none kV10 dc10 pm10 an10 cd10 ct10), sl10⟩)
    (c10 : PySem.W.codeIn K cd10 "_law_marks_drawn" = true)
    (k10 : PySem.W.keepIn K (.ref f10) = true)
    (a11 : PySem.W.nsIn K mainGlobals "_law_drawn_body" = some (some (.ref f11)))
    (l11 : K.lookup f11 = some ⟨oc11, od11, .func (PySem.W.fnOf "_law_drawn_body" "_law_drawn_body" (defArgs s_law_drawn_body) (defBody s_law_drawn_body) (defScope s_law_drawn_body) .none kV11 dc11 pm11 an11 cd11 ct11), sl11⟩)
    (c11 : PySem.W.codeIn K cd11 "_law_drawn_body" = true)
    (k11 : PySem.W.keepIn K (.ref f11) = true)
    (a12 : PySem.W.nsIn K mainGlobals "_law_flag" = some (some (.ref f12)))
    (l12 : K.lookup f12 = some ⟨oc12, od12, .func (PySem.W.fnOf "_law_flag" "_law_flag" (defArgs s_law_flag) (defBody s_law_flag) (defScope s_law_flag) .none kV12 dc12 pm12 an12 cd12 ct12), sl12⟩)
    (c12 : PySem.W.codeIn K cd12 "_law_flag" = true)
    (k12 : PySem.W.keepIn K (.ref f12) = true)
    (a13 : PySem.W.nsIn K mainGlobals "_has_parts" = some (some (.ref f13)))
    (l13 : K.lookup f13 = some ⟨oc13, od13, .func (PySem.W.fnOf "_has_parts" "_has_parts" (defArgs s_has_parts) (defBody s_has_parts) (defScope s_has_parts) .none kV13 dc13 pm13 an13 cd13 ct13), sl13⟩)
    (c13 : PySem.W.codeIn K cd13 "_has_parts" = true)
    (k13 : PySem.W.keepIn K (.ref f13) = true)
    (a14 : PySem.W.nsIn K mainGlobals "_is_between" = some (some (.ref f14)))
    (l14 : K.lookup f14 = some ⟨oc14, od14, .func (PySem.W.fnOf "_is_between" "_is_between" (defArgs s_is_between) (defBody s_is_between) (defScope s_is_between) .none kV14 dc14 pm14 an14 cd14 ct14), sl14⟩)
    (c14 : PySem.W.codeIn K cd14 "_is_between" = true)
    (k14 : PySem.W.keepIn K (.ref f14) = true)
    (a15 : PySem.W.nsIn K mainGlobals "_is_count" = some (some (.ref f15)))
    (l15 : K.lookup f15 = some ⟨oc15, od15, .func (PySem.W.fnOf "_is_count" "_is_count" (defArgs s_is_count) (defBody s_is_count) (defScope s_is_count) .none kV15 dc15 pm15 an15 cd15 ct15), sl15⟩)
    (c15 : PySem.W.codeIn K cd15 "_is_count" = true)
    (k15 : PySem.W.keepIn K (.ref f15) = true)
    (a16 : PySem.W.nsIn K mainGlobals "is_number" = some (some (.ref f16)))
    (l16 : K.lookup f16 = some ⟨oc16, od16, .func (PySem.W.fnOf "is_number" "is_number" (defArgs s_is_number) (defBody s_is_number) (defScope s_is_number) .none kV16 dc16 pm16 an16 cd16 ct16), sl16⟩)
    (c16 : PySem.W.codeIn K cd16 "is_number" = true)
    (k16 : PySem.W.keepIn K (.ref f16) = true)
    (a17 : PySem.W.nsIn K mainGlobals "is_transaction" = some (some (.ref f17)))
    (l17 : K.lookup f17 = some ⟨oc17, od17, .func (PySem.W.fnOf "is_transaction" "is_transaction" (defArgs s_is_transaction) (defBody s_is_transaction) (defScope s_is_transaction) .none kV17 dc17 pm17 an17 cd17 ct17), sl17⟩)
    (c17 : PySem.W.codeIn K cd17 "is_transaction" = true)
    (k17 : PySem.W.keepIn K (.ref f17) = true)
    (a18 : PySem.W.nsIn K mainGlobals "is_who" = some (some (.ref f18)))
    (l18 : K.lookup f18 = some ⟨oc18, od18, .func (PySem.W.fnOf "is_who" "is_who" (defArgs s_is_who) (defBody s_is_who) (defScope s_is_who) .none kV18 dc18 pm18 an18 cd18 ct18), sl18⟩)
    (c18 : PySem.W.codeIn K cd18 "is_who" = true)
    (k18 : PySem.W.keepIn K (.ref f18) = true)
    (a19 : PySem.W.nsIn K mainGlobals "is_name" = some (some (.ref f19)))
    (l19 : K.lookup f19 = some ⟨oc19, od19, .func (PySem.W.fnOf "is_name" "is_name" (defArgs s_is_name) (defBody s_is_name) (defScope s_is_name) .none kV19 dc19 pm19 an19 cd19 ct19), sl19⟩)
    (c19 : PySem.W.codeIn K cd19 "is_name" = true)
    (k19 : PySem.W.keepIn K (.ref f19) = true)
    (a20 : PySem.W.nsIn K mainGlobals "is_key" = some (some (.ref f20)))
    (l20 : K.lookup f20 = some ⟨oc20, od20, .func (PySem.W.fnOf "is_key" "is_key" (defArgs s_is_key) (defBody s_is_key) (defScope s_is_key) .none kV20 dc20 pm20 an20 cd20 ct20), sl20⟩)
    (c20 : PySem.W.codeIn K cd20 "is_key" = true)
    (k20 : PySem.W.keepIn K (.ref f20) = true)
    (a21 : PySem.W.nsIn K mainGlobals "is_value" = some (some (.ref f21)))
    (l21 : K.lookup f21 = some ⟨oc21, od21, .func (PySem.W.fnOf "is_value" "is_value" (defArgs s_is_value) (defBody s_is_value) (defScope s_is_value) .none kV21 dc21 pm21 an21 cd21 ct21), sl21⟩)
    (c21 : PySem.W.codeIn K cd21 "is_value" = true)
    (k21 : PySem.W.keepIn K (.ref f21) = true)
    (a22 : PySem.W.nsIn K mainGlobals "is_mark" = some (some (.ref f22)))
    (l22 : K.lookup f22 = some ⟨oc22, od22, .func (PySem.W.fnOf "is_mark" "is_mark" (defArgs s_is_mark) (defBody s_is_mark) (defScope s_is_mark) .none kV22 dc22 pm22 an22 cd22 ct22), sl22⟩)
    (c22 : PySem.W.codeIn K cd22 "is_mark" = true)
    (k22 : PySem.W.keepIn K (.ref f22) = true)
    (a23 : PySem.W.nsIn K mainGlobals "_are_marks" = some (some (.ref f23)))
    (l23 : K.lookup f23 = some ⟨oc23, od23, .func (PySem.W.fnOf "_are_marks" "_are_marks" (defArgs s_are_marks) (defBody s_are_marks) (defScope s_are_marks) .none kV23 dc23 pm23 an23 cd23 ct23), sl23⟩)
    (c23 : PySem.W.codeIn K cd23 "_are_marks" = true)
    (k23 : PySem.W.keepIn K (.ref f23) = true)
    (a24 : PySem.W.nsIn K mainGlobals "_are_items" = some (some (.ref f24)))
    (l24 : K.lookup f24 = some ⟨oc24, od24, .func (PySem.W.fnOf "_are_items" "_are_items" (defArgs s_are_items) (defBody s_are_items) (defScope s_are_items) .none kV24 dc24 pm24 an24 cd24 ct24), sl24⟩)
    (c24 : PySem.W.codeIn K cd24 "_are_items" = true)
    (k24 : PySem.W.keepIn K (.ref f24) = true)
    (a25 : PySem.W.nsIn K mainGlobals "is_body" = some (some (.ref f25)))
    (l25 : K.lookup f25 = some ⟨oc25, od25, .func (PySem.W.fnOf "is_body" "is_body" (defArgs s_is_body) (defBody s_is_body) (defScope s_is_body) .none kV25 dc25 pm25 an25 cd25 ct25), sl25⟩)
    (c25 : PySem.W.codeIn K cd25 "is_body" = true)
    (k25 : PySem.W.keepIn K (.ref f25) = true)
    (a26 : PySem.W.nsIn K mainGlobals "_law_odd" = some (some (.ref f26)))
    (l26 : K.lookup f26 = some ⟨oc26, od26, .func (PySem.W.fnOf "_law_odd" "_law_odd" (defArgs s_law_odd) (defBody s_law_odd) (defScope s_law_odd) .none kV26 dc26 pm26 an26 cd26 ct26), sl26⟩)
    (c26 : PySem.W.codeIn K cd26 "_law_odd" = true)
    (k26 : PySem.W.keepIn K (.ref f26) = true)
    (a27 : PySem.W.nsIn K mainGlobals "_law_spoilt_body" = some (some (.ref f27)))
    (l27 : K.lookup f27 = some ⟨oc27, od27, .func (PySem.W.fnOf "_law_spoilt_body" "_law_spoilt_body" (defArgs s_law_spoilt_body) (defBody s_law_spoilt_body) (defScope s_law_spoilt_body) .none kV27 dc27 pm27 an27 cd27 ct27), sl27⟩)
    (c27 : PySem.W.codeIn K cd27 "_law_spoilt_body" = true)
    (k27 : PySem.W.keepIn K (.ref f27) = true)
    (a28 : PySem.W.nsIn K mainGlobals "_law_is_int" = some (some (.ref f28)))
    (l28 : K.lookup f28 = some ⟨oc28, od28, .func (PySem.W.fnOf "_law_is_int" "_law_is_int" (defArgs s_law_is_int) (defBody s_law_is_int) (defScope s_law_is_int) .none kV28 dc28 pm28 an28 cd28 ct28), sl28⟩)
    (c28 : PySem.W.codeIn K cd28 "_law_is_int" = true)
    (k28 : PySem.W.keepIn K (.ref f28) = true)
    (a29 : PySem.W.nsIn K mainGlobals "_law_is_transaction" = some (some (.ref f29)))
    (l29 : K.lookup f29 = some ⟨oc29, od29, .func (PySem.W.fnOf "_law_is_transaction" "_law_is_transaction" (defArgs s_law_is_transaction) (defBody s_law_is_transaction) (defScope s_law_is_transaction) .none kV29 dc29 pm29 an29 cd29 ct29), sl29⟩)
    (c29 : PySem.W.codeIn K cd29 "_law_is_transaction" = true)
    (k29 : PySem.W.keepIn K (.ref f29) = true)
    (a30 : PySem.W.nsIn K mainGlobals "_law_is_who" = some (some (.ref f30)))
    (l30 : K.lookup f30 = some ⟨oc30, od30, .func (PySem.W.fnOf "_law_is_who" "_law_is_who" (defArgs s_law_is_who) (defBody s_law_is_who) (defScope s_law_is_who) .none kV30 dc30 pm30 an30 cd30 ct30), sl30⟩)
    (c30 : PySem.W.codeIn K cd30 "_law_is_who" = true)
    (k30 : PySem.W.keepIn K (.ref f30) = true)
    (a31 : PySem.W.nsIn K mainGlobals "_law_is_name" = some (some (.ref f31)))
    (l31 : K.lookup f31 = some ⟨oc31, od31, .func (PySem.W.fnOf "_law_is_name" "_law_is_name" (defArgs s_law_is_name) (defBody s_law_is_name) (defScope s_law_is_name) .none kV31 dc31 pm31 an31 cd31 ct31), sl31⟩)
    (c31 : PySem.W.codeIn K cd31 "_law_is_name" = true)
    (k31 : PySem.W.keepIn K (.ref f31) = true)
    (a32 : PySem.W.nsIn K mainGlobals "_law_is_key" = some (some (.ref f32)))
    (l32 : K.lookup f32 = some ⟨oc32, od32, .func (PySem.W.fnOf "_law_is_key" "_law_is_key" (defArgs s_law_is_key) (defBody s_law_is_key) (defScope s_law_is_key) .none kV32 dc32 pm32 an32 cd32 ct32), sl32⟩)
    (c32 : PySem.W.codeIn K cd32 "_law_is_key" = true)
    (k32 : PySem.W.keepIn K (.ref f32) = true)
    (a33 : PySem.W.nsIn K mainGlobals "_law_is_mark" = some (some (.ref f33)))
    (l33 : K.lookup f33 = some ⟨oc33, od33, .func (PySem.W.fnOf "_law_is_mark" "_law_is_mark" (defArgs s_law_is_mark) (defBody s_law_is_mark) (defScope s_law_is_mark) .none kV33 dc33 pm33 an33 cd33 ct33), sl33⟩)
    (c33 : PySem.W.codeIn K cd33 "_law_is_mark" = true)
    (k33 : PySem.W.keepIn K (.ref f33) = true)
    (a34 : PySem.W.nsIn K mainGlobals "_law_is_marks" = some (some (.ref f34)))
    (l34 : K.lookup f34 = some ⟨oc34, od34, .func (PySem.W.fnOf "_law_is_marks" "_law_is_marks" (defArgs s_law_is_marks) (defBody s_law_is_marks) (defScope s_law_is_marks) .none kV34 dc34 pm34 an34 cd34 ct34), sl34⟩)
    (c34 : PySem.W.codeIn K cd34 "_law_is_marks" = true)
    (k34 : PySem.W.keepIn K (.ref f34) = true)
    (a35 : PySem.W.nsIn K mainGlobals "_law_is_body" = some (some (.ref f35)))
    (l35 : K.lookup f35 = some ⟨oc35, od35, .func (PySem.W.fnOf "_law_is_body" "_law_is_body" (defArgs s_law_is_body) (defBody s_law_is_body) (defScope s_law_is_body) .none kV35 dc35 pm35 an35 cd35 ct35), sl35⟩)
    (c35 : PySem.W.codeIn K cd35 "_law_is_body" = true)
    (k35 : PySem.W.keepIn K (.ref f35) = true)
    (a36 : PySem.W.nsIn K mainGlobals "_law_is_message" = some (some (.ref f36)))
    (l36 : K.lookup f36 = some ⟨oc36, od36, .func (PySem.W.fnOf "_law_is_message" "_law_is_message" (defArgs s_law_is_message) (defBody s_law_is_message) (defScope s_law_is_message) .none kV36 dc36 pm36 an36 cd36 ct36), sl36⟩)
    (c36 : PySem.W.codeIn K cd36 "_law_is_message" = true)
    (k36 : PySem.W.keepIn K (.ref f36) = true)
    (a37 : PySem.W.nsIn K mainGlobals "is_message" = some (some (.ref f37)))
    (l37 : K.lookup f37 = some ⟨oc37, od37, .func (PySem.W.fnOf "is_message" "is_message" (defArgs s_is_message) (defBody s_is_message) (defScope s_is_message) .none kV37 dc37 pm37 an37 cd37 ct37), sl37⟩)
    (c37 : PySem.W.codeIn K cd37 "is_message" = true)
    (k37 : PySem.W.keepIn K (.ref f37) = true)
    (a38 : PySem.W.nsIn K mainGlobals "law" = some (some (.ref f38)))
    (l38 : K.lookup f38 = some ⟨oc38, od38, .func (PySem.W.fnOf "law" "law" (defArgs s_law) (defBody s_law) (defScope s_law) .none kV38 dc38 pm38 an38 cd38 ct38), sl38⟩)
    (c38 : PySem.W.codeIn K cd38 "law" = true)
    (k38 : PySem.W.keepIn K (.ref f38) = true)
    (z_all : PySem.W.nsIn K mainGlobals "all" = some none)
    (z_bool : PySem.W.nsIn K mainGlobals "bool" = some none)
    (z_int : PySem.W.nsIn K mainGlobals "int" = some none)
    (z_isinstance : PySem.W.nsIn K mainGlobals "isinstance" = some none)
    (z_len : PySem.W.nsIn K mainGlobals "len" = some none)
    (z_list : PySem.W.nsIn K mainGlobals "list" = some none)
    (z_max : PySem.W.nsIn K mainGlobals "max" = some none)
    (z_min : PySem.W.nsIn K mainGlobals "min" = some none)
    (z_range : PySem.W.nsIn K mainGlobals "range" = some none)
    (z_sorted : PySem.W.nsIn K mainGlobals "sorted" = some none)
    (z_str : PySem.W.nsIn K mainGlobals "str" = some none)
    (z_tuple : PySem.W.nsIn K mainGlobals "tuple" = some none)
    (z_type : PySem.W.nsIn K mainGlobals "type" = some none)
    (z_zip : PySem.W.nsIn K mainGlobals "zip" = some none)
    (v_MOST_LETTERS : PySem.W.nsIn K mainGlobals "MOST_LETTERS" = some (some (.int 12 t_MOST_LETTERS)))
    (v_MOST_NUMBER : PySem.W.nsIn K mainGlobals "MOST_NUMBER" = some (some (.int 1000000000000 t_MOST_NUMBER)))
    (v_MOST_VALUE : PySem.W.nsIn K mainGlobals "MOST_VALUE" = some (some (.int 1000000000000000 t_MOST_VALUE))) :
    ∃ fd : FuncData, (∀ (s : Shared) (v : Value), BindsTo s fd ⟨[v], []⟩ [("script", v)]) ∧ ∀ base : Heap, K.In base → base.Ns mainGlobals mg → FnOk l.prog w K mg base CX0 10 fa fd ["script"] (spLaw K) := by
  have e := hfa.symm.trans (PySem.W.mg_of X G a38)
  cases e
  have eG0 : gd_LENGTHS = ([("ask", 4), ("free", 4), ("freed", 4), ("finished", 4), ("finish", 5), ("granted", 6), ("behind", 7), ("call", 7), ("marks", 6)] : List (Str × Int)) := by decide +kernel
  have GG : Gm K mg { w := w, a_law_stream := f0, d_law_stream := PySem.W.fnOf "_law_stream" "_law_stream" (defArgs s_law_stream) (defBody s_law_stream) (defScope s_law_stream) .none kV0 dc0 pm0 an0 cd0 ct0, a_law_next := f1, d_law_next := PySem.W.fnOf "_law_next" "_law_next" (defArgs s_law_next) (defBody s_law_next) (defScope s_law_next) .none kV1 dc1 pm1 an1 cd1 ct1, a_law_number := f2, d_law_number := PySem.W.fnOf "_law_number" "_law_number" (defArgs s_law_number) (defBody s_law_number) (defScope s_law_number) .none kV2 dc2 pm2 an2 cd2 ct2, a_law_attempt := f3, d_law_attempt := PySem.W.fnOf "_law_attempt" "_law_attempt" (defArgs s_law_attempt) (defBody s_law_attempt) (defScope s_law_attempt) .none kV3 dc3 pm3 an3 cd3 ct3, a_law_transaction := f4, d_law_transaction := PySem.W.fnOf "_law_transaction" "_law_transaction" (defArgs s_law_transaction) (defBody s_law_transaction) (defScope s_law_transaction) .none kV4 dc4 pm4 an4 cd4 ct4, a_law_name := f5, d_law_name := PySem.W.fnOf "_law_name" "_law_name" (defArgs s_law_name) (defBody s_law_name) (defScope s_law_name) .none kV5 dc5 pm5 an5 cd5 ct5, a_law_key := f6, d_law_key := PySem.W.fnOf "_law_key" "_law_key" (defArgs s_law_key) (defBody s_law_key) (defScope s_law_key) .none kV6 dc6 pm6 an6 cd6 ct6, a_law_integer := f7, d_law_integer := PySem.W.fnOf "_law_integer" "_law_integer" (defArgs s_law_integer) (defBody s_law_integer) (defScope s_law_integer) .none kV7 dc7 pm7 an7 cd7 ct7, a_law_value := f8, d_law_value := PySem.W.fnOf "_law_value" "_law_value" (defArgs s_law_value) (defBody s_law_value) (defScope s_law_value) .none kV8 dc8 pm8 an8 cd8 ct8, a_law_mark := f9, d_law_mark := PySem.W.fnOf "_law_mark" "_law_mark" (defArgs s_law_mark) (defBody s_law_mark) (defScope s_law_mark) .none kV9 dc9 pm9 an9 cd9 ct9, a_law_marks_drawn := f10, d_law_marks_drawn := PySem.W.fnOf "_law_marks_drawn" "_law_marks_drawn" (defArgs s_law_marks_drawn) (defBody s_law_marks_drawn) (defScope s_law_marks_drawn) .none kV10 dc10 pm10 an10 cd10 ct10, a_law_drawn_body := f11, d_law_drawn_body := PySem.W.fnOf "_law_drawn_body" "_law_drawn_body" (defArgs s_law_drawn_body) (defBody s_law_drawn_body) (defScope s_law_drawn_body) .none kV11 dc11 pm11 an11 cd11 ct11, a_law_flag := f12, d_law_flag := PySem.W.fnOf "_law_flag" "_law_flag" (defArgs s_law_flag) (defBody s_law_flag) (defScope s_law_flag) .none kV12 dc12 pm12 an12 cd12 ct12, a_has_parts := f13, d_has_parts := PySem.W.fnOf "_has_parts" "_has_parts" (defArgs s_has_parts) (defBody s_has_parts) (defScope s_has_parts) .none kV13 dc13 pm13 an13 cd13 ct13, a_is_between := f14, d_is_between := PySem.W.fnOf "_is_between" "_is_between" (defArgs s_is_between) (defBody s_is_between) (defScope s_is_between) .none kV14 dc14 pm14 an14 cd14 ct14, a_is_count := f15, d_is_count := PySem.W.fnOf "_is_count" "_is_count" (defArgs s_is_count) (defBody s_is_count) (defScope s_is_count) .none kV15 dc15 pm15 an15 cd15 ct15, a_is_number := f16, d_is_number := PySem.W.fnOf "is_number" "is_number" (defArgs s_is_number) (defBody s_is_number) (defScope s_is_number) .none kV16 dc16 pm16 an16 cd16 ct16, a_is_transaction := f17, d_is_transaction := PySem.W.fnOf "is_transaction" "is_transaction" (defArgs s_is_transaction) (defBody s_is_transaction) (defScope s_is_transaction) .none kV17 dc17 pm17 an17 cd17 ct17, a_is_who := f18, d_is_who := PySem.W.fnOf "is_who" "is_who" (defArgs s_is_who) (defBody s_is_who) (defScope s_is_who) .none kV18 dc18 pm18 an18 cd18 ct18, a_is_name := f19, d_is_name := PySem.W.fnOf "is_name" "is_name" (defArgs s_is_name) (defBody s_is_name) (defScope s_is_name) .none kV19 dc19 pm19 an19 cd19 ct19, a_is_key := f20, d_is_key := PySem.W.fnOf "is_key" "is_key" (defArgs s_is_key) (defBody s_is_key) (defScope s_is_key) .none kV20 dc20 pm20 an20 cd20 ct20, a_is_value := f21, d_is_value := PySem.W.fnOf "is_value" "is_value" (defArgs s_is_value) (defBody s_is_value) (defScope s_is_value) .none kV21 dc21 pm21 an21 cd21 ct21, a_is_mark := f22, d_is_mark := PySem.W.fnOf "is_mark" "is_mark" (defArgs s_is_mark) (defBody s_is_mark) (defScope s_is_mark) .none kV22 dc22 pm22 an22 cd22 ct22, a_are_marks := f23, d_are_marks := PySem.W.fnOf "_are_marks" "_are_marks" (defArgs s_are_marks) (defBody s_are_marks) (defScope s_are_marks) .none kV23 dc23 pm23 an23 cd23 ct23, a_are_items := f24, d_are_items := PySem.W.fnOf "_are_items" "_are_items" (defArgs s_are_items) (defBody s_are_items) (defScope s_are_items) .none kV24 dc24 pm24 an24 cd24 ct24, a_is_body := f25, d_is_body := PySem.W.fnOf "is_body" "is_body" (defArgs s_is_body) (defBody s_is_body) (defScope s_is_body) .none kV25 dc25 pm25 an25 cd25 ct25, a_law_odd := f26, d_law_odd := PySem.W.fnOf "_law_odd" "_law_odd" (defArgs s_law_odd) (defBody s_law_odd) (defScope s_law_odd) .none kV26 dc26 pm26 an26 cd26 ct26, a_law_spoilt_body := f27, d_law_spoilt_body := PySem.W.fnOf "_law_spoilt_body" "_law_spoilt_body" (defArgs s_law_spoilt_body) (defBody s_law_spoilt_body) (defScope s_law_spoilt_body) .none kV27 dc27 pm27 an27 cd27 ct27, a_law_is_int := f28, d_law_is_int := PySem.W.fnOf "_law_is_int" "_law_is_int" (defArgs s_law_is_int) (defBody s_law_is_int) (defScope s_law_is_int) .none kV28 dc28 pm28 an28 cd28 ct28, a_law_is_transaction := f29, d_law_is_transaction := PySem.W.fnOf "_law_is_transaction" "_law_is_transaction" (defArgs s_law_is_transaction) (defBody s_law_is_transaction) (defScope s_law_is_transaction) .none kV29 dc29 pm29 an29 cd29 ct29, a_law_is_who := f30, d_law_is_who := PySem.W.fnOf "_law_is_who" "_law_is_who" (defArgs s_law_is_who) (defBody s_law_is_who) (defScope s_law_is_who) .none kV30 dc30 pm30 an30 cd30 ct30, a_law_is_name := f31, d_law_is_name := PySem.W.fnOf "_law_is_name" "_law_is_name" (defArgs s_law_is_name) (defBody s_law_is_name) (defScope s_law_is_name) .none kV31 dc31 pm31 an31 cd31 ct31, a_law_is_key := f32, d_law_is_key := PySem.W.fnOf "_law_is_key" "_law_is_key" (defArgs s_law_is_key) (defBody s_law_is_key) (defScope s_law_is_key) .none kV32 dc32 pm32 an32 cd32 ct32, a_law_is_mark := f33, d_law_is_mark := PySem.W.fnOf "_law_is_mark" "_law_is_mark" (defArgs s_law_is_mark) (defBody s_law_is_mark) (defScope s_law_is_mark) .none kV33 dc33 pm33 an33 cd33 ct33, a_law_is_marks := f34, d_law_is_marks := PySem.W.fnOf "_law_is_marks" "_law_is_marks" (defArgs s_law_is_marks) (defBody s_law_is_marks) (defScope s_law_is_marks) .none kV34 dc34 pm34 an34 cd34 ct34, a_law_is_body := f35, d_law_is_body := PySem.W.fnOf "_law_is_body" "_law_is_body" (defArgs s_law_is_body) (defBody s_law_is_body) (defScope s_law_is_body) .none kV35 dc35 pm35 an35 cd35 ct35, a_law_is_message := f36, d_law_is_message := PySem.W.fnOf "_law_is_message" "_law_is_message" (defArgs s_law_is_message) (defBody s_law_is_message) (defScope s_law_is_message) .none kV36 dc36 pm36 an36 cd36 ct36, a_is_message := f37, d_is_message := PySem.W.fnOf "is_message" "is_message" (defArgs s_is_message) (defBody s_is_message) (defScope s_is_message) .none kV37 dc37 pm37 an37 cd37 ct37, a_law := fa, d_law := PySem.W.fnOf "law" "law" (defArgs s_law) (defBody s_law) (defScope s_law) .none kV38 dc38 pm38 an38 cd38 ct38 } := { z_all := PySem.W.mg_none_of X G z_all, z_bool := PySem.W.mg_none_of X G z_bool, z_int := PySem.W.mg_none_of X G z_int, z_isinstance := PySem.W.mg_none_of X G z_isinstance, z_len := PySem.W.mg_none_of X G z_len, z_list := PySem.W.mg_none_of X G z_list, z_max := PySem.W.mg_none_of X G z_max, z_min := PySem.W.mg_none_of X G z_min, z_range := PySem.W.mg_none_of X G z_range, z_sorted := PySem.W.mg_none_of X G z_sorted, z_str := PySem.W.mg_none_of X G z_str, z_tuple := PySem.W.mg_none_of X G z_tuple, z_type := PySem.W.mg_none_of X G z_type, z_zip := PySem.W.mg_none_of X G z_zip, c_MOST_LETTERS := ⟨_, PySem.W.mg_of X G v_MOST_LETTERS⟩, c_MOST_NUMBER := ⟨_, PySem.W.mg_of X G v_MOST_NUMBER⟩, c_MOST_VALUE := ⟨_, PySem.W.mg_of X G v_MOST_VALUE⟩, d_LENGTHS := ⟨DG0, PySem.W.mg_of X G aG0, sG0, _, _, _, lG0, ⟨rfl, rfl, rfl⟩, rfl, (by rw [eG0]; exact (.cons (.cons (.cons (.cons (.cons (.cons (.cons (.cons (.cons .nil)))))))))), by decide +kernel⟩, F_law_stream := fun_mk (st := s_law_stream) l0 c0 k0, b_law_stream := (fun_mk (st := s_law_stream) l0 c0 k0).binds (ps := ["cell", "k"]) fun _ _ _ _ _ _ us hl => match us, hl with | [_, _], _ => rfl, g_law_stream := PySem.W.mg_of X G a0, F_law_next := fun_mk (st := s_law_next) l1 c1 k1, b_law_next := (fun_mk (st := s_law_next) l1 c1 k1).binds (ps := ["stream", "size"]) fun _ _ _ _ _ _ us hl => match us, hl with | [_, _], _ => rfl, g_law_next := PySem.W.mg_of X G a1, F_law_number := fun_mk (st := s_law_number) l2 c2 k2, b_law_number := (fun_mk (st := s_law_number) l2 c2 k2).binds (ps := ["stream"]) fun _ _ _ _ _ _ us hl => match us, hl with | [_], _ => rfl, g_law_number := PySem.W.mg_of X G a2, F_law_attempt := fun_mk (st := s_law_attempt) l3 c3 k3, b_law_attempt := (fun_mk (st := s_law_attempt) l3 c3 k3).binds (ps := ["stream"]) fun _ _ _ _ _ _ us hl => match us, hl with | [_], _ => rfl, g_law_attempt := PySem.W.mg_of X G a3, F_law_transaction := fun_mk (st := s_law_transaction) l4 c4 k4, b_law_transaction := (fun_mk (st := s_law_transaction) l4 c4 k4).binds (ps := ["stream"]) fun _ _ _ _ _ _ us hl => match us, hl with | [_], _ => rfl, g_law_transaction := PySem.W.mg_of X G a4, F_law_name := fun_mk (st := s_law_name) l5 c5 k5, b_law_name := (fun_mk (st := s_law_name) l5 c5 k5).binds (ps := ["stream"]) fun _ _ _ _ _ _ us hl => match us, hl with | [_], _ => rfl, g_law_name := PySem.W.mg_of X G a5, F_law_key := fun_mk (st := s_law_key) l6 c6 k6, b_law_key := (fun_mk (st := s_law_key) l6 c6 k6).binds (ps := ["stream"]) fun _ _ _ _ _ _ us hl => match us, hl with | [_], _ => rfl, g_law_key := PySem.W.mg_of X G a6, F_law_integer := fun_mk (st := s_law_integer) l7 c7 k7, b_law_integer := (fun_mk (st := s_law_integer) l7 c7 k7).binds (ps := ["stream"]) fun _ _ _ _ _ _ us hl => match us, hl with | [_], _ => rfl, g_law_integer := PySem.W.mg_of X G a7, F_law_value := fun_mk (st := s_law_value) l8 c8 k8, b_law_value := (fun_mk (st := s_law_value) l8 c8 k8).binds (ps := ["stream"]) fun _ _ _ _ _ _ us hl => match us, hl with | [_], _ => rfl, g_law_value := PySem.W.mg_of X G a8, F_law_mark := fun_mk (st := s_law_mark) l9 c9 k9, b_law_mark := (fun_mk (st := s_law_mark) l9 c9 k9).binds (ps := ["stream"]) fun _ _ _ _ _ _ us hl => match us, hl with | [_], _ => rfl, g_law_mark := PySem.W.mg_of X G a9, F_law_marks_drawn := fun_mk (st := s_law_marks_drawn) l10 c10 k10, b_law_marks_drawn := (fun_mk (st := s_law_marks_drawn) l10 c10 k10).binds (ps := ["stream"]) fun _ _ _ _ _ _ us hl => match us, hl with | [_], _ => rfl, g_law_marks_drawn := PySem.W.mg_of X G a10, F_law_drawn_body := fun_mk (st := s_law_drawn_body) l11 c11 k11, b_law_drawn_body := (fun_mk (st := s_law_drawn_body) l11 c11 k11).binds (ps := ["stream"]) fun _ _ _ _ _ _ us hl => match us, hl with | [_], _ => rfl, g_law_drawn_body := PySem.W.mg_of X G a11, F_law_flag := fun_mk (st := s_law_flag) l12 c12 k12, b_law_flag := (fun_mk (st := s_law_flag) l12 c12 k12).binds (ps := ["actual", "due"]) fun _ _ _ _ _ _ us hl => match us, hl with | [_, _], _ => rfl, g_law_flag := PySem.W.mg_of X G a12, F_has_parts := fun_mk (st := s_has_parts) l13 c13 k13, b_has_parts := (fun_mk (st := s_has_parts) l13 c13 k13).binds (ps := ["thing", "many"]) fun _ _ _ _ _ _ us hl => match us, hl with | [_, _], _ => rfl, g_has_parts := PySem.W.mg_of X G a13, F_is_between := fun_mk (st := s_is_between) l14 c14 k14, b_is_between := (fun_mk (st := s_is_between) l14 c14 k14).binds (ps := ["thing", "least", "most"]) fun _ _ _ _ _ _ us hl => match us, hl with | [_, _, _], _ => rfl, g_is_between := PySem.W.mg_of X G a14, F_is_count := fun_mk (st := s_is_count) l15 c15 k15, b_is_count := (fun_mk (st := s_is_count) l15 c15 k15).binds (ps := ["thing"]) fun _ _ _ _ _ _ us hl => match us, hl with | [_], _ => rfl, g_is_count := PySem.W.mg_of X G a15, F_is_number := fun_mk (st := s_is_number) l16 c16 k16, b_is_number := (fun_mk (st := s_is_number) l16 c16 k16).binds (ps := ["thing"]) fun _ _ _ _ _ _ us hl => match us, hl with | [_], _ => rfl, g_is_number := PySem.W.mg_of X G a16, F_is_transaction := fun_mk (st := s_is_transaction) l17 c17 k17, b_is_transaction := (fun_mk (st := s_is_transaction) l17 c17 k17).binds (ps := ["thing"]) fun _ _ _ _ _ _ us hl => match us, hl with | [_], _ => rfl, g_is_transaction := PySem.W.mg_of X G a17, F_is_who := fun_mk (st := s_is_who) l18 c18 k18, b_is_who := (fun_mk (st := s_is_who) l18 c18 k18).binds (ps := ["thing"]) fun _ _ _ _ _ _ us hl => match us, hl with | [_], _ => rfl, g_is_who := PySem.W.mg_of X G a18, F_is_name := fun_mk (st := s_is_name) l19 c19 k19, b_is_name := (fun_mk (st := s_is_name) l19 c19 k19).binds (ps := ["thing"]) fun _ _ _ _ _ _ us hl => match us, hl with | [_], _ => rfl, g_is_name := PySem.W.mg_of X G a19, F_is_key := fun_mk (st := s_is_key) l20 c20 k20, b_is_key := (fun_mk (st := s_is_key) l20 c20 k20).binds (ps := ["thing"]) fun _ _ _ _ _ _ us hl => match us, hl with | [_], _ => rfl, g_is_key := PySem.W.mg_of X G a20, F_is_value := fun_mk (st := s_is_value) l21 c21 k21, b_is_value := (fun_mk (st := s_is_value) l21 c21 k21).binds (ps := ["thing"]) fun _ _ _ _ _ _ us hl => match us, hl with | [_], _ => rfl, g_is_value := PySem.W.mg_of X G a21, F_is_mark := fun_mk (st := s_is_mark) l22 c22 k22, b_is_mark := (fun_mk (st := s_is_mark) l22 c22 k22).binds (ps := ["thing"]) fun _ _ _ _ _ _ us hl => match us, hl with | [_], _ => rfl, g_is_mark := PySem.W.mg_of X G a22, F_are_marks := fun_mk (st := s_are_marks) l23 c23 k23, b_are_marks := (fun_mk (st := s_are_marks) l23 c23 k23).binds (ps := ["thing"]) fun _ _ _ _ _ _ us hl => match us, hl with | [_], _ => rfl, g_are_marks := PySem.W.mg_of X G a23, F_are_items := fun_mk (st := s_are_items) l24 c24 k24, b_are_items := (fun_mk (st := s_are_items) l24 c24 k24).binds (ps := ["word", "items"]) fun _ _ _ _ _ _ us hl => match us, hl with | [_, _], _ => rfl, g_are_items := PySem.W.mg_of X G a24, F_is_body := fun_mk (st := s_is_body) l25 c25 k25, b_is_body := (fun_mk (st := s_is_body) l25 c25 k25).binds (ps := ["thing"]) fun _ _ _ _ _ _ us hl => match us, hl with | [_], _ => rfl, g_is_body := PySem.W.mg_of X G a25, F_law_odd := fun_mk (st := s_law_odd) l26 c26 k26, b_law_odd := (fun_mk (st := s_law_odd) l26 c26 k26).binds (ps := ["stream"]) fun _ _ _ _ _ _ us hl => match us, hl with | [_], _ => rfl, g_law_odd := PySem.W.mg_of X G a26, F_law_spoilt_body := fun_mk (st := s_law_spoilt_body) l27 c27 k27, b_law_spoilt_body := (fun_mk (st := s_law_spoilt_body) l27 c27 k27).binds (ps := ["body", "stream"]) fun _ _ _ _ _ _ us hl => match us, hl with | [_, _], _ => rfl, g_law_spoilt_body := PySem.W.mg_of X G a27, F_law_is_int := fun_mk (st := s_law_is_int) l28 c28 k28, b_law_is_int := (fun_mk (st := s_law_is_int) l28 c28 k28).binds (ps := ["thing", "least", "most"]) fun _ _ _ _ _ _ us hl => match us, hl with | [_, _, _], _ => rfl, g_law_is_int := PySem.W.mg_of X G a28, F_law_is_transaction := fun_mk (st := s_law_is_transaction) l29 c29 k29, b_law_is_transaction := (fun_mk (st := s_law_is_transaction) l29 c29 k29).binds (ps := ["thing"]) fun _ _ _ _ _ _ us hl => match us, hl with | [_], _ => rfl, g_law_is_transaction := PySem.W.mg_of X G a29, F_law_is_who := fun_mk (st := s_law_is_who) l30 c30 k30, b_law_is_who := (fun_mk (st := s_law_is_who) l30 c30 k30).binds (ps := ["thing"]) fun _ _ _ _ _ _ us hl => match us, hl with | [_], _ => rfl, g_law_is_who := PySem.W.mg_of X G a30, F_law_is_name := fun_mk (st := s_law_is_name) l31 c31 k31, b_law_is_name := (fun_mk (st := s_law_is_name) l31 c31 k31).binds (ps := ["thing"]) fun _ _ _ _ _ _ us hl => match us, hl with | [_], _ => rfl, g_law_is_name := PySem.W.mg_of X G a31, F_law_is_key := fun_mk (st := s_law_is_key) l32 c32 k32, b_law_is_key := (fun_mk (st := s_law_is_key) l32 c32 k32).binds (ps := ["thing"]) fun _ _ _ _ _ _ us hl => match us, hl with | [_], _ => rfl, g_law_is_key := PySem.W.mg_of X G a32, F_law_is_mark := fun_mk (st := s_law_is_mark) l33 c33 k33, b_law_is_mark := (fun_mk (st := s_law_is_mark) l33 c33 k33).binds (ps := ["thing"]) fun _ _ _ _ _ _ us hl => match us, hl with | [_], _ => rfl, g_law_is_mark := PySem.W.mg_of X G a33, F_law_is_marks := fun_mk (st := s_law_is_marks) l34 c34 k34, b_law_is_marks := (fun_mk (st := s_law_is_marks) l34 c34 k34).binds (ps := ["thing"]) fun _ _ _ _ _ _ us hl => match us, hl with | [_], _ => rfl, g_law_is_marks := PySem.W.mg_of X G a34, F_law_is_body := fun_mk (st := s_law_is_body) l35 c35 k35, b_law_is_body := (fun_mk (st := s_law_is_body) l35 c35 k35).binds (ps := ["thing"]) fun _ _ _ _ _ _ us hl => match us, hl with | [_], _ => rfl, g_law_is_body := PySem.W.mg_of X G a35, F_law_is_message := fun_mk (st := s_law_is_message) l36 c36 k36, b_law_is_message := (fun_mk (st := s_law_is_message) l36 c36 k36).binds (ps := ["thing"]) fun _ _ _ _ _ _ us hl => match us, hl with | [_], _ => rfl, g_law_is_message := PySem.W.mg_of X G a36, F_is_message := fun_mk (st := s_is_message) l37 c37 k37, b_is_message := (fun_mk (st := s_is_message) l37 c37 k37).binds (ps := ["thing"]) fun _ _ _ _ _ _ us hl => match us, hl with | [_], _ => rfl, g_is_message := PySem.W.mg_of X G a37, F_law := fun_mk (st := s_law) l38 c38 k38, b_law := (fun_mk (st := s_law) l38 c38 k38).binds (ps := ["script"]) fun _ _ _ _ _ _ us hl => match us, hl with | [_], _ => rfl, g_law := PySem.W.mg_of X G a38 }
  exact ⟨PySem.W.fnOf "law" "law" (defArgs s_law) (defBody s_law) (defScope s_law) .none kV38 dc38 pm38 an38 cd38 ct38, fun s v => .of_eq rfl, fun base _ _ => law_sp (ok_law GG) (main _)⟩
theorem walk {l : PySem.W.OpenLaw} {q : Program} {loose : List Str} {XP : (Str → Option Value) → Heap → Prop} {YP : World → Heap → Prop} {d : DefRec} {K : Params → PySem.W.Frag} (hn : l.most = some 63) (hdf : d.params.defaults = [])
    (hY : ∀ (w : World) (h : Heap), YP w h → (K w.params).In h)
    (F : ∀ (w : World) (mg : Str → Option Value) (fa : Addr) (h : Heap), (K w.params).In h → h.Ns mainGlobals mg → mg d.name = some (.ref fa) →
      ∃ fd : FuncData, (∀ (s : Shared) (u : Value), BindsTo s fd ⟨[u], []⟩ [("script", u)]) ∧ ∀ base : Heap, (K w.params).In base → base.Ns mainGlobals mg → FnOk l.prog w (K w.params) mg base CX0 10 fa fd ["script"] (spLaw (K w.params))) :
    PySem.W.WalkO q loose XP YP l.row.toRowW d [] (fun f vs => PySem.call f vs) :=
  L2.walk_ofB (n := 63) (k := 10) (x := "script") (CX := fun _ => CX0) (sp := fun w => spLaw (K w.params)) hn (by rw [sizeLine_eq]; decide) hdf ⟨rfl, by decide, by decide⟩ hY F (fun _ _ a ns hl hb hO hS => ⟨a, ns, rfl, hO, hS, hl, hb, fun _ => rfl⟩) fun _ _ _ _ _ z => z
end Qk26
open PySem PySem.W PyProof.Rows in
set_option maxRecDepth 100000 in
set_option maxHeartbeats 0 in
theorem PySem.Challenge.cw_ringloosed_k26_bodies_and_messages_holds : PySem.Challenge.rw_ringloosed_k26_bodies_and_messages.Holds := by
  w_on; o_law; k_head; (case hw => w_witness2)
  k_fill
  refine Qk26.walk (l := PySem.Challenge.rw_ringloosed_k26_bodies_and_messages) rfl rfl (fun w h Y => PySem.W.kIn_of Y) ?F
  case F =>
    intro w mg fa h KX G hmg
    refine' Qk26.all_mk KX G hmg Qk26.main_law ?aG0 ?sG0 ?lG0 ?a0 ?l0 ?c0 ?k0 ?a1 ?l1 ?c1 ?k1 ?a2 ?l2 ?c2 ?k2 ?a3 ?l3 ?c3 ?k3 ?a4 ?l4 ?c4 ?k4 ?a5 ?l5 ?c5 ?k5 ?a6 ?l6 ?c6 ?k6 ?a7 ?l7 ?c7 ?k7 ?a8 ?l8 ?c8 ?k8 ?a9 ?l9 ?c9 ?k9 ?a10 ?l10 ?c10 ?k10 ?a11 ?l11 ?c11 ?k11 ?a12 ?l12 ?c12 ?k12 ?a13 ?l13 ?c13 ?k13 ?a14 ?l14 ?c14 ?k14 ?a15 ?l15 ?c15 ?k15 ?a16 ?l16 ?c16 ?k16 ?a17 ?l17 ?c17 ?k17 ?a18 ?l18 ?c18 ?k18 ?a19 ?l19 ?c19 ?k19 ?a20 ?l20 ?c20 ?k20 ?a21 ?l21 ?c21 ?k21 ?a22 ?l22 ?c22 ?k22 ?a23 ?l23 ?c23 ?k23 ?a24 ?l24 ?c24 ?k24 ?a25 ?l25 ?c25 ?k25 ?a26 ?l26 ?c26 ?k26 ?a27 ?l27 ?c27 ?k27 ?a28 ?l28 ?c28 ?k28 ?a29 ?l29 ?c29 ?k29 ?a30 ?l30 ?c30 ?k30 ?a31 ?l31 ?c31 ?k31 ?a32 ?l32 ?c32 ?k32 ?a33 ?l33 ?c33 ?k33 ?a34 ?l34 ?c34 ?k34 ?a35 ?l35 ?c35 ?k35 ?a36 ?l36 ?c36 ?k36 ?a37 ?l37 ?c37 ?k37 ?a38 ?l38 ?c38 ?k38 ?z_all ?z_bool ?z_int ?z_isinstance ?z_len ?z_list ?z_max ?z_min ?z_range ?z_sorted ?z_str ?z_tuple ?z_type ?z_zip ?v_MOST_LETTERS ?v_MOST_NUMBER ?v_MOST_VALUE
    (case aG0 => k_is)
    (case sG0 => rfl)
    (case lG0 => k_is)
    (case a0 => k_is)
    (case l0 => k_is)
    (case c0 => k_is)
    (case k0 => k_is)
    (case a1 => k_is)
    (case l1 => k_is)
    (case c1 => k_is)
    (case k1 => k_is)
    (case a2 => k_is)
    (case l2 => k_is)
    (case c2 => k_is)
    (case k2 => k_is)
    (case a3 => k_is)
    (case l3 => k_is)
    (case c3 => k_is)
    (case k3 => k_is)
    (case a4 => k_is)
    (case l4 => k_is)
    (case c4 => k_is)
    (case k4 => k_is)
    (case a5 => k_is)
    (case l5 => k_is)
    (case c5 => k_is)
    (case k5 => k_is)
    (case a6 => k_is)
    (case l6 => k_is)
    (case c6 => k_is)
    (case k6 => k_is)
    (case a7 => k_is)
    (case l7 => k_is)
    (case c7 => k_is)
    (case k7 => k_is)
    (case a8 => k_is)
    (case l8 => k_is)
    (case c8 => k_is)
    (case k8 => k_is)
    (case a9 => k_is)
    (case l9 => k_is)
    (case c9 => k_is)
    (case k9 => k_is)
    (case a10 => k_is)
    (case l10 => k_is)
    (case c10 => k_is)
    (case k10 => k_is)
    (case a11 => k_is)
    (case l11 => k_is)
    (case c11 => k_is)
    (case k11 => k_is)
    (case a12 => k_is)
    (case l12 => k_is)
    (case c12 => k_is)
    (case k12 => k_is)
    (case a13 => k_is)
    (case l13 => k_is)
    (case c13 => k_is)
    (case k13 => k_is)
    (case a14 => k_is)
    (case l14 => k_is)
    (case c14 => k_is)
    (case k14 => k_is)
    (case a15 => k_is)
    (case l15 => k_is)
    (case c15 => k_is)
    (case k15 => k_is)
    (case a16 => k_is)
    (case l16 => k_is)
    (case c16 => k_is)
    (case k16 => k_is)
    (case a17 => k_is)
    (case l17 => k_is)
    (case c17 => k_is)
    (case k17 => k_is)
    (case a18 => k_is)
    (case l18 => k_is)
    (case c18 => k_is)
    (case k18 => k_is)
    (case a19 => k_is)
    (case l19 => k_is)
    (case c19 => k_is)
    (case k19 => k_is)
    (case a20 => k_is)
    (case l20 => k_is)
    (case c20 => k_is)
    (case k20 => k_is)
    (case a21 => k_is)
    (case l21 => k_is)
    (case c21 => k_is)
    (case k21 => k_is)
    (case a22 => k_is)
    (case l22 => k_is)
    (case c22 => k_is)
    (case k22 => k_is)
    (case a23 => k_is)
    (case l23 => k_is)
    (case c23 => k_is)
    (case k23 => k_is)
    (case a24 => k_is)
    (case l24 => k_is)
    (case c24 => k_is)
    (case k24 => k_is)
    (case a25 => k_is)
    (case l25 => k_is)
    (case c25 => k_is)
    (case k25 => k_is)
    (case a26 => k_is)
    (case l26 => k_is)
    (case c26 => k_is)
    (case k26 => k_is)
    (case a27 => k_is)
    (case l27 => k_is)
    (case c27 => k_is)
    (case k27 => k_is)
    (case a28 => k_is)
    (case l28 => k_is)
    (case c28 => k_is)
    (case k28 => k_is)
    (case a29 => k_is)
    (case l29 => k_is)
    (case c29 => k_is)
    (case k29 => k_is)
    (case a30 => k_is)
    (case l30 => k_is)
    (case c30 => k_is)
    (case k30 => k_is)
    (case a31 => k_is)
    (case l31 => k_is)
    (case c31 => k_is)
    (case k31 => k_is)
    (case a32 => k_is)
    (case l32 => k_is)
    (case c32 => k_is)
    (case k32 => k_is)
    (case a33 => k_is)
    (case l33 => k_is)
    (case c33 => k_is)
    (case k33 => k_is)
    (case a34 => k_is)
    (case l34 => k_is)
    (case c34 => k_is)
    (case k34 => k_is)
    (case a35 => k_is)
    (case l35 => k_is)
    (case c35 => k_is)
    (case k35 => k_is)
    (case a36 => k_is)
    (case l36 => k_is)
    (case c36 => k_is)
    (case k36 => k_is)
    (case a37 => k_is)
    (case l37 => k_is)
    (case c37 => k_is)
    (case k37 => k_is)
    (case a38 => k_is)
    (case l38 => k_is)
    (case c38 => k_is)
    (case k38 => k_is)
    (case z_all => k_is)
    (case z_bool => k_is)
    (case z_int => k_is)
    (case z_isinstance => k_is)
    (case z_len => k_is)
    (case z_list => k_is)
    (case z_max => k_is)
    (case z_min => k_is)
    (case z_range => k_is)
    (case z_sorted => k_is)
    (case z_str => k_is)
    (case z_tuple => k_is)
    (case z_type => k_is)
    (case z_zip => k_is)
    (case v_MOST_LETTERS => k_is)
    (case v_MOST_NUMBER => k_is)
    (case v_MOST_VALUE => k_is)
