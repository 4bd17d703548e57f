import PyProof.Rows.All
import Wide.All
import OpenK.AllK
import Wide.FinOn
import HandS.ForMost
import KE.KeyNested
import KE.KDictKeyed
import HandS.Wide
import HandS.Flow
import HandS.NoneIn
import HandS.IsInst
import HandS.More
import HandS.Deep
import HandS.Text
import HandS.TupAny
import HandS.TupLen
import HandS.TupLe
import HandS.EndBits
import KE.SortData
import KE.DataMinMax
import KE.DataFind
import HandS.SetFor
import HandS.Defaults
import HandS.MakeKw
import HandS.MakeKwOnly
import HandS.Conv
import HandS.Property
import KE.DataCmp
import KE.KDictSum
import KE.KDictList
import HandS.TupMul
import HandS.Iter
import HandS.DictComp
import KE.KDictPairs
import HandS.List
import HandS.Zip
import KE.KEqNest
import PySem.Challenge.RW_ringloosed_k35_replays_of_events
set_option Elab.async false
set_option linter.all false
set_option maxRecDepth 100000
set_option maxHeartbeats 4000000
/-! RF: a functional layer over the hand layer: a piece of Python is simulated by a Lean function over data and a store -/
namespace RF
open PySem L2

/-- data: tuples by value, lists, dicts and instances by their place in the store -/
inductive D where
  | non | bl (b : Bool) | int (i : Int) | str (x : Str) | ref (n : Nat) | rl (xs : List D) | tup (xs : List D)
  | kt (xs : List D) | exc (a : Addr)
inductive Cell where
  | lst (xs : List D) | dk (kvs : List (Key × D)) | dt (kvs : List (List Key × D)) | ins (C : Addr) (fs : List (Str × D))
  | dn (w : World) (kvs : List (NestedKey × D))
  | df (w : World) (kvs : List (NestedKey × D))
  | tp (xs : List D) | jk
abbrev Sto := List Cell
abbrev Lc := List (Option D)
/-- an outcome: a value and the store; an own exception of the class at c; anything else -/
inductive R (α : Type) where
  | ok (a : α) (S : Sto) | ex (c : Addr) (S : Sto) | bad
def R.bind {α β : Type} (x : R α) (k : α → Sto → R β) : R β := match x with
  | .ok a S => k a S
  | .ex c S => .ex c S
  | .bad => .bad
@[simp] theorem R.bind_ok {α β : Type} (a : α) (S : Sto) (k : α → Sto → R β) : (R.ok a S).bind k = k a S := (rfl)
@[simp] theorem R.bind_ex {α β : Type} (c : Addr) (S : Sto) (k : α → Sto → R β) : (R.ex c S : R α).bind k = .ex c S := (rfl)
@[simp] theorem R.bind_bad {α β : Type} (k : α → Sto → R β) : (R.bad : R α).bind k = .bad := (rfl)

/-! ### what stands for what -/
mutual
inductive RD (K : PySem.W.Frag) (L : List Addr) (H : Hp) : V → D → Prop
  | non : RD K L H .non .non
  | bl (b : Bool) : RD K L H (.bl b) (.bl b)
  | int (i : Int) : RD K L H (.int i) (.int i)
  | str (x : Str) : RD K L H (.str x) (.str x)
  | ref {a : Addr} {n : Nat} : L[n]? = some a → RD K L H (.ref a) (.ref n)
  | rl {a : Addr} {vs : List V} {ds : List D} : (∀ H1 : Hp, (∀ o xs, H a = some (.frz o (.lst xs)) → H1 a = some (.frz o (.lst xs))) → SqL K H1 a vs) → RDs K L H vs ds → RD K L H (.ref a) (.rl ds)
  | tup {a : Addr} {vs : List V} {ds : List D} : H a = some (.tup vs) → RDs K L H vs ds → RD K L H (.ref a) (.tup ds)
  | kt {a : Addr} {vs : List V} {ds : List D} : (∀ H1 : Hp, SqT K H1 a vs) → RDs K L H vs ds → RD K L H (.ref a) (.kt ds)
  | exc (a : Addr) : RD K L H (.ref a) (.exc a)
inductive RDs (K : PySem.W.Frag) (L : List Addr) (H : Hp) : List V → List D → Prop
  | nil : RDs K L H [] []
  | cons {v : V} {vs : List V} {d : D} {ds : List D} : RD K L H v d → RDs K L H vs ds → RDs K L H (v :: vs) (d :: ds)
end
/-- the store and what is tracked may have grown or changed within the store -/
structure Gr (L : List Addr) (H : Hp) (L1 : List Addr) (H1 : Hp) : Prop where
  px : ∀ (n : Nat) a, L[n]? = some a → L1[n]? = some a
  tp : ∀ a xs, H a = some (.tup xs) → H1 a = some (.tup xs)
  fz : ∀ a o xs, H a = some (.frz o (.lst xs)) → H1 a = some (.frz o (.lst xs))
structure Ex (L : List Addr) (H : Hp) (L1 : List Addr) (H1 : Hp) : Prop where
  px : ∀ (n : Nat) a, L[n]? = some a → L1[n]? = some a
  nw : ∀ a ∈ L1, a ∈ L ∨ H a = none
  fr : ∀ a o, a ∉ L → H a = some o → H1 a = some o
  tp : ∀ a xs, H a = some (.tup xs) → H1 a = some (.tup xs)
  fz : ∀ a o u, H a = some (.frz o u) → H1 a = some (.frz o u)
theorem Ex.gr {L L1 : List Addr} {H H1 : Hp} (e : Ex L H L1 H1) : Gr L H L1 H1 := ⟨e.px, e.tp, fun a o _ => e.fz a o _⟩
theorem Ex.refl (L : List Addr) (H : Hp) : Ex L H L H := ⟨fun _ _ h => h, fun _ h => .inl h, fun _ _ _ h => h, fun _ _ h => h, fun _ _ _ h => h⟩
theorem Ex.trans {L L1 L2 : List Addr} {H H1 H2 : Hp} (a : Ex L H L1 H1) (b : Ex L1 H1 L2 H2) : Ex L H L2 H2 where
  px := fun n x h => b.px n x (a.px n x h)
  nw := fun x h => by
    rcases b.nw x h with h | h
    · exact a.nw x h
    · by_cases hx : x ∈ L
      · exact .inl hx
      · refine .inr ?_
        cases q : H x with
        | none => rfl
        | some o => rw [a.fr x o hx q] at h; cases h
  fr := fun x o hx h => by
    refine b.fr x o (fun z => ?_) (a.fr x o hx h)
    rcases a.nw x z with z | z
    · exact hx z
    · rw [h] at z; cases z
  tp := fun x xs h => b.tp x xs (a.tp x xs h)
  fz := fun x o u h => b.fz x o u (a.fz x o u h)
mutual
theorem RD.grow {K : PySem.W.Frag} {L L1 : List Addr} {H H1 : Hp} (e : Gr L H L1 H1) : ∀ {v : V} {d : D}, RD K L H v d → RD K L1 H1 v d
  | _, _, .non => .non
  | _, _, .bl b => .bl b
  | _, _, .int i => .int i
  | _, _, .str x => .str x
  | _, _, .ref h => .ref (e.px _ _ h)
  | _, _, .rl h r => .rl (fun H2 k => h H2 fun o xs q => k o xs (e.fz _ o xs q)) (RDs.grow e r)
  | _, _, .tup h r => .tup (e.tp _ _ h) (RDs.grow e r)
  | _, _, .kt h r => .kt h (RDs.grow e r)
  | _, _, .exc a => .exc a
theorem RDs.grow {K : PySem.W.Frag} {L L1 : List Addr} {H H1 : Hp} (e : Gr L H L1 H1) : ∀ {v : List V} {d : List D}, RDs K L H v d → RDs K L1 H1 v d
  | _, _, .nil => .nil
  | _, _, .cons a b => .cons (RD.grow e a) (RDs.grow e b)
end
theorem RD.mono {K : PySem.W.Frag} {L L1 : List Addr} {H H1 : Hp} (e : Ex L H L1 H1) {v : V} {d : D} (h : RD K L H v d) : RD K L1 H1 v d := RD.grow e.gr h
theorem RDs.mono {K : PySem.W.Frag} {L L1 : List Addr} {H H1 : Hp} (e : Ex L H L1 H1) {v : List V} {d : List D} (h : RDs K L H v d) : RDs K L1 H1 v d := RDs.grow e.gr h
theorem RDs.length {K : PySem.W.Frag} {L : List Addr} {H : Hp} : ∀ {vs : List V} {ds : List D}, RDs K L H vs ds → vs.length = ds.length
  | _, _, .nil => rfl
  | _, _, .cons _ b => by rw [List.length_cons, List.length_cons, b.length]
theorem RDs.get {K : PySem.W.Frag} {L : List Addr} {H : Hp} : ∀ {vs : List V} {ds : List D} {i : Nat} {d : D}, RDs K L H vs ds → ds[i]? = some d → ∃ v, vs[i]? = some v ∧ RD K L H v d
  | _, _, _, _, .nil, h => by simp at h
  | _, _, 0, _, .cons a b, h => by simp at h; subst h; exact ⟨_, rfl, a⟩
  | _, _, i + 1, _, .cons a b, h => by
    obtain ⟨v, h1, h2⟩ := RDs.get (i := i) b (by simpa using h)
    exact ⟨v, by simpa using h1, h2⟩
theorem RDs.append {K : PySem.W.Frag} {L : List Addr} {H : Hp} : ∀ {vs ws : List V} {ds es : List D}, RDs K L H vs ds → RDs K L H ws es → RDs K L H (vs ++ ws) (ds ++ es)
  | _, _, _, _, .nil, h => h
  | _, _, _, _, .cons a b, h => .cons a (RDs.append b h)
theorem RDs.set {K : PySem.W.Frag} {L : List Addr} {H : Hp} {v : V} {d : D} (r : RD K L H v d) : ∀ {vs : List V} {ds : List D} (i : Nat), RDs K L H vs ds → RDs K L H (vs.set i v) (ds.set i d)
  | _, _, _, .nil => .nil
  | _, _, 0, .cons _ b => .cons r b
  | _, _, i + 1, .cons a b => .cons a (RDs.set r i b)
theorem RDs.take {K : PySem.W.Frag} {L : List Addr} {H : Hp} : ∀ {vs : List V} {ds : List D} (n : Nat), RDs K L H vs ds → RDs K L H (vs.take n) (ds.take n)
  | _, _, 0, _ => .nil
  | _, _, _ + 1, .nil => .nil
  | _, _, n + 1, .cons a b => .cons a (RDs.take n b)
theorem RDs.drop {K : PySem.W.Frag} {L : List Addr} {H : Hp} : ∀ {vs : List V} {ds : List D} (n : Nat), RDs K L H vs ds → RDs K L H (vs.drop n) (ds.drop n)
  | _, _, 0, h => h
  | _, _, _ + 1, .nil => .nil
  | _, _, n + 1, .cons _ b => RDs.drop n b
theorem RDs.eraseIdx {K : PySem.W.Frag} {L : List Addr} {H : Hp} : ∀ {vs : List V} {ds : List D} (n : Nat), RDs K L H vs ds → RDs K L H (vs.eraseIdx n) (ds.eraseIdx n)
  | _, _, _, .nil => .nil
  | _, _, 0, .cons _ b => b
  | _, _, n + 1, .cons a b => .cons a (RDs.eraseIdx n b)
/-- named parts -/
def RK {κ : Type} (K : PySem.W.Frag) (L : List Addr) (H : Hp) : List (κ × V) → List (κ × D) → Prop
  | [], [] => True
  | p :: ps, q :: qs => p.1 = q.1 ∧ RD K L H p.2 q.2 ∧ RK K L H ps qs
  | _, _ => False
theorem RK.grow {κ : Type} {K : PySem.W.Frag} {L L1 : List Addr} {H H1 : Hp} (e : Gr L H L1 H1) : ∀ {ps : List (κ × V)} {qs : List (κ × D)}, RK K L H ps qs → RK K L1 H1 ps qs
  | [], [], _ => trivial
  | p :: ps, q :: qs, ⟨a, b, c⟩ => ⟨a, b.grow e, RK.grow e c⟩
  | [], _ :: _, h => h.elim
  | _ :: _, [], h => h.elim
theorem RK.mono {κ : Type} {K : PySem.W.Frag} {L L1 : List Addr} {H H1 : Hp} (e : Ex L H L1 H1) {ps : List (κ × V)} {qs : List (κ × D)} (h : RK K L H ps qs) : RK K L1 H1 ps qs := RK.grow e.gr h
theorem RK.length {κ : Type} {K : PySem.W.Frag} {L : List Addr} {H : Hp} : ∀ {ps : List (κ × V)} {qs : List (κ × D)}, RK K L H ps qs → ps.length = qs.length
  | [], [], _ => rfl
  | p :: ps, q :: qs, ⟨_, _, c⟩ => by rw [List.length_cons, List.length_cons, RK.length c]
  | [], _ :: _, h => h.elim
  | _ :: _, [], h => h.elim
theorem RK.lookup {κ : Type} [BEq κ] [LawfulBEq κ] {K : PySem.W.Frag} {L : List Addr} {H : Hp} (k : κ) : ∀ {ps : List (κ × V)} {qs : List (κ × D)}, RK K L H ps qs → (qs.lookup k = none ∧ ps.lookup k = none) ∨ ∃ v d, qs.lookup k = some d ∧ ps.lookup k = some v ∧ RD K L H v d
  | [], [], _ => .inl ⟨rfl, rfl⟩
  | (a, v) :: ps, (b, d) :: qs, ⟨e, r, c⟩ => by
    have e : a = b := e
    subst e
    rw [List.lookup_cons, List.lookup_cons]
    cases q : k == a with
    | true => exact .inr ⟨v, d, rfl, rfl, r⟩
    | false => exact RK.lookup k c
  | [], _ :: _, h => h.elim
  | _ :: _, [], h => h.elim

/-! ### dicts whose keys are tuples, nested -/
mutual
/-- the value is the key, by what is tracked -/
inductive NK (H : Hp) : NestedKey → V → Prop
  | none : NK H .none .non
  | num (i : Int) : NK H (.num i) (.int i)
  | text (x : Str) : NK H (.text x) (.str x)
  | tup {a : Addr} {vs : List V} {ks : List NestedKey} : H a = some (.tup vs) → NKs H ks vs → NK H (.tup ks) (.ref a)
inductive NKs (H : Hp) : List NestedKey → List V → Prop
  | nil : NKs H [] []
  | cons {k : NestedKey} {v : V} {ks : List NestedKey} {vs : List V} : NK H k v → NKs H ks vs → NKs H (k :: ks) (v :: vs)
end
mutual
theorem NK.grow {H H1 : Hp} (e : ∀ a xs, H a = some (.tup xs) → H1 a = some (.tup xs)) : ∀ {k : NestedKey} {v : V}, NK H k v → NK H1 k v
  | _, _, .none => .none
  | _, _, .num i => .num i
  | _, _, .text x => .text x
  | _, _, .tup h r => .tup (e _ _ h) (NKs.grow e r)
theorem NKs.grow {H H1 : Hp} (e : ∀ a xs, H a = some (.tup xs) → H1 a = some (.tup xs)) : ∀ {ks : List NestedKey} {vs : List V}, NKs H ks vs → NKs H1 ks vs
  | _, _, .nil => .nil
  | _, _, .cons a b => .cons (NK.grow e a) (NKs.grow e b)
end
abbrev ZN := NestedKey × Addr × V
def ZX (p : ZN) (q : NestedKey × Addr × Value) : Prop := p.1 = q.1 ∧ p.2.1 = q.2.1 ∧ RelV p.2.2 q.2.2
/-- a dict with such keys, by its one object -/
def dnO (w : World) (a : Addr) (zs : List ZN) : HO := .ext fun h => (a == sysModules) = false ∧ zs.length ≤ sizeLine ∧ ∃ xs : List (NestedKey × Addr × Value), Paired ZX zs xs ∧
  ∃ o es ep, h.get? a = some o ∧ o.ExactDict ∧ o.data = .dict es ep ∧ es.toList = xs.map (fun x => (⟨x.1.hash w, .ref x.2.1, x.2.2⟩ : DictEntry)) ∧ (xs.map (·.1)).Nodup
/-- a tuple of which the whole object is known -/
def tpO (a : Addr) (vs : List V) : HO := .ext fun h => vs.length ≤ sizeLine ∧ ∃ its : List Value, Vals vs its ∧ h.get? a = some { cls := .type "tuple", data := .seq its.toArray }
/-- an object of which nothing is known -/
def jkO : HO := .ext fun _ => True
/-- its entries -/
def RN (K : PySem.W.Frag) (L : List Addr) (H : Hp) : List ZN → List (NestedKey × D) → Prop
  | [], [] => True
  | p :: ps, q :: qs => p.1 = q.1 ∧ (NK H p.1 (.ref p.2.1) ∧ p.1.depth ≤ 8) ∧ RD K L H p.2.2 q.2 ∧ RN K L H ps qs
  | _, _ => False
theorem RN.grow {K : PySem.W.Frag} {L L1 : List Addr} {H H1 : Hp} (e : Gr L H L1 H1) : ∀ {ps : List ZN} {qs : List (NestedKey × D)}, RN K L H ps qs → RN K L1 H1 ps qs
  | [], [], _ => trivial
  | p :: ps, q :: qs, ⟨a, b, c, d⟩ => ⟨a, ⟨b.1.grow e.tp, b.2⟩, c.grow e, RN.grow e d⟩
  | [], _ :: _, h => h.elim
  | _ :: _, [], h => h.elim

/-- what stands at the address of a cell -/
def RC (K : PySem.W.Frag) (L : List Addr) (H : Hp) (a : Addr) : Cell → Prop
  | .lst ds => ∃ vs, H a = some (.lst vs) ∧ RDs K L H vs ds
  | .dk kvs => ∃ ws, H a = some (.dK ws) ∧ RK K L H ws kvs
  | .dt kvs => ∃ ws, H a = some (.dT ws) ∧ RK K L H ws kvs
  | .ins C fs => ∃ dx ws, H a = some (.ins C dx ws) ∧ RK K L H ws fs
  | .dn w kvs => ∃ zs, H a = some (dnO w a zs) ∧ RN K L H zs kvs
  | .df w kvs => ∃ od zs, H a = some (.frz od (dnO w a zs)) ∧ RN K L H zs kvs
  | .tp ds => ∃ vs, H a = some (tpO a vs) ∧ RDs K L H vs ds
  | .jk => H a = some jkO
structure Rep (K : PySem.W.Frag) (L : List Addr) (H : Hp) (S : Sto) : Prop where
  len : L.length = S.length
  nd : L.Nodup
  cel : ∀ (n : Nat) a c, L[n]? = some a → S[n]? = some c → RC K L H a c
section
variable {K : PySem.W.Frag} {L L1 : List Addr} {H H1 : Hp} {S S1 : Sto} {a p : Addr} {o : HO} {c : Cell} {n : Nat} {E : XK}
theorem RC.some (r : RC K L H a c) : ∃ o, H a = some o ∧ ∀ xs, o ≠ .tup xs := by
  cases c with
  | lst _ => obtain ⟨_, h, _⟩ := r; exact ⟨_, h, fun _ z => nomatch z⟩
  | dk _ => obtain ⟨_, h, _⟩ := r; exact ⟨_, h, fun _ z => nomatch z⟩
  | dt _ => obtain ⟨_, h, _⟩ := r; exact ⟨_, h, fun _ z => nomatch z⟩
  | ins _ _ => obtain ⟨_, _, h, _⟩ := r; exact ⟨_, h, fun _ z => nomatch z⟩
  | dn _ _ => obtain ⟨_, h, _⟩ := r; exact ⟨_, h, fun _ z => nomatch z⟩
  | df _ _ => obtain ⟨_, _, h, _⟩ := r; exact ⟨_, h, fun _ z => nomatch z⟩
  | tp _ => obtain ⟨_, h, _⟩ := r; exact ⟨_, h, fun _ z => nomatch z⟩
  | jk => exact ⟨_, r, fun _ z => nomatch z⟩
/-- what may be written -/
def Wr (H : Hp) (a : Addr) : Prop := ∃ u, H a = some u ∧ Mut (some u)
theorem RC.grow (r : RC K L H a c) (e : Gr L H L1 H1) (h : H1 a = H a) : RC K L1 H1 a c := by
  cases c with
  | lst _ => obtain ⟨vs, q, t⟩ := r; exact ⟨vs, h.trans q, t.grow e⟩
  | dk _ => obtain ⟨vs, q, t⟩ := r; exact ⟨vs, h.trans q, t.grow e⟩
  | dt _ => obtain ⟨vs, q, t⟩ := r; exact ⟨vs, h.trans q, t.grow e⟩
  | ins _ _ => obtain ⟨dx, vs, q, t⟩ := r; exact ⟨dx, vs, h.trans q, t.grow e⟩
  | dn _ _ => obtain ⟨vs, q, t⟩ := r; exact ⟨vs, h.trans q, t.grow e⟩
  | df _ _ => obtain ⟨od, vs, q, t⟩ := r; exact ⟨od, vs, h.trans q, t.grow e⟩
  | tp _ => obtain ⟨vs, q, t⟩ := r; exact ⟨vs, h.trans q, t.grow e⟩
  | jk => exact h.trans r
theorem RC.mono (r : RC K L H a c) (e : Ex L H L1 H1) (h : H1 a = H a) : RC K L1 H1 a c := r.grow e.gr h
theorem Rep.adr (r : Rep K L H S) (h : L[n]? = some a) : ∃ c, S[n]? = some c ∧ RC K L H a c := by
  have hn : n < S.length := by rw [← r.len]; exact (List.getElem?_eq_some_iff.mp h).1
  exact ⟨S[n], List.getElem?_eq_getElem hn, r.cel n a _ h (List.getElem?_eq_getElem hn)⟩
theorem Rep.at (r : Rep K L H S) (h : S[n]? = some c) : ∃ a, L[n]? = some a ∧ RC K L H a c := by
  have hn : n < L.length := by rw [r.len]; exact (List.getElem?_eq_some_iff.mp h).1
  exact ⟨L[n], List.getElem?_eq_getElem hn, r.cel n _ c (List.getElem?_eq_getElem hn) h⟩
theorem Rep.there (r : Rep K L H S) (h : a ∈ L) : ∃ o, H a = some o ∧ ∀ xs, o ≠ .tup xs := by
  obtain ⟨n, hn, rfl⟩ := List.mem_iff_getElem.mp h
  obtain ⟨c, _, q⟩ := r.adr (List.getElem?_eq_getElem hn)
  exact q.some
theorem Rep.fresh (r : Rep K L H S) (h : H p = none) : p ∉ L := fun z => by
  obtain ⟨o, q, _⟩ := r.there z
  rw [h] at q; cases q
theorem Wr.of {u : HO} (h : H a = some u) (m : Mut (some u)) : Wr H a := ⟨u, h, m⟩
theorem Wr.notup (h : Wr H a) : (∀ xs, H a ≠ some (.tup xs)) ∧ ∀ o u, H a ≠ some (.frz o u) := by
  obtain ⟨o, q, m⟩ := h
  refine ⟨fun xs z => ?_, fun o' u z => ?_⟩
  · rw [q] at z; cases z; exact m
  · rw [q] at z; cases z; exact m
/-- a new object that is no cell -/
theorem Ex.new (h : H p = none) : Ex L H L (upd H p o) :=
  ⟨fun _ _ h => h, fun _ h => .inl h, fun b u _ q => (upd_ne (ne_of_none q h)).trans q, fun b xs q => (upd_ne (ne_of_none q h)).trans q, fun b ob u q => (upd_ne (ne_of_none q h)).trans q⟩
theorem Ex.newc (h : H p = none) : Ex L H (L ++ [p]) (upd H p o) where
  px := fun n b q => by
    have hn := (List.getElem?_eq_some_iff.mp q).1
    rw [List.getElem?_append_left hn]; exact q
  nw := fun b q => by
    rcases List.mem_append.mp q with q | q
    · exact .inl q
    · rw [List.mem_singleton.mp q]; exact .inr h
  fr := fun b u _ q => (upd_ne (ne_of_none q h)).trans q
  tp := fun b xs q => (upd_ne (ne_of_none q h)).trans q
  fz := fun b ob u q => (upd_ne (ne_of_none q h)).trans q
theorem Ex.wr (r : Wr H a) (h : a ∈ L) : Ex L H L (upd H a o) where
  px := fun _ _ q => q
  nw := fun _ q => .inl q
  fr := fun b u hb q => (upd_ne (fun z => hb (by rw [z]; exact h))).trans q
  tp := fun b xs q => (upd_ne (fun z => r.notup.1 xs (by rw [← z]; exact q))).trans q
  fz := fun b ob u q => (upd_ne (fun z => r.notup.2 ob u (by rw [← z]; exact q))).trans q
theorem Rep.new (r : Rep K L H S) (h : H p = none) : Rep K L (upd H p o) S :=
  ⟨r.len, r.nd, fun n b c h1 h2 => (r.cel n b c h1 h2).mono (Ex.new h) (upd_ne fun z => r.fresh h (z ▸ List.mem_of_getElem? h1))⟩
theorem Rep.newc (r : Rep K L H S) (h : H p = none) (hc : RC K (L ++ [p]) (upd H p o) p c) : Rep K (L ++ [p]) (upd H p o) (S ++ [c]) where
  len := by rw [List.length_append, List.length_append, r.len]; rfl
  nd := by
    rw [List.nodup_append]
    refine ⟨r.nd, by simp, fun b hb d hd e => ?_⟩
    rw [List.mem_singleton] at hd
    subst hd; subst e
    exact r.fresh h hb
  cel := fun n b c' h1 h2 => by
    by_cases hn : n < L.length
    · rw [List.getElem?_append_left hn] at h1
      rw [List.getElem?_append_left (by rw [← r.len]; exact hn)] at h2
      exact (r.cel n b c' h1 h2).mono (Ex.newc h) (upd_ne fun z => r.fresh h (z ▸ List.mem_of_getElem? h1))
    · rw [List.getElem?_append_right (Nat.le_of_not_lt hn)] at h1
      rw [List.getElem?_append_right (by rw [← r.len]; exact Nat.le_of_not_lt hn)] at h2
      rw [← r.len] at h2
      have e : n - L.length = 0 := by
        have := (List.getElem?_eq_some_iff.mp h1).1
        simp at this; omega
      rw [e] at h1 h2
      simp at h1 h2
      subst h1; subst h2
      exact hc
theorem Rep.wr (r : Rep K L H S) (hmw : Wr H a) (h : L[n]? = some a) (hc : RC K L (upd H a o) a c) : Rep K L (upd H a o) (S.set n c) where
  len := by rw [List.length_set, r.len]
  nd := r.nd
  cel := fun m b c' h1 h2 => by
    by_cases hm : n = m
    · subst hm
      rw [h] at h1; cases h1
      have hn : n < S.length := by rw [← r.len]; exact (List.getElem?_eq_some_iff.mp h).1
      rw [List.getElem?_set_self hn] at h2
      cases h2
      exact hc
    · rw [List.getElem?_set_ne hm] at h2
      refine (r.cel m b c' h1 h2).mono (Ex.wr hmw (List.mem_of_getElem? h)) (upd_ne fun z => hm ?_)
      obtain ⟨l1, e1⟩ := List.getElem?_eq_some_iff.mp h
      obtain ⟨l2, e2⟩ := List.getElem?_eq_some_iff.mp h1
      exact (List.getElem_inj r.nd).mp (e1.trans (z.symm.trans e2.symm))

/-! ### outcomes -/
def End {α : Type} (K : PySem.W.Frag) (E : XK) (L : List Addr) (H : Hp) (Q : α → Sto → List Addr → Hp → Prop) : R α → Prop
  | .ok a S => ∀ L1 H1, Ex L H L1 H1 → Rep K L1 H1 S → Q a S L1 H1
  | .ex c S => ∀ L1 H1, Ex L H L1 H1 → Rep K L1 H1 S → E (.ref c) none H1
  | .bad => False
variable {α β : Type} {Q Q' : α → Sto → List Addr → Hp → Prop} {x : R α}
theorem End.later (h : End K E L H Q x) (e : Ex L H L1 H1) : End K E L1 H1 Q x := by
  cases x with
  | ok b T => exact fun L2 H2 e2 r => h L2 H2 (e.trans e2) r
  | ex b T => exact fun L2 H2 e2 r => h L2 H2 (e.trans e2) r
  | bad => exact h
theorem End.imp (h : End K E L H Q x) (k : ∀ a S1 L1 H1, Ex L H L1 H1 → Rep K L1 H1 S1 → Q a S1 L1 H1 → Q' a S1 L1 H1) : End K E L H Q' x := by
  cases x with
  | ok b T => exact fun L2 H2 e2 r => k _ _ _ _ e2 r (h L2 H2 e2 r)
  | ex b T => exact h
  | bad => exact h
theorem End.imp' (h : End K E L H Q x) (k : ∀ a S1 L1 H1, x = .ok a S1 → Ex L H L1 H1 → Rep K L1 H1 S1 → Q a S1 L1 H1 → Q' a S1 L1 H1) : End K E L H Q' x := by
  cases x with
  | ok b T => exact fun L2 H2 e2 r => k _ _ _ _ rfl e2 r (h L2 H2 e2 r)
  | ex b T => exact h
  | bad => exact h
theorem End.bind {Q : β → Sto → List Addr → Hp → Prop} {k : α → Sto → R β} (h : End K E L H Q (x.bind k)) : End K E L H (fun a S1 L1 H1 => End K E L1 H1 Q (k a S1)) x := by
  cases x with
  | ok b T => exact fun L2 H2 e2 r => End.later h e2
  | ex b T => exact h
  | bad => exact h
/-- a value comes back -/
abbrev EndV (K : PySem.W.Frag) (E : XK) (L : List Addr) (H : Hp) (Q : VK) (x : R D) : Prop := End K E L H (fun d _ L1 H1 => ∀ v, RD K L1 H1 v d → Q v H1) x
theorem EndV.val {Q : VK} {d : D} {v : V} (h : EndV K E L H Q (.ok d S)) (r : Rep K L H S) (rv : RD K L H v d) : Q v H := h L H (Ex.refl L H) r v rv
end

/-- the names' values -/
structure RE (K : PySem.W.Frag) (L : List Addr) (H : Hp) (σ : St) (env : Lc) : Prop where
  len : σ.length = env.length
  val : ∀ (i : Nat) d, env[i]? = some (some d) → ∃ v, σ[i]? = some (some v) ∧ RD K L H v d
section
variable {K : PySem.W.Frag} {L L1 : List Addr} {H H1 : Hp} {σ : St} {env : Lc}
theorem RE.mono (r : RE K L H σ env) (e : Ex L H L1 H1) : RE K L1 H1 σ env := ⟨r.len, fun i d h => let ⟨v, h1, h2⟩ := r.val i d h; ⟨v, h1, h2.mono e⟩⟩
theorem RE.set {i : Nat} {v : V} {d : D} (r : RE K L H σ env) (rv : RD K L H v d) : RE K L H (σ.set i (some v)) (env.set i (some d)) := by
  refine ⟨by rw [List.length_set, List.length_set, r.len], fun j e h => ?_⟩
  by_cases hj : i = j
  · subst hj
    by_cases hi : i < env.length
    · rw [List.getElem?_set_self hi] at h
      cases h
      exact ⟨v, List.getElem?_set_self (by rw [r.len]; exact hi), rv⟩
    · rw [List.getElem?_eq_none (by rw [List.length_set]; exact Nat.le_of_not_lt hi)] at h
      cases h
  · rw [List.getElem?_set_ne hj] at h ⊢
    exact r.val j e h
end
end RF

namespace RF
open PySem L2

abbrev EF := Lc → Sto → R D
abbrev BF := Lc → Sto → R Bool
abbrev AF := Lc → Sto → R (List D)
inductive Fl where
  | nx (e : Lc) | rt (d : D) | bk (e : Lc) | ct (e : Lc)
abbrev SF := Lc → Sto → R Fl

def tE (K : PySem.W.Frag) (E : XK) (f : EF) : TE := fun σ H Q => ∃ L env S, Rep K L H S ∧ RE K L H σ env ∧ EndV K E L H Q (f env S)
def tT (K : PySem.W.Frag) (E : XK) (f : BF) : TT := fun σ H Q => ∃ L env S, Rep K L H S ∧ RE K L H σ env ∧ End K E L H (fun b _ _ H1 => Q b H1) (f env S)
def tA (K : PySem.W.Frag) (E : XK) (f : AF) : TA := fun σ H Q => ∃ L env S, Rep K L H S ∧ RE K L H σ env ∧ End K E L H (fun ds _ L1 H1 => ∀ vs, RDs K L1 H1 vs ds → Q vs H1) (f env S)
def FlQ (K : PySem.W.Frag) (D : Ends) (L : List Addr) (H : Hp) : Fl → Prop
  | .nx env => ∀ σ, RE K L H σ env → D.nx σ H
  | .rt d => ∀ v, RD K L H v d → D.rt v H
  | .bk env => ∀ σ, RE K L H σ env → D.bk σ H
  | .ct env => ∀ σ, RE K L H σ env → D.ct σ H
def tS (K : PySem.W.Frag) (E : XK) (f : SF) : TS := fun D σ H => ∃ L env S, Rep K L H S ∧ RE K L H σ env ∧ End K E L H (fun fl _ L1 H1 => FlQ K D L1 H1 fl) (f env S)

section
variable {X : Cx} {e : Expr} {st : Stmt} {sts : List Stmt} {es : List Expr}
theorem monoE {t t' : TE} (h : PE X e t) (k : ∀ σ H Q, t' σ H Q → t σ H Q) : PE X e t' := ⟨fun pins s σ H Q I q => h.run pins s σ H Q I (k σ H Q q)⟩
theorem monoT {t t' : TT} (h : PT X e t) (k : ∀ σ H Q, t' σ H Q → t σ H Q) : PT X e t' := ⟨fun pins s σ H Q I q => h.run pins s σ H Q I (k σ H Q q)⟩
theorem monoW {t t' : TT} (h : PW X e t) (k : ∀ σ H Q, t' σ H Q → t σ H Q) : PW X e t' := ⟨fun w pins s σ H Q I q => h.run w pins s σ H Q I (k σ H Q q)⟩
theorem monoA {t t' : TA} (h : PA X es t) (k : ∀ σ H Q, t' σ H Q → t σ H Q) : PA X es t' := ⟨fun pos pins s σ H Q I q => h.run pos pins s σ H Q I (k σ H Q q)⟩
theorem monoS {t t' : TS} (h : PS X st t) (k : ∀ D σ H, t' D σ H → t D σ H) : PS X st t' := ⟨fun pins s σ H D I q => h.run pins s σ H D I (k D σ H q)⟩
theorem monoSs {t t' : TS} (h : PSs X sts t) (k : ∀ D σ H, t' D σ H → t D σ H) : PSs X sts t' := ⟨fun pins s σ H D I q => h.run pins s σ H D I (k D σ H q)⟩
end

/-! ### expressions -/
def fVar (i : Nat) : EF := fun env S => match env[i]? with | some (some d) => .ok d S | _ => .bad
def fC (d : D) : EF := fun _ S => .ok d S
abbrev Op2 := D → D → Sto → R D
abbrev Op1 := D → Sto → R D
abbrev OpN := List D → Sto → R D
def fBin (o : Op2) (fa fb : EF) : EF := fun env S => (fa env S).bind fun x S1 => (fb env S1).bind fun y S2 => o x y S2
def fUn (o : Op1) (fa : EF) : EF := fun env S => (fa env S).bind fun x S1 => o x S1
def fApp (o : OpN) (fs : AF) : EF := fun env S => (fs env S).bind fun xs S1 => o xs S1
def fNil : AF := fun _ S => .ok [] S
def fCons (fa : EF) (fs : AF) : AF := fun env S => (fa env S).bind fun x S1 => (fs env S1).bind fun xs S2 => .ok (x :: xs) S2
def fTup (fs : AF) : EF := fun env S => (fs env S).bind fun xs S1 => if xs.length ≤ 100000 then .ok (.tup xs) S1 else .bad
def fLst (fs : AF) : EF := fun env S => (fs env S).bind fun xs S1 => if xs.length ≤ 100000 then .ok (.ref S1.length) (S1 ++ [.lst xs]) else .bad
def fTest (fa : EF) : BF := fun env S => (fa env S).bind fun x S1 => match x with | .bl b => .ok b S1 | _ => .bad
def fVal (ft : BF) : EF := fun env S => (ft env S).bind fun b S1 => .ok (.bl b) S1
def fAnd (f g : BF) : BF := fun env S => (f env S).bind fun b S1 => if b = true then g env S1 else .ok false S1
def fOr (f g : BF) : BF := fun env S => (f env S).bind fun b S1 => if b = true then .ok true S1 else g env S1
def fNot (f : BF) : BF := fun env S => (f env S).bind fun b S1 => .ok (!b) S1
def fAndV (f g : EF) : EF := fun env S => (f env S).bind fun x S1 => match x with | .bl b => (if b = true then g env S1 else .ok (.bl false) S1) | _ => .bad
def fOrV (f g : EF) : EF := fun env S => (f env S).bind fun x S1 => match x with | .bl b => (if b = true then .ok (.bl true) S1 else g env S1) | _ => .bad
def fNotV (f : EF) : EF := fun env S => (f env S).bind fun x S1 => match x with | .bl b => .ok (.bl (!b)) S1 | _ => .bad
def fIfE (c : BF) (f g : EF) : EF := fun env S => (c env S).bind fun b S1 => if b = true then f env S1 else g env S1
def fChain (o o' : Op2) (fa fb fc : EF) : EF := fun env S => (fa env S).bind fun x S1 => (fb env S1).bind fun y S2 => (o x y S2).bind fun z S3 => match z with
  | .bl b => if b = true then (fc env S3).bind fun w S4 => o' y w S4 else .ok (.bl false) S3
  | _ => .bad

/-- an operator by values, simulated -/
def OpF (K : PySem.W.Frag) (E : XK) (r : R2) (o : Op2) : Prop := ∀ L H S x y d1 d2 Q, Rep K L H S → RD K L H x d1 → RD K L H y d2 → EndV K E L H Q (o d1 d2 S) → r x y H Q
def UnF (K : PySem.W.Frag) (E : XK) (r : V → Hp → VK → Prop) (o : Op1) : Prop := ∀ L H S x d1 Q, Rep K L H S → RD K L H x d1 → EndV K E L H Q (o d1 S) → r x H Q
def CaF (K : PySem.W.Frag) (E : XK) (r : List V → Hp → VK → Prop) (o : OpN) : Prop := ∀ L H S xs ds Q, Rep K L H S → RDs K L H xs ds → EndV K E L H Q (o ds S) → r xs H Q
/-- a built-in method by values -/
def MtF (K : PySem.W.Frag) (E : XK) (r : V → List V → Hp → VK → Prop) (o : D → List D → Sto → R D) : Prop := ∀ L H S x xs d ds Q, Rep K L H S → RD K L H x d → RDs K L H xs ds → EndV K E L H Q (o d ds S) → r x xs H Q

theorem sz5 {n : Nat} (h : n ≤ 100000) : n ≤ sizeLine := Nat.le_trans h (by rw [sizeLine_eq]; decide)
theorem sz5l {n : Nat} (h : n < 100000) : n < sizeLine := Nat.lt_of_lt_of_le h (by rw [sizeLine_eq]; decide)

section
variable {X : Cx} {E : XK} {a b c e : Expr} {es : List Expr} {pos : Pos} {fa fb fc : EF} {fs : AF} {ft fu : BF}

theorem xVar (i : Nat) {x : Str} (hN : X.N[i]? = some x := by rfl) (hv : Vis X.env.scope x := by first | exact Or.inl rfl | exact Or.inr (Or.inl rfl) | exact Or.inr (Or.inr rfl)) (hd : (x == ("__debug__" : Str)) = false := by decide)
    (hcd : (x == ("__classdict__" : Str)) = false := by decide) : PE X (.Name x pos) (tE X.K E (fVar i)) :=
  monoE (pe_var (i := i) hN hv hd hcd) fun σ H Q h => by
    obtain ⟨L, env, S, rep, re, h⟩ := h
    unfold fVar at h
    cases q : env[i]? with
    | none => rw [q] at h; exact h.elim
    | some o =>
      cases o with
      | none => rw [q] at h; exact h.elim
      | some d =>
        rw [q] at h
        obtain ⟨v, h1, h2⟩ := re.val i d q
        exact ⟨v, h1, EndV.val h rep h2⟩
theorem xConst {v : V} {d : D} (he : PE X e (tC v)) (h : ∀ L H, RD X.K L H v d) : PE X e (tE X.K E (fC d)) :=
  monoE he fun σ H Q ⟨L, env, S, rep, re, q⟩ => EndV.val q rep (h L H)
theorem xInt {i : Int} {j : Nat} : PE X (.Constant (.int i) j pos) (tE X.K E (fC (.int i))) := xConst pe_int fun _ _ => .int i
theorem xBl {i : Bool} {j : Nat} : PE X (.Constant (.bool i) j pos) (tE X.K E (fC (.bl i))) := xConst pe_bl fun _ _ => .bl i
theorem xStr {x y : Str} {j : Nat} (h : x = y) : PE X (.Constant (.str x) j pos) (tE X.K E (fC (.str y))) := by subst h; exact xConst pe_str fun _ _ => .str x
theorem bin_of {K : PySem.W.Frag} {r : R2} {o : Op2} (hf : OpF K E r o) {σ : St} {H : Hp} {Q : VK} (h : tE K E (fBin o fa fb) σ H Q) : tOp r (tE K E fa) (tE K E fb) σ H Q := by
  obtain ⟨L, env, S, rep, re, h⟩ := h
  refine ⟨L, env, S, rep, re, (End.bind h).imp fun x S1 L1 H1 e1 rep1 h1 v rv => ?_⟩
  refine ⟨L1, env, S1, rep1, re.mono e1, (End.bind h1).imp fun y S2 L2 H2 e2 rep2 h2 w rw => ?_⟩
  exact hf L2 H2 S2 _ _ _ _ _ rep2 (rv.mono e2) rw h2
theorem xOp {op : Operator} {r : R2} {o : Op2} (ho : OpR X (binaryOp op) r) (hf : OpF X.K E r o) (ha : PE X a (tE X.K E fa)) (hb : PE X b (tE X.K E fb)) : PE X (.BinOp a op b pos) (tE X.K E (fBin o fa fb)) :=
  monoE (pe_op ho ha hb) fun _ _ _ h => bin_of hf h
theorem xCmp {op : CmpOp} {r : R2} {o : Op2} (ho : OpR X (compareOp op) r) (hf : OpF X.K E r o) (hm : behindInMarks op b = false) (ha : PE X a (tE X.K E fa)) (hb : PE X b (tE X.K E fb)) : PE X (.Compare a [op] [b] pos) (tE X.K E (fBin o fa fb)) :=
  monoE (pe_cmpR ho ha hb hm) fun _ _ _ h => bin_of hf h
theorem test_of {K : PySem.W.Frag} {σ : St} {H : Hp} {Q : Bool → Hp → Prop} (h : tT K E (fTest fa) σ H Q) : tE K E fa σ H fun x H1 => ∃ c, x = .bl c ∧ Q c H1 := by
  obtain ⟨L, env, S, rep, re, h⟩ := h
  refine ⟨L, env, S, rep, re, (End.bind h).imp fun x S1 L1 H1 e1 rep1 h1 v rv => ?_⟩
  cases x with
  | bl c => cases rv; exact ⟨c, rfl, h1 L1 H1 (Ex.refl _ _) rep1⟩
  | _ => exact h1.elim
theorem xCmpT {op : CmpOp} {r : R2} {o : Op2} (ho : OpR X (compareOp op) r) (hf : OpF X.K E r o) (hm : behindInMarks op b = false) (ha : PE X a (tE X.K E fa)) (hb : PE X b (tE X.K E fb)) : PT X (.Compare a [op] [b] pos) (tT X.K E (fTest (fBin o fa fb))) :=
  monoT (pt_cmpR ho ha hb hm) fun _ _ _ h => bin_of hf (test_of h)
theorem xUn {op : UnaryOp} {r : V → Hp → VK → Prop} {o : Op1} (ho : UnR X (unaryOp op) r) (hf : UnF X.K E r o) (ha : PE X a (tE X.K E fa)) : PE X (.UnaryOp op a pos) (tE X.K E (fUn o fa)) :=
  monoE (pe_un ho ha) fun σ H Q h => by
    obtain ⟨L, env, S, rep, re, h⟩ := h
    exact ⟨L, env, S, rep, re, (End.bind h).imp fun x S1 L1 H1 e1 rep1 h1 v rv => hf L1 H1 S1 _ _ _ rep1 rv h1⟩
theorem xVal (he : PE X e (tE X.K E fa)) (hp : ∀ whole, isTrue e X.env whole = (do let v ← whole; standAt e.pos; holding [v] (truthy v)) := by intro _; rfl) : PT X e (tT X.K E (fTest fa)) :=
  monoT (pt_val he hp) fun _ _ _ h => test_of h
theorem xAnd1 (ha : PT X a (tT X.K E ft)) : PW X (.BoolOp .And [a] pos) (tT X.K E ft) := pw_and1 ha
theorem xOr1 (ha : PT X a (tT X.K E ft)) : PW X (.BoolOp .Or [a] pos) (tT X.K E ft) := pw_or1 ha
theorem xAnd (ha : PT X a (tT X.K E ft)) (hb : PW X (.BoolOp .And (b :: es) pos) (tT X.K E fu)) : PW X (.BoolOp .And (a :: b :: es) pos) (tT X.K E (fAnd ft fu)) :=
  monoW (pw_and ha hb) fun σ H Q h => by
    obtain ⟨L, env, S, rep, re, h⟩ := h
    refine ⟨L, env, S, rep, re, (End.bind h).imp fun x S1 L1 H1 e1 rep1 h1 => ?_⟩
    cases x with
    | true => exact iteT ⟨L1, env, S1, rep1, re.mono e1, h1⟩
    | false => exact iteF (h1 L1 H1 (Ex.refl _ _) rep1)
theorem xOr (ha : PT X a (tT X.K E ft)) (hb : PW X (.BoolOp .Or (b :: es) pos) (tT X.K E fu)) : PW X (.BoolOp .Or (a :: b :: es) pos) (tT X.K E (fOr ft fu)) :=
  monoW (pw_or ha hb) fun σ H Q h => by
    obtain ⟨L, env, S, rep, re, h⟩ := h
    refine ⟨L, env, S, rep, re, (End.bind h).imp fun x S1 L1 H1 e1 rep1 h1 => ?_⟩
    cases x with
    | true => exact iteT (h1 L1 H1 (Ex.refl _ _) rep1)
    | false => exact iteF ⟨L1, env, S1, rep1, re.mono e1, h1⟩
theorem xNot (ha : PT X a (tT X.K E ft)) : PT X (.UnaryOp .Not a pos) (tT X.K E (fNot ft)) :=
  monoT (pt_not ha) fun σ H Q h => by
    obtain ⟨L, env, S, rep, re, h⟩ := h
    exact ⟨L, env, S, rep, re, (End.bind h).imp fun x S1 L1 H1 e1 rep1 h1 => h1 L1 H1 (Ex.refl _ _) rep1⟩
theorem xIfE (hc : PT X c (tT X.K E ft)) (ha : PE X a (tE X.K E fa)) (hb : PE X b (tE X.K E fb)) : PE X (.IfExp c a b pos) (tE X.K E (fIfE ft fa fb)) :=
  monoE (pe_ifExp hc ha hb) fun σ H Q h => by
    obtain ⟨L, env, S, rep, re, h⟩ := h
    refine ⟨L, env, S, rep, re, (End.bind h).imp fun x S1 L1 H1 e1 rep1 h1 => ?_⟩
    cases x with
    | true => exact iteT ⟨L1, env, S1, rep1, re.mono e1, h1⟩
    | false => exact iteF ⟨L1, env, S1, rep1, re.mono e1, h1⟩
/-! ### lists of expressions -/
theorem xNil : PA X [] (tA X.K E fNil) := monoA pa_nil fun σ H Q ⟨L, env, S, rep, re, h⟩ => h L H (Ex.refl _ _) rep [] .nil
theorem xCons (ha : PE X e (tE X.K E fa)) (hr : PA X es (tA X.K E fs)) (hs : starEach (e :: es) X.env = (false, eval e X.env) :: starEach es X.env := by rfl) : PA X (e :: es) (tA X.K E (fCons fa fs)) :=
  monoA (pa_cons ha hr hs) fun σ H Q h => by
    obtain ⟨L, env, S, rep, re, h⟩ := h
    refine ⟨L, env, S, rep, re, (End.bind h).imp fun x S1 L1 H1 e1 rep1 h1 v rv => ?_⟩
    refine ⟨L1, env, S1, rep1, re.mono e1, (End.bind h1).imp fun xs S2 L2 H2 e2 rep2 h2 vs rvs => ?_⟩
    exact h2 L2 H2 (Ex.refl _ _) rep2 _ (.cons (rv.mono e2) rvs)
theorem xTup {x1} (h : PA X es (tA X.K E fs)) : PE X (.Tuple es x1 pos) (tE X.K E (fTup fs)) :=
  monoE (pe_tup h) fun σ H Q h => by
    obtain ⟨L, env, S, rep, re, h⟩ := h
    refine ⟨L, env, S, rep, re, (End.bind h).imp fun xs S1 L1 H1 e1 rep1 h1 vs rvs => ?_⟩
    by_cases hl : xs.length ≤ 100000
    · rw [if_pos hl] at h1
      refine ⟨by rw [rvs.length]; exact sz5 hl, fun p hp => ?_⟩
      exact EndV.val (h1.later (Ex.new hp)) (rep1.new hp) (.tup upd_same (rvs.mono (Ex.new hp)))
    · rw [if_neg hl] at h1; exact h1.elim
theorem newList {K : PySem.W.Frag} {L : List Addr} {H : Hp} {S : Sto} {Q : VK} {vs : List V} {ds : List D} (h : EndV K E L H Q (.ok (.ref S.length) (S ++ [.lst ds]))) (rep : Rep K L H S) (r : RDs K L H vs ds) (p : Addr) (hp : H p = none) : Q (.ref p) (upd H p (.lst vs)) := by
  have ex := Ex.newc (L := L) (o := .lst vs) hp
  refine EndV.val (h.later ex) (rep.newc hp ⟨vs, upd_same, r.mono ex⟩) (.ref ?_)
  rw [← rep.len, List.getElem?_append_right (Nat.le_refl _)]
  simp
theorem xLst (h : PA X es (tA X.K E fs)) : PE X (.List es pos) (tE X.K E (fLst fs)) :=
  monoE (pe_lst h) fun σ H Q h => by
    obtain ⟨L, env, S, rep, re, h⟩ := h
    refine ⟨L, env, S, rep, re, (End.bind h).imp fun xs S1 L1 H1 e1 rep1 h1 vs rvs => ?_⟩
    by_cases hl : xs.length ≤ 100000
    · rw [if_pos hl] at h1
      exact ⟨by rw [rvs.length]; exact sz5 hl, fun p hp => newList h1 rep1 rvs p hp⟩
    · rw [if_neg hl] at h1; exact h1.elim
theorem app_of {K : PySem.W.Frag} {r : List V → Hp → VK → Prop} {o : OpN} (hf : CaF K E r o) {σ : St} {H : Hp} {Q : VK} (h : tE K E (fApp o fs) σ H Q) : tCB r (tA K E fs) σ H Q := by
  obtain ⟨L, env, S, rep, re, h⟩ := h
  exact ⟨L, env, S, rep, re, (End.bind h).imp fun xs S1 L1 H1 e1 rep1 h1 vs rvs => hf L1 H1 S1 _ _ _ rep1 rvs h1⟩
theorem xCB {x : Str} {id : String} {r : List V → Hp → VK → Prop} {o : OpN} {p : Pos} (hc : CallR X (.builtin id) r) (hf : CaF X.K E r o) (hg : Gl X x) (hm : X.mg x = none) (hv : bootBuiltins x = some (.builtin id)) (ha : PA X (e :: es) (tA X.K E fs)) (hn : x ≠ "__name__" := by decide) (hdb : (x == ("__debug__" : Str)) = false := by decide)
    (he : starEach (e :: es) X.env = (false, eval e X.env) :: starEach es X.env := by rfl) (hpl : (backTo pos (starEach es X.env)).any (·.1) = false := by rfl) : PE X (.Call (.Name x p) (e :: es) [] pos) (tE X.K E (fApp o fs)) :=
  monoE (pe_callB hc hg hm hv ha hn hdb he hpl) fun _ _ _ h => app_of hf h
theorem xCT {x : Str} {T : String} {r : List V → Hp → VK → Prop} {o : OpN} {p : Pos} (hc : CallR X (.type T) r) (hf : CaF X.K E r o) (hg : Gl X x) (hm : X.mg x = none) (hv : bootBuiltins x = some (.type T)) (ha : PA X (e :: es) (tA X.K E fs)) (hn : x ≠ "__name__" := by decide) (hdb : (x == ("__debug__" : Str)) = false := by decide)
    (he : starEach (e :: es) X.env = (false, eval e X.env) :: starEach es X.env := by rfl) (hpl : (backTo pos (starEach es X.env)).any (·.1) = false := by rfl) : PE X (.Call (.Name x p) (e :: es) [] pos) (tE X.K E (fApp o fs)) :=
  monoE (pe_callTy hc hg hm hv ha hn hdb he hpl) fun _ _ _ h => app_of hf h
end

/-! ### statements -/
def fSkip : SF := fun env S => .ok (.nx env) S
def fSeq (f g : SF) : SF := fun env S => (f env S).bind fun fl S1 => match fl with | .nx e => g e S1 | .rt d => .ok (.rt d) S1 | .bk e => .ok (.bk e) S1 | .ct e => .ok (.ct e) S1
def fIf (c : BF) (f g : SF) : SF := fun env S => (c env S).bind fun b S1 => if b = true then f env S1 else g env S1
def fRet (f : EF) : SF := fun env S => (f env S).bind fun d S1 => .ok (.rt d) S1
def fRetN : SF := fun _ S => .ok (.rt .non) S
def fDrop (f : EF) : SF := fun env S => (f env S).bind fun _ S1 => .ok (.nx env) S1
abbrev GF := D → Lc → Sto → R Lc
def gN (i : Nat) : GF := fun d env S => .ok (env.set i (some d)) S
def fAsg (f : EF) (g : GF) : SF := fun env S => (f env S).bind fun d S1 => (g d env S1).bind fun env1 S2 => .ok (.nx env1) S2
def fBrk : SF := fun env S => .ok (.bk env) S
def fCnt : SF := fun env S => .ok (.ct env) S
abbrev GsF := List D → Lc → Sto → R Lc
def gNil' : GsF := fun ds env S => match ds with | [] => .ok env S | _ => .bad
def gCons' (g : GF) (gs : GsF) : GsF := fun ds env S => match ds with | d :: r => (g d env S).bind fun env1 S1 => gs r env1 S1 | [] => .bad
def gTup' (n : Nat) (gs : GsF) : GF := fun d env S => match d with | .tup ds => if ds.length = n then gs ds env S else .bad | _ => .bad
/-- a, b = a list of that length -/
def tG (K : PySem.W.Frag) (E : XK) (g : GF) : TG := fun v σ H Q => ∃ L env S d, Rep K L H S ∧ RE K L H σ env ∧ RD K L H v d ∧ End K E L H (fun env1 _ L1 H1 => ∀ σ1, RE K L1 H1 σ1 env1 → Q σ1 H1) (g d env S)
def tGs (K : PySem.W.Frag) (E : XK) (g : GsF) : TGs := fun vs σ H Q => ∃ L env S ds, Rep K L H S ∧ RE K L H σ env ∧ RDs K L H vs ds ∧ End K E L H (fun env1 _ L1 H1 => ∀ σ1, RE K L1 H1 σ1 env1 → Q σ1 H1) (g ds env S)

section
variable {X : Cx} {E : XK} {a b c e : Expr} {es : List Expr} {pos : Pos} {fa fb fc : EF} {fs : AF} {ft fu : BF} {st : Stmt} {rest : List Stmt} {f g : SF}
theorem xSkip : PSs X [] (tS X.K E fSkip) := monoSs pss_nil fun D σ H ⟨L, env, S, rep, re, h⟩ => h L H (Ex.refl _ _) rep σ re
theorem xOne (h : PS X st (tS X.K E f)) : PSs X [st] (tS X.K E f) := pss_one h
theorem xSeq (h1 : PS X st (tS X.K E f)) (h2 : PSs X rest (tS X.K E g)) : PSs X (st :: rest) (tS X.K E (fSeq f g)) :=
  monoSs (pss_cons h1 h2) fun D σ H h => by
    obtain ⟨L, env, S, rep, re, h⟩ := h
    refine ⟨L, env, S, rep, re, (End.bind h).imp fun fl S1 L1 H1 e1 rep1 h1 => ?_⟩
    cases fl with
    | nx env1 => exact fun σ1 r1 => ⟨L1, env1, S1, rep1, r1, h1⟩
    | rt d => exact h1 L1 H1 (Ex.refl _ _) rep1
    | bk d => exact h1 L1 H1 (Ex.refl _ _) rep1
    | ct d => exact h1 L1 H1 (Ex.refl _ _) rep1
theorem xIf {sa sb : List Stmt} (hc : PT X c (tT X.K E ft)) (ha : PSs X sa (tS X.K E f)) (hb : PSs X sb (tS X.K E g)) : PS X (.If c sa sb pos) (tS X.K E (fIf ft f g)) :=
  monoS (ps_if hc ha hb) fun D σ H h => by
    obtain ⟨L, env, S, rep, re, h⟩ := h
    refine ⟨L, env, S, rep, re, (End.bind h).imp fun b S1 L1 H1 e1 rep1 h1 => ?_⟩
    cases b with
    | true => exact iteT ⟨L1, env, S1, rep1, re.mono e1, h1⟩
    | false => exact iteF ⟨L1, env, S1, rep1, re.mono e1, h1⟩
theorem xRet (he : PE X e (tE X.K E fa)) : PS X (.Return (some e) pos) (tS X.K E (fRet fa)) :=
  monoS (ps_ret he) fun D σ H h => by
    obtain ⟨L, env, S, rep, re, h⟩ := h
    exact ⟨L, env, S, rep, re, (End.bind h).imp fun d S1 L1 H1 e1 rep1 h1 v rv => h1 L1 H1 (Ex.refl _ _) rep1 v rv⟩
theorem xExpr (he : PE X e (tE X.K E fa)) (hs : swapsWith e none pos.line X.env = pure false := by rfl) : PS X (.Expr e pos) (tS X.K E (fDrop fa)) :=
  monoS (ps_expr he hs) fun D σ H h => by
    obtain ⟨L, env, S, rep, re, h⟩ := h
    exact ⟨L, env, S, rep, re, (End.bind h).imp fun d S1 L1 H1 e1 rep1 h1 v rv => h1 L1 H1 (Ex.refl _ _) rep1 σ (re.mono e1)⟩
theorem xgN {i : Nat} {x : Str} (hN : X.N.Nodup) (hi : X.N[i]? = some x) (hx : Loc X.env.scope x) (hf : X.fn x = true ∨ X.env.scope.names.lookup x = some .local := by first | exact .inl rfl | exact .inr rfl | assumption) : PG X (.Name x pos) (tG X.K E (gN i)) := by
  have h := pg_name (pos := pos) hN hi hx hf
  refine ⟨fun pins s σ H v u Q I r q => h.run pins s σ H v u Q I r ?_⟩
  obtain ⟨L, env, S, d, rep, re, rd, q⟩ := q
  exact q L H (Ex.refl _ _) rep _ (re.set rd)
theorem xAsg {tg : Expr} {gf : GF} (he : PE X e (tE X.K E fa)) (hg : PG X tg (tG X.K E gf)) (hs : swapsWithSole [tg] e pos.line X.env = pure false := by rfl) (hw : swappedStores [tg] e X.env = pure none := by rfl) (h1 : (assignEach [tg] X.env).map (·.2) = [assign tg X.env] := by rfl) : PS X (.Assign [tg] e pos) (tS X.K E (fAsg fa gf)) :=
  monoS (ps_asg he hg hs hw h1) fun D σ H h => by
    obtain ⟨L, env, S, rep, re, h⟩ := h
    refine ⟨L, env, S, rep, re, (End.bind h).imp fun d S1 L1 H1 e1 rep1 h1 v rv => ?_⟩
    exact ⟨L1, env, S1, d, rep1, re.mono e1, rv, (End.bind h1).imp fun env1 S2 L2 H2 e2 rep2 h2 σ1 r1 => h2 L2 H2 (Ex.refl _ _) rep2 σ1 r1⟩
theorem xSet {i : Nat} {x : Str} {pos' : Pos} (hN : X.N.Nodup) (hi : X.N[i]? = some x) (hx : Loc X.env.scope x) (he : PE X e (tE X.K E fa)) (hs : swapsWith e (some (.Name x pos')) pos.line X.env = pure false := by rfl) (hf : X.fn x = true ∨ X.env.scope.names.lookup x = some .local := by first | exact .inl rfl | exact .inr rfl | assumption) :
    PS X (.Assign [.Name x pos'] e pos) (tS X.K E (fAsg fa (gN i))) :=
  monoS (ps_set hN hi hx he hs hf) fun D σ H h => by
    obtain ⟨L, env, S, rep, re, h⟩ := h
    refine ⟨L, env, S, rep, re, (End.bind h).imp fun d S1 L1 H1 e1 rep1 h1 v rv => ?_⟩
    exact h1 L1 H1 (Ex.refl _ _) rep1 _ ((re.mono e1).set rv)
theorem xgNil : PGs X [] (tGs X.K E gNil') := by
  refine ⟨fun pins s σ H vs us Q I r q => pgs_nil.run pins s σ H vs us Q I r ?_⟩
  obtain ⟨L, env, S, ds, rep, re, rd, q⟩ := q
  cases rd with
  | nil => exact ⟨rfl, q L H (Ex.refl _ _) rep σ re⟩
  | cons _ _ => exact q.elim
theorem xgCons {g : GF} {gs : GsF} (h1 : PG X e (tG X.K E g)) (h2 : PGs X es (tGs X.K E gs)) (hs : (assignEach (e :: es) X.env).map (·.2) = assign e X.env :: (assignEach es X.env).map (·.2) := by rfl) : PGs X (e :: es) (tGs X.K E (gCons' g gs)) := by
  refine ⟨fun pins s σ H vs us Q I r q => (pgs_cons h1 h2 hs).run pins s σ H vs us Q I r ?_⟩
  obtain ⟨L, env, S, ds, rep, re, rd, q⟩ := q
  cases rd with
  | nil => exact q.elim
  | cons r1 r2 =>
    refine ⟨_, _, rfl, L, env, S, _, rep, re, r1, (End.bind q).imp fun env1 S1 L1 H1 e1 rep1 h1 σ1 rσ => ?_⟩
    exact ⟨L1, env1, S1, _, rep1, rσ, r2.mono e1, h1⟩
end
end RF

namespace RF
open PySem L2

/-- what a loop goes over: fixed items, or the list at a place as it stands at each turn -/
inductive It' where
  | fix (xs : List D) | live (n : Nat) (xs : List D)
def ItOk (K : PySem.W.Frag) (L : List Addr) (H : Hp) (J : It) : It' → Prop
  | .fix xs => ∀ (i : Nat) L1 H1 S1, Ex L H L1 H1 → Rep K L1 H1 S1 → (∀ d, xs[i]? = some d → J.go i H1 ∧ ∀ x H2, J.yld i H1 x H2 → Ex L1 H1 L1 H2 ∧ Rep K L1 H2 S1 ∧ RD K L1 H2 x d) ∧ (xs.length ≤ i → J.stop i H1)
  | .live n _ => ∀ (i : Nat) L1 H1 S1 ys, Ex L H L1 H1 → Rep K L1 H1 S1 → S1[n]? = some (.lst ys) → (∀ d, ys[i]? = some d → J.go i H1 ∧ ∀ x H2, J.yld i H1 x H2 → Ex L1 H1 L1 H2 ∧ Rep K L1 H2 S1 ∧ RD K L1 H2 x d) ∧ (ys.length ≤ i → J.stop i H1)
abbrev IF := Lc → Sto → R It'
def tI (K : PySem.W.Frag) (E : XK) (f : IF) : TI := fun σ H R => ∃ L env S, Rep K L H S ∧ RE K L H σ env ∧ End K E L H (fun it _ L1 H1 => ∀ J, ItOk K L1 H1 J it → R J H1) (f env S)

def fIter (fa : EF) : IF := fun env S => (fa env S).bind fun d S1 => match d with
  | .rl xs => .ok (.fix xs) S1
  | .tup xs => .ok (.fix xs) S1
  | .kt xs => .ok (.fix xs) S1
  | .ref n => match S1[n]? with
    | some (.lst xs) => .ok (.live n xs) S1
    | _ => .bad
  | _ => .bad
def rngD (lo : Int) (n : Nat) : List D := (List.range n).map fun k => .int (lo + (k : Nat))
def fRng1 (fs : AF) : IF := fun env S => (fs env S).bind fun ds S1 => match ds with
  | [.int j] => if -(2 ^ 62) ≤ j ∧ j < 2 ^ 62 then .ok (.fix (rngD 0 j.toNat)) S1 else .bad
  | _ => .bad
def fRng2 (fs : AF) : IF := fun env S => (fs env S).bind fun ds S1 => match ds with
  | [.int i, .int j] => if -(2 ^ 62) ≤ i ∧ i < 2 ^ 62 ∧ -(2 ^ 62) ≤ j ∧ j < 2 ^ 62 then .ok (.fix (rngD i (j - i).toNat)) S1 else .bad
  | _ => .bad
def loopX (g : GF) (body : SF) : List D → Lc → Sto → R Fl
  | [], env, S => .ok (.nx env) S
  | d :: xs, env, S => (g d env S).bind fun env1 S1 => (body env1 S1).bind fun fl S2 => match fl with
    | .nx e => loopX g body xs e S2
    | .ct e => loopX g body xs e S2
    | .bk e => .ok (.nx e) S2
    | .rt d => .ok (.rt d) S2
def loopL (n : Nat) (g : GF) (body : SF) : List D → Nat → Lc → Sto → R Fl
  | [], i, env, S => match S[n]? with
    | some (.lst ys) => if ys.length ≤ i then .ok (.nx env) S else .bad
    | _ => .bad
  | _ :: xs, i, env, S => match S[n]? with
    | some (.lst ys) => match ys[i]? with
      | none => .ok (.nx env) S
      | some d => (g d env S).bind fun env1 S1 => (body env1 S1).bind fun fl S2 => match fl with
        | .nx e => loopL n g body xs (i + 1) e S2
        | .ct e => loopL n g body xs (i + 1) e S2
        | .bk e => .ok (.nx e) S2
        | .rt d => .ok (.rt d) S2
    | _ => .bad
def fFor (fi : IF) (g : GF) (body : SF) : SF := fun env S => (fi env S).bind fun it S1 => match it with
  | .fix xs => loopX g body xs env S1
  | .live n xs => loopL n g body xs 0 env S1

section
variable {X : Cx} {E : XK} {tg l iter a b : Expr} {fa fb : EF} {fs : AF} {pos : Pos}
theorem xIter (h : PE X l (tE X.K E fa)) : PI X tg l (tI X.K E (fIter fa)) := by
  have h1 := pi_list (tg := tg) h
  have h2 := pi_tup (tg := tg) h
  refine ⟨fun pins s σ H R I q => ?_⟩
  obtain ⟨L, env, S, rep, re, q⟩ := q
  have key : iList X.K (tE X.K E fa) σ H R ∨ iTup X.K (tE X.K E fa) σ H R := by
    have q' := End.bind q
    cases e : fa env S with
    | bad => rw [e] at q'; exact q'.elim
    | ex c S1 =>
      rw [e] at q'
      refine .inl ⟨L, env, S, rep, re, ?_⟩
      rw [e]; exact q'
    | ok d S1 =>
      rw [e] at q'
      have step : ∀ {Q : VK}, (∀ L1 H1, Ex L H L1 H1 → Rep X.K L1 H1 S1 → ∀ v, RD X.K L1 H1 v d → Q v H1) → tE X.K E fa σ H Q := fun k => ⟨L, env, S, rep, re, by rw [e]; exact k⟩
      cases d with
      | tup xs =>
        refine .inr (step fun L1 H1 e1 rep1 v rv => ?_)
        have q1 := (q' L1 H1 e1 rep1) L1 H1 (Ex.refl _ _) rep1
        cases rv with
        | @tup a vs _ hs rs =>
          refine ⟨a, rfl, ⟨vs, .of hs⟩, q1 _ fun i L2 H2 S2 e2 rep2 => ?_⟩
          have t2 : SqT X.K H2 a vs := .of (e2.tp _ _ hs)
          have r2 := rs.mono e2
          refine ⟨fun d hd => ?_, fun hl => ⟨vs, t2, by rw [rs.length]; exact hl⟩⟩
          obtain ⟨x, hx, rx⟩ := r2.get hd
          refine ⟨⟨vs, x, t2, hx⟩, fun y H3 hy => ?_⟩
          obtain ⟨rfl, hy⟩ := hy
          have := hy vs t2
          rw [hx] at this; cases this
          exact ⟨Ex.refl _ _, rep2, rx⟩
      | kt xs =>
        refine .inr (step fun L1 H1 e1 rep1 v rv => ?_)
        have q1 := (q' L1 H1 e1 rep1) L1 H1 (Ex.refl _ _) rep1
        cases rv with
        | @kt a vs _ hs rs =>
          refine ⟨a, rfl, ⟨vs, hs _⟩, q1 _ fun i L2 H2 S2 e2 rep2 => ?_⟩
          have t2 : SqT X.K H2 a vs := hs _
          have r2 := rs.mono e2
          refine ⟨fun d hd => ?_, fun hl => ⟨vs, t2, by rw [rs.length]; exact hl⟩⟩
          obtain ⟨x, hx, rx⟩ := r2.get hd
          refine ⟨⟨vs, x, t2, hx⟩, fun y H3 hy => ?_⟩
          obtain ⟨rfl, hy⟩ := hy
          have := hy vs t2
          rw [hx] at this; cases this
          exact ⟨Ex.refl _ _, rep2, rx⟩
      | rl xs =>
        refine .inl (step fun L1 H1 e1 rep1 v rv => ?_)
        have q1 := (q' L1 H1 e1 rep1) L1 H1 (Ex.refl _ _) rep1
        cases rv with
        | @rl a vs _ hs rs =>
          refine ⟨a, rfl, ⟨vs, hs _ fun _ _ z => z⟩, q1 _ fun i L2 H2 S2 e2 rep2 => ?_⟩
          have t2 : SqL X.K H2 a vs := hs _ fun o _ => e2.fz _ o _
          have r2 := rs.mono e2
          refine ⟨fun d hd => ?_, fun hl => ⟨vs, t2, by rw [rs.length]; exact hl⟩⟩
          obtain ⟨x, hx, rx⟩ := r2.get hd
          refine ⟨⟨vs, x, t2, hx⟩, fun y H3 hy => ?_⟩
          obtain ⟨rfl, hy⟩ := hy
          have := hy vs t2
          rw [hx] at this; cases this
          exact ⟨Ex.refl _ _, rep2, rx⟩
      | ref n =>
        refine .inl (step fun L1 H1 e1 rep1 v rv => ?_)
        have q0 := q' L1 H1 e1 rep1
        cases rv with
        | @ref a _ ha =>
          obtain ⟨c, hc, rc⟩ := rep1.adr ha
          simp only [hc] at q0
          cases c with
          | lst xs =>
            have q1 := q0 L1 H1 (Ex.refl _ _) rep1
            obtain ⟨vs, hv, rvs⟩ := rc
            refine ⟨a, rfl, ⟨vs, .of hv⟩, q1 _ fun i L2 H2 S2 ys e2 rep2 hy => ?_⟩
            obtain ⟨a', ha', vs2, hv2, rvs2⟩ := rep2.at hy
            rw [e2.px _ _ ha] at ha'; cases ha'
            refine ⟨fun d hd => ?_, fun hl => ⟨vs2, .of hv2, by rw [rvs2.length]; exact hl⟩⟩
            obtain ⟨x, hx, rx⟩ := rvs2.get hd
            refine ⟨⟨vs2, x, .of hv2, hx⟩, fun y H3 hy => ?_⟩
            obtain ⟨rfl, hy⟩ := hy
            have := hy vs2 (.of hv2)
            rw [hx] at this; cases this
            exact ⟨Ex.refl _ _, rep2, rx⟩
          | _ => exact q0.elim
      | _ => exact .inl (step fun L1 H1 e1 rep1 v rv => False.elim (q' L1 H1 e1 rep1))
  rcases key with k | k
  · exact h1.run pins s σ H R I k
  · exact h2.run pins s σ H R I k
theorem rngD_get {lo : Int} {n i : Nat} {d : D} (h : (rngD lo n)[i]? = some d) : i < n ∧ d = .int (lo + (i : Nat)) := by
  unfold rngD at h
  rw [List.getElem?_map] at h
  by_cases hi : i < n
  · rw [List.getElem?_eq_getElem (by rw [List.length_range]; exact hi)] at h
    simp at h
    exact ⟨hi, h.symm⟩
  · rw [List.getElem?_eq_none (by rw [List.length_range]; omega)] at h
    simp at h
theorem rngD_len {lo : Int} {n : Nat} : (rngD lo n).length = n := by unfold rngD; rw [List.length_map, List.length_range]
theorem itr_ok {K : PySem.W.Frag} {L : List Addr} {H : Hp} (lo : Int) (n : Nat) : ItOk K L H (Itr lo n) (.fix (rngD lo n)) := fun i L1 H1 S1 e1 rep1 => by
  refine ⟨fun d hd => ?_, fun hl => by rw [rngD_len] at hl; exact hl⟩
  obtain ⟨h1, rfl⟩ := rngD_get hd
  refine ⟨h1, fun x H2 y => ?_⟩
  obtain ⟨rfl, rfl⟩ := y
  exact ⟨Ex.refl _ _, rep1, .int _⟩
theorem xRng1 {p : Pos} (hg : Gl X "range") (hm : X.mg "range" = none) (ha : PA X [a] (tA X.K E fs)) (hs : starEach [a] X.env = [(false, eval a X.env)] := by rfl) : PI X tg (.Call (.Name "range" p) [a] [] pos) (tI X.K E (fRng1 fs)) := by
  refine ⟨fun pins s σ H R I q => (pi_range1 hg hm ha hs).run pins s σ H R I ?_⟩
  obtain ⟨L, env, S, rep, re, q⟩ := q
  refine ⟨L, env, S, rep, re, (End.bind q).imp fun ds S1 L1 H1 e1 rep1 h1 vs rvs => ?_⟩
  cases rvs with
  | nil => exact h1.elim
  | cons r1 r2 =>
    cases r1 with
    | int j =>
      cases r2 with
      | cons _ _ => exact h1.elim
      | nil =>
        have h1 : End X.K E L1 H1 (fun it _ L1 H1 => ∀ J, ItOk X.K L1 H1 J it → R J H1) (if -(2 ^ 62) ≤ j ∧ j < 2 ^ 62 then .ok (.fix (rngD 0 j.toNat)) S1 else .bad) := h1
        by_cases hj : -(2 ^ 62) ≤ j ∧ j < 2 ^ 62
        · rw [if_pos hj] at h1
          exact ⟨j, rfl, hj.1, hj.2, h1 L1 H1 (Ex.refl _ _) rep1 _ (itr_ok 0 _)⟩
        · rw [if_neg hj] at h1; exact h1.elim
    | _ => exact h1.elim
theorem xRng2 {p : Pos} (hg : Gl X "range") (hm : X.mg "range" = none) (ha : PA X [a, b] (tA X.K E fs)) (hs : starEach [a, b] X.env = [(false, eval a X.env), (false, eval b X.env)] := by rfl) (hs2 : starEach [b] X.env = [(false, eval b X.env)] := by rfl) : PI X tg (.Call (.Name "range" p) [a, b] [] pos) (tI X.K E (fRng2 fs)) := by
  refine ⟨fun pins s σ H R I q => (pi_range2 hg hm ha hs hs2).run pins s σ H R I ?_⟩
  obtain ⟨L, env, S, rep, re, q⟩ := q
  refine ⟨L, env, S, rep, re, (End.bind q).imp fun ds S1 L1 H1 e1 rep1 h1 vs rvs => ?_⟩
  cases rvs with
  | nil => exact h1.elim
  | cons r1 r2 =>
    cases r1 with
    | int i =>
      cases r2 with
      | nil => exact h1.elim
      | cons r2 r3 =>
        cases r2 with
        | int j =>
          cases r3 with
          | cons _ _ => exact h1.elim
          | nil =>
            have h1 : End X.K E L1 H1 (fun it _ L1 H1 => ∀ J, ItOk X.K L1 H1 J it → R J H1) (if -(2 ^ 62) ≤ i ∧ i < 2 ^ 62 ∧ -(2 ^ 62) ≤ j ∧ j < 2 ^ 62 then .ok (.fix (rngD i (j - i).toNat)) S1 else .bad) := h1
            by_cases hj : -(2 ^ 62) ≤ i ∧ i < 2 ^ 62 ∧ -(2 ^ 62) ≤ j ∧ j < 2 ^ 62
            · rw [if_pos hj] at h1
              exact ⟨i, j, rfl, hj, h1 L1 H1 (Ex.refl _ _) rep1 _ (itr_ok i _)⟩
            · rw [if_neg hj] at h1; exact h1.elim
        | _ => exact h1.elim
    | _ => exact h1.elim
/-- behind a turn -/
theorem turn_of {K : PySem.W.Frag} {D : Ends} {L : List Addr} {H : Hp} {nxt : Lc → Sto → R Fl} {N : St → Hp → Prop} {fl : Fl} {S : Sto} (rep : Rep K L H S) (hN : ∀ env σ, RE K L H σ env → End K E L H (fun fl _ L1 H1 => FlQ K D L1 H1 fl) (nxt env S) → N σ H)
    (h : End K E L H (fun fl _ L1 H1 => FlQ K D L1 H1 fl) (match fl with
      | .nx e => nxt e S
      | .ct e => nxt e S
      | .bk e => .ok (.nx e) S
      | .rt d => .ok (.rt d) S)) : FlQ K { D with nx := N, ct := N, bk := D.nx } L H fl := by
  cases fl with
  | nx e => exact fun σ r => hN e σ r h
  | ct e => exact fun σ r => hN e σ r h
  | bk e => exact fun σ r => h L H (Ex.refl _ _) rep σ r
  | rt d => exact fun v r => h L H (Ex.refl _ _) rep v r
theorem xFor {body : List Stmt} {fi : IF} {g : GF} {fb : SF} (hp : PassesOwn (model X.prog X.w) X.A X.env X.xe) (hc : X.calm = true) (hi : PI X tg iter (tI X.K E fi)) (hg : PG X tg (tG X.K E g)) (hb : PSs X body (tS X.K E fb))
    (hs : ∀ x, foldedSetIterable iter X.env x = pure x := by intro _; rfl) : PS X (.For tg iter body [] pos) (tS X.K E (fFor fi g fb)) :=
  monoS (ps_for hp hc hi hg hb hs) fun D σ H h => by
    obtain ⟨L, env, S, rep, re, h⟩ := h
    refine ⟨L, env, S, rep, re, (End.bind h).imp fun it S1 L1 H1 e1 rep1 h1 J hJ => ?_⟩
    cases it with
    | fix xs =>
      refine ⟨fun i m σ H => m = xs.length - i ∧ i ≤ xs.length ∧ ∃ L2 env S, Ex L1 H1 L2 H ∧ Rep X.K L2 H S ∧ RE X.K L2 H σ env ∧ End X.K E L2 H (fun fl _ L1 H1 => FlQ X.K D L1 H1 fl) (loopX g fb (xs.drop i) env S),
        ⟨xs.length, by simp, Nat.zero_le _, L1, env, S1, Ex.refl _ _, rep1, re.mono e1, h1⟩, ?_⟩
      rintro i m σ2 H2 ⟨rfl, hi, L2, env2, S2, e2, rep2, re2, h2⟩
      have ok := hJ i L2 H2 S2 e2 rep2
      by_cases hlt : i < xs.length
      · have hd : xs[i]? = some xs[i] := List.getElem?_eq_getElem hlt
        obtain ⟨hgo, hy⟩ := ok.1 _ hd
        rw [List.drop_eq_getElem_cons hlt] at h2
        refine .inr ⟨hgo, fun σ3 H3 => ∃ L2 env S, Ex L1 H1 L2 H3 ∧ Rep X.K L2 H3 S ∧ RE X.K L2 H3 σ3 env ∧ End X.K E L2 H3 (fun fl _ L1 H1 => FlQ X.K D L1 H1 fl) (loopX g fb (xs.drop (i + 1)) env S),
          fun σ3 H3 q => ⟨_, by omega, rfl, hlt, q⟩, fun x H3 y => ?_⟩
        obtain ⟨e3, rep3, rx⟩ := hy x H3 y
        refine ⟨L2, env2, S2, _, rep3, re2.mono e3, rx, (End.bind (h2.later e3)).imp fun env4 S4 L4 H4 e4 rep4 h4 σ4 r4 => ?_⟩
        refine ⟨L4, env4, S4, rep4, r4, (End.bind h4).imp fun fl S5 L5 H5 e5 rep5 h5 => ?_⟩
        exact turn_of (nxt := fun e S => loopX g fb (xs.drop (i + 1)) e S) rep5 (fun env6 σ6 r6 h6 => ⟨L5, env6, S5, ((e2.trans e3).trans e4).trans e5, rep5, r6, h6⟩) h5
      · have e : i = xs.length := by omega
        refine .inl ⟨ok.2 (by omega), ?_⟩
        rw [List.drop_eq_nil_of_le (by omega)] at h2
        exact h2 L2 H2 (Ex.refl _ _) rep2 σ2 re2
    | live n xs =>
      refine ⟨fun i m σ H => ∃ rest L2 env S, m = List.length rest ∧ Ex L1 H1 L2 H ∧ Rep X.K L2 H S ∧ RE X.K L2 H σ env ∧ End X.K E L2 H (fun fl _ L1 H1 => FlQ X.K D L1 H1 fl) (loopL n g fb rest i env S),
        ⟨xs.length, xs, L1, env, S1, rfl, Ex.refl _ _, rep1, re.mono e1, h1⟩, ?_⟩
      rintro i m σ2 H2 ⟨rest, L2, env2, S2, rfl, e2, rep2, re2, h2⟩
      have fin : ∀ ys, S2[n]? = some (.lst ys) → ys.length ≤ i → End X.K E L2 H2 (fun fl _ L1 H1 => FlQ X.K D L1 H1 fl) (.ok (.nx env2) S2) → (J.stop i H2 ∧ D.nx σ2 H2) := fun ys q hl h =>
        ⟨(hJ i L2 H2 S2 ys e2 rep2 q).2 hl, h L2 H2 (Ex.refl _ _) rep2 σ2 re2⟩
      cases rest with
      | nil =>
        unfold loopL at h2
        cases q : S2[n]? with
        | none => rw [q] at h2; exact h2.elim
        | some c =>
          cases c with
          | lst ys =>
            rw [q] at h2
            simp only at h2
            by_cases hl : ys.length ≤ i
            · rw [if_pos hl] at h2
              exact .inl (fin ys q hl h2)
            · rw [if_neg hl] at h2; exact h2.elim
          | _ => rw [q] at h2; exact h2.elim
      | cons r0 rest =>
        unfold loopL at h2
        cases q : S2[n]? with
        | none => rw [q] at h2; exact h2.elim
        | some c =>
          cases c with
          | lst ys =>
            rw [q] at h2
            simp only at h2
            cases hd : ys[i]? with
            | none =>
              rw [hd] at h2
              exact .inl (fin ys q (List.getElem?_eq_none_iff.mp hd) h2)
            | some d =>
              rw [hd] at h2
              simp only at h2
              obtain ⟨hgo, hy⟩ := (hJ i L2 H2 S2 ys e2 rep2 q).1 _ hd
              refine .inr ⟨hgo, fun σ3 H3 => ∃ L2 env S, Ex L1 H1 L2 H3 ∧ Rep X.K L2 H3 S ∧ RE X.K L2 H3 σ3 env ∧ End X.K E L2 H3 (fun fl _ L1 H1 => FlQ X.K D L1 H1 fl) (loopL n g fb rest (i + 1) env S),
                fun σ3 H3 ⟨L5, env5, S5, q1, q2, q3, q4⟩ => ⟨_, by simp, rest, L5, env5, S5, rfl, q1, q2, q3, q4⟩, fun x H3 y => ?_⟩
              obtain ⟨e3, rep3, rx⟩ := hy x H3 y
              refine ⟨L2, env2, S2, _, rep3, re2.mono e3, rx, (End.bind (h2.later e3)).imp fun env4 S4 L4 H4 e4 rep4 h4 σ4 r4 => ?_⟩
              refine ⟨L4, env4, S4, rep4, r4, (End.bind h4).imp fun fl S5 L5 H5 e5 rep5 h5 => ?_⟩
              exact turn_of (nxt := fun e S => loopL n g fb rest (i + 1) e S) rep5 (fun env6 σ6 r6 h6 => ⟨L5, env6, S5, ((e2.trans e3).trans e4).trans e5, rep5, r6, h6⟩) h5
          | _ => rw [q] at h2; exact h2.elim
end
end RF

namespace RF
open PySem L2

/-! ### list comprehensions: one name as the target -/
def R.nox {α : Type} : R α → R α
  | .ok a S => .ok a S
  | _ => .bad
@[simp] theorem R.nox_ok {α : Type} (a : α) (S : Sto) : (R.ok a S).nox = .ok a S := (rfl)
abbrev D' := D
abbrev E0' : XK := fun _ _ _ => False
def compX (i : Nat) (ft : BF) (fe : EF) (env : Lc) : List D → List D → Sto → R D
  | [], acc, S => .ok (.ref S.length) (S ++ [.lst acc])
  | d :: xs, acc, S => (ft (env.set i (some d)) S).nox.bind fun b S1 => if b = true then ((fe (env.set i (some d)) S1).nox.bind fun y S2 => if acc.length < 100000 then compX i ft fe env xs (acc ++ [y]) S2 else .bad) else compX i ft fe env xs acc S1
def compL (n i : Nat) (ft : BF) (fe : EF) (env : Lc) : List D → Nat → List D → Sto → R D
  | [], j, acc, S => match S[n]? with
    | some (.lst ys) => if ys.length ≤ j then .ok (.ref S.length) (S ++ [.lst acc]) else .bad
    | _ => .bad
  | _ :: xs, j, acc, S => match S[n]? with
    | some (.lst ys) => match ys[j]? with
      | none => .ok (.ref S.length) (S ++ [.lst acc])
      | some d => (ft (env.set i (some d)) S).nox.bind fun b S1 => if b = true then ((fe (env.set i (some d)) S1).nox.bind fun y S2 => if acc.length < 100000 then compL n i ft fe env xs (j + 1) (acc ++ [y]) S2 else .bad) else compL n i ft fe env xs (j + 1) acc S1
    | _ => .bad
def fComp (fi : IF) (i : Nat) (ft : BF) (fe : EF) : EF := fun env S => (fi env S).bind fun it S1 => match it with
  | .fix xs => compX i ft fe (env.set i none) xs [] S1
  | .live n xs => compL n i ft fe (env.set i none) xs 0 [] S1
def fYes : BF := fun _ S => .ok true S

section
variable {K : PySem.W.Frag} {L L1 : List Addr} {H H1 : Hp} {S S1 : Sto} {E : XK} {α β : Type}
theorem End.keep {Q : β → Sto → List Addr → Hp → Prop} {x : R α} {k : α → Sto → R β} (h : End K E L H Q (x.nox.bind k)) : End K E0' L1 H1 (fun a S2 _ _ => End K E L H Q (k a S2)) x := by
  cases x with
  | ok a S => exact fun _ _ _ _ => h
  | ex c S => exact h.elim
  | bad => exact h.elim
/-- a list that was made outside of the store comes into it -/
theorem Rep.adopt {D : Addr} {vs : List V} {ds : List D'} (r : Rep K L H S) (hD : H D = some (.lst vs)) (hn : D ∉ L) (rd : RDs K L H vs ds) : Rep K (L ++ [D]) H (S ++ [.lst ds]) := by
  have gr : Gr L H (L ++ [D]) H := ⟨fun n a h => by rw [List.getElem?_append_left (List.getElem?_eq_some_iff.mp h).1]; exact h, fun _ _ h => h, fun _ _ _ h => h⟩
  refine ⟨by rw [List.length_append, List.length_append, r.len]; rfl, ?_, fun n b c' h1 h2 => ?_⟩
  · rw [List.nodup_append]
    refine ⟨r.nd, by simp, fun b hb d hd e => ?_⟩
    rw [List.mem_singleton] at hd
    subst hd; subst e
    exact hn hb
  · by_cases hl : n < L.length
    · rw [List.getElem?_append_left hl] at h1
      rw [List.getElem?_append_left (by rw [← r.len]; exact hl)] at h2
      exact (r.cel n b c' h1 h2).grow gr rfl
    · rw [List.getElem?_append_right (Nat.le_of_not_lt hl)] at h1
      rw [List.getElem?_append_right (by rw [← r.len]; exact Nat.le_of_not_lt hl)] at h2
      rw [← r.len] at h2
      have e : n - L.length = 0 := by
        have := (List.getElem?_eq_some_iff.mp h1).1
        simp at this; omega
      rw [e] at h1 h2
      simp at h1 h2
      subst h1; subst h2
      exact ⟨vs, hD, rd.grow gr⟩
theorem adopt_val {D : Addr} {vs : List V} {ds : List D'} {L0 : List Addr} {H0 : Hp} {Q : VK} (h : EndV K E L0 H0 Q (.ok (.ref S.length) (S ++ [.lst ds]))) (r : Rep K L H S) (hD : H D = some (.lst vs)) (hn : D ∉ L) (hf : H0 D = none) (ex : Ex L0 H0 L H) (rd : RDs K L H vs ds) : Q (.ref D) H := by
  refine h (L ++ [D]) H ⟨fun n a q => ?_, fun a q => ?_, ex.fr, ex.tp, ex.fz⟩ (r.adopt hD hn rd) _ (.ref ?_)
  · rw [List.getElem?_append_left (List.getElem?_eq_some_iff.mp (ex.px n a q)).1]; exact ex.px n a q
  · rcases List.mem_append.mp q with q | q
    · exact ex.nw a q
    · rw [List.mem_singleton.mp q]; exact .inr hf
  · rw [← r.len, List.getElem?_append_right (Nat.le_refl _)]; simp
/-- what stands outside of the store stays so -/
theorem Ex.outside {D : Addr} {o : HO} (e : Ex L H L1 H1) (hn : D ∉ L) (h : H D = some o) : D ∉ L1 ∧ H1 D = some o := by
  refine ⟨fun z => ?_, e.fr D o hn h⟩
  rcases e.nw D z with z | z
  · exact hn z
  · rw [h] at z; cases z
/-- an object outside of the store changes -/
theorem Gr.out {D : Addr} {o u : HO} (h : H D = some u) (h1 : ∀ xs, u ≠ .tup xs) (h2 : ∀ o w, u ≠ .frz o w) : Gr L H L (upd H D o) :=
  ⟨fun _ _ q => q, fun b xs q => by rw [upd_ne (fun z => by rw [z, h] at q; exact h1 xs (Option.some.inj q))]; exact q, fun b o' w q => by rw [upd_ne (fun z => by rw [z, h] at q; exact h2 o' (.lst w) (Option.some.inj q))]; exact q⟩
theorem Rep.out {D : Addr} {o u : HO} (r : Rep K L H S) (hn : D ∉ L) (h : H D = some u) (h1 : ∀ xs, u ≠ .tup xs) (h2 : ∀ o w, u ≠ .frz o w) : Rep K L (upd H D o) S :=
  ⟨r.len, r.nd, fun n b c q1 q2 => (r.cel n b c q1 q2).grow (Gr.out h h1 h2) (upd_ne fun z => hn (z ▸ List.mem_of_getElem? q1))⟩
theorem Ex.out {D : Addr} {o u : HO} {L0 : List Addr} {H0 : Hp} (e : Ex L0 H0 L H) (hf : H0 D = none) (h : H D = some u) : Ex L0 H0 L (upd H D o) :=
  have ne : ∀ {b : Addr} {w : HO}, H0 b = some w → b ≠ D := fun q z => by rw [z, hf] at q; cases q
  ⟨e.px, e.nw, fun b w hb q => (upd_ne (ne q)).trans (e.fr b w hb q), fun b xs q => (upd_ne (ne q)).trans (e.tp b xs q), fun b o' w q => (upd_ne (ne q)).trans (e.fz b o' w q)⟩
end
theorem RE.wipe {K : PySem.W.Frag} {L : List Addr} {H : Hp} {σ : St} {env : Lc} (r : RE K L H σ env) (i : Nat) : RE K L H (wipe σ [i]) (env.set i none) := by
  refine ⟨by rw [wipe_length, List.length_set, r.len], fun j d h => ?_⟩
  by_cases hj : i = j
  · subst hj
    by_cases hi : i < env.length
    · rw [List.getElem?_set_self hi] at h; cases h
    · rw [List.getElem?_eq_none (by rw [List.length_set]; exact Nat.le_of_not_lt hi)] at h; cases h
  · rw [List.getElem?_set_ne hj] at h
    show ∃ v, (σ.set i none)[j]? = _ ∧ _
    rw [List.getElem?_set_ne hj]
    exact r.val j d h
theorem wipe_set {σ : St} {i : Nat} {x : V} : wipe ((wipe σ [i]).set i (some x)) [i] = wipe σ [i] := by
  show (((σ.set i none).set i (some x)).set i none) = σ.set i none
  rw [List.set_set, List.set_set]
section
variable {X : Cx} {E : XK} {tg l iter elt : Expr} {fa fe : EF} {ft : BF} {fi : IF} {pos : Pos}
/-- the turns of a comprehension -/
theorem comp_of {K : PySem.W.Frag} {i : Nat} {σ : St} {H : Hp} {Q : VK} (h : tE K E (fComp fi i ft fe) σ H Q) : tLc (tI K E fi) (gName i) (tT K E0' ft) (tE K E0' fe) [i] σ H Q := by
  obtain ⟨L, env, S, rep, re, h⟩ := h
  refine ⟨L, env, S, rep, re, (End.bind h).imp fun it S1 L1 H1 e1 rep1 h1 J hJ D hD => ?_⟩
  have re1 := (re.mono e1).wipe i
  have exD : Ex L1 H1 L1 (upd H1 D (.lst [])) := Ex.new hD
  have nD : D ∉ L1 := rep1.fresh hD
  -- one turn, whatever follows
  have turn : ∀ {fin : List D' → Sto → R D'} {Nx : Hp → Prop} {L2 : List Addr} {H2 : Hp} {S2 : Sto} {d : D'} {x : V} {H3 : Hp} {acc : List D'} {vs : List V}, Ex L1 H1 L2 H2 → Rep K L2 H2 S2 → D ∉ L2 → H2 D = some (.lst vs) → RDs K L2 H2 vs acc →
      Ex L2 H2 L2 H3 → Rep K L2 H3 S2 → RD K L2 H3 x d →
      (∀ {L4 : List Addr} {H4 : Hp} {S4 : Sto} {ws : List V} {acc2 : List D'}, Ex L1 H1 L4 H4 → Rep K L4 H4 S4 → D ∉ L4 → H4 D = some (.lst ws) → RDs K L4 H4 ws acc2 → EndV K E L1 H1 Q (fin acc2 S4) → Nx H4) →
      EndV K E L1 H1 Q ((ft ((env.set i none).set i (some d)) S2).nox.bind fun b S1 => if b = true then ((fe ((env.set i none).set i (some d)) S1).nox.bind fun y S2 => if acc.length < 100000 then fin (acc ++ [y]) S2 else .bad) else fin acc S1) →
      gName i x (wipe σ [i]) H3 fun σ2 H2 => wipe σ2 [i] = wipe σ [i] ∧ (tT K E0' ft) σ2 H2 fun b H3 =>
        if b = true then (tE K E0' fe) σ2 H3 fun y H4 => ∃ acc, H4 D = some (.lst acc) ∧ acc.length < sizeLine ∧ Nx (upd H4 D (.lst (acc ++ [y]))) else Nx H3 := by
    intro fin Nx L2 H2 S2 d x H3 acc vs e2 rep2 n2 hD2 rd2 e3 rep3 rx hN hq
    refine ⟨wipe_set, ?_⟩
    have re3 : RE K L2 H3 ((wipe σ [i]).set i (some x)) ((env.set i none).set i (some d)) := ((re1.mono e2).mono e3).set rx
    obtain ⟨n3, hD3⟩ := e3.outside n2 hD2
    refine ⟨L2, _, S2, rep3, re3, (End.keep hq).imp fun b S4 L4 H4 e4 rep4 q4 => ?_⟩
    obtain ⟨n4, hD4⟩ := e4.outside n3 hD3
    cases b with
    | false => exact iteF (hN ((e2.trans e3).trans e4) rep4 n4 hD4 ((rd2.mono e3).mono e4) q4)
    | true =>
      refine iteT ⟨L4, _, S4, rep4, re3.mono e4, (End.keep q4).imp fun y S5 L5 H5 e5 rep5 q5 v rv => ?_⟩
      obtain ⟨n5, hD5⟩ := e5.outside n4 hD4
      by_cases hl : acc.length < 100000
      · rw [if_pos hl] at q5
        have rl : vs.length = acc.length := rd2.length
        have gr : Gr L5 H5 L5 (upd H5 D (.lst (vs ++ [v]))) := Gr.out hD5 (fun _ z => nomatch z) (fun _ _ z => nomatch z)
        refine ⟨vs, hD5, by rw [rl]; exact sz5l hl, ?_⟩
        refine hN (Ex.out (((e2.trans e3).trans e4).trans e5) hD hD5) (rep5.out n5 hD5 (fun _ z => nomatch z) (fun _ _ z => nomatch z)) n5 upd_same ?_ q5
        exact RDs.append ((((rd2.mono e3).mono e4).mono e5).grow gr) (.cons (rv.grow gr) .nil)
      · rw [if_neg hl] at q5; exact q5.elim
  cases it with
  | fix xs =>
    refine ⟨fun j m H => m = xs.length - j ∧ j ≤ xs.length ∧ ∃ L2 S2 acc vs, Ex L1 H1 L2 H ∧ Rep K L2 H S2 ∧ D ∉ L2 ∧ H D = some (.lst vs) ∧ RDs K L2 H vs acc ∧ EndV K E L1 H1 Q (compX i ft fe (env.set i none) (xs.drop j) acc S2),
      ⟨xs.length, by simp, Nat.zero_le _, L1, S1, [], [], exD, rep1.new hD, nD, upd_same, .nil, h1⟩, ?_⟩
    rintro j m H2 ⟨rfl, hj, L2, S2, acc, vs, e2, rep2, n2, hD2, rd2, h2⟩
    have ok := hJ j L2 H2 S2 e2 rep2
    by_cases hlt : j < xs.length
    · have hd : xs[j]? = some xs[j] := List.getElem?_eq_getElem hlt
      obtain ⟨hgo, hy⟩ := ok.1 _ hd
      rw [List.drop_eq_getElem_cons hlt] at h2
      refine .inr ⟨hgo, fun H3 => ∃ L2 S2 acc vs, Ex L1 H1 L2 H3 ∧ Rep K L2 H3 S2 ∧ D ∉ L2 ∧ H3 D = some (.lst vs) ∧ RDs K L2 H3 vs acc ∧ EndV K E L1 H1 Q (compX i ft fe (env.set i none) (xs.drop (j + 1)) acc S2),
        fun H3 q => ⟨_, by omega, rfl, hlt, q⟩, fun x H3 y => ?_⟩
      obtain ⟨e3, rep3, rx⟩ := hy x H3 y
      exact turn (fin := fun a s => compX i ft fe (env.set i none) (xs.drop (j + 1)) a s) e2 rep2 n2 hD2 rd2 e3 rep3 rx (fun q1 q2 q3 q4 q5 q6 => ⟨_, _, _, _, q1, q2, q3, q4, q5, q6⟩) h2
    · refine .inl ⟨ok.2 (by omega), ?_⟩
      rw [List.drop_eq_nil_of_le (by omega)] at h2
      exact adopt_val h2 rep2 hD2 n2 hD e2 rd2
  | live n xs =>
    refine ⟨fun j m H => ∃ rest L2 S2 acc vs, m = List.length rest ∧ Ex L1 H1 L2 H ∧ Rep K L2 H S2 ∧ D ∉ L2 ∧ H D = some (.lst vs) ∧ RDs K L2 H vs acc ∧ EndV K E L1 H1 Q (compL n i ft fe (env.set i none) rest j acc S2),
      ⟨xs.length, xs, L1, S1, [], [], rfl, exD, rep1.new hD, nD, upd_same, .nil, h1⟩, ?_⟩
    rintro j m H2 ⟨rest, L2, S2, acc, vs, rfl, e2, rep2, n2, hD2, rd2, h2⟩
    cases rest with
    | nil =>
      unfold compL at h2
      cases q : S2[n]? with
      | none => rw [q] at h2; exact h2.elim
      | some c =>
        cases c with
        | lst ys =>
          rw [q] at h2
          simp only at h2
          by_cases hl : ys.length ≤ j
          · rw [if_pos hl] at h2
            exact .inl ⟨(hJ j L2 H2 S2 ys e2 rep2 q).2 hl, adopt_val h2 rep2 hD2 n2 hD e2 rd2⟩
          · rw [if_neg hl] at h2; exact h2.elim
        | _ => rw [q] at h2; exact h2.elim
    | cons r0 rest =>
      unfold compL at h2
      cases q : S2[n]? with
      | none => rw [q] at h2; exact h2.elim
      | some c =>
        cases c with
        | lst ys =>
          rw [q] at h2
          simp only at h2
          cases hd : ys[j]? with
          | none =>
            rw [hd] at h2
            exact .inl ⟨(hJ j L2 H2 S2 ys e2 rep2 q).2 (List.getElem?_eq_none_iff.mp hd), adopt_val h2 rep2 hD2 n2 hD e2 rd2⟩
          | some d =>
            rw [hd] at h2
            simp only at h2
            obtain ⟨hgo, hy⟩ := (hJ j L2 H2 S2 ys e2 rep2 q).1 _ hd
            refine .inr ⟨hgo, fun H3 => ∃ L2 S2 acc vs, Ex L1 H1 L2 H3 ∧ Rep K L2 H3 S2 ∧ D ∉ L2 ∧ H3 D = some (.lst vs) ∧ RDs K L2 H3 vs acc ∧ EndV K E L1 H1 Q (compL n i ft fe (env.set i none) rest (j + 1) acc S2),
              fun H3 ⟨q0, q1, q2, q3, q4⟩ => ⟨_, by simp, rest, q0, q1, q2, q3, rfl, q4⟩, fun x H3 y => ?_⟩
            obtain ⟨e3, rep3, rx⟩ := hy x H3 y
            exact turn (fin := fun a s => compL n i ft fe (env.set i none) rest (j + 1) a s) e2 rep2 n2 hD2 rd2 e3 rep3 rx (fun q1 q2 q3 q4 q5 q6 => ⟨_, _, _, _, q1, q2, q3, q4, q5, q6⟩) h2
        | _ => rw [q] at h2; exact h2.elim
theorem xYes {Y : Cx} : PTs Y [] (tT Y.K E fYes) := ⟨fun pins s σ H Q I ⟨L, env, S, rep, re, h⟩ => pts_nil.run pins s σ H Q I (h L H (Ex.refl _ _) rep)⟩
theorem xTst {Y : Cx} {c : Expr} (h : PT Y c (tT Y.K E ft)) : PTs Y [c] (tT Y.K E ft) := pts_one h
/-- [elt for x in iter], [elt for x in iter if c], x in slot i -/
theorem xComp {x : Str} {i : Nat} {px : Pos} {ifs : List Expr} {scope : Scope} (hc : X.calm = true) (hN : X.N.Nodup) (hi : PI X (.Name x px) iter (tI X.K E fi)) (ok : BlkOk X.N X.env.scope scope [(x, i)])
    (hg : ∀ (s : Shared) (H : Hp) (C : Addr) (cl : List (Str × Addr)) (fp : List Addr), PG (X.blk s H scope (compEnvC scope cl C X.env) fp) (.Name x px) (gName i)) (ht : ∀ (s : Shared) (H : Hp) (C : Addr) (cl : List (Str × Addr)) (fp : List Addr), PTs (X.blk s H scope (compEnvC scope cl C X.env) fp) ifs (tT X.K E0' ft))
    (he : ∀ (s : Shared) (H : Hp) (C : Addr) (cl : List (Str × Addr)) (fp : List Addr), PE (X.blk s H scope (compEnvC scope cl C X.env) fp) elt (tE X.K E0' fe)) (hs : ∀ x, foldedSetIterable iter X.env x = pure x := by intro _; rfl) :
    PE X (.ListComp elt [⟨.Name x px, iter, ifs, 0⟩] scope pos) (tE X.K E (fComp fi i ft fe)) :=
  monoE (pe_lc (own := [(x, i)]) hc hN hi ok hg ht he hs) fun σ H Q h => comp_of h
/-- y = [..] -/
theorem xSetComp {x y : Str} {i j : Nat} {px py spos : Pos} {ifs : List Expr} {scope : Scope} (hc : X.calm = true) (hN : X.N.Nodup) (hy : X.N[j]? = some y) (hyl : X.env.scope.names.lookup y = some .local)
    (hsw : swapsWith (.ListComp elt [⟨.Name x px, iter, ifs, 0⟩] scope pos) (some (.Name y py)) spos.line X.env = pure true) (hi : PI X (.Name x px) iter (tI X.K E fi)) (ok : BlkOk X.N X.env.scope scope [(x, i)])
    (hg : ∀ (s : Shared) (H : Hp) (C : Addr) (cl : List (Str × Addr)) (fp : List Addr), PG (X.blk s H scope (compEnvC scope cl C X.env) fp) (.Name x px) (gName i)) (ht : ∀ (s : Shared) (H : Hp) (C : Addr) (cl : List (Str × Addr)) (fp : List Addr), PTs (X.blk s H scope (compEnvC scope cl C X.env) fp) ifs (tT X.K E0' ft))
    (he : ∀ (s : Shared) (H : Hp) (C : Addr) (cl : List (Str × Addr)) (fp : List Addr), PE (X.blk s H scope (compEnvC scope cl C X.env) fp) elt (tE X.K E0' fe)) (hs : ∀ x, foldedSetIterable iter X.env x = pure x := by intro _; rfl) :
    PS X (.Assign [.Name y py] (.ListComp elt [⟨.Name x px, iter, ifs, 0⟩] scope pos) spos) (tS X.K E (fAsg (fComp fi i ft fe) (gN j))) :=
  monoS (ps_setLc (own := [(x, i)]) hc hN hy hyl hsw hi ok hg ht he hs) fun D σ H h => by
    obtain ⟨L, env, S, rep, re, h⟩ := h
    refine comp_of ⟨L, env, S, rep, re, (End.bind h).imp fun d S1 L1 H1 e1 rep1 h1 v rv => ?_⟩
    exact h1 L1 H1 (Ex.refl _ _) rep1 _ ((re.mono e1).set rv)
end
end RF

namespace RF
open PySem L2

/-! ### subscripts -/
def keyD : D → Option Key
  | .int i => some (.inl i)
  | .str x => some (.inr x)
  | _ => none
def keysD : D → Option (List Key)
  | .tup ds => ds.mapM keyD
  | _ => none
def valK {κ β : Type} [DecidableEq κ] (kvs : List (κ × β)) (k : κ) : Option β := (kvs.find? fun kv => decide (kv.1 = k)).map (·.2)
def putKD {κ β : Type} [DecidableEq κ] (kvs : List (κ × β)) (k : κ) (v : β) : List (κ × β) :=
  if (kvs.any fun kv => decide (kv.1 = k)) = true then kvs.map (fun kv => if kv.1 = k then (kv.1, v) else kv) else kvs ++ [(k, v)]
def dropKD {κ β : Type} [DecidableEq κ] (kvs : List (κ × β)) (k : κ) : List (κ × β) := kvs.filter fun kv => decide (kv.1 ≠ k)
def isDict (S : Sto) : D → Bool
  | .ref n => match S[n]? with
    | some (.dk _) => true
    | some (.dt _) => true
    | _ => false
  | _ => false
def retO (S : Sto) : Option D → R D
  | some d => .ok d S
  | none => .bad
def oGetL (x y : D) (S : Sto) : R D := match x, y with
  | .tup xs, .int i => retO S (atI xs i)
  | .rl xs, .int i => retO S (atI xs i)
  | .str z, .int i => if z.length ≤ 100000 then retO S ((atI z.cps.toList i).map fun c => .str ⟨#[c]⟩) else .bad
  | .ref n, .int i => match S[n]? with
    | some (.lst xs) => retO S (atI xs i)
    | _ => .bad
  | _, _ => .bad
/-- what a dict holds: none if it is no dict or no key -/
def lookD (S : Sto) (x y : D) : Option (Option D) := match x with
  | .ref n => match S[n]? with
    | some (.dk kvs) => (keyD y).map fun k => valK kvs k
    | some (.dt kvs) => (keysD y).map fun k => valK kvs k
    | _ => none
  | _ => none
def oGetD (x y : D) (S : Sto) : R D := match lookD S x y with
  | some (some d) => .ok d S
  | _ => .bad
def fIx (fa fb : EF) : EF := fun env S => (fa env S).bind fun x S1 => if isDict S1 x = true then (fb env S1).bind fun y S2 => oGetD x y S2 else (fb env S1).bind fun y S2 => oGetL x y S2
def oSet (x y d : D) (S : Sto) : R Unit := match x with
  | .ref n => match S[n]? with
    | some (.lst xs) => match y with
      | .int i => match ixN xs.length i with
        | some j => .ok () (S.set n (.lst (xs.set j d)))
        | none => .bad
      | _ => .bad
    | some (.dk kvs) => match keyD y with
      | some k => if kvs.length < 100000 then .ok () (S.set n (.dk (putKD kvs k d))) else .bad
      | none => .bad
    | some (.dt kvs) => match keysD y with
      | some k => if kvs.length < 100000 then .ok () (S.set n (.dt (putKD kvs k d))) else .bad
      | none => .bad
    | _ => .bad
  | _ => .bad
def gSub' (fo fi : EF) : GF := fun d env S => (fo env S).bind fun x S1 => (fi env S1).bind fun y S2 => (oSet x y d S2).bind fun _ S3 => .ok env S3

section
variable {K : PySem.W.Frag} {L : List Addr} {H : Hp} {S : Sto}
theorem RD.key {v : V} {d : D} {k : Key} (r : RD K L H v d) (h : keyD d = some k) : v = kV k := by
  cases r with
  | int i => cases h; rfl
  | str i => cases h; rfl
  | _ => cases h
theorem RDs.keys : ∀ {vs : List V} {ds : List D} {ks : List Key}, RDs K L H vs ds → ds.mapM keyD = some ks → vs = ks.map kV
  | _, _, _, .nil, h => by
    simp at h
    subst h; rfl
  | _, _, ks, .cons (d := d) a b, h => by
    rw [List.mapM_cons] at h
    cases q : keyD d with
    | none => rw [q] at h; cases h
    | some k =>
      rw [q] at h
      cases q2 : (List.mapM keyD _ : Option (List Key)) with
      | none => rw [q2] at h; cases h
      | some ks' =>
        rw [q2] at h
        cases h
        rw [List.map_cons, ← a.key q, ← RDs.keys b q2]
theorem RD.keys {v : V} {d : D} {ks : List Key} (r : RD K L H v d) (h : keysD d = some ks) : ∃ b, v = .ref b ∧ H b = some (.tup (ks.map kV)) := by
  cases r with
  | tup hs rs => exact ⟨_, rfl, by rw [hs, rs.keys h]⟩
  | _ => cases h
theorem RK.valK {κ : Type} [DecidableEq κ] (k : κ) : ∀ {ps : List (κ × V)} {qs : List (κ × D)}, RK K L H ps qs → (RF.valK qs k = none ∧ valV ps k = none) ∨ ∃ v d, RF.valK qs k = some d ∧ valV ps k = some v ∧ RD K L H v d
  | [], [], _ => .inl ⟨rfl, rfl⟩
  | (a, v) :: ps, (b, d) :: qs, ⟨e, r, c⟩ => by
    have e : a = b := e
    subst e
    unfold RF.valK valV
    rw [List.find?_cons, List.find?_cons]
    cases q : decide (a = k) with
    | true => exact .inr ⟨v, d, rfl, rfl, r⟩
    | false => exact RK.valK k c
  | [], _ :: _, h => h.elim
  | _ :: _, [], h => h.elim
theorem RK.any {κ : Type} (p : κ → Bool) : ∀ {ps : List (κ × V)} {qs : List (κ × D)}, RK K L H ps qs → (ps.any fun kv => p kv.1) = qs.any fun kv => p kv.1
  | [], [], _ => rfl
  | (a, v) :: ps, (b, d) :: qs, ⟨e, r, c⟩ => by
    have e : a = b := e
    subst e
    rw [List.any_cons, List.any_cons, RK.any p c]
  | [], _ :: _, h => h.elim
  | _ :: _, [], h => h.elim
theorem RK.mapput {κ : Type} [DecidableEq κ] {k : κ} {v : V} {d : D} (rv : RD K L H v d) : ∀ {ps : List (κ × V)} {qs : List (κ × D)}, RK K L H ps qs → RK K L H (ps.map fun kv => if kv.1 = k then (kv.1, v) else kv) (qs.map fun kv => if kv.1 = k then (kv.1, d) else kv)
  | [], [], _ => trivial
  | (a, w) :: ps, (b, x) :: qs, ⟨e, r, c⟩ => by
    have e : a = b := e
    subst e
    rw [List.map_cons, List.map_cons]
    by_cases h : a = k
    · simp only [if_pos h]
      exact ⟨rfl, rv, RK.mapput rv c⟩
    · simp only [if_neg h]
      exact ⟨rfl, r, RK.mapput rv c⟩
  | [], _ :: _, h => h.elim
  | _ :: _, [], h => h.elim
theorem RK.append {κ : Type} {ps2 : List (κ × V)} {qs2 : List (κ × D)} (h2 : RK K L H ps2 qs2) : ∀ {ps : List (κ × V)} {qs : List (κ × D)}, RK K L H ps qs → RK K L H (ps ++ ps2) (qs ++ qs2)
  | [], [], _ => h2
  | (a, w) :: ps, (b, x) :: qs, ⟨e, r, c⟩ => ⟨e, r, RK.append h2 c⟩
  | [], _ :: _, h => h.elim
  | _ :: _, [], h => h.elim
theorem RK.put {κ : Type} [DecidableEq κ] {k : κ} {v : V} {d : D} (rv : RD K L H v d) {ps : List (κ × V)} {qs : List (κ × D)} (h : RK K L H ps qs) : RK K L H (putK ps k v) (putKD qs k d) := by
  unfold putK putKD
  rw [RK.any (fun x => decide (x = k)) h]
  split
  · exact RK.mapput rv h
  · exact RK.append (ps2 := [(k, v)]) (qs2 := [(k, d)]) ⟨rfl, rv, trivial⟩ h
theorem RK.drop {κ : Type} [DecidableEq κ] {k : κ} : ∀ {ps : List (κ × V)} {qs : List (κ × D)}, RK K L H ps qs → RK K L H (dropK ps k) (dropKD qs k)
  | [], [], _ => trivial
  | (a, w) :: ps, (b, x) :: qs, ⟨e, r, c⟩ => by
    have e : a = b := e
    subst e
    unfold dropK dropKD
    rw [List.filter_cons, List.filter_cons]
    by_cases h : a = k
    · simp only [h, ne_eq, not_true_eq_false, decide_false, Bool.false_eq_true, if_false]
      exact RK.drop c
    · have e : decide (¬ a = k) = true := decide_eq_true h
      simp only [ne_eq, e, if_true]
      exact ⟨rfl, r, RK.drop c⟩
  | [], _ :: _, h => h.elim
  | _ :: _, [], h => h.elim
theorem RDs.atI {vs : List V} {ds : List D} {i : Int} {d : D} (r : RDs K L H vs ds) (h : L2.atI ds i = some d) : ∃ v, L2.atI vs i = some v ∧ RD K L H v d := by
  unfold L2.atI at h ⊢
  rw [r.length]
  cases q : ixN ds.length i with
  | none => rw [q] at h; cases h
  | some j =>
    rw [q] at h
    exact r.get h
theorem lookD_of {x y : D} {v w : V} {o : Option D} (rep : Rep K L H S) (rx : RD K L H v x) (ry : RD K L H w y) (h : lookD S x y = some o) : ∃ a, v = .ref a ∧ ((o = none ∧ DGet H a w none) ∨ ∃ d u, o = some d ∧ DGet H a w (some u) ∧ RD K L H u d) := by
  unfold lookD at h
  cases rx with
  | @ref a n ha =>
    obtain ⟨c, hc, rc⟩ := rep.adr ha
    simp only [hc] at h
    refine ⟨a, rfl, ?_⟩
    cases c with
    | dk kvs =>
      simp only at h
      cases q : keyD y with
      | none => rw [q] at h; cases h
      | some k =>
        rw [q] at h
        obtain ⟨ws, hw, rk⟩ := rc
        obtain rfl := ry.key q
        have h : RF.valK kvs k = o := Option.some.inj h
        rcases rk.valK k with ⟨h1, h2⟩ | ⟨u, d, h1, h2, r⟩
        · exact .inl ⟨h.symm.trans h1, by rw [← h2]; exact DGet.k hw⟩
        · exact .inr ⟨d, u, h.symm.trans h1, by rw [← h2]; exact DGet.k hw, r⟩
    | dt kvs =>
      simp only at h
      cases q : keysD y with
      | none => rw [q] at h; cases h
      | some k =>
        rw [q] at h
        obtain ⟨ws, hw, rk⟩ := rc
        obtain ⟨b, rfl, hb⟩ := ry.keys q
        have h : RF.valK kvs k = o := Option.some.inj h
        rcases rk.valK k with ⟨h1, h2⟩ | ⟨u, d, h1, h2, r⟩
        · exact .inl ⟨h.symm.trans h1, by rw [← h2]; exact DGet.t hw hb⟩
        · exact .inr ⟨d, u, h.symm.trans h1, by rw [← h2]; exact DGet.t hw hb, r⟩
    | _ => cases h
  | _ => cases h
variable {E : XK}
theorem retO_of {Q : VK} {o : Option D} (rep : Rep K L H S) (h : EndV K E L H Q (retO S o)) : ∃ d, o = some d ∧ ∀ v, RD K L H v d → Q v H := by
  cases o with
  | none => exact h.elim
  | some d => exact ⟨d, rfl, fun v rv => EndV.val h rep rv⟩
theorem opF_getL : OpF K E (rIx K) oGetL := by
  intro L H S x y d1 d2 Q rep r1 r2 h
  cases r1 with
  | tup hs rs =>
    cases r2 with
    | int i =>
      obtain ⟨d, e, k⟩ := retO_of rep h
      obtain ⟨v, hv, rv⟩ := rs.atI e
      exact .inr (.inl ⟨_, _, i, v, rfl, rfl, .of hs, hv, k v rv⟩)
    | _ => exact h.elim
  | rl hs rs =>
    cases r2 with
    | int i =>
      obtain ⟨d, e, k⟩ := retO_of rep h
      obtain ⟨v, hv, rv⟩ := rs.atI e
      exact .inl ⟨_, _, i, v, rfl, rfl, hs H fun _ _ z => z, hv, k v rv⟩
    | _ => exact h.elim
  | str z =>
    cases r2 with
    | int i =>
      have h : EndV K E L H Q (if z.length ≤ 100000 then retO S ((atI z.cps.toList i).map fun c => .str ⟨#[c]⟩) else .bad) := h
      by_cases hl : z.length ≤ 100000
      · rw [if_pos hl] at h
        obtain ⟨d, e, k⟩ := retO_of rep h
        obtain ⟨c, hc, rfl⟩ := Option.map_eq_some_iff.mp e
        exact .inr (.inr ⟨z, i, c, rfl, rfl, sz5 hl, hc, k _ (.str _)⟩)
      · rw [if_neg hl] at h; exact h.elim
    | _ => exact h.elim
  | ref ha =>
    cases r2 with
    | int i =>
      obtain ⟨c, hc, rc⟩ := rep.adr ha
      unfold oGetL at h
      simp only [hc] at h
      cases c with
      | lst xs =>
        obtain ⟨d, e, k⟩ := retO_of rep h
        obtain ⟨vs, hv, rvs⟩ := rc
        obtain ⟨v, hv2, rv⟩ := rvs.atI e
        exact .inl ⟨_, _, i, v, rfl, rfl, .of hv, hv2, k v rv⟩
      | _ => exact h.elim
    | _ => exact h.elim
  | _ => exact h.elim
/-- a cell is written -/
theorem Rep.write {n : Nat} {a : Addr} {c : Cell} {o : HO} (rep : Rep K L H S) (ha : L[n]? = some a) (hc : RC K L (upd H a o) a c) (hm : Wr H a := by (apply Wr.of; assumption; trivial)) : Ex L H L (upd H a o) ∧ Rep K L (upd H a o) (S.set n c) := ⟨Ex.wr hm (List.mem_of_getElem? ha), rep.wr hm ha hc⟩
theorem Gr.wr {n : Nat} {a : Addr} {o : HO} (rep : Rep K L H S) (ha : L[n]? = some a) (hm : Wr H a := by (apply Wr.of; assumption; trivial)) : Gr L H L (upd H a o) := (Ex.wr hm (List.mem_of_getElem? ha)).gr
theorem setF {Q : Hp → Prop} {x y d : D} {v w u : V} (rep : Rep K L H S) (rx : RD K L H v x) (ry : RD K L H w y) (rd : RD K L H u d) (h : End K E L H (fun _ _ _ H1 => Q H1) (oSet x y d S)) : rSetL v w u H Q ∨ ∃ a H1, v = .ref a ∧ DPut H a w u H1 ∧ Q H1 := by
  unfold oSet at h
  cases rx with
  | @ref a n ha =>
    obtain ⟨c, hc, rc⟩ := rep.adr ha
    simp only [hc] at h
    cases c with
    | lst xs =>
      simp only at h
      cases ry with
      | int i =>
        simp only at h
        cases q : ixN xs.length i with
        | none => rw [q] at h; exact h.elim
        | some j =>
          rw [q] at h
          obtain ⟨vs, hv, rvs⟩ := rc
          have gr : Gr L H L (upd H a (.lst (vs.set j u))) := Gr.wr rep ha
          obtain ⟨ex, rep2⟩ := rep.write (o := .lst (vs.set j u)) (c := .lst (xs.set j d)) ha ⟨_, upd_same, (rvs.set rd j).grow gr⟩
          exact .inl ⟨a, vs, i, j, rfl, rfl, hv, by rw [rvs.length]; exact q, h _ _ ex rep2⟩
      | _ => exact h.elim
    | dk kvs =>
      simp only at h
      cases q : keyD y with
      | none => rw [q] at h; exact h.elim
      | some k =>
        rw [q] at h
        obtain ⟨ws, hw, rk⟩ := rc
        obtain rfl := ry.key q
        by_cases hl : kvs.length < 100000
        · simp only [if_pos hl] at h
          have gr : Gr L H L (upd H a (.dK (putK ws k u))) := Gr.wr rep ha
          obtain ⟨ex, rep2⟩ := rep.write (o := .dK (putK ws k u)) (c := .dk (putKD kvs k d)) ha ⟨_, upd_same, (rk.put rd).grow gr⟩
          exact .inr ⟨a, _, rfl, DPut.k hw (by rw [rk.length]; exact sz5l hl), h _ _ ex rep2⟩
        · simp only [if_neg hl] at h; exact h.elim
    | dt kvs =>
      simp only at h
      cases q : keysD y with
      | none => rw [q] at h; exact h.elim
      | some k =>
        rw [q] at h
        obtain ⟨ws, hw, rk⟩ := rc
        obtain ⟨b, rfl, hb⟩ := ry.keys q
        by_cases hl : kvs.length < 100000
        · simp only [if_pos hl] at h
          have gr : Gr L H L (upd H a (.dT (putK ws k u))) := Gr.wr rep ha
          obtain ⟨ex, rep2⟩ := rep.write (o := .dT (putK ws k u)) (c := .dt (putKD kvs k d)) ha ⟨_, upd_same, (rk.put rd).grow gr⟩
          exact .inr ⟨a, _, rfl, DPut.t hw hb (by rw [rk.length]; exact sz5l hl), h _ _ ex rep2⟩
        · simp only [if_neg hl] at h; exact h.elim
    | _ => exact h.elim
  | _ => exact h.elim
end
section
variable {X : Cx} {E : XK} {a b o i : Expr} {fa fb fo fi : EF} {pos : Pos}
theorem xIx (hu : X.A.units + 1 < cLine) (ha : PE X a (tE X.K E fa)) (hb : PE X b (tE X.K E fb)) (hs : PlainIx b) : PE X (.Subscript a b pos) (tE X.K E (fIx fa fb)) := by
  have h1 := pe_ix (pos := pos) ix_seq ha hb hs
  have h2 := pe_dget (pos := pos) hu ha hb hs
  refine ⟨fun pins s σ H Q I q => ?_⟩
  have key : tOp (rIx X.K) (tE X.K E fa) (tE X.K E fb) σ H Q ∨ tDGet (tE X.K E fa) (tE X.K E fb) σ H Q := by
    obtain ⟨L, env, S, rep, re, q⟩ := q
    have q' := End.bind q
    by_cases hd : ∃ x S1, fa env S = .ok x S1 ∧ isDict S1 x = true
    · refine .inr ⟨L, env, S, rep, re, q'.imp' fun x S1 L1 H1 e0 e1 rep1 h1 v rv => ?_⟩
      have hx : isDict S1 x = true := by
        obtain ⟨x', S1', e, hx'⟩ := hd
        rw [e0] at e; cases e; exact hx'
      rw [if_pos hx] at h1
      refine ⟨L1, env, S1, rep1, re.mono e1, (End.bind h1).imp fun y S2 L2 H2 e2 rep2 h2 w rw' => ?_⟩
      unfold oGetD at h2
      cases q2 : lookD S2 x y with
      | none => rw [q2] at h2; exact h2.elim
      | some r =>
        rw [q2] at h2
        cases r with
        | none => exact h2.elim
        | some d =>
          obtain ⟨a, rfl, k⟩ := lookD_of rep2 (rv.mono e2) rw' q2
          rcases k with ⟨k, _⟩ | ⟨d', u, k1, k2, k3⟩
          · cases k
          · cases k1
            exact ⟨a, u, rfl, k2, EndV.val h2 rep2 k3⟩
    · refine .inl ⟨L, env, S, rep, re, q'.imp' fun x S1 L1 H1 e0 e1 rep1 h1 v rv => ?_⟩
      have hx : ¬ isDict S1 x = true := fun z => hd ⟨x, S1, e0, z⟩
      rw [if_neg hx] at h1
      refine ⟨L1, env, S1, rep1, re.mono e1, (End.bind h1).imp fun y S2 L2 H2 e2 rep2 h2 w rw' => ?_⟩
      exact opF_getL L2 H2 S2 _ _ _ _ _ rep2 (rv.mono e2) rw' h2
  rcases key with k | k
  · exact h1.run pins s σ H Q I k
  · exact h2.run pins s σ H Q I k
theorem pset_dict (hu : X.A.units + 1 < cLine) : PSet X (fun o i v H Q => ∃ a H1, o = .ref a ∧ DPut H a i v H1 ∧ Q H1) := by
  intro pins s σ H o i v ov iv r Q I ro ri rv h
  obtain ⟨a, H1, rfl, g, q⟩ := h
  obtain rfl : ov = Value.ref a := ro
  exact d_setItem hu I g ri rv fun s1 I1 => ⟨H1, I1, q⟩
theorem pset_both (hu : X.A.units + 1 < cLine) : PSet X (fun o i v H Q => rSetL o i v H Q ∨ ∃ a H1, o = .ref a ∧ DPut H a i v H1 ∧ Q H1) := by
  intro pins s σ H o i v ov iv r Q I ro ri rv h
  rcases h with h | h
  · exact set_list pins s σ H o i v ov iv r Q I ro ri rv h
  · exact pset_dict hu pins s σ H o i v ov iv r Q I ro ri rv h
theorem xgSub (hu : X.A.units + 1 < cLine) (ho : PE X o (tE X.K E fo)) (hi : PE X i (tE X.K E fi)) (ha : ∀ v, assign (.Subscript o i pos) X.env v = (do
      let ov ← holding [v] (eval o X.env)
      let iv ← holding [v, ov] (eval i X.env)
      standAt pos
      holding [v, ov, iv] (setItem ov iv v)
      release [v, ov, iv] []) := by intro _; rfl) : PG X (.Subscript o i pos) (tG X.K E (gSub' fo fi)) := by
  refine ⟨fun pins s σ H v u Q I r q => (pg_sub ho hi (pset_both hu) ha).run pins s σ H v u Q I r ?_⟩
  obtain ⟨L, env, S, d, rep, re, rd, q⟩ := q
  refine ⟨L, env, S, rep, re, (End.bind q).imp fun x S1 L1 H1 e1 rep1 h1 v rv => ?_⟩
  refine ⟨L1, env, S1, rep1, re.mono e1, (End.bind h1).imp fun y S2 L2 H2 e2 rep2 h2 w rw' => ?_⟩
  refine setF rep2 (rv.mono e2) rw' ((rd.mono e1).mono e2) ((End.bind h2).imp fun _ S3 L3 H3 e3 rep3 h3 => ?_)
  exact h3 L3 H3 (Ex.refl _ _) rep3 σ (((re.mono e1).mono e2).mono e3)

/-! ### instances -/
def putD (f : Str) (v : D) : List (Str × D) → List (Str × D)
  | [] => [(f, v)]
  | (g, x) :: r => if g = f then (g, v) :: r else (g, x) :: putD f v r
def fldsOf (C : Addr) (S : Sto) : D → Option (Nat × List (Str × D))
  | .ref n => match S[n]? with
    | some (.ins C' fs) => if C' = C then some (n, fs) else none
    | _ => none
  | _ => none
def fFld (C : Addr) (f : Str) (fo : EF) : EF := fun env S => (fo env S).bind fun x S1 => match fldsOf C S1 x with
  | some (_, fs) => retO S1 (fs.lookup f)
  | none => .bad
def oPut (C : Addr) (f : Str) (x d : D) (S : Sto) : R Unit := match fldsOf C S x with
  | some (n, fs) => if fs.length < 900 then .ok () (S.set n (.ins C (putD f d fs))) else .bad
  | none => .bad
def fSetFld (C : Addr) (f : Str) (fo fv : EF) : SF := fun env S => (fv env S).bind fun d S1 => (fo env S1).bind fun x S2 => (oPut C f x d S2).bind fun _ S3 => .ok (.nx env) S3
end
section
variable {K : PySem.W.Frag} {L : List Addr} {H : Hp} {S : Sto} {E : XK} {C : Addr}
end
section
variable {X : Cx} {E : XK} {o e : Expr} {fo fv : EF} {pos pos' : Pos} {C : Addr} {f : Str}
end

/-! ### calls -/
abbrev FF := List D → Sto → R D
def spF (K : PySem.W.Frag) (n : Nat) (F : FF) : Sp := fun vs H Q _ => vs.length = n ∧ ∃ L ds S, Rep K L H S ∧ RDs K L H vs ds ∧ EndV K E0' L H Q (F ds S)
def fCall (F : FF) (n : Nat) (dds : List D) (fs : AF) : EF := fun env S => (fs env S).bind fun ds S1 => if ds.length + dds.length = n then (F (ds ++ dds) S1).nox else .bad
def fMeth (C : Addr) (m : Str) (F : FF) (n : Nat) (dds : List D) (fo : EF) (fs : AF) : EF := fun env S => (fo env S).bind fun x S1 => match fldsOf C S1 x with
  | some (_, fl) => if (fl.lookup m).isNone = true then (fs env S1).bind fun ds S2 => if ds.length + 1 + dds.length = n then (F (x :: (ds ++ dds)) S2).nox else .bad else .bad
  | none => .bad
def fMake (C : Addr) (F : FF) (n : Nat) (dds : List D) (fs : AF) : EF := fun env S => (fs env S).bind fun ds S1 => if ds.length + 1 + dds.length = n then (F (.ref S1.length :: (ds ++ dds)) (S1 ++ [.ins C []])).nox.bind fun r S2 => match r with
  | .non => .ok (.ref S1.length) S2
  | _ => .bad
  else .bad
def fProp (C : Addr) (F : FF) (n : Nat) (fo : EF) : EF := fun env S => (fo env S).bind fun x S1 => match fldsOf C S1 x with
  | some _ => if 1 = n then (F [x] S1).nox else .bad
  | none => .bad
def fnF (m : Nat) (fb : SF) : FF := fun ds S => (fb (ds.map some ++ List.replicate (m - ds.length) none) S).bind fun fl S1 => match fl with
  | .nx _ => .ok .non S1
  | .rt d => .ok d S1
  | _ => .bad
section
variable {K : PySem.W.Frag} {L : List Addr} {H : Hp} {S : Sto} {E : XK}
theorem EndV.nox {Q : VK} {x : R D} (h : EndV K E L H Q x.nox) : EndV K E0' L H Q x := by
  cases x with
  | ok a S => exact h
  | ex c S => exact h.elim
  | bad => exact h.elim
theorem RE.start : ∀ {vs : List V} {ds : List D} (N : List Str), RDs K L H vs ds → RE K L H (L2.start N vs) (ds.map some ++ List.replicate (N.length - ds.length) none) := by
  intro vs ds N r
  refine ⟨by show (vs.map some ++ List.replicate (N.length - vs.length) none).length = _; simp [r.length], fun i d h => ?_⟩
  by_cases hi : i < ds.length
  · rw [List.getElem?_append_left (by simpa using hi), List.getElem?_map] at h
    cases q : ds[i]? with
    | none => rw [q] at h; cases h
    | some d' =>
      rw [q] at h
      have e : d' = d := by simpa using h
      subst e
      obtain ⟨v, h1, h2⟩ := r.get q
      refine ⟨v, ?_, h2⟩
      show (vs.map some ++ List.replicate (N.length - vs.length) none)[i]? = some (some v)
      rw [List.getElem?_append_left (by rw [List.length_map, r.length]; exact hi), List.getElem?_map, h1]
      rfl
  · rw [List.getElem?_append_right (by simpa using hi)] at h
    by_cases hj : i - (ds.map some).length < N.length - ds.length
    · rw [List.getElem?_replicate_of_lt hj] at h; cases h
    · rw [List.getElem?_eq_none (by rw [List.length_replicate]; omega)] at h; cases h
end
section
variable {P : Program} {w : World} {K : PySem.W.Frag} {mg : Str → Option Value} {base : Heap}
/-- a def, from its body -/
theorem fn_ok {x qual : Str} {st : Stmt} {f : Addr} {fd : FuncData} {N ps : List Str} {k m : Nat} {fb : SF} (F : Fun K x qual st f fd) (Sc : FnScope N ps (defScope st)) (hm : N.length = m)
    (hb : ∀ (cdv : Value) (A : Around) (outer : List PySem.Env) (s : Shared) (H : Hp) (E : XK), Room k (A.deeper (PyProof.Rows.envOfC qual (defScope st) s.heap.objs.size f cdv)) →
      PSs (cxOf CX0 P w K mg base N qual (defScope st) f cdv A outer s H E).nox (defBody st) (tS K E0' fb)) : FnOk P w K mg base CX0 (k + 1) f fd ps (spF K ps.length (fnF m fb)) := by
  subst hm
  refine F.ok Sc (fun vs H Q E h => h.1) (fun cdv A outer s H vs Q E hr h => ⟨_, hb cdv A outer s H E hr, ?_⟩)
  obtain ⟨hl, L, ds, S, rep, rd, h⟩ := h
  refine ⟨L, _, S, rep, RE.start N rd, (End.bind h).imp fun fl S1 L1 H1 e1 rep1 h1 => ?_⟩
  cases fl with
  | nx e => exact fun σ _ => EndV.val h1 rep1 .non
  | rt d => exact fun v rv => EndV.val h1 rep1 rv
  | bk e => exact h1.elim
  | ct e => exact h1.elim
end
section
variable {X : Cx} {E : XK} {k n : Nat} {f C : Addr} {fd : FuncData} {ps : List Str} {F : FF} {dvs : List V} {ds : List Value} {dds : List D} {x m : Str} {p pos apos : Pos} {e o : Expr} {es : List Expr} {fo : EF} {fs : AF}
theorem call_of {K : PySem.W.Frag} {σ : St} {H : Hp} {Q : VK} (hdd : ∀ L H, RDs K L H dvs dds) (h : tE K E (fCall F n dds fs) σ H Q) : tCall (spF K n F) dvs E0 (tA K E fs) σ H Q := by
  obtain ⟨L, env, S, rep, re, h⟩ := h
  refine ⟨L, env, S, rep, re, (End.bind h).imp fun xs S1 L1 H1 e1 rep1 h1 vs rvs => ?_⟩
  by_cases hl : xs.length + dds.length = n
  · rw [if_pos hl] at h1
    exact ⟨by rw [List.length_append, rvs.length, (hdd L1 H1).length]; exact hl, L1, xs ++ dds, S1, rep1, rvs.append (hdd L1 H1), EndV.nox h1⟩
  · rw [if_neg hl] at h1; exact h1.elim
theorem xCallD (Fo : FnOk X.prog X.w X.K X.mg X.base CX0 k f fd ps (spF X.K n F)) (hr : Room k X.A) (hg : Gl X x) (hm : X.mg x = some (.ref f)) (hk : PySem.W.keepIn X.K (.ref f) = true) (hb : Binds X.K fd ps ds) (hd : Vals dvs ds) (hdd : ∀ L H, RDs X.K L H dvs dds)
    (ha : PA X (e :: es) (tA X.K E fs)) (hdb : (x == ("__debug__" : Str)) = false := by decide) (he : starEach (e :: es) X.env = (false, eval e X.env) :: starEach es X.env := by rfl) (hpl : (backTo pos (starEach es X.env)).any (·.1) = false := by rfl) :
    PE X (.Call (.Name x p) (e :: es) [] pos) (tE X.K E (fCall F n dds fs)) := monoE (pe_call Fo hr hg hm hk hb hd pass0 ha hdb he hpl) fun _ _ _ h => call_of hdd h
theorem xCall (Fo : FnOk X.prog X.w X.K X.mg X.base CX0 k f fd ps (spF X.K n F)) (hr : Room k X.A) (hg : Gl X x) (hm : X.mg x = some (.ref f)) (hk : PySem.W.keepIn X.K (.ref f) = true) (hb : Binds X.K fd ps [])
    (ha : PA X (e :: es) (tA X.K E fs)) (hdb : (x == ("__debug__" : Str)) = false := by decide) (he : starEach (e :: es) X.env = (false, eval e X.env) :: starEach es X.env := by rfl) (hpl : (backTo pos (starEach es X.env)).any (·.1) = false := by rfl) :
    PE X (.Call (.Name x p) (e :: es) [] pos) (tE X.K E (fCall F n [] fs)) := xCallD Fo hr hg hm hk hb .nil (fun _ _ => .nil) ha hdb he hpl
end
end RF

namespace RF
open PySem L2

/-! ### whole numbers -/
def oI (C : Int → Int → Bool) (g : Int → Int → Int) : Op2 := fun x y S => match x, y with
  | .int i, .int j => if C i j = true then .ok (.int (g i j)) S else .bad
  | _, _ => .bad
def oC (g : Int → Int → Bool) : Op2 := fun x y S => match x, y with
  | .int i, .int j => .ok (.bl (g i j)) S
  | _, _ => .bad
section
variable {K : PySem.W.Frag} {L : List Addr} {H : Hp} {S : Sto} {E : XK}
theorem opF_I {C : Int → Int → Bool} {P : Int → Int → Prop} {g : Int → Int → Int} (h : ∀ i j, C i j = true → P i j) : OpF K E (rI P fun i j => .int (g i j)) (oI C g) := by
  intro L H S x y d1 d2 Q rep r1 r2 q
  cases r1 with
  | int i =>
    cases r2 with
    | int j =>
      have q : EndV K E L H Q (if C i j = true then .ok (.int (g i j)) S else .bad) := q
      by_cases hc : C i j = true
      · rw [if_pos hc] at q
        exact ⟨i, j, rfl, rfl, h i j hc, EndV.val q rep (.int _)⟩
      · rw [if_neg hc] at q; exact q.elim
    | _ => exact q.elim
  | _ => exact q.elim
theorem opF_I0 {g : Int → Int → Int} : OpF K E (rI0 fun i j => .int (g i j)) (oI (fun _ _ => true) g) := by
  intro L H S x y d1 d2 Q rep r1 r2 q
  cases r1 with
  | int i =>
    cases r2 with
    | int j => exact ⟨i, j, rfl, rfl, EndV.val (d := .int (g i j)) q rep (.int _)⟩
    | _ => exact q.elim
  | _ => exact q.elim
theorem opF_C {g : Int → Int → Bool} : OpF K E (rI0 fun i j => .bl (g i j)) (oC g) := by
  intro L H S x y d1 d2 Q rep r1 r2 q
  cases r1 with
  | int i =>
    cases r2 with
    | int j => exact ⟨i, j, rfl, rfl, EndV.val (d := .bl (g i j)) q rep (.bl _)⟩
    | _ => exact q.elim
  | _ => exact q.elim
end
def oSub : Op2 := oI (fun _ _ => true) fun i j => i - j
def cMul (i j : Int) : Bool := decide ((-(2 ^ 64) < i ∧ i < 2 ^ 64) ∨ (-(2 ^ 64) < j ∧ j < 2 ^ 64))
def oMul : Op2 := oI cMul fun i j => i * j
def oMod : Op2 := oI (fun _ j => decide (0 < j)) fun i j => i % j
def cDiv (_ j : Int) : Bool := decide (0 < j ∧ j < 2 ^ 100)
def oDiv : Op2 := oI cDiv fun i j => i / j
def cPow (i j : Int) : Bool := decide (0 ≤ j ∧ j ≤ 1000 ∧ i.natAbs < 2 ^ 64)
def oPow : Op2 := oI cPow fun i j => i ^ j.toNat
def oLt : Op2 := oC fun i j => decide (i < j)
def oLe : Op2 := oC fun i j => decide (i ≤ j)
def oGt : Op2 := oC fun i j => decide (j < i)
def oGe : Op2 := oC fun i j => decide (j ≤ i)
def oNeg : Op1 := fun x S => match x with | .int i => .ok (.int (-i)) S | _ => .bad
section
variable {X : Cx} {K : PySem.W.Frag} {E : XK}
theorem f_sub : OpF K E (rI0 fun i j => .int (i - j)) oSub := opF_I0
theorem f_mul : OpF K E (rI CMul fun i j => .int (i * j)) oMul := opF_I fun i j h => by
  have h : (-(2 ^ 64) < i ∧ i < 2 ^ 64) ∨ (-(2 ^ 64) < j ∧ j < 2 ^ 64) := of_decide_eq_true h
  exact h
theorem f_mod : OpF K E (rI (fun _ j => 0 < j) fun i j => .int (i % j)) oMod := opF_I fun _ _ h => of_decide_eq_true h
theorem f_div : OpF K E (rI CDivW fun i j => .int (i / j)) oDiv := opF_I fun i j h => by
  have h : 0 < j ∧ j < 2 ^ 100 := of_decide_eq_true h
  exact wide_div (b := 100) h.1 (by omega) (by decide) (by decide)
theorem f_pow : OpF K E (rI CPow fun i j => .int (i ^ j.toNat)) oPow := opF_I fun i j h => by
  have h : 0 ≤ j ∧ j ≤ 1000 ∧ i.natAbs < 2 ^ 64 := of_decide_eq_true h
  exact ⟨h.1, by omega, h.2.2⟩
theorem f_lt : OpF K E (rI0 fun i j => .bl (decide (i < j))) oLt := opF_C
theorem f_gt : OpF K E (rI0 fun i j => .bl (decide (j < i))) oGt := opF_C
theorem f_ge : OpF K E (rI0 fun i j => .bl (decide (j ≤ i))) oGe := opF_C
theorem f_neg : UnF K E (rU fun i => .int (-i)) oNeg := by
  intro L H S x d Q rep r q
  cases r with
  | int i => exact ⟨i, rfl, EndV.val (d := .int (-i)) q rep (.int _)⟩
  | _ => exact q.elim
end

/-! ### sums of whole numbers, texts, tuples, lists -/
def oAdd : Op2 := fun x y S => match x, y with
  | .int i, .int j => .ok (.int (i + j)) S
  | .str i, .str j => if i.length + j.length ≤ 100000 then .ok (.str (i ++ j)) S else .bad
  | .tup xs, .tup ys => if xs.length + ys.length ≤ 100000 then .ok (.tup (xs ++ ys)) S else .bad
  | .ref n, .ref m => match S[n]?, S[m]? with
    | some (.lst xs), some (.lst ys) => if xs.length + ys.length ≤ 100000 then .ok (.ref S.length) (S ++ [.lst (xs ++ ys)]) else .bad
    | _, _ => .bad
  | _, _ => .bad
def rAddS : R2 := fun x y H Q => ∃ i j, x = .str i ∧ y = .str j ∧ i.length + j.length ≤ sizeLine ∧ Q (.str (i ++ j)) H
def rAddA (K : PySem.W.Frag) : R2 := fun x y H Q => (rI0 (fun i j => .int (i + j)) x y H Q ∨ rAddS x y H Q) ∨ (rCatA K x y H Q ∨ rCat x y H Q)
theorem op_addA {X : Cx} : OpR X (binaryOp .Add) (rAddA X.K) := (op_add.or op_add_str).or (op_catA.or op_cat)
theorem f_add {K : PySem.W.Frag} {E : XK} : OpF K E (rAddA K) oAdd := by
  intro L H S x y d1 d2 Q rep r1 r2 q
  cases r1 with
  | int i =>
    cases r2 with
    | int j => exact .inl (.inl ⟨i, j, rfl, rfl, EndV.val (d := .int (i + j)) q rep (.int _)⟩)
    | _ => exact q.elim
  | str i =>
    cases r2 with
    | str j =>
      have q : EndV K E L H Q (if i.length + j.length ≤ 100000 then .ok (.str (i ++ j)) S else .bad) := q
      by_cases hl : i.length + j.length ≤ 100000
      · rw [if_pos hl] at q
        exact .inl (.inr ⟨i, j, rfl, rfl, sz5 hl, EndV.val q rep (.str _)⟩)
      · rw [if_neg hl] at q; exact q.elim
    | _ => exact q.elim
  | @tup a vs xs hs rs =>
    cases r2 with
    | @tup b ws ys hs2 rs2 =>
      have q : EndV K E L H Q (if xs.length + ys.length ≤ 100000 then .ok (.tup (xs ++ ys)) S else .bad) := q
      by_cases hl : xs.length + ys.length ≤ 100000
      · rw [if_pos hl] at q
        refine .inr (.inl ⟨a, b, vs, ws, rfl, rfl, .of hs, .of hs2, by rw [rs.length, rs2.length]; exact sz5 hl, ?_, ?_, ?_⟩)
        · intro z
          subst z
          cases rs
          exact EndV.val q rep (.tup hs2 rs2)
        · intro _ z
          subst z
          cases rs2
          rw [List.append_nil] at q
          exact EndV.val q rep (.tup hs rs)
        · intro _ _ p hp
          exact EndV.val (q.later (Ex.new hp)) (rep.new hp) (.tup upd_same ((rs.append rs2).mono (Ex.new hp)))
      · rw [if_neg hl] at q; exact q.elim
    | _ => exact q.elim
  | @ref a n ha =>
    cases r2 with
    | @ref b m hb =>
      obtain ⟨c, hc, rc⟩ := rep.adr ha
      obtain ⟨c2, hc2, rc2⟩ := rep.adr hb
      unfold oAdd at q
      simp only [hc, hc2] at q
      cases c with
      | lst xs =>
        cases c2 with
        | lst ys =>
          simp only at q
          obtain ⟨vs, hv, rv⟩ := rc
          obtain ⟨ws, hw, rw'⟩ := rc2
          by_cases hl : xs.length + ys.length ≤ 100000
          · rw [if_pos hl] at q
            exact .inr (.inr ⟨a, b, vs, ws, rfl, rfl, hv, hw, by rw [rv.length, rw'.length]; exact sz5 hl, fun p hp => newList q rep (rv.append rw') p hp⟩)
          · rw [if_neg hl] at q; exact q.elim
        | _ => exact q.elim
      | _ => exact q.elim
    | _ => exact q.elim
  | _ => exact q.elim

/-! ### == of data -/
def leafP : D → Option PyData
  | .non => some .none
  | .bl b => some (.bool b)
  | .int i => some (.int i)
  | .str x => if PyData.strOk x = true then some (.str x) else none
  | _ => none
def toP (S : Sto) : Nat → D → Option PyData
  | 0, d => leafP d
  | k + 1, d => match d with
    | .tup xs => (xs.mapM (toP S k)).map .tuple
    | .rl xs => (xs.mapM (toP S k)).map .list
    | .ref n => match S[n]? with
      | some (.lst xs) => (xs.mapM (toP S k)).map .list
      | _ => none
    | d => leafP d
def P1 (k : Nat) (p : PyData) : Prop := p.canLay0 = true ∧ p.depth ≤ k
section
variable {K : PySem.W.Frag} {L : List Addr} {H : Hp} {S : Sto} {E : XK}
theorem leafP_of {v : V} {d : D} {p : PyData} (k : Nat) (r : RD K L H v d) (h : leafP d = some p) : Dp K H v p ∧ P1 k p := by
  cases r with
  | non => cases h; exact ⟨.non, by simp [P1, PyData.canLay0, PyData.depth]⟩
  | bl b => cases h; exact ⟨.bl b, by simp [P1, PyData.canLay0, PyData.depth]⟩
  | int b => cases h; exact ⟨.int b, by simp [P1, PyData.canLay0, PyData.depth]⟩
  | str b =>
    have h : (if PyData.strOk b = true then some (PyData.str b) else none) = some p := h
    by_cases hb : PyData.strOk b = true
    · rw [if_pos hb] at h
      cases h
      exact ⟨.str b, by simp [P1, PyData.canLay0, PyData.depth, hb]⟩
    · rw [if_neg hb] at h; cases h
  | _ => cases h
theorem mapM_cons_some {α β : Type} {f : α → Option β} {a : α} {as : List α} {bs : List β} (h : (a :: as).mapM f = some bs) : ∃ b bs', f a = some b ∧ as.mapM f = some bs' ∧ bs = b :: bs' := by
  rw [List.mapM_cons] at h
  cases q : f a with
  | none => rw [q] at h; cases h
  | some b =>
    rw [q] at h
    cases q2 : as.mapM f with
    | none => rw [q2] at h; cases h
    | some bs' =>
      rw [q2] at h
      exact ⟨b, bs', rfl, rfl, (Option.some.inj h).symm⟩
def PA1 (k : Nat) (ps : List PyData) : Prop := PyData.canLayAll0 ps = true ∧ PyData.depthAll ps ≤ k
theorem toPs_of (k : Nat) (ih : ∀ v d p, RD K L H v d → toP S k d = some p → Dp K H v p ∧ P1 k p) : ∀ {vs : List V} {ds : List D} {ps : List PyData}, RDs K L H vs ds → ds.mapM (toP S k) = some ps → DpAll K H vs ps ∧ PA1 k ps
  | _, _, _, .nil, h => by
    simp at h
    subst h
    exact ⟨.nil, by simp [PA1, PyData.canLayAll0, PyData.depthAll]⟩
  | _, _, _, .cons a b, h => by
    obtain ⟨p, ps, h1, h2, rfl⟩ := mapM_cons_some h
    obtain ⟨x1, x2, x3⟩ := ih _ _ _ a h1
    obtain ⟨y1, y2, y3⟩ := toPs_of k ih b h2
    exact ⟨.cons x1 y1, by simp [PyData.canLayAll0, x2, y2], by simp only [PyData.depthAll]; omega⟩
theorem toP_of (rep : Rep K L H S) : ∀ (k : Nat) (v : V) (d : D) (p : PyData), RD K L H v d → toP S k d = some p → Dp K H v p ∧ P1 k p
  | 0, _, _, _, r, h => leafP_of 0 r h
  | k + 1, _, _, _, r, h => by
    have many : ∀ {vs : List V} {ds : List D} {ps : List PyData}, RDs K L H vs ds → ds.mapM (toP S k) = some ps → DpAll K H vs ps ∧ PA1 k ps := toPs_of k fun v d p r h => toP_of rep k v d p r h
    cases r with
    | @tup a vs ds hs rs =>
      obtain ⟨ps, h1, rfl⟩ := Option.map_eq_some_iff.mp (show (ds.mapM (toP S k)).map PyData.tuple = some _ from h)
      obtain ⟨x1, x2, x3⟩ := many rs h1
      exact ⟨.tup (.of hs) x1, by simp only [PyData.canLay0]; exact x2, by simp only [PyData.depth]; omega⟩
    | @rl a vs ds hs rs =>
      obtain ⟨ps, h1, rfl⟩ := Option.map_eq_some_iff.mp (show (ds.mapM (toP S k)).map PyData.list = some _ from h)
      obtain ⟨x1, x2, x3⟩ := many rs h1
      exact ⟨.lst (hs H fun _ _ z => z) x1, by simp only [PyData.canLay0]; exact x2, by simp only [PyData.depth]; omega⟩
    | @ref a n ha =>
      obtain ⟨c, hc, rc⟩ := rep.adr ha
      unfold toP at h
      simp only [hc] at h
      cases c with
      | lst xs =>
        obtain ⟨ps, h1, rfl⟩ := Option.map_eq_some_iff.mp h
        obtain ⟨vs, hv, rv⟩ := rc
        obtain ⟨x1, x2, x3⟩ := many rv h1
        exact ⟨.lst (.of hv) x1, by simp only [PyData.canLay0]; exact x2, by simp only [PyData.depth]; omega⟩
      | _ => cases h
    | kt hs rs => exact nomatch (show (none : Option PyData) = some _ from h)
    | exc a => exact nomatch (show (none : Option PyData) = some _ from h)
    | non => exact leafP_of (L := L) (k + 1) .non h
    | bl b => exact leafP_of (L := L) (k + 1) (.bl b) h
    | int b => exact leafP_of (L := L) (k + 1) (.int b) h
    | str b => exact leafP_of (L := L) (k + 1) (.str b) h
theorem P1.shaped {k : Nat} {p : PyData} (h : P1 k p) (hk : k ≤ 64) : SeqAt.shaped p = true := by
  unfold SeqAt.shaped
  rw [h.1, decide_eq_true (Nat.le_trans h.2 hk)]
  rfl
end
def oEq : Op2 := fun x y S => match toP S 20 x, toP S 20 y with
  | some p, some q => .ok (.bl (PyData.eqv p q)) S
  | _, _ => .bad
def oNe : Op2 := fun x y S => match toP S 20 x, toP S 20 y with
  | some p, some q => .ok (.bl (!PyData.eqv p q)) S
  | _, _ => .bad
def oInL (neg : Bool) : Op2 := fun x y S => match toP S 20 x, toP S 20 y with
  | some p, some (.list qs) => .ok (.bl (if neg = true then !(qs.any fun z => PyData.eqv z p) else qs.any fun z => PyData.eqv z p)) S
  | _, _ => .bad
def isNonD : D → Bool
  | .non => true
  | _ => false
def oIsN : Op2 := fun x y S => match y with
  | .non => .ok (.bl (isNonD x)) S
  | _ => .bad
def oNotN : Op2 := fun x y S => match y with
  | .non => .ok (.bl (!isNonD x)) S
  | _ => .bad
def oIsB : Op2 := fun x y S => match x, y with
  | .bl a, .bl b => .ok (.bl (decide (a = b))) S
  | _, _ => .bad
/-- one sign in a text -/
def oInS (neg : Bool) : Op2 := fun x y S => match x, y with
  | .str ⟨⟨[c]⟩⟩, .str z => .ok (.bl (if neg = true then !decide (c ∈ z.cps.toList) else decide (c ∈ z.cps.toList))) S
  | _, _ => .bad
def oLeS : Op2 := fun x y S => match x, y with
  | .str i, .str j => .ok (.bl (!decide (j.cps.toList < i.cps.toList))) S
  | _, _ => .bad
section
variable {X : Cx} {K : PySem.W.Frag} {E : XK}
theorem f_eq : OpF K E (rEqD K) oEq := by
  intro L H S x y d1 d2 Q rep r1 r2 q
  unfold oEq at q
  cases h1 : toP S 20 d1 with
  | none => rw [h1] at q; exact q.elim
  | some p1 =>
    cases h2 : toP S 20 d2 with
    | none => rw [h1, h2] at q; exact q.elim
    | some p2 =>
      rw [h1, h2] at q
      obtain ⟨a1, a2⟩ := toP_of rep 20 _ _ _ r1 h1
      obtain ⟨b1, b2⟩ := toP_of rep 20 _ _ _ r2 h2
      exact ⟨p1, p2, a1, b1, a2.shaped (by decide), b2.shaped (by decide), EndV.val q rep (.bl _)⟩
theorem f_ne : OpF K E (rNeD K) oNe := by
  intro L H S x y d1 d2 Q rep r1 r2 q
  unfold oNe at q
  cases h1 : toP S 20 d1 with
  | none => rw [h1] at q; exact q.elim
  | some p1 =>
    cases h2 : toP S 20 d2 with
    | none => rw [h1, h2] at q; exact q.elim
    | some p2 =>
      rw [h1, h2] at q
      obtain ⟨a1, a2⟩ := toP_of rep 20 _ _ _ r1 h1
      obtain ⟨b1, b2⟩ := toP_of rep 20 _ _ _ r2 h2
      exact ⟨p1, p2, a1, b1, a2.shaped (by decide), b2.shaped (by decide), EndV.val q rep (.bl _)⟩
theorem f_notInL : OpF K E (rNotInD K) (oInL true) := by
  intro L H S x y d1 d2 Q rep r1 r2 q
  unfold oInL at q
  cases h1 : toP S 20 d1 with
  | none => rw [h1] at q; exact q.elim
  | some p1 =>
    cases h2 : toP S 20 d2 with
    | none => rw [h1, h2] at q; exact q.elim
    | some p2 =>
      rw [h1, h2] at q
      obtain ⟨a1, a2⟩ := toP_of rep 20 _ _ _ r1 h1
      obtain ⟨b1, b2⟩ := toP_of rep 20 _ _ _ r2 h2
      cases p2 with
      | list ps => exact ⟨p1, ps, a1, b1, a2.shaped (by decide), b2.shaped (by decide), EndV.val q rep (.bl _)⟩
      | _ => exact q.elim
theorem RD.isN {K : PySem.W.Frag} {L : List Addr} {H : Hp} {v : V} {d : D} (r : RD K L H v d) : decide (v = .non) = isNonD d := by
  cases r <;> rfl
end
end RF

namespace RF
open PySem L2

/-! ### built-in functions -/
def lenD (S : Sto) : D → Option Nat
  | .tup xs => some xs.length
  | .rl xs => some xs.length
  | .str z => if z.length ≤ 100000 then some z.length else none
  | .ref n => match S[n]? with
    | some (.lst xs) => some xs.length
    | some (.dk kvs) => some kvs.length
    | some (.dt kvs) => some kvs.length
    | _ => none
  | _ => none
def oLen : OpN := fun ds S => match ds with
  | [x] => match lenD S x with
    | some n => .ok (.int (n : Nat)) S
    | none => .bad
  | _ => .bad
def oMin2 : OpN := fun ds S => match ds with
  | [.int i, .int j] => .ok (.int (if j < i then j else i)) S
  | _ => .bad
def oMax2 : OpN := fun ds S => match ds with
  | [.int i, .int j] => .ok (.int (if j > i then j else i)) S
  | _ => .bad
def oInt : OpN := fun ds S => match ds with
  | [.int i] => .ok (.int i) S
  | [.bl k] => .ok (.int (if k = true then 1 else 0)) S
  | _ => .bad
def seqD (S : Sto) : D → Option (List D)
  | .tup xs => some xs
  | .rl xs => some xs
  | .ref n => match S[n]? with
    | some (.lst xs) => some xs
    | _ => none
  | _ => none
def oList : OpN := fun ds S => match ds with
  | [x] => match seqD S x with
    | some xs => .ok (.ref S.length) (S ++ [.lst xs])
    | none => .bad
  | _ => .bad
def oTuple : OpN := fun ds S => match ds with
  | [x] => match seqD S x with
    | some xs => .ok (.tup xs) S
    | none => .bad
  | _ => .bad
def blsD : List D → Option (List Bool)
  | [] => some []
  | .bl b :: ds => (blsD ds).map (b :: ·)
  | _ => none
def lstD (S : Sto) : D → Option (List D)
  | .rl xs => some xs
  | .ref n => match S[n]? with
    | some (.lst xs) => some xs
    | _ => none
  | _ => none
def oAll : OpN := fun ds S => match ds with
  | [x] => match lstD S x with
    | some xs => match blsD xs with
      | some bs => .ok (.bl (bs.all id)) S
      | none => .bad
    | none => .bad
  | _ => .bad
def oAny : OpN := fun ds S => match ds with
  | [x] => match lstD S x with
    | some xs => match blsD xs with
      | some bs => .ok (.bl (bs.any id)) S
      | none => .bad
    | none => .bad
  | _ => .bad
def rLenA (K : PySem.W.Frag) : List V → Hp → VK → Prop := fun xs H Q => (∃ x n, xs = [x] ∧ LenV K x H n ∧ Q (.int n) H) ∨ ((∃ a kvs, xs = [V.ref a] ∧ H a = some (.dK kvs) ∧ Q (.int kvs.length) H) ∨ rLenT xs H Q)
theorem call_lenA {X : Cx} : CallR X (.builtin "len") (rLenA X.K) := call_len.or (call_lenD.or call_len_dT)
section
variable {X : Cx} {K : PySem.W.Frag} {E : XK} {L : List Addr} {H : Hp} {S : Sto}
theorem RDs.one {xs : List V} {d : D} (r : RDs K L H xs [d]) : ∃ x, xs = [x] ∧ RD K L H x d := by
  cases r with
  | cons a b => cases b; exact ⟨_, rfl, a⟩
theorem RDs.two {xs : List V} {d e : D} (r : RDs K L H xs [d, e]) : ∃ x y, xs = [x, y] ∧ RD K L H x d ∧ RD K L H y e := by
  cases r with
  | cons a b =>
    obtain ⟨y, rfl, r2⟩ := b.one
    exact ⟨_, _, rfl, a, r2⟩
theorem f_len : CaF K E (rLenA K) oLen := by
  intro L H S xs ds Q rep rs q
  match ds, rs, q with
  | [], _, q => exact q.elim
  | _ :: _ :: _, _, q => exact q.elim
  | [d], rs, q =>
    obtain ⟨x, rfl, r⟩ := rs.one
    unfold oLen at q
    simp only at q
    cases h : lenD S d with
    | none => rw [h] at q; exact q.elim
    | some n =>
      rw [h] at q
      have fin : Q (.int (n : Nat)) H := EndV.val q rep (.int _)
      cases r with
      | tup hs rs2 => cases h; exact .inl ⟨_, _, rfl, .inr ⟨_, .of hs, rfl⟩, by rw [rs2.length]; exact fin⟩
      | rl hs rs2 => cases h; exact .inl ⟨_, _, rfl, .inl ⟨_, hs H fun _ _ z => z, rfl⟩, by rw [rs2.length]; exact fin⟩
      | str z =>
        have h : (if z.length ≤ 100000 then some z.length else none) = some n := h
        by_cases hz : z.length ≤ 100000
        · rw [if_pos hz] at h
          cases h
          exact .inl ⟨_, _, rfl, ⟨sz5 hz, rfl⟩, fin⟩
        · rw [if_neg hz] at h; cases h
      | @ref a m ha =>
        obtain ⟨c, hc, rc⟩ := rep.adr ha
        unfold lenD at h
        simp only [hc] at h
        cases c with
        | lst ys =>
          cases h
          obtain ⟨vs, hv, rv⟩ := rc
          exact .inl ⟨_, _, rfl, .inl ⟨_, .of hv, rfl⟩, by rw [rv.length]; exact fin⟩
        | dk kvs =>
          cases h
          obtain ⟨ws, hw, rk⟩ := rc
          exact .inr (.inl ⟨_, _, rfl, hw, by rw [rk.length]; exact fin⟩)
        | dt kvs =>
          cases h
          obtain ⟨ws, hw, rk⟩ := rc
          exact .inr (.inr ⟨_, _, rfl, hw, by rw [rk.length]; exact fin⟩)
        | _ => cases h
      | _ => cases h
theorem int2 {xs : List V} {i j : Int} (r : RDs K L H xs [.int i, .int j]) : xs = [.int i, .int j] := by
  obtain ⟨x, y, rfl, r1, r2⟩ := r.two
  cases r1; cases r2; rfl
theorem f_min2 : CaF K E (fun xs H Q => ∃ i j, xs = [.int i, .int j] ∧ Q (.int (if j < i then j else i)) H) oMin2 := by
  intro L H S xs ds Q rep rs q
  unfold oMin2 at q
  split at q
  · exact ⟨_, _, int2 rs, EndV.val q rep (.int _)⟩
  · exact q.elim
theorem f_int : CaF K E (fun xs H Q => (∃ i, xs = [.int i] ∧ Q (.int i) H) ∨ ∃ k, xs = [.bl k] ∧ Q (.int (if k then 1 else 0)) H) oInt := by
  intro L H S xs ds Q rep rs q
  unfold oInt at q
  split at q
  · obtain ⟨x, rfl, r⟩ := rs.one
    cases r
    exact .inl ⟨_, rfl, EndV.val q rep (.int _)⟩
  · obtain ⟨x, rfl, r⟩ := rs.one
    cases r
    exact .inr ⟨_, rfl, EndV.val q rep (.int _)⟩
  · exact q.elim
theorem seqD_of {v : V} {d : D} {xs : List D} (rep : Rep K L H S) (r : RD K L H v d) (h : seqD S d = some xs) : ∃ a vs, v = .ref a ∧ RDs K L H vs xs ∧ ((SqL K H a vs ∧ d ≠ .tup xs) ∨ (H a = some (.tup vs) ∧ d = .tup xs)) := by
  cases r with
  | tup hs rs => cases h; exact ⟨_, _, rfl, rs, .inr ⟨hs, rfl⟩⟩
  | rl hs rs => cases h; exact ⟨_, _, rfl, rs, .inl ⟨hs H fun _ _ z => z, fun z => nomatch z⟩⟩
  | @ref a m ha =>
    obtain ⟨c, hc, rc⟩ := rep.adr ha
    unfold seqD at h
    simp only [hc] at h
    cases c with
    | lst ys =>
      cases h
      obtain ⟨vs, hv, rv⟩ := rc
      exact ⟨_, _, rfl, rv, .inl ⟨.of hv, fun z => nomatch z⟩⟩
    | _ => cases h
  | _ => cases h
theorem f_list : CaF K E (fun xs H Q => ∃ p ys, xs = [.ref p] ∧ (SqL K H p ys ∨ SqT K H p ys) ∧ ∀ l, H l = none → Q (.ref l) (upd H l (.lst ys))) oList := by
  intro L H S xs ds Q rep rs q
  match ds, rs, q with
  | [], _, q => exact q.elim
  | _ :: _ :: _, _, q => exact q.elim
  | [d], rs, q =>
    obtain ⟨x, rfl, r⟩ := rs.one
    unfold oList at q
    simp only at q
    cases h : seqD S d with
    | none => rw [h] at q; exact q.elim
    | some ys =>
      rw [h] at q
      obtain ⟨a, vs, rfl, rv, k⟩ := seqD_of rep r h
      refine ⟨a, vs, rfl, ?_, fun p hp => newList q rep rv p hp⟩
      rcases k with ⟨k, _⟩ | ⟨k, _⟩
      · exact .inl k
      · exact .inr (.of k)
theorem f_tuple : CaF K E (fun xs H Q => ∃ p ys, xs = [.ref p] ∧ ((SqL K H p ys ∧ ∀ l, H l = none → Q (.ref l) (upd H l (.tup ys))) ∨ (SqT K H p ys ∧ Q (.ref p) H))) oTuple := by
  intro L H S xs ds Q rep rs q
  match ds, rs, q with
  | [], _, q => exact q.elim
  | _ :: _ :: _, _, q => exact q.elim
  | [d], rs, q =>
    obtain ⟨x, rfl, r⟩ := rs.one
    unfold oTuple at q
    simp only at q
    cases h : seqD S d with
    | none => rw [h] at q; exact q.elim
    | some ys =>
      rw [h] at q
      obtain ⟨a, vs, rfl, rv, k⟩ := seqD_of rep r h
      refine ⟨a, vs, rfl, ?_⟩
      rcases k with ⟨k, _⟩ | ⟨k, _⟩
      · exact .inl ⟨k, fun p hp => EndV.val (q.later (Ex.new hp)) (rep.new hp) (.tup upd_same (rv.mono (Ex.new hp)))⟩
      · exact .inr ⟨.of k, EndV.val q rep (.tup k rv)⟩
end

/-! ### types -/
/-- the built-in type of a value -/
def tyD (S : Sto) : D → Option String
  | .non => some "NoneType"
  | .bl _ => some "bool"
  | .int _ => some "int"
  | .str _ => some "str"
  | .tup _ => some "tuple"
  | .rl _ => some "list"
  | .kt _ => none
  | .exc _ => none
  | .ref n => match S[n]? with
    | some (.lst _) => some "list"
    | some (.dk _) => some "dict"
    | some (.dt _) => some "dict"
    | _ => none
/-- isinstance of one of the types by which we ask -/
def isiD (t T : String) : Option Bool :=
  if T = "int" then some (decide (t = "int" ∨ t = "bool")) else if T = "bool" ∨ T = "str" ∨ T = "tuple" ∨ T = "list" ∨ T = "dict" then some (decide (t = T)) else none
def fIsi (T : String) (fa : EF) : EF := fun env S => (fa env S).bind fun x S1 => match tyD S1 x with
  | some t => match isiD t T with
    | some b => .ok (.bl b) S1
    | none => .bad
  | none => .bad
def fTyIs (T : String) (neg : Bool) (fa : EF) : EF := fun env S => (fa env S).bind fun x S1 => match tyD S1 x with
  | some t => .ok (.bl (if neg = true then !decide (t = T) else decide (t = T))) S1
  | none => .bad
section
variable {X : Cx} {K : PySem.W.Frag} {E : XK} {L : List Addr} {H : Hp} {S : Sto}
theorem tyD_of {v : V} {d : D} {t : String} (rep : Rep K L H S) (r : RD K L H v d) (h : tyD S d = some t) : TyX K H v (.type t) := by
  cases r with
  | kt hs rs => exact nomatch (show (none : Option String) = some _ from h)
  | exc a => exact nomatch (show (none : Option String) = some _ from h)
  | non => cases h; exact .base .non
  | bl b => cases h; exact .base (.bl b)
  | int b => cases h; exact .base (.int b)
  | str b => cases h; exact .base (.str b)
  | tup hs rs => cases h; exact .base (.tup hs)
  | rl hs rs =>
    cases h
    rcases hs H fun _ _ z => z with (z | ⟨o, z⟩) | ⟨o, its, n, z1, z2, _⟩
    · exact .base (.lst z)
    · exact .base (.frz z)
    · exact .kList z1 z2
  | @ref a n ha =>
    obtain ⟨c, hc, rc⟩ := rep.adr ha
    unfold tyD at h
    simp only [hc] at h
    cases c with
    | lst ys =>
      cases h
      obtain ⟨vs, hv, rv⟩ := rc
      exact .base (.lst hv)
    | dk ys =>
      cases h
      obtain ⟨vs, hv, rv⟩ := rc
      exact .base (.dK hv)
    | dt ys =>
      cases h
      obtain ⟨vs, hv, rv⟩ := rc
      exact .base (.dT hv)
    | _ => cases h
theorem tyD_mem {d : D} {t : String} (h : tyD S d = some t) : t = "NoneType" ∨ t = "bool" ∨ t = "int" ∨ t = "str" ∨ t = "tuple" ∨ t = "list" ∨ t = "dict" := by
  cases d with
  | ref n =>
    unfold tyD at h
    simp only at h
    split at h <;> cases h <;> simp
  | kt xs => exact nomatch (show (none : Option String) = some _ from h)
  | exc a => exact nomatch (show (none : Option String) = some _ from h)
  | _ => cases h; simp
theorem isi_all : ∀ t ∈ ["NoneType", "bool", "int", "str", "tuple", "list", "dict"], ∀ T ∈ ["int", "bool", "str", "tuple", "list", "dict"], kitB t T = isiD t T := by decide +kernel
theorem isi_kit {t T : String} {b : Bool} (ht : t = "NoneType" ∨ t = "bool" ∨ t = "int" ∨ t = "str" ∨ t = "tuple" ∨ t = "list" ∨ t = "dict") (h : isiD t T = some b) : PySem.W.kitOne K (.type t) (.type T) = some b := by
  refine kit_ty ?_
  have hT : T ∈ ["int", "bool", "str", "tuple", "list", "dict"] := by
    unfold isiD at h
    by_cases h1 : T = "int"
    · rw [h1]; simp
    · rw [if_neg h1] at h
      by_cases h2 : T = "bool" ∨ T = "str" ∨ T = "tuple" ∨ T = "list" ∨ T = "dict"
      · simp only [List.mem_cons, List.not_mem_nil, or_false]
        exact .inr h2
      · rw [if_neg h2] at h; cases h
  rw [isi_all t (by simpa using ht) T hT]
  exact h
theorem xIsi {e : Expr} {fa : EF} {T : String} {x : Str} {p q pos : Pos} (he : PE X e (tE X.K E fa)) (hT : bootBuiltins x = some (.type T)) (hgT : Gl X x) (hmT : X.mg x = none) (hg : Gl X "isinstance") (hm : X.mg "isinstance" = none)
    (hn : x ≠ "__name__" := by decide) (hd : (x == ("__debug__" : Str)) = false := by decide)
    (s1 : starEach [e, .Name x q] X.env = (false, eval e X.env) :: starEach [.Name x q] X.env := by rfl) (s2 : starEach [.Name x q] X.env = (false, eval (.Name x q) X.env) :: starEach [] X.env := by rfl) (hpl : (backTo pos (starEach [.Name x q] X.env)).any (·.1) = false := by rfl) :
    PE X (.Call (.Name "isinstance" p) [e, .Name x q] [] pos) (tE X.K E (fIsi T fa)) :=
  monoE (pe_callB call_isi hg hm (by decide +kernel) (pa_cons he (pa_cons (pe_bltn (v := .ty T) hgT hmT hT rfl hn hd) pa_nil s2) s1) (he := s1) (hpl := hpl)) fun σ H Q h => by
    obtain ⟨L, env, S, rep, re, h⟩ := h
    refine ⟨L, env, S, rep, re, (End.bind h).imp fun x S1 L1 H1 e1 rep1 h1 v rv => ?_⟩
    cases h2 : tyD S1 x with
    | none => rw [h2] at h1; exact h1.elim
    | some t =>
      rw [h2] at h1
      simp only at h1
      cases h3 : isiD t T with
      | none => rw [h3] at h1; exact h1.elim
      | some b =>
        rw [h3] at h1
        exact ⟨v, .ty T, _, _, b, rfl, .ty T, tyD_of rep1 rv h2, isi_kit (tyD_mem h2) h3, EndV.val h1 rep1 (.bl b)⟩
def rTyX (K : PySem.W.Frag) : List V → Hp → VK → Prop := fun xs H Q => (rTyp K xs H Q) ∨ ∃ a kvs, xs = [.ref a] ∧ H a = some (.dT kvs) ∧ Q (.ty "dict") H
end

/-! ### slices -/
abbrev PF := Lc → Sto → R (Option Int)
def pNo : PF := fun _ S => .ok none S
def pSo (fa : EF) : PF := fun env S => (fa env S).bind fun x S1 => match x with
  | .int i => .ok (some i) S1
  | _ => .bad
def cutD {α : Type} (xs : List α) (lo hi : Option Int) : List α := (xs.drop (HT.sIx xs.length 0 lo)).take (HT.sIx xs.length xs.length hi - HT.sIx xs.length 0 lo)
def oSl (x : D) (lo hi : Option Int) (S : Sto) : R D := match x with
  | .tup xs => .ok (.tup (cutD xs lo hi)) S
  | .str z => if z.length ≤ 100000 then .ok (.str ⟨(cutD z.cps.toList lo hi).toArray⟩) S else .bad
  | .rl xs => .ok (.ref S.length) (S ++ [.lst (cutD xs lo hi)])
  | .ref n => match S[n]? with
    | some (.lst xs) => .ok (.ref S.length) (S ++ [.lst (cutD xs lo hi)])
    | _ => .bad
  | _ => .bad
def fSl (fa : EF) (pl ph : PF) : EF := fun env S => (fa env S).bind fun x S1 => (pl env S1).bind fun l S2 => (ph env S2).bind fun h S3 => oSl x l h S3
def tP (K : PySem.W.Frag) (E : XK) (f : PF) : TO := fun σ H Q => ∃ L env S, Rep K L H S ∧ RE K L H σ env ∧ End K E L H (fun o _ _ H1 => Q o H1) (f env S)
def rSlA' (K : PySem.W.Frag) : V → Option Int → Option Int → Hp → VK → Prop := fun x lo hi H Q => (rSlA K x lo hi H Q ∨ rSlS x lo hi H Q) ∨ rSlL K x lo hi H Q
section
variable {X : Cx} {K : PySem.W.Frag} {E : XK} {L : List Addr} {H : Hp} {S : Sto}
theorem xPNo : PO X none (tP X.K E pNo) := ⟨fun pins s σ H Q I ⟨L, env, S, rep, re, h⟩ => po_none.run pins s σ H Q I (h L H (Ex.refl _ _) rep)⟩
theorem xPSo {e : Expr} {fa : EF} (he : PE X e (tE X.K E fa)) : PO X (some e) (tP X.K E (pSo fa)) := ⟨fun pins s σ H Q I ⟨L, env, S, rep, re, h⟩ => (po_some he).run pins s σ H Q I ⟨L, env, S, rep, re, (End.bind h).imp fun x S1 L1 H1 e1 rep1 h1 v rv => by
  cases rv with
  | int i => exact ⟨i, rfl, h1 L1 H1 (Ex.refl _ _) rep1⟩
  | _ => exact h1.elim⟩⟩
theorem cut_rd {vs : List V} {ds : List D} {lo hi : Option Int} (r : RDs K L H vs ds) : RDs K L H (cutV vs lo hi) (cutD ds lo hi) := by
  unfold cutV cutD
  rw [r.length]
  exact (r.drop _).take _
theorem cut_all {ds : List D} {lo hi : Option Int} (h1 : HT.sIx ds.length 0 lo = 0) (h2 : HT.sIx ds.length ds.length hi = ds.length) : cutD ds lo hi = ds := by
  unfold cutD
  rw [h1, h2]
  simp
theorem slF {x : V} {d : D} {lo hi : Option Int} {Q : VK} (rep : Rep K L H S) (r : RD K L H x d) (q : EndV K E L H Q (oSl d lo hi S)) : rSlA' K x lo hi H Q := by
  cases r with
  | @tup a vs ds hs rs =>
    refine .inl (.inl ⟨a, vs, rfl, .of hs, fun ⟨h1, h2⟩ => ?_, fun _ p hp => ?_⟩)
    · rw [rs.length] at h1 h2
      have q : EndV K E L H Q (.ok (.tup (cutD ds lo hi)) S) := q
      rw [cut_all h1 h2] at q
      exact EndV.val q rep (.tup hs rs)
    · have q : EndV K E L H Q (.ok (.tup (cutD ds lo hi)) S) := q
      exact EndV.val (q.later (Ex.new hp)) (rep.new hp) (.tup upd_same ((cut_rd rs).mono (Ex.new hp)))
  | str z =>
    have q : EndV K E L H Q (if z.length ≤ 100000 then .ok (.str ⟨(cutD z.cps.toList lo hi).toArray⟩) S else .bad) := q
    by_cases hz : z.length ≤ 100000
    · rw [if_pos hz] at q
      exact .inl (.inr ⟨z, rfl, sz5 hz, EndV.val (d := .str (cutS z lo hi)) (by
        have e : (⟨(cutD z.cps.toList lo hi).toArray⟩ : Str) = cutS z lo hi := by
          unfold cutD cutS
          rw [show z.cps.toList.length = z.length from by simp [Str.length]]
        rw [← e]; exact q) rep (.str _)⟩)
    · rw [if_neg hz] at q; exact q.elim
  | @rl a vs ds hs rs =>
    exact .inr ⟨a, vs, rfl, hs H fun _ _ z => z, fun p hp => newList q rep (cut_rd rs) p hp⟩
  | @ref a n ha =>
    obtain ⟨c, hc, rc⟩ := rep.adr ha
    unfold oSl at q
    simp only [hc] at q
    cases c with
    | lst ys =>
      obtain ⟨vs, hv, rv⟩ := rc
      exact .inr ⟨a, vs, rfl, .of hv, fun p hp => newList q rep (cut_rd rv) p hp⟩
    | _ => exact q.elim
  | _ => exact q.elim
theorem xSl {e : Expr} {lo hi : Option Expr} {fa : EF} {pl ph : PF} {p2 pos : Pos} (he : PE X e (tE X.K E fa)) (hl : PO X lo (tP X.K E pl)) (hh : PO X hi (tP X.K E ph)) : PE X (.Subscript e (.Slice lo hi none p2) pos) (tE X.K E (fSl fa pl ph)) :=
  monoE (pe_slice (r := rSlA' X.K) ((sl_tupA.or sl_str).or sl_list) he hl hh) fun σ H Q h => by
    obtain ⟨L, env, S, rep, re, h⟩ := h
    refine ⟨L, env, S, rep, re, (End.bind h).imp fun x S1 L1 H1 e1 rep1 h1 v rv => ?_⟩
    refine ⟨L1, env, S1, rep1, re.mono e1, (End.bind h1).imp fun l S2 L2 H2 e2 rep2 h2 => ?_⟩
    refine ⟨L2, env, S2, rep2, (re.mono e1).mono e2, (End.bind h2).imp fun h S3 L3 H3 e3 rep3 h3 => ?_⟩
    exact slF rep3 ((rv.mono e2).mono e3) h3
end

/-! ### methods of lists, texts, dicts -/
def tyIn (T : String) (S : Sto) : D → Bool
  | .str _ => decide (T = "str")
  | .rl _ => decide (T = "list")
  | .ref n => match S[n]? with
    | some (.lst _) => decide (T = "list")
    | some (.dk _) => decide (T = "dict")
    | some (.dt _) => decide (T = "dict")
    | _ => false
  | _ => false
abbrev OpM := D → List D → Sto → R D
def fBm (T : String) (o : OpM) (fo : EF) (fs : AF) : EF := fun env S => (fo env S).bind fun x S1 => if tyIn T S1 x = true then (fs env S1).bind fun ds S2 => o x ds S2 else .bad
def fBm0 (T : String) (o : OpM) (fo : EF) : EF := fun env S => (fo env S).bind fun x S1 => if tyIn T S1 x = true then o x [] S1 else .bad
section
variable {X : Cx} {K : PySem.W.Frag} {E : XK} {L : List Addr} {H : Hp} {S : Sto} {T : String}
theorem tyIn_of {v : V} {d : D} (rep : Rep K L H S) (r : RD K L H v d) (h : tyIn T S d = true) : tyV K T v H := by
  cases r with
  | str z =>
    have h : decide (T = "str") = true := h
    show T = "str"
    exact of_decide_eq_true h
  | rl hs rs => exact .inl ⟨of_decide_eq_true h, _, hs H fun _ _ z => z⟩
  | @ref a n ha =>
    obtain ⟨c, hc, rc⟩ := rep.adr ha
    unfold tyIn at h
    simp only [hc] at h
    cases c with
    | lst ys =>
      obtain ⟨vs, hv, rv⟩ := rc
      exact .inl ⟨of_decide_eq_true h, vs, .of hv⟩
    | dk ys =>
      obtain ⟨vs, hv, rv⟩ := rc
      exact .inr (.inr (.inl ⟨of_decide_eq_true h, .inl ⟨_, hv⟩⟩))
    | dt ys =>
      obtain ⟨vs, hv, rv⟩ := rc
      exact .inr (.inr (.inl ⟨of_decide_eq_true h, .inr ⟨_, hv⟩⟩))
    | _ => cases h
  | _ => cases h
theorem xBm {o e : Expr} {es : List Expr} {name : Str} {id : String} {r : V → List V → Hp → VK → Prop} {om : OpM} {fo : EF} {fs : AF} {apos cpos : Pos} (pa : PlainAttrs T) (slot : Slot T name id) (hty : typeOf (.builtin id) = pure (.type "method_descriptor")) (hm : MtR X id r) (hf : MtF X.K E r om)
    (ho : PE X o (tE X.K E fo)) (ha : PA X (e :: es) (tA X.K E fs))
    (hbase : attributeBase o name X.env (eval o X.env) = eval o X.env := by rfl)
    (hfew : ((backTo cpos (starEach (e :: es) X.env)).all (fun x => !x.1) && (backToKw cpos (keywordEach [] X.env)).all (fun x => x.1.isSome)
      && decide ((e :: es).length + ([] : List Keyword).length + (if ([] : List Keyword).isEmpty then 0 else 1) < 30)) = true := by rfl)
    (hline : (apos.endLine == cpos.line) = true := by rfl) (hs : starEach (e :: es) X.env = (false, eval e X.env) :: starEach es X.env := by rfl) (hplain : (backTo cpos (starEach es X.env)).any (·.1) = false := by rfl) :
    PE X (.Call (.Attribute o name apos) (e :: es) [] cpos) (tE X.K E (fBm T om fo fs)) :=
  monoE (pe_bm pa slot hty hm ho ha hbase hfew hline hs hplain) fun σ H Q h => by
    obtain ⟨L, env, S, rep, re, h⟩ := h
    refine ⟨L, env, S, rep, re, (End.bind h).imp fun x S1 L1 H1 e1 rep1 h1 v rv => ?_⟩
    by_cases ht : tyIn T S1 x = true
    · rw [if_pos ht] at h1
      exact ⟨tyIn_of rep1 rv ht, L1, env, S1, rep1, re.mono e1, (End.bind h1).imp fun xs S2 L2 H2 e2 rep2 h2 vs rvs => hf L2 H2 S2 _ _ _ _ _ rep2 (rv.mono e2) rvs h2⟩
    · rw [if_neg ht] at h1; exact h1.elim
def mAppend : OpM := fun x ds S => match x, ds with
  | .ref n, [d] => match S[n]? with
    | some (.lst xs) => if xs.length < 100000 then .ok .non (S.set n (.lst (xs ++ [d]))) else .bad
    | _ => .bad
  | _, _ => .bad
theorem f_append : MtF K E rAppend mAppend := by
  intro L H S x xs d ds Q rep r rs q
  unfold mAppend at q
  split at q
  · rename_i n y
    cases r with
    | @ref a _ ha =>
      obtain ⟨w, rfl, rw'⟩ := rs.one
      obtain ⟨c, hc, rc⟩ := rep.adr ha
      simp only [hc] at q
      cases c with
      | lst ys =>
        simp only at q
        obtain ⟨vs, hv, rv⟩ := rc
        by_cases hl : ys.length < 100000
        · rw [if_pos hl] at q
          have gr : Gr L H L (upd H a (.lst (vs ++ [w]))) := Gr.wr rep ha
          obtain ⟨ex, rep2⟩ := rep.write (o := .lst (vs ++ [w])) (c := .lst (ys ++ [y])) ha ⟨_, upd_same, (rv.append (.cons rw' .nil)).grow gr⟩
          exact ⟨a, vs, w, rfl, rfl, hv, by rw [rv.length]; exact sz5l hl, q L _ ex rep2 _ .non⟩
        · rw [if_neg hl] at q; exact q.elim
      | _ => exact q.elim
  · exact q.elim
def strsD : List D → Option (List Str)
  | [] => some []
  | .str b :: ds => (strsD ds).map (b :: ·)
  | _ => none
def mJoin : OpM := fun x ds S => match x, ds with
  | .str a, [y] => match seqD S y with
    | some xs => match strsD xs with
      | some ys => if (ys.map (·.length)).sum + ys.length * a.length ≤ 100000 then .ok (.str (Txt.join a ys)) S else .bad
      | none => .bad
    | none => .bad
  | _, _ => .bad
end
/-- a text, sign by sign -/
def sgnD (z : Str) : List D := z.cps.toList.map fun c => .str ⟨#[c]⟩
def fIterS (fa : EF) : IF := fun env S => (fa env S).bind fun x S1 => match x with
  | .str z => .ok (.fix (sgnD z)) S1
  | _ => .bad
end RF

namespace RF
open PySem L2
theorem hu65 {A : Around} {k : Nat} (hr : Room k A) : A.units + 65 < cLine := by have := hr.un; omega
section
variable {X : Cx} {E : XK} {o e : Expr} {fo fv fa : EF} {pos pos' : Pos} {C : Addr} {f g : Str}
end
/-- a, b = a tuple or a list of that length -/
def gUnp (n : Nat) (gs : GsF) : GF := fun d env S => match seqD S d with
  | some ds => if ds.length = n then gs ds env S else .bad
  | none => .bad
theorem xgUnp {X : Cx} {E : XK} {es : List Expr} {pos : Pos} {k n : Nat} {gs : GsF} (hc : X.calm = true) (h : PGs X es (tGs X.K E gs)) (hn : (assignEach es X.env).length = n := by rfl) (hst : (assignEach es X.env).findIdx? (·.1) = none := by rfl) : PG X (.Tuple es k pos) (tG X.K E (gUnp n gs)) := by
  refine ⟨fun pins s σ H v u Q I r q => ?_⟩
  obtain ⟨L, env, S, d, rep, re, rd, q⟩ := q
  unfold gUnp at q
  cases h1 : seqD S d with
  | none => rw [h1] at q; exact q.elim
  | some ds =>
    rw [h1] at q
    simp only at q
    by_cases hl : ds.length = n
    · rw [if_pos hl] at q
      obtain ⟨a, vs, rfl, rs, k1⟩ := seqD_of rep rd h1
      rcases k1 with ⟨k1, _⟩ | ⟨k1, _⟩
      · exact (pg_unl hc h hn hst).run pins s σ H _ u Q I r ⟨a, vs, rfl, k1, by rw [rs.length]; exact hl, L, env, S, ds, rep, re, rs, q⟩
      · exact (pg_tup hc h hn hst).run pins s σ H _ u Q I r ⟨a, vs, rfl, .of k1, by rw [rs.length]; exact hl, L, env, S, ds, rep, re, rs, q⟩
    · rw [if_neg hl] at q; exact q.elim
/-- {} -/
def fDict0 : EF := fun _ S => .ok (.ref S.length) (S ++ [.dk []])
def fDictT0 : EF := fun _ S => .ok (.ref S.length) (S ++ [.dt []])
/-- the law's promise -/
def spLaw (K : PySem.W.Frag) : Sp := fun vs H Q _ => ∃ (a : Addr) (ns : List Int), vs = [.ref a] ∧ Only H ∧ SqL K H a (ns.map V.int) ∧ ns.length ≤ 63 ∧ (∀ z ∈ ns, Builtin.Int.intBits z ≤ 1048576) ∧ ∀ H1, Q (.bl true) H1
def isTrue1 : R D → Prop
  | .ok d _ => d = .bl true
  | _ => False
theorem ints_rd {K : PySem.W.Frag} {L : List Addr} {H : Hp} : ∀ ns : List Int, RDs K L H (ns.map V.int) (ns.map D.int)
  | [] => .nil
  | n :: ns => .cons (.int n) (ints_rd ns)
theorem law_sp {P : Program} {w : World} {K : PySem.W.Frag} {mg : Str → Option Value} {base : Heap} {k : Nat} {f : Addr} {fd : FuncData} {ps : List Str} {F : FF} (Fo : FnOk P w K mg base CX0 k f fd ps (spF K 1 F))
    (h : ∀ ns : List Int, ns.length ≤ 63 → (∀ z ∈ ns, Builtin.Int.intBits z ≤ 1048576) → isTrue1 (F [.rl (ns.map D.int)] [])) : FnOk P w K mg base CX0 k f fd ps (spLaw K) :=
  have key : ∀ vs H Q E, spLaw K vs H Q E → spF K 1 F vs H Q E := fun vs H Q E q => by
    obtain ⟨a, ns, rfl, hO, hS, hl, hb, k⟩ := q
    refine ⟨rfl, [], [.rl (ns.map D.int)], [], ⟨rfl, .nil, fun n a c h => by simp at h⟩, .cons (.rl (fun H1 hf => ?_) (ints_rd ns)) .nil, ?_⟩
    · rcases hS with (z | ⟨o, z⟩) | z
      · rcases hO a with z2 | ⟨o, xs, z2⟩ <;> rw [z] at z2 <;> cases z2
      · exact .inl (.inr ⟨o, hf _ _ z⟩)
      · exact .inr z
    · have t := h ns hl hb
      cases q : F [.rl (ns.map D.int)] [] with
      | ok d S =>
        rw [q] at t
        have t : d = .bl true := t
        subst t
        intro L1 H1 _ _ v rv
        cases rv
        exact k H1
      | ex c S => rw [q] at t; exact t.elim
      | bad => rw [q] at t; exact t.elim
  ⟨fun vs H Q E q => Fo.len vs H Q E (key _ _ _ _ q), fun A outer s H args us vs Q E hr he hb hv q => Fo.run A outer s H args us vs Q E hr he hb hv (key _ _ _ _ q)⟩
end RF

/-! running the functions by rewriting -/
namespace RF
open PySem L2

section
variable {α : Type} {i n m : Nat} {env : Lc} {S : Sto} {d x y z : D} {ds xs : List D} {f g fa fb fc fo : EF} {fs : AF} {ft fu : BF} {sf sg : SF} {gf : GF} {gs : GsF} {o o' : Op2} {u : Op1} {b : Bool} {C : Addr} {nm : Str} {F : FF} {dds : List D} {fi : IF} {e : Lc} {fl : Fl}
def varK : Option (Option D) → Sto → R D
  | some (some d), S => .ok d S
  | _, _ => .bad
theorem ap_fVar : fVar i env S = varK env[i]? S := by
  unfold fVar varK
  cases env[i]? with
  | none => rfl
  | some o => cases o <;> rfl
theorem varK_some : varK (some (some d)) S = .ok d S := (rfl)
theorem ap_fC : fC d env S = .ok d S := (rfl)
def binK (o : Op2) (fb : EF) (env : Lc) : D → Sto → R D := fun x S1 => (fb env S1).bind fun y S2 => o x y S2
theorem ap_fBin : fBin o fa fb env S = (fa env S).bind (binK o fb env) := (rfl)
theorem ap_binK : binK o fb env x S = (fb env S).bind (o x) := (rfl)
theorem ap_fUn : fUn u fa env S = (fa env S).bind u := (rfl)
theorem ap_fApp {oN : OpN} : fApp oN fs env S = (fs env S).bind oN := (rfl)
theorem ap_fNil : fNil env S = .ok [] S := (rfl)
def consK (fs : AF) (env : Lc) : D → Sto → R (List D) := fun x S1 => (fs env S1).bind fun xs S2 => .ok (x :: xs) S2
def consK2 (x : D) : List D → Sto → R (List D) := fun xs S2 => .ok (x :: xs) S2
theorem ap_fCons : fCons fa fs env S = (fa env S).bind (consK fs env) := (rfl)
theorem ap_consK : consK fs env x S = (fs env S).bind (consK2 x) := (rfl)
theorem ap_consK2 : consK2 x xs S = .ok (x :: xs) S := (rfl)
def tupK : List D → Sto → R D := fun xs S1 => if xs.length ≤ 100000 then .ok (.tup xs) S1 else .bad
def lstK : List D → Sto → R D := fun xs S1 => if xs.length ≤ 100000 then .ok (.ref S1.length) (S1 ++ [.lst xs]) else .bad
theorem ap_fTup : fTup fs env S = (fs env S).bind tupK := (rfl)
theorem ap_fLst : fLst fs env S = (fs env S).bind lstK := (rfl)
theorem ap_tupK : tupK xs S = if xs.length ≤ 100000 then .ok (.tup xs) S else .bad := (rfl)
theorem ap_lstK : lstK xs S = if xs.length ≤ 100000 then .ok (.ref S.length) (S ++ [.lst xs]) else .bad := (rfl)
def testK : D → Sto → R Bool := fun x S1 => match x with | .bl b => .ok b S1 | _ => .bad
theorem ap_fTest : fTest fa env S = (fa env S).bind testK := (rfl)
theorem ap_testK : testK (.bl b) S = .ok b S := (rfl)
def valK' : Bool → Sto → R D := fun b S1 => .ok (.bl b) S1
def andK (g : BF) (env : Lc) : Bool → Sto → R Bool := fun b S1 => if b = true then g env S1 else .ok false S1
def orK (g : BF) (env : Lc) : Bool → Sto → R Bool := fun b S1 => if b = true then .ok true S1 else g env S1
def notK : Bool → Sto → R Bool := fun b S1 => .ok (!b) S1
theorem ap_fAnd : fAnd ft fu env S = (ft env S).bind (andK fu env) := (rfl)
theorem ap_fOr : fOr ft fu env S = (ft env S).bind (orK fu env) := (rfl)
theorem ap_fNot : fNot ft env S = (ft env S).bind notK := (rfl)
theorem ap_andK : andK fu env b S = if b = true then fu env S else .ok false S := (rfl)
theorem ap_orK : orK fu env b S = if b = true then .ok true S else fu env S := (rfl)
theorem ap_notK : notK b S = .ok (!b) S := (rfl)
def andVK (g : EF) (env : Lc) : D → Sto → R D := fun x S1 => match x with | .bl b => (if b = true then g env S1 else .ok (.bl false) S1) | _ => .bad
def orVK (g : EF) (env : Lc) : D → Sto → R D := fun x S1 => match x with | .bl b => (if b = true then .ok (.bl true) S1 else g env S1) | _ => .bad
def notVK : D → Sto → R D := fun x S1 => match x with | .bl b => .ok (.bl (!b)) S1 | _ => .bad
def ifEK (f g : EF) (env : Lc) : Bool → Sto → R D := fun b S1 => if b = true then f env S1 else g env S1
theorem ap_fIfE : fIfE ft fa fb env S = (ft env S).bind (ifEK fa fb env) := (rfl)
theorem ap_ifEK : ifEK fa fb env b S = if b = true then fa env S else fb env S := (rfl)
def chK1 (o o' : Op2) (fb fc : EF) (env : Lc) : D → Sto → R D := fun x S1 => (fb env S1).bind fun y S2 => (o x y S2).bind fun z S3 => match z with
  | .bl b => if b = true then (fc env S3).bind fun w S4 => o' y w S4 else .ok (.bl false) S3
  | _ => .bad
def chK2 (o o' : Op2) (fc : EF) (env : Lc) (x : D) : D → Sto → R D := fun y S2 => (o x y S2).bind fun z S3 => match z with
  | .bl b => if b = true then (fc env S3).bind fun w S4 => o' y w S4 else .ok (.bl false) S3
  | _ => .bad
def chK3 (o' : Op2) (fc : EF) (env : Lc) (y : D) : D → Sto → R D := fun z S3 => match z with
  | .bl b => if b = true then (fc env S3).bind fun w S4 => o' y w S4 else .ok (.bl false) S3
  | _ => .bad
/-! statements -/
theorem ap_fSkip : fSkip env S = .ok (.nx env) S := (rfl)
def seqK (g : SF) : Fl → Sto → R Fl := fun fl S1 => match fl with | .nx e => g e S1 | .rt d => .ok (.rt d) S1 | .bk e => .ok (.bk e) S1 | .ct e => .ok (.ct e) S1
theorem ap_fSeq : fSeq sf sg env S = (sf env S).bind (seqK sg) := (rfl)
theorem ap_seqK_nx : seqK sg (.nx e) S = sg e S := (rfl)
theorem ap_seqK_rt : seqK sg (.rt d) S = .ok (.rt d) S := (rfl)
def ifK (f g : SF) (env : Lc) : Bool → Sto → R Fl := fun b S1 => if b = true then f env S1 else g env S1
theorem ap_fIf : fIf ft sf sg env S = (ft env S).bind (ifK sf sg env) := (rfl)
theorem ap_ifK : ifK sf sg env b S = if b = true then sf env S else sg env S := (rfl)
def retK : D → Sto → R Fl := fun d S1 => .ok (.rt d) S1
theorem ap_fRet : fRet fa env S = (fa env S).bind retK := (rfl)
theorem ap_retK : retK d S = .ok (.rt d) S := (rfl)
def dropK' (env : Lc) : D → Sto → R Fl := fun _ S1 => .ok (.nx env) S1
theorem ap_fDrop : fDrop fa env S = (fa env S).bind (dropK' env) := (rfl)
theorem ap_dropK : dropK' env d S = .ok (.nx env) S := (rfl)
def asgK (g : GF) (env : Lc) : D → Sto → R Fl := fun d S1 => (g d env S1).bind fun env1 S2 => .ok (.nx env1) S2
def asgK2 : Lc → Sto → R Fl := fun env1 S2 => .ok (.nx env1) S2
theorem ap_fAsg : fAsg fa gf env S = (fa env S).bind (asgK gf env) := (rfl)
theorem ap_asgK : asgK gf env d S = (gf d env S).bind asgK2 := (rfl)
theorem ap_asgK2 : asgK2 env S = .ok (.nx env) S := (rfl)
theorem ap_gN : gN i d env S = .ok (env.set i (some d)) S := (rfl)
theorem ap_gNil : gNil' [] env S = .ok env S := (rfl)
def gsK (gs : GsF) (r : List D) : Lc → Sto → R Lc := fun env1 S1 => gs r env1 S1
theorem ap_gCons : gCons' gf gs (d :: ds) env S = (gf d env S).bind (gsK gs ds) := (rfl)
theorem ap_gsK : gsK gs ds env S = gs ds env S := (rfl)
def unpK (n : Nat) (gs : GsF) (env : Lc) : Option (List D) → Sto → R Lc
  | some ds, S => if ds.length = n then gs ds env S else .bad
  | none, _ => .bad
theorem ap_gUnp : gUnp n gs d env S = unpK n gs env (seqD S d) S := by unfold gUnp; cases seqD S d <;> rfl
theorem ap_unpK : unpK n gs env (some ds) S = if ds.length = n then gs ds env S else .bad := (rfl)
def subK1 (fi : EF) (d : D) (env : Lc) : D → Sto → R Lc := fun x S1 => (fi env S1).bind fun y S2 => (oSet x y d S2).bind fun _ S3 => .ok env S3
def subK2 (x d : D) (env : Lc) : D → Sto → R Lc := fun y S2 => (oSet x y d S2).bind fun _ S3 => .ok env S3
def subK3 (env : Lc) : Unit → Sto → R Lc := fun _ S3 => .ok env S3
theorem ap_gSub : gSub' fo fa d env S = (fo env S).bind (subK1 fa d env) := (rfl)
theorem ap_subK1 : subK1 fa d env x S = (fa env S).bind (subK2 x d env) := (rfl)
theorem ap_subK2 : subK2 x d env y S = (oSet x y d S).bind (subK3 env) := (rfl)
theorem ap_subK3 {u : Unit} : subK3 env u S = .ok env S := (rfl)

/-! subscripts -/
def ixK (fb : EF) (env : Lc) : D → Sto → R D := fun x S1 => if isDict S1 x = true then (fb env S1).bind fun y S2 => oGetD x y S2 else (fb env S1).bind fun y S2 => oGetL x y S2
theorem ap_fIx : fIx fa fb env S = (fa env S).bind (ixK fb env) := (rfl)
theorem ap_ixK : ixK fb env x S = if isDict S x = true then (fb env S).bind (oGetD x) else (fb env S).bind (oGetL x) := (rfl)
def isDictC : Option Cell → Bool
  | some (.dk _) => true
  | some (.dt _) => true
  | _ => false
theorem isDict_ref : isDict S (.ref n) = isDictC S[n]? := by unfold isDict isDictC; rfl
theorem isDict_tup : isDict S (.tup xs) = false := (rfl)
theorem isDict_rl : isDict S (.rl xs) = false := (rfl)
theorem isDictC_lst : isDictC (some (.lst xs)) = false := (rfl)
theorem getL_tup {j : Int} : oGetL (.tup xs) (.int j) S = retO S (atI xs j) := (rfl)
theorem getL_rl {j : Int} : oGetL (.rl xs) (.int j) S = retO S (atI xs j) := (rfl)
def getLC (S : Sto) (j : Int) : Option Cell → R D
  | some (.lst xs) => retO S (atI xs j)
  | _ => .bad
theorem getL_ref {j : Int} : oGetL (.ref n) (.int j) S = getLC S j S[n]? := by unfold oGetL getLC; rfl
theorem getLC_lst {j : Int} : getLC S j (some (.lst xs)) = retO S (atI xs j) := (rfl)
theorem retO_some : retO S (some d) = .ok d S := (rfl)
theorem atI_0 {a : α} {l : List α} : atI (a :: l) 0 = some a := by
  have h := L2.atI_nat (xs := a :: l) (j := 0) (v := a) rfl
  exact h
theorem atI_1 {a b : α} {l : List α} : atI (a :: b :: l) 1 = some b := by
  have h := L2.atI_nat (xs := a :: b :: l) (j := 1) (v := b) rfl
  exact h
theorem atI_2 {a b c : α} {l : List α} : atI (a :: b :: c :: l) 2 = some c := by
  have h := L2.atI_nat (xs := a :: b :: c :: l) (j := 2) (v := c) rfl
  exact h
theorem atI_3 {a b c d : α} {l : List α} : atI (a :: b :: c :: d :: l) 3 = some d := by
  have h := L2.atI_nat (xs := a :: b :: c :: d :: l) (j := 3) (v := d) rfl
  exact h
theorem atI_nn {l : List α} {j : Int} (h0 : 0 ≤ j) : atI l j = l[j.toNat]? := by
  unfold atI ixN
  by_cases h : j < l.length
  · simp [h0, h]
  · simp [h0, h]
def setC (S : Sto) (n : Nat) (y d : D) : Option Cell → R Unit
  | some (.lst xs) => match y with
      | .int i => match ixN xs.length i with
        | some j => .ok () (S.set n (.lst (xs.set j d)))
        | none => .bad
      | _ => .bad
  | some (.dk kvs) => match keyD y with
      | some k => if kvs.length < 100000 then .ok () (S.set n (.dk (putKD kvs k d))) else .bad
      | none => .bad
  | some (.dt kvs) => match keysD y with
      | some k => if kvs.length < 100000 then .ok () (S.set n (.dt (putKD kvs k d))) else .bad
      | none => .bad
  | _ => .bad
theorem oSet_ref : oSet (.ref n) y d S = setC S n y d S[n]? := by unfold oSet setC; rfl
def setLK (S : Sto) (n : Nat) (xs : List D) (d : D) : Option Nat → R Unit
  | some j => .ok () (S.set n (.lst (xs.set j d)))
  | none => .bad
theorem setC_lst {j : Int} : setC S n (.int j) d (some (.lst xs)) = setLK S n xs d (ixN xs.length j) := by unfold setC setLK; rfl
theorem setLK_some {j : Nat} : setLK S n xs d (some j) = .ok () (S.set n (.lst (xs.set j d))) := (rfl)
theorem ixN_0 {k : Nat} : ixN (k + 1) 0 = some 0 := by unfold ixN; simp
theorem ixN_1 {k : Nat} : ixN (k + 2) 1 = some 1 := by unfold ixN; simp; omega

/-! calls -/
def callK (F : FF) (n : Nat) (dds : List D) : List D → Sto → R D := fun ds S1 => if ds.length + dds.length = n then (F (ds ++ dds) S1).nox else .bad
theorem ap_fCall : fCall F n dds fs env S = (fs env S).bind (callK F n dds) := (rfl)
theorem ap_callK : callK F n dds ds S = if ds.length + dds.length = n then (F (ds ++ dds) S).nox else .bad := (rfl)
def fnK : Fl → Sto → R D := fun fl S1 => match fl with
  | .nx _ => .ok .non S1
  | .rt d => .ok d S1
  | _ => .bad
theorem ap_fnF : fnF m sf ds S = (sf (ds.map some ++ List.replicate (m - ds.length) none) S).bind fnK := (rfl)
theorem ap_fnK_rt : fnK (.rt d) S = .ok d S := (rfl)
end

/-! operators -/
section
variable {i j : Int} {S : Sto} {x y d : D} {b c : Bool} {xs ys ds : List D} {n m : Nat}
theorem o_add : oAdd (.int i) (.int j) S = .ok (.int (i + j)) S := (rfl)
def addC (S : Sto) : Option Cell → Option Cell → R D
  | some (.lst xs), some (.lst ys) => if xs.length + ys.length ≤ 100000 then .ok (.ref S.length) (S ++ [.lst (xs ++ ys)]) else .bad
  | _, _ => .bad
theorem o_addR : oAdd (.ref n) (.ref m) S = addC S S[n]? S[m]? := by unfold oAdd addC; rfl
theorem o_addC : addC S (some (.lst xs)) (some (.lst ys)) = if xs.length + ys.length ≤ 100000 then .ok (.ref S.length) (S ++ [.lst (xs ++ ys)]) else .bad := (rfl)
theorem o_sub : oSub (.int i) (.int j) S = .ok (.int (i - j)) S := (rfl)
theorem o_mul : oMul (.int i) (.int j) S = if (-(2 ^ 64) < i ∧ i < 2 ^ 64) ∨ (-(2 ^ 64) < j ∧ j < 2 ^ 64) then .ok (.int (i * j)) S else .bad := by
  show (if cMul i j = true then _ else _) = _
  unfold cMul
  by_cases h : (-(2 ^ 64) < i ∧ i < 2 ^ 64) ∨ (-(2 ^ 64) < j ∧ j < 2 ^ 64)
  · rw [decide_eq_true h, if_pos rfl, if_pos h]
  · rw [decide_eq_false h, if_neg h]; rfl
theorem o_mod : oMod (.int i) (.int j) S = if 0 < j then .ok (.int (i % j)) S else .bad := by
  show (if decide (0 < j) = true then _ else _) = _
  by_cases h : 0 < j
  · rw [decide_eq_true h, if_pos rfl, if_pos h]
  · rw [decide_eq_false h, if_neg h]; rfl
theorem o_div : oDiv (.int i) (.int j) S = if 0 < j ∧ j < 1267650600228229401496703205376 then .ok (.int (i / j)) S else .bad := by
  rw [show (1267650600228229401496703205376 : Int) = 2 ^ 100 from by decide]
  show (if cDiv i j = true then _ else _) = _
  unfold cDiv
  by_cases h : 0 < j ∧ j < 2 ^ 100
  · rw [decide_eq_true h, if_pos rfl, if_pos h]
  · rw [decide_eq_false h, if_neg h]; rfl
theorem o_pow : oPow (.int i) (.int j) S = if 0 ≤ j ∧ j ≤ 1000 ∧ -18446744073709551616 < i ∧ i < 18446744073709551616 then .ok (.int (i ^ j.toNat)) S else .bad := by
  show (if cPow i j = true then _ else _) = _
  have e : (0 ≤ j ∧ j ≤ 1000 ∧ i.natAbs < 2 ^ 64) = (0 ≤ j ∧ j ≤ 1000 ∧ -18446744073709551616 < i ∧ i < 18446744073709551616) := by
    have e1 : (i.natAbs < 2 ^ 64) = (-18446744073709551616 < i ∧ i < 18446744073709551616) := propext ⟨fun h => ⟨by omega, by omega⟩, fun h => by omega⟩
    rw [e1]
  unfold cPow
  simp only [e, decide_eq_true_eq]
theorem o_neg : oNeg (.int i) S = .ok (.int (-i)) S := (rfl)
theorem o_lt : oLt (.int i) (.int j) S = .ok (.bl (decide (i < j))) S := (rfl)
theorem o_gt : oGt (.int i) (.int j) S = .ok (.bl (decide (j < i))) S := (rfl)
theorem o_ge : oGe (.int i) (.int j) S = .ok (.bl (decide (j ≤ i))) S := (rfl)
theorem o_int : oInt [.int i] S = .ok (.int i) S := (rfl)
theorem o_min2 : oMin2 [.int i, .int j] S = .ok (.int (if j < i then j else i)) S := (rfl)
def eqK (S : Sto) : Option PyData → Option PyData → R D
  | some p, some q => .ok (.bl (PyData.eqv p q)) S
  | _, _ => .bad
def neK (S : Sto) : Option PyData → Option PyData → R D
  | some p, some q => .ok (.bl (!PyData.eqv p q)) S
  | _, _ => .bad
theorem o_eq : oEq x y S = eqK S (toP S 20 x) (toP S 20 y) := by unfold oEq eqK; rfl
theorem o_ne : oNe x y S = neK S (toP S 20 x) (toP S 20 y) := by unfold oNe neK; rfl
theorem eqK_some {p q : PyData} : eqK S (some p) (some q) = .ok (.bl (PyData.eqv p q)) S := (rfl)
theorem neK_some {p q : PyData} : neK S (some p) (some q) = .ok (.bl (!PyData.eqv p q)) S := (rfl)
theorem eqv_int : PyData.eqv (.int i) (.int j) = (i == j) := by simp only [PyData.eqv]
theorem toP_int {k : Nat} : toP S k (.int i) = some (.int i) := by cases k <;> rfl
theorem toP_str {k : Nat} {t : Str} : toP S k (.str t) = if PyData.strOk t = true then some (.str t) else none := by cases k <;> rfl
theorem toP_tup {k : Nat} : toP S (k + 1) (.tup xs) = (xs.mapM (toP S k)).map .tuple := (rfl)
def toPC (S : Sto) (k : Nat) : Option Cell → Option PyData
  | some (.lst xs) => (xs.mapM (toP S k)).map .list
  | _ => none
theorem toP_ref {k : Nat} : toP S (k + 1) (.ref n) = toPC S k S[n]? := by unfold toP toPC; rfl
theorem toPC_lst {k : Nat} : toPC S k (some (.lst xs)) = (xs.mapM (toP S k)).map .list := (rfl)
theorem toP_mapM_nil {f : D → Option PyData} : List.mapM f [] = some [] := (rfl)
def consO (a : Option PyData) (l : Option (List PyData)) : Option (List PyData) := match a, l with
  | some x, some xs => some (x :: xs)
  | _, _ => none
theorem toP_mapM_cons {f : D → Option PyData} : List.mapM f (d :: ds) = consO (f d) (ds.mapM f) := by
  rw [List.mapM_cons]
  cases f d with
  | none => rfl
  | some p => cases ds.mapM f <;> rfl
def lenK (S : Sto) : Option Nat → R D
  | some n => .ok (.int (n : Nat)) S
  | none => .bad
theorem o_len : oLen [x] S = lenK S (lenD S x) := by unfold oLen lenK; rfl
theorem lenK_some {k : Nat} : lenK S (some k) = .ok (.int (k : Nat)) S := (rfl)
theorem lenD_tup : lenD S (.tup xs) = some xs.length := (rfl)
theorem lenD_rl : lenD S (.rl xs) = some xs.length := (rfl)
def lenC : Option Cell → Option Nat
  | some (.lst xs) => some xs.length
  | some (.dk kvs) => some kvs.length
  | some (.dt kvs) => some kvs.length
  | _ => none
theorem lenD_ref : lenD S (.ref n) = lenC S[n]? := by unfold lenD lenC; rfl
theorem lenC_lst : lenC (some (.lst xs)) = some xs.length := (rfl)
end

/-! types, loops, texts -/
section
variable {S : Sto} {d x : D} {xs ds acc : List D} {env e : Lc} {fa el : EF} {T t : String} {neg b : Bool} {g : GF} {body : SF} {fi : IF} {n i : Nat} {fs : AF} {ft : BF}
def isiK2 (S : Sto) : Option Bool → R D
  | some b => .ok (.bl b) S
  | none => .bad
def isiK (T : String) (S : Sto) : Option String → R D
  | some t => isiK2 S (isiD t T)
  | none => .bad
def isiK0 (T : String) : D → Sto → R D := fun x S1 => match tyD S1 x with
  | some t => match isiD t T with
    | some b => .ok (.bl b) S1
    | none => .bad
  | none => .bad
theorem ap_fIsi : fIsi T fa env S = (fa env S).bind (isiK0 T) := (rfl)
theorem ap_isiK0 : isiK0 T x S = isiK T S (tyD S x) := by unfold isiK0 isiK isiK2; cases tyD S x with
  | none => rfl
  | some t => cases isiD t T <;> rfl
theorem ap_isiK : isiK T S (some t) = isiK2 S (isiD t T) := (rfl)
theorem ap_isiK2 : isiK2 S (some b) = .ok (.bl b) S := (rfl)
def tyK (T : String) (neg : Bool) (S : Sto) : Option String → R D
  | some t => .ok (.bl (if neg = true then !decide (t = T) else decide (t = T))) S
  | none => .bad
def tyK0 (T : String) (neg : Bool) : D → Sto → R D := fun x S1 => match tyD S1 x with
  | some t => .ok (.bl (if neg = true then !decide (t = T) else decide (t = T))) S1
  | none => .bad
def forK (g : GF) (body : SF) (env : Lc) : It' → Sto → R Fl := fun it S1 => match it with
  | .fix xs => loopX g body xs env S1
  | .live n xs => loopL n g body xs 0 env S1
theorem ap_fFor : fFor fi g body env S = (fi env S).bind (forK g body env) := (rfl)
theorem ap_forK_fix : forK g body env (.fix xs) S = loopX g body xs env S := (rfl)
theorem ap_forK_live : forK g body env (.live n xs) S = loopL n g body xs 0 env S := (rfl)
theorem loopX_nil : loopX g body [] env S = .ok (.nx env) S := (rfl)
def turnK (g : GF) (body : SF) (xs : List D) : Fl → Sto → R Fl := fun fl S2 => match fl with
    | .nx e => loopX g body xs e S2
    | .ct e => loopX g body xs e S2
    | .bk e => .ok (.nx e) S2
    | .rt d => .ok (.rt d) S2
def turnK0 (g : GF) (body : SF) (xs : List D) : Lc → Sto → R Fl := fun env1 S1 => (body env1 S1).bind (turnK g body xs)
theorem loopX_cons : loopX g body (d :: xs) env S = (g d env S).bind (turnK0 g body xs) := (rfl)
theorem ap_turnK0 : turnK0 g body xs env S = (body env S).bind (turnK g body xs) := (rfl)
theorem ap_turnK_nx : turnK g body xs (.nx e) S = loopX g body xs e S := (rfl)
theorem ap_turnK_rt : turnK g body xs (.rt d) S = .ok (.rt d) S := (rfl)
def rng1K : List D → Sto → R It' := fun ds S1 => match ds with
  | [.int j] => if -(2 ^ 62) ≤ j ∧ j < 2 ^ 62 then .ok (.fix (rngD 0 j.toNat)) S1 else .bad
  | _ => .bad
theorem ap_fRng1 : fRng1 fs env S = (fs env S).bind rng1K := (rfl)
theorem ap_rng1K {j : Int} : rng1K [.int j] S = if -(2 ^ 62) ≤ j ∧ j < 2 ^ 62 then .ok (.fix (rngD 0 j.toNat)) S else .bad := (rfl)
def iterC (S : Sto) (n : Nat) : Option Cell → R It'
  | some (.lst xs) => .ok (.live n xs) S
  | _ => .bad
def iterK : D → Sto → R It' := fun d S1 => match d with
  | .rl xs => .ok (.fix xs) S1
  | .tup xs => .ok (.fix xs) S1
  | .kt xs => .ok (.fix xs) S1
  | .ref n => match S1[n]? with
    | some (.lst xs) => .ok (.live n xs) S1
    | _ => .bad
  | _ => .bad
theorem ap_fIter : fIter fa env S = (fa env S).bind iterK := (rfl)
theorem ap_iterK_tup : iterK (.tup xs) S = .ok (.fix xs) S := (rfl)
theorem ap_iterK_ref : iterK (.ref n) S = iterC S n S[n]? := by unfold iterK iterC; rfl
theorem iterC_lst : iterC S n (some (.lst xs)) = .ok (.live n xs) S := (rfl)
def iterSK : D → Sto → R It' := fun x S1 => match x with
  | .str z => .ok (.fix (sgnD z)) S1
  | _ => .bad
def compK (i : Nat) (ft : BF) (fe : EF) (env : Lc) : It' → Sto → R D := fun it S1 => match it with
  | .fix xs => compX i ft fe (env.set i none) xs [] S1
  | .live n xs => compL n i ft fe (env.set i none) xs 0 [] S1
theorem ap_fComp : fComp fi i ft el env S = (fi env S).bind (compK i ft el env) := (rfl)
theorem ap_compK_fix : compK i ft el env (.fix xs) S = compX i ft el (env.set i none) xs [] S := (rfl)
theorem ap_compK_live : compK i ft el env (.live n xs) S = compL n i ft el (env.set i none) xs 0 [] S := (rfl)
def compTK (i : Nat) (ft : BF) (el : EF) (env : Lc) (d : D) (xs acc : List D) : Bool → Sto → R D := fun b S1 => if b = true then ((el (env.set i (some d)) S1).nox.bind fun y S2 => if acc.length < 100000 then compX i ft el env xs (acc ++ [y]) S2 else .bad) else compX i ft el env xs acc S1
def compEK (i : Nat) (ft : BF) (el : EF) (env : Lc) (xs acc : List D) : D → Sto → R D := fun y S2 => if acc.length < 100000 then compX i ft el env xs (acc ++ [y]) S2 else .bad
theorem compX_cons : compX i ft el env (d :: xs) acc S = (ft (env.set i (some d)) S).nox.bind (compTK i ft el env d xs acc) := (rfl)
theorem ap_compTK : compTK i ft el env d xs acc b S = if b = true then ((el (env.set i (some d)) S).nox.bind (compEK i ft el env xs acc)) else compX i ft el env xs acc S := (rfl)
theorem ap_compEK : compEK i ft el env xs acc d S = if acc.length < 100000 then compX i ft el env xs (acc ++ [d]) S else .bad := (rfl)
theorem ap_fYes : fYes env S = .ok true S := (rfl)
def slK1 (pl ph : PF) (env : Lc) : D → Sto → R D := fun x S1 => (pl env S1).bind fun l S2 => (ph env S2).bind fun h S3 => oSl x l h S3
def slK2 (ph : PF) (env : Lc) (x : D) : Option Int → Sto → R D := fun l S2 => (ph env S2).bind fun h S3 => oSl x l h S3
theorem ap_fSl {pl ph : PF} : fSl fa pl ph env S = (fa env S).bind (slK1 pl ph env) := (rfl)
theorem ap_slK1 {pl ph : PF} : slK1 pl ph env x S = (pl env S).bind (slK2 ph env x) := (rfl)
theorem ap_slK2 {ph : PF} {l : Option Int} : slK2 ph env x l S = (ph env S).bind (oSl x l) := (rfl)
theorem ap_pNo : pNo env S = .ok none S := (rfl)
def pSoK : D → Sto → R (Option Int) := fun x S1 => match x with
  | .int i => .ok (some i) S1
  | _ => .bad
theorem ap_pSo : pSo fa env S = (fa env S).bind pSoK := (rfl)
theorem ap_pSoK {j : Int} : pSoK (.int j) S = .ok (some j) S := (rfl)
theorem oSl_tup {l h : Option Int} : oSl (.tup xs) l h S = .ok (.tup (cutD xs l h)) S := (rfl)
def bmK (T : String) (o : OpM) (fs : AF) (env : Lc) : D → Sto → R D := fun x S1 => if tyIn T S1 x = true then (fs env S1).bind fun ds S2 => o x ds S2 else .bad
theorem ap_fBm {o : OpM} {fo : EF} : fBm T o fo fs env S = (fo env S).bind (bmK T o fs env) := (rfl)
theorem ap_bmK {o : OpM} : bmK T o fs env x S = if tyIn T S x = true then (fs env S).bind (o x) else .bad := (rfl)
def tyInC (T : String) : Option Cell → Bool
  | some (.lst _) => decide (T = "list")
  | some (.dk _) => decide (T = "dict")
  | some (.dt _) => decide (T = "dict")
  | _ => false
theorem tyIn_ref : tyIn T S (.ref n) = tyInC T S[n]? := by unfold tyIn tyInC; rfl
theorem tyInC_lst : tyInC T (some (.lst xs)) = decide (T = "list") := (rfl)
def tyC : Option Cell → Option String
  | some (.lst _) => some "list"
  | some (.dk _) => some "dict"
  | some (.dt _) => some "dict"
  | _ => none
end
theorem app_get {α : Type} {S T : List α} {n : Nat} {c : α} (h : S[n]? = some c) : (S ++ T)[n]? = some c := by
  rw [List.getElem?_append_left (List.getElem?_eq_some_iff.mp h).1]; exact h
theorem app_set {α : Type} {S T : List α} {n : Nat} {c d : α} (h : S[n]? = some c) : (S ++ T).set n d = S.set n d ++ T := List.set_append_left _ _ (List.getElem?_eq_some_iff.mp h).1
theorem set_self {α : Type} {S : List α} {n : Nat} {c : α} (h : S[n]? = some c) : S.set n c = S := by
  apply List.ext_getElem?
  intro i
  by_cases hi : n = i
  · subst hi
    rw [List.getElem?_set_self (List.getElem?_eq_some_iff.mp h).1, h]
  · rw [List.getElem?_set_ne hi]
theorem get_app {α : Type} {S T : List α} {k : Nat} : (S ++ T)[S.length + k]? = T[k]? := by
  rw [List.getElem?_append_right (Nat.le_add_right _ _), Nat.add_sub_cancel_left]
theorem get_app0 {α : Type} {S T : List α} : (S ++ T)[S.length]? = T[0]? := get_app (k := 0)
theorem get_apps {α : Type} {S T : List α} {k n : Nat} {d : α} : (S.set n d ++ T)[S.length + k]? = T[k]? := by
  have h := get_app (S := S.set n d) (T := T) (k := k)
  rw [List.length_set] at h
  exact h
theorem get_apps0 {α : Type} {S T : List α} {n : Nat} {d : α} : (S.set n d ++ T)[S.length]? = T[0]? := get_apps (k := 0)
theorem set_app {α : Type} {S T : List α} {k : Nat} {d : α} : (S ++ T).set (S.length + k) d = S ++ T.set k d := by
  rw [List.set_append_right _ _ (Nat.le_add_right _ _), Nat.add_sub_cancel_left]
theorem set_app0 {α : Type} {S T : List α} {d : α} : (S ++ T).set S.length d = S ++ T.set 0 d := set_app (k := 0)
theorem set_get {α : Type} {S : List α} {n : Nat} {c d : α} (h : S[n]? = some c) : (S.set n d)[n]? = some d := List.getElem?_set_self (List.getElem?_eq_some_iff.mp h).1
end RF

namespace RF
open PySem L2

/-! ### sorted of data -/
abbrev VDP := V × (D × PyData)
def leP : PyData → PyData → Bool := PySem.W.dataLe false id
def rSortD (K : PySem.W.Frag) : List V → Hp → VK → Prop := fun vs H Q => ∃ (a : Addr) (bs : List VDP), vs = [V.ref a] ∧ SqL K H a (bs.map (·.1)) ∧ DpAll K H (bs.map (·.1)) (bs.map (·.2.2)) ∧ PySem.W.AllAlike (bs.map (·.2.2)) ∧ PySem.W.Sortable (bs.map (·.2.2)) ∧ bs.length ≤ sizeLine ∧
  (∀ b ∈ bs, b.2.2.depth ≤ 60) ∧ ∀ p, H p = none → Q (.ref p) (upd H p (.lst ((bs.mergeSort (PySem.W.dataLe false (fun b => b.2.2))).map (·.1))))
def isTupP : PyData → Bool
  | .tuple (_ :: _) => true
  | _ => false
def isOthP : PyData → Bool
  | .none => false
  | .tuple _ => false
  | _ => true
def likeB (ps : List PyData) : Bool := ps.all fun a => ps.all fun b => PySem.W.alike a b
def sortB (ps : List PyData) : Bool := likeB ps && (ps.all isTupP || ps.all isOthP)
def sortDs (xs : List D) (ps : List PyData) : List D := ((xs.zip ps).mergeSort (PySem.W.dataLe false Prod.snd)).map Prod.fst
def oSorted : OpN := fun ds S => match ds with
  | [x] => match lstD S x with
    | some xs => match xs.mapM (toP S 20) with
      | some ps => if sortB ps = true ∧ xs.length ≤ 100000 then .ok (.ref S.length) (S ++ [.lst (sortDs xs ps)]) else .bad
      | none => .bad
    | none => .bad
  | _ => .bad
section
variable {K : PySem.W.Frag} {E : XK}
end
end RF

namespace RF
open PySem L2

/-! ### min of data -/
def rMinD (K : PySem.W.Frag) : List V → Hp → VK → Prop := fun vs H Q => ∃ (a : Addr) (bs : List VDP) (x : PyData) (ps : List PyData), vs = [V.ref a] ∧ SqL K H a (bs.map (·.1)) ∧ DpAll K H (bs.map (·.1)) (bs.map (·.2.2)) ∧ bs.map (·.2.2) = x :: ps ∧ PySem.W.AlikeAll (x :: ps) ∧
  PyData.depthAll (x :: ps) ≤ 60 ∧ PyData.canLayAll0 (x :: ps) = true ∧ ∀ b ∈ bs, b.2.2 = PySem.W.minD x ps → Q b.1 H
-- data of atoms and tuples, back
mutual
def toD : PyData → D
  | .none => .non
  | .bool b => .bl b
  | .int i => .int i
  | .str x => .str x
  | .tuple xs => .tup (toDs xs)
  | _ => .non
def toDs : List PyData → List D
  | [] => []
  | x :: xs => toD x :: toDs xs
end
mutual
def pureT : D → Bool
  | .non => true
  | .bl _ => true
  | .int _ => true
  | .str _ => true
  | .tup xs => pureTs xs
  | _ => false
def pureTs : List D → Bool
  | [] => true
  | x :: xs => pureT x && pureTs xs
end
def notNoneB (ps : List PyData) : Bool := ps.all fun p => match p with | .none => false | _ => true
def oMin1 : OpN := fun ds S => match ds with
  | [x] => match lstD S x with
    | some xs => match xs.mapM (toP S 20) with
      | some (p :: ps) => if likeB (p :: ps) = true ∧ notNoneB (p :: ps) = true ∧ pureTs xs = true then .ok (toD (PySem.W.minD p ps)) S else .bad
      | _ => .bad
    | none => .bad
  | _ => .bad
section
variable {K : PySem.W.Frag} {E : XK}
end

/-! ### l.remove(x) -/
def rRemD (K : PySem.W.Frag) : V → List V → Hp → VK → Prop := fun x xs H Q => ∃ (a : Addr) (y : V) (vs : List V) (d : PyData) (ds : List PyData) (j : Nat), x = V.ref a ∧ xs = [y] ∧ H a = some (.lst vs) ∧ DpAll K H vs ds ∧ Dp K H y d ∧ PyData.canLayAll0 ds = true ∧ d.canLay0 = true ∧ d.depth ≤ 60 ∧
  PySem.SeqAt.dataPlace ds d = some j ∧ Q .non (upd H a (.lst (vs.eraseIdx j)))
def mRemove : OpM := fun x ds S => match x, ds with
  | .ref n, [y] => match S[n]? with
    | some (.lst xs) => match xs.mapM (toP S 20), toP S 20 y with
      | some ps, some p => match PySem.SeqAt.dataPlace ps p with
        | some j => .ok .non (S.set n (.lst (xs.eraseIdx j)))
        | none => .bad
      | _, _ => .bad
    | _ => .bad
  | _, _ => .bad
section
variable {K : PySem.W.Frag} {E : XK}
end
end RF

namespace RF
open PySem L2

/-! ### a value's truth -/
def truD (S : Sto) : D → Option Bool
  | .non => some false
  | .bl b => some b
  | .int i => some (i != 0)
  | .tup xs => some (!xs.isEmpty)
  | .rl xs => some (!xs.isEmpty)
  | .ref n => match S[n]? with
    | some (.lst xs) => some (!xs.isEmpty)
    | some (.dk kvs) => some (!kvs.isEmpty)
    | _ => none
  | _ => none
def fTru (fa : EF) : BF := fun env S => (fa env S).bind fun x S1 => match truD S1 x with
  | some b => .ok b S1
  | none => .bad
theorem RDs.isEmpty {K : PySem.W.Frag} {L : List Addr} {H : Hp} : ∀ {vs : List V} {ds : List D}, RDs K L H vs ds → vs.isEmpty = ds.isEmpty
  | _, _, .nil => rfl
  | _, _, .cons _ _ => rfl
theorem RK.isEmpty {κ : Type} {K : PySem.W.Frag} {L : List Addr} {H : Hp} : ∀ {ps : List (κ × V)} {qs : List (κ × D)}, RK K L H ps qs → ps.isEmpty = qs.isEmpty
  | [], [], _ => rfl
  | _ :: _, _ :: _, _ => rfl
  | [], _ :: _, h => h.elim
  | _ :: _, [], h => h.elim
section
variable {X : Cx} {K : PySem.W.Frag} {E : XK} {L : List Addr} {H : Hp} {S : Sto}
theorem truD_of {v : V} {d : D} {b : Bool} (rep : Rep K L H S) (r : RD K L H v d) (h : truD S d = some b) : TruV K v H b := by
  cases r with
  | non => cases h; rfl
  | bl b => cases h; rfl
  | int b => cases h; rfl
  | str b => cases h
  | kt hs rs => exact nomatch (show (none : Option Bool) = some _ from h)
  | exc a => exact nomatch (show (none : Option Bool) = some _ from h)
  | tup hs rs => cases h; exact .inr (.inl ⟨_, .of hs, by rw [rs.isEmpty]⟩)
  | rl hs rs => cases h; exact .inl ⟨_, hs H fun _ _ z => z, by rw [rs.isEmpty]⟩
  | @ref a n ha =>
    obtain ⟨c, hc, rc⟩ := rep.adr ha
    unfold truD at h
    simp only [hc] at h
    cases c with
    | lst ys =>
      cases h
      obtain ⟨vs, hv, rv⟩ := rc
      exact .inl ⟨_, .of hv, by rw [rv.isEmpty]⟩
    | dk ys =>
      cases h
      obtain ⟨vs, hv, rv⟩ := rc
      exact .inr (.inr ⟨_, hv, by rw [rv.isEmpty]⟩)
    | _ => cases h
theorem xTru {e : Expr} {fa : EF} (he : PE X e (tE X.K E fa)) (hp : ∀ whole, isTrue e X.env whole = (do let v ← whole; standAt e.pos; holding [v] (truthy v))) : PT X e (tT X.K E (fTru fa)) :=
  monoT (pt_truth he hp) fun σ H Q h => by
    obtain ⟨L, env, S, rep, re, h⟩ := h
    refine ⟨L, env, S, rep, re, (End.bind h).imp fun x S1 L1 H1 e1 rep1 h1 v rv => ?_⟩
    cases h2 : truD S1 x with
    | none => rw [h2] at h1; exact h1.elim
    | some b =>
      rw [h2] at h1
      exact ⟨b, truD_of rep1 rv h2, h1 L1 H1 (Ex.refl _ _) rep1⟩
end

/-! ### o.f += e -/
def fFldAug (C : Addr) (f : Str) (o : Op2) (fo fv : EF) : SF := fun env S => (fo env S).bind fun x S1 => match fldsOf C S1 x with
  | some (_, fs) => (retO S1 (fs.lookup f)).bind fun y S2 => (fv env S2).bind fun z S3 => (o y z S3).bind fun d S4 => (oPut C f x d S4).bind fun _ S5 => .ok (.nx env) S5
  | none => .bad
def oAddI : Op2 := oI (fun _ _ => true) fun i j => i + j
section
variable {X : Cx} {E : XK} {o e : Expr} {fo fv : EF} {pos tpos : Pos} {C : Addr} {f g : Str}
end

/-! ### methods, by a name that is equal -/
section
variable {X : Cx} {E : XK} {k n : Nat} {f C : Addr} {fd : FuncData} {ps : List Str} {F : FF} {dvs : List V} {ds : List Value} {dds : List D} {m m' : Str} {pos apos : Pos} {e o : Expr} {es : List Expr} {fo : EF} {fs : AF}
end

/-! ### a def with defaults -/
section
variable {P : Program} {w : World} {K : PySem.W.Frag} {mg : Str → Option Value} {base : Heap}
end
end RF

namespace RF
open PySem L2

/-! ### {k: e, ..} with texts and ints as keys -/
abbrev PrF := Lc → Sto → R (List (D × D))
def prNil : PrF := fun _ S => .ok [] S
def prCons (fk fv : EF) (r : PrF) : PrF := fun env S => (fk env S).bind fun x S1 => (fv env S1).bind fun y S2 => (r env S2).bind fun ps S3 => .ok ((x, y) :: ps) S3
def keyPs : List (D × D) → Option (List (Key × D))
  | [] => some []
  | (x, y) :: r => match keyD x with
    | some k => match keyPs r with
      | some kvs => some ((k, y) :: kvs)
      | none => none
    | none => none
def mergeKD (kvs more : List (Key × D)) : List (Key × D) := more.foldl (fun acc kv => putKD acc kv.1 kv.2) kvs
def fDisp (r : PrF) : EF := fun env S => (r env (S ++ [.dk []])).bind fun ps S1 => match keyPs ps with
  | some kvs => match S1[S.length]? with
    | some (.dk []) => if kvs.length ≤ 15 then .ok (.ref S.length) (S1.set S.length (.dk (mergeKD [] kvs))) else .bad
    | _ => .bad
  | none => .bad
def RPs (K : PySem.W.Frag) (L : List Addr) (H : Hp) : List (V × V) → List (D × D) → Prop
  | [], [] => True
  | p :: ps, q :: qs => RD K L H p.1 q.1 ∧ RD K L H p.2 q.2 ∧ RPs K L H ps qs
  | _, _ => False
theorem RPs.keys {K : PySem.W.Frag} {L : List Addr} {H : Hp} : ∀ {ps : List (V × V)} {qs : List (D × D)} {kvs : List (Key × D)}, RPs K L H ps qs → keyPs qs = some kvs → ∃ ws : List (Key × V), ps = ws.map (fun kv => (kV kv.1, kv.2)) ∧ RK K L H ws kvs
  | [], [], _, _, h => by cases h; exact ⟨[], rfl, trivial⟩
  | p :: ps, (x, y) :: qs, kvs, ⟨a, b, c⟩, h => by
    unfold keyPs at h
    cases h1 : keyD x with
    | none => rw [h1] at h; cases h
    | some k =>
      rw [h1] at h
      simp only at h
      cases h2 : keyPs qs with
      | none => rw [h2] at h; cases h
      | some r =>
        rw [h2] at h
        cases h
        obtain ⟨ws, e, rk⟩ := RPs.keys c h2
        refine ⟨(k, p.2) :: ws, ?_, rfl, b, rk⟩
        have := a.key h1
        rw [List.map_cons, e]
        obtain ⟨p1, p2⟩ := p
        simp only at this
        rw [this]
  | [], _ :: _, _, h, _ => h.elim
  | _ :: _, [], _, h, _ => h.elim
/-- the pairs of a display and their readings -/
structure PrX (X : Cx) (E : XK) (pos : Pos) (keys : List (Option Expr)) (values : List Expr) (r : PrF) : Prop where
  ex : ∃ trs, PPs X pos keys values trs ∧ ∀ σ H (Q : List (V × V) → Hp → Prop) L env S, Rep X.K L H S → RE X.K L H σ env → End X.K E L H (fun ps S1 L1 H1 => ∀ vs, RPs X.K L1 H1 vs ps → Q vs H1) (r env S) → tPairs trs σ H Q
theorem RPs.mono {K : PySem.W.Frag} {L L1 : List Addr} {H H1 : Hp} (e : Ex L H L1 H1) : ∀ {ps : List (V × V)} {qs : List (D × D)}, RPs K L H ps qs → RPs K L1 H1 ps qs
  | [], [], _ => trivial
  | _ :: _, _ :: _, ⟨a, b, c⟩ => ⟨a.mono e, b.mono e, RPs.mono e c⟩
  | [], _ :: _, h => h.elim
  | _ :: _, [], h => h.elim
section
variable {X : Cx} {E : XK} {pos : Pos} {k v : Expr} {ks : List (Option Expr)} {vs : List Expr} {fk fv : EF} {r : PrF}
end
end RF

/-! running by rewriting: instances, dicts, methods -/
namespace RF
open PySem L2
section
variable {C : Addr} {n k : Nat} {S : Sto} {x y z d : D} {ds xs : List D} {fs : List (Str × D)} {f m : Str} {env : Lc} {fo fa fv : EF} {aa : AF} {o : Op2} {F : FF} {dds : List D} {b : Bool} {kvs : List (Key × D)} {t : Str}
def fldC (C : Addr) (n : Nat) : Option Cell → Option (Nat × List (Str × D))
  | some (.ins C' fs) => if C' = C then some (n, fs) else none
  | _ => none
def fldK2 (f : Str) (S : Sto) : Option (Nat × List (Str × D)) → R D
  | some (_, fs) => retO S (fs.lookup f)
  | none => .bad
def fldK (C : Addr) (f : Str) : D → Sto → R D := fun x S1 => match fldsOf C S1 x with
  | some (_, fs) => retO S1 (fs.lookup f)
  | none => .bad
def sfK1 (C : Addr) (f : Str) (fo : EF) (env : Lc) : D → Sto → R Fl := fun d S1 => (fo env S1).bind fun x S2 => (oPut C f x d S2).bind fun _ S3 => .ok (.nx env) S3
def sfK2 (C : Addr) (f : Str) (env : Lc) (d : D) : D → Sto → R Fl := fun x S2 => (oPut C f x d S2).bind fun _ S3 => .ok (.nx env) S3
def sfK3 (env : Lc) : Unit → Sto → R Fl := fun _ S3 => .ok (.nx env) S3
def putK' (C : Addr) (f : Str) (d : D) (S : Sto) : Option (Nat × List (Str × D)) → R Unit
  | some (n, fs) => if fs.length < 900 then .ok () (S.set n (.ins C (putD f d fs))) else .bad
  | none => .bad
def faK2 (C : Addr) (f : Str) (o : Op2) (fv : EF) (env : Lc) (x : D) (S1 : Sto) : Option (Nat × List (Str × D)) → R Fl
  | some (_, fs) => (retO S1 (fs.lookup f)).bind fun y S2 => (fv env S2).bind fun z S3 => (o y z S3).bind fun d S4 => (oPut C f x d S4).bind fun _ S5 => .ok (.nx env) S5
  | none => .bad
def faK1 (C : Addr) (f : Str) (o : Op2) (fv : EF) (env : Lc) : D → Sto → R Fl := fun x S1 => match fldsOf C S1 x with
  | some (_, fs) => (retO S1 (fs.lookup f)).bind fun y S2 => (fv env S2).bind fun z S3 => (o y z S3).bind fun d S4 => (oPut C f x d S4).bind fun _ S5 => .ok (.nx env) S5
  | none => .bad
def faK3 (C : Addr) (f : Str) (o : Op2) (fv : EF) (env : Lc) (x : D) : D → Sto → R Fl := fun y S2 => (fv env S2).bind fun z S3 => (o y z S3).bind fun d S4 => (oPut C f x d S4).bind fun _ S5 => .ok (.nx env) S5
def faK4 (C : Addr) (f : Str) (o : Op2) (env : Lc) (x y : D) : D → Sto → R Fl := fun z S3 => (o y z S3).bind fun d S4 => (oPut C f x d S4).bind fun _ S5 => .ok (.nx env) S5
def faK5 (C : Addr) (f : Str) (env : Lc) (x : D) : D → Sto → R Fl := fun d S4 => (oPut C f x d S4).bind fun _ S5 => .ok (.nx env) S5
def meK2 (m : Str) (F : FF) (n : Nat) (dds : List D) (aa : AF) (env : Lc) (x : D) (S1 : Sto) : Option (Nat × List (Str × D)) → R D
  | some (_, fl) => if (fl.lookup m).isNone = true then (aa env S1).bind fun ds S2 => if ds.length + 1 + dds.length = n then (F (x :: (ds ++ dds)) S2).nox else .bad else .bad
  | none => .bad
def meK1 (C : Addr) (m : Str) (F : FF) (n : Nat) (dds : List D) (aa : AF) (env : Lc) : D → Sto → R D := fun x S1 => match fldsOf C S1 x with
  | some (_, fl) => if (fl.lookup m).isNone = true then (aa env S1).bind fun ds S2 => if ds.length + 1 + dds.length = n then (F (x :: (ds ++ dds)) S2).nox else .bad else .bad
  | none => .bad
def meK3 (F : FF) (n : Nat) (dds : List D) (x : D) : List D → Sto → R D := fun ds S2 => if ds.length + 1 + dds.length = n then (F (x :: (ds ++ dds)) S2).nox else .bad
def mkK2 (k : Nat) : D → Sto → R D := fun r S2 => match r with
  | .non => .ok (.ref k) S2
  | _ => .bad
def mkK (C : Addr) (F : FF) (n : Nat) (dds : List D) : List D → Sto → R D := fun ds S1 => if ds.length + 1 + dds.length = n then (F (.ref S1.length :: (ds ++ dds)) (S1 ++ [.ins C []])).nox.bind fun r S2 => match r with
  | .non => .ok (.ref S1.length) S2
  | _ => .bad
  else .bad
/-! truth -/
def truK2 (S : Sto) : Option Bool → R Bool
  | some b => .ok b S
  | none => .bad
def truK : D → Sto → R Bool := fun x S1 => match truD S1 x with
  | some b => .ok b S1
  | none => .bad
theorem ap_fTru : fTru fa env S = (fa env S).bind truK := (rfl)
theorem ap_truK : truK x S = truK2 S (truD S x) := by unfold truK truK2; rfl
theorem ap_truK2 : truK2 S (some b) = .ok b S := (rfl)
def truC : Option Cell → Option Bool
  | some (.lst xs) => some (!xs.isEmpty)
  | some (.dk kvs) => some (!kvs.isEmpty)
  | _ => none
theorem truD_ref : truD S (.ref n) = truC S[n]? := by unfold truD truC; rfl
theorem truC_lst : truC (some (.lst xs)) = some (!xs.isEmpty) := (rfl)
/-! dicts -/
def getDK (S : Sto) : Option (Option D) → R D
  | some (some d) => .ok d S
  | _ => .bad
theorem o_getD : oGetD x y S = getDK S (lookD S x y) := by unfold oGetD getDK; rfl
theorem o_getDK : getDK S (some (some d)) = .ok d S := (rfl)
def lookC (y : D) : Option Cell → Option (Option D)
  | some (.dk kvs) => (keyD y).map fun k => valK kvs k
  | some (.dt kvs) => (keysD y).map fun k => valK kvs k
  | _ => none
theorem lookD_ref : lookD S (.ref n) y = lookC y S[n]? := by unfold lookD lookC; rfl
def dispK2 (k : Nat) (S1 : Sto) : Option (List (Key × D)) → Option Cell → R D
  | some kvs, some (.dk []) => if kvs.length ≤ 15 then .ok (.ref k) (S1.set k (.dk (mergeKD [] kvs))) else .bad
  | _, _ => .bad
def dispK (k : Nat) : List (D × D) → Sto → R D := fun ps S1 => match keyPs ps with
  | some kvs => match S1[k]? with
    | some (.dk []) => if kvs.length ≤ 15 then .ok (.ref k) (S1.set k (.dk (mergeKD [] kvs))) else .bad
    | _ => .bad
  | none => .bad
def prK (fv : EF) (r : PrF) (env : Lc) : D → Sto → R (List (D × D)) := fun x S1 => (fv env S1).bind fun y S2 => (r env S2).bind fun ps S3 => .ok ((x, y) :: ps) S3
def prK2 (x : D) (r : PrF) (env : Lc) : D → Sto → R (List (D × D)) := fun y S2 => (r env S2).bind fun ps S3 => .ok ((x, y) :: ps) S3
def prK3 (x y : D) : List (D × D) → Sto → R (List (D × D)) := fun ps S3 => .ok ((x, y) :: ps) S3
/-! operators -/
def appC (S : Sto) (n : Nat) (d : D) : Option Cell → R D
  | some (.lst xs) => if xs.length < 100000 then .ok .non (S.set n (.lst (xs ++ [d]))) else .bad
  | _ => .bad
theorem o_append : mAppend (.ref n) [d] S = appC S n d S[n]? := by unfold mAppend appC; rfl
theorem o_appC : appC S n d (some (.lst xs)) = if xs.length < 100000 then .ok .non (S.set n (.lst (xs ++ [d]))) else .bad := (rfl)
end
/-! a comprehension that only filters -/
end RF

/-! whos: ((house, count), attempt) -/
namespace RF
open PySem L2
abbrev Who := (Int × Int) × Int
def eT (t : Int × Int) : D := .tup [.int t.1, .int t.2]
def eW (w : Who) : D := .tup [eT w.1, .int w.2]
def pT (t : Int × Int) : PyData := .tuple [.int t.1, .int t.2]
def pW (w : Who) : PyData := .tuple [pT w.1, .int w.2]
def eH : Option Who → D
  | none => .non
  | some w => eW w
def pH : Option Who → PyData
  | none => .none
  | some w => pW w
def eWs (ws : List Who) : List D := ws.map eW
section
variable {S : Sto} {k n : Nat} {u w : Who} {t t' : Int × Int} {ws vs : List Who}
theorem fT_eT : toP S (k + 1) (eT t) = some (pT t) := by cases k <;> rfl
theorem eqv_T : PyData.eqv (pT t) (pT t') = decide (t = t') := by
  unfold pT
  simp only [PyData.eqv, PyData.eqvAll]
  obtain ⟨a, b⟩ := t
  obtain ⟨c, d⟩ := t'
  simp only [Prod.mk.injEq]
  by_cases h1 : a = c <;> by_cases h2 : b = d <;> simp [h1, h2]
/-! order -/
def ltW (a b : Who) : Prop := a.1.1 < b.1.1 ∨ (a.1.1 = b.1.1 ∧ (a.1.2 < b.1.2 ∨ (a.1.2 = b.1.2 ∧ a.2 < b.2)))
instance (a b : Who) : Decidable (ltW a b) := inferInstanceAs (Decidable (_ ∨ _))
theorem ltW_irr (a : Who) : ¬ ltW a a := by unfold ltW; omega
def leW (a b : Who) : Bool := !decide (ltW b a)
theorem leW_iff {a b : Who} : leW a b = true ↔ ¬ ltW b a := by unfold leW; simp
def sortW (ws : List Who) : List Who := ws.mergeSort leW
def minW (a : Who) (r : List Who) : Who := r.foldl (fun a y => if ltW y a then y else a) a
theorem minW_mem (a : Who) (r : List Who) : minW a r ∈ a :: r := by
  unfold minW
  induction r generalizing a with
  | nil => simp
  | cons y r ih =>
    rw [List.foldl_cons]
    by_cases h : ltW y a
    · rw [if_pos h]
      have := ih y
      simp only [List.mem_cons] at this ⊢
      rcases this with e | e
      · exact .inr (.inl e)
      · exact .inr (.inr e)
    · rw [if_neg h]
      have := ih a
      simp only [List.mem_cons] at this ⊢
      rcases this with e | e
      · exact .inl e
      · exact .inr (.inr e)
theorem minW_le (a : Who) (r : List Who) : ∀ x ∈ a :: r, ¬ ltW x (minW a r) := by
  unfold minW
  induction r generalizing a with
  | nil =>
    intro x hx
    rw [List.mem_singleton.mp hx]
    exact ltW_irr _
  | cons y r ih =>
    intro x hx
    rw [List.foldl_cons]
    by_cases h : ltW y a
    · rw [if_pos h]
      have hy := ih y
      rcases List.mem_cons.mp hx with rfl | hx
      · have := hy y (List.mem_cons_self ..)
        intro z
        refine this ?_
        unfold ltW at h z ⊢
        omega
      · exact hy x hx
    · rw [if_neg h]
      have ha := ih a
      rcases List.mem_cons.mp hx with rfl | hx
      · exact ha x (List.mem_cons_self ..)
      · rcases List.mem_cons.mp hx with rfl | hx
        · have := ha a (List.mem_cons_self ..)
          intro z
          unfold ltW at h z this
          omega
        · exact ha x (List.mem_cons_of_mem _ hx)
end
end RF

/-! the lock and its model in the store -/
namespace RF
open PySem L2
section
variable {S : Sto} {w u : Who} {v t h d : D} {n : Nat} {C : Addr} {t2 : Int × Int} {g : Option Who}
def nV : Str := ⟨#[118, 97, 108, 117, 101]⟩
def nT : Str := ⟨#[116, 117, 114, 110]⟩
def nH : Str := ⟨#[104, 111, 108, 100, 101, 114]⟩
def nW : Str := ⟨#[95, 119, 104, 111, 115]⟩
def nA : Str := ⟨#[119, 97, 105, 116, 105, 110, 103]⟩
def lkF (v t h : D) (n : Nat) : List (Str × D) := [(nV, v), (nT, t), (nH, h), (nW, .ref n)]
def lkC (C : Addr) (v t h : D) (n : Nat) : Cell := .ins C (lkF v t h n)
def mdF (v t h : D) (n : Nat) : List (Key × D) := [(.inr nV, v), (.inr nT, t), (.inr nH, h), (.inr nA, .ref n)]
def mdC (v t h : D) (n : Nat) : Cell := .dk (mdF v t h n)
end
def upW (tr : Int × Int) (att : Int) (w : Who) : Bool := decide (w.1 = tr) && decide (w.2 ≤ att)
structure LSt where
  v : Int
  t : Int
  h : Option Who
  ws : List Who
def keepS (st : LSt) (tr : Int × Int) (att : Int) : List Who := st.ws.filter fun w => !upW tr att w
def goneS (st : LSt) (tr : Int × Int) (att : Int) : Bool := match st.h with
  | none => false
  | some x => upW tr att x
def freeS (st : LSt) (tr : Int × Int) (att : Int) : LSt × List Who :=
  if goneS st tr att = false then (⟨st.v, st.t, st.h, keepS st tr att⟩, [])
  else match keepS st tr att with
    | [] => (⟨st.v, st.t, none, []⟩, [])
    | a :: r => (⟨st.v, st.t + 1, some (minW a r), (a :: r).filter fun w => !decide (w = minW a r)⟩, [minW a r])
def askS (st : LSt) (u : Who) : LSt × List Who :=
  let p := freeS st u.1 (u.2 - 1)
  match p.1.h with
  | none => (⟨p.1.v, p.1.t + 1, some u, p.1.ws⟩, [u])
  | some x => if x ≠ u ∧ u ∉ p.1.ws then (⟨p.1.v, p.1.t, p.1.h, p.1.ws ++ [u]⟩, p.2) else p
def finS (st : LSt) (u : Who) (z : Int) : LSt × List Who :=
  if st.h ≠ some u then (st, []) else freeS ⟨z, st.t, st.h, st.ws⟩ u.1 u.2
def lkS (C : Addr) (st : LSt) (n : Nat) : Cell := lkC C (.int st.v) (.int st.t) (eH st.h) n
def mdS (st : LSt) (n : Nat) : Cell := mdC (.int st.v) (.int st.t) (eH st.h) n
/-- what keeps: all wait once; nobody waits where nobody holds -/
structure Okay (st : LSt) : Prop where
  nd : st.ws.Nodup
  no : st.h = none → st.ws = []
theorem keep_len {st : LSt} {tr : Int × Int} {att : Int} : (keepS st tr att).length ≤ st.ws.length := List.length_filter_le ..
theorem Okay.free {st : LSt} (o : Okay st) (tr : Int × Int) (att : Int) : Okay (freeS st tr att).1 ∧ (freeS st tr att).1.ws.length ≤ st.ws.length := by
  have hn : (keepS st tr att).Nodup := o.nd.filter _
  have hk := keep_len (st := st) (tr := tr) (att := att)
  unfold freeS
  split
  · refine ⟨⟨hn, fun e => ?_⟩, hk⟩
    have e : st.h = none := e
    show st.ws.filter _ = []
    rw [o.no e]; rfl
  · split
    · exact ⟨⟨List.nodup_nil, fun _ => rfl⟩, Nat.zero_le _⟩
    · rename_i a r h
      rw [h] at hn hk
      exact ⟨⟨show (List.filter (fun w => !decide (w = minW a r)) (a :: r)).Nodup from List.Pairwise.filter _ hn, fun e => by cases e⟩, Nat.le_trans (List.length_filter_le ..) hk⟩
theorem Okay.ask {st : LSt} (o : Okay st) (u : Who) : Okay (askS st u).1 ∧ (askS st u).1.ws.length ≤ st.ws.length + 1 := by
  obtain ⟨o1, hl⟩ := o.free u.1 (u.2 - 1)
  unfold askS
  simp only
  split
  · rename_i h
    exact ⟨⟨o1.nd, fun e => by cases e⟩, by show (freeS st u.1 (u.2 - 1)).1.ws.length ≤ _; omega⟩
  · rename_i x h
    split
    · rename_i h2
      refine ⟨⟨?_, fun e => ?_⟩, ?_⟩
      · show (_ ++ [u]).Nodup
        rw [List.nodup_append]
        refine ⟨o1.nd, by simp, fun a ha b hb e => ?_⟩
        rw [List.mem_singleton] at hb
        rw [e.trans hb] at ha
        exact h2.2 ha
      · have e : (freeS st u.1 (u.2 - 1)).1.h = none := e
        rw [h] at e; cases e
      · show (_ ++ [u]).length ≤ _
        rw [List.length_append, List.length_singleton]; omega
    · exact ⟨o1, by omega⟩
theorem Okay.fin {st : LSt} (o : Okay st) (u : Who) (z : Int) : Okay (finS st u z).1 ∧ (finS st u z).1.ws.length ≤ st.ws.length := by
  unfold finS
  split
  · exact ⟨o, Nat.le_refl _⟩
  · exact Okay.free (st := ⟨z, st.t, st.h, st.ws⟩) ⟨o.nd, o.no⟩ u.1 u.2
end RF

namespace RF
open PySem L2
/-! draws -/
abbrev Sd := Int × Int
def stC (s : Sd) : Cell := .lst [.int s.1, .int s.2]
def dNext (size : Int) (s : Sd) : Int × Sd :=
  if 0 < s.1 then (s.1 % size, (s.1 / size, s.2)) else
    let b := (s.2 * 48271 + 12820163) % 2147483647
    ((b * 16807 + 5) % 2147483399 / 3 % size, (s.1, b))
theorem dNext_lo {size : Int} (h : 0 < size) (s : Sd) : 0 ≤ (dNext size s).1 := by
  unfold dNext; split <;> exact Int.emod_nonneg _ (by omega)
theorem dNext_hi {size : Int} (h : 0 < size) (s : Sd) : (dNext size s).1 < size := by
  unfold dNext; split <;> exact Int.emod_lt_of_pos _ h
def dWho (s : Sd) : Who × Sd :=
  let (a, s) := dNext 5 s
  let (b, s) := dNext 3 s
  let (k, s) := dNext 8 s
  if k = 0 then
    let (a, s) := dNext (10 ^ 12) s
    let (b, s) := dNext (10 ^ 12) s
    let (x, s) := dNext 3 s
    (((1 + a, b), 1 + x), s)
  else
    let (x, s) := dNext 3 s
    (((1 + a, b), 1 + x), s)
/-- what an operation leaves: its object at l, its list, the list that it returns -/
structure Aft (X : Nat → Cell) (A B : Cell) (l : Nat) (S S1 : Sto) (r : Nat) : Prop where
  ex : ∃ w, S1[l]? = some (X w) ∧ S1[w]? = some A ∧ w ≠ r ∧ S.length ≤ w ∧ w < S1.length
  rs : S1[r]? = some B
  rn : S.length ≤ r
  le : S.length ≤ S1.length
  fr : ∀ i, i < S.length → i ≠ l → S1[i]? = S[i]?
/-- a lock at l and its model at m -/
structure Both (C : Addr) (l m : Nat) (st : LSt) (S : Sto) : Prop where
  lk : ∃ w, S[l]? = some (lkS C st w) ∧ S[w]? = some (.lst (eWs st.ws))
  md : ∃ q, S[m]? = some (mdS st q) ∧ S[q]? = some (.lst (eWs st.ws))
theorem ne_of_cell {S : Sto} {a b : Nat} {x y : Cell} (h1 : S[a]? = some x) (h2 : S[b]? = some y) (h : x ≠ y) : a ≠ b := fun e => h (by rw [e, h2] at h1; exact (Option.some.inj h1).symm)
/-- apart from what changes: nothing of these -/
def Kp (S S1 : Sto) (P : Nat → Prop) : Prop := S.length ≤ S1.length ∧ ∀ i, i < S.length → P i → S1[i]? = S[i]?
theorem Kp.get {S S1 : Sto} {P : Nat → Prop} (k : Kp S S1 P) {i : Nat} {c : Cell} (h : S[i]? = some c) (hp : P i) : S1[i]? = some c := (k.2 i (List.getElem?_eq_some_iff.mp h).1 hp).trans h
theorem Both.app {C : Addr} {l m : Nat} {st : LSt} {S : Sto} (h : Both C l m st S) (T : Sto) : Both C l m st (S ++ T) := by
  obtain ⟨⟨w, h1, h2⟩, ⟨q, h3, h4⟩⟩ := h
  exact ⟨⟨w, app_get h1, app_get h2⟩, ⟨q, app_get h3, app_get h4⟩⟩
def LkRes (C : Addr) (l : Nat) (S : Sto) (p : LSt × List Who) (x : R D) : Prop :=
  ∃ T w r, x = .ok (.ref (S.length + r)) (S.set l (lkS C p.1 (S.length + w)) ++ T) ∧ T[w]? = some (.lst (eWs p.1.ws)) ∧ T[r]? = some (.lst (eWs p.2)) ∧ w ≠ r
def MdRes (m : Nat) (S : Sto) (p : LSt × List Who) (x : R D) : Prop :=
  ∃ T w r, x = .ok (.ref (S.length + r)) (S.set m (mdS p.1 (S.length + w)) ++ T) ∧ T[w]? = some (.lst (eWs p.1.ws)) ∧ T[r]? = some (.lst (eWs p.2)) ∧ w ≠ r
/-- a deed on both -/
structure Two (C : Addr) (l m : Nat) (p : LSt × List Who) (S S1 S2 : Sto) (a b : Nat) : Prop where
  ha : S2[a]? = some (.lst (eWs p.2))
  hb : S2[b]? = some (.lst (eWs p.2))
  bo : Both C l m p.1 S2
  bs : ∀ d, Both C l m p.1 (S2.set a d)
  le : S.length ≤ S2.length
  fr : ∀ i, i < S.length → i ≠ l → i ≠ m → S2[i]? = S[i]?
  hs : S.length ≤ a
section
variable {S : Sto} {n : Nat} {xs : List D} {v t h : D} {C : Addr}
def seqC : Option Cell → Option (List D)
  | some (.lst xs) => some xs
  | _ => none
theorem o_seqR : seqD S (.ref n) = seqC S[n]? := by unfold seqD seqC; rfl
theorem o_seqC : seqC (some (.lst xs)) = some xs := (rfl)
end
end RF

namespace RF
open PySem L2
/-- what an operation leaves: its object at l, its list (new, or the one at w0), the list that it returns -/
structure Aft2 (X : Nat → Cell) (A B : Cell) (l w0 : Nat) (S S1 : Sto) (r : Nat) : Prop where
  ex : ∃ w, S1[l]? = some (X w) ∧ S1[w]? = some A ∧ w ≠ r ∧ (S.length ≤ w ∨ w = w0) ∧ w < S1.length
  rs : S1[r]? = some B
  rn : S.length ≤ r
  le : S.length ≤ S1.length
  fr : ∀ i, i < S.length → i ≠ l → S1[i]? = S[i]?
theorem Aft.two {X : Nat → Cell} {A B : Cell} {l w0 : Nat} {S S1 : Sto} {r : Nat} (h : Aft X A B l S S1 r) : Aft2 X A B l w0 S S1 r := by
  obtain ⟨⟨w, a, b, c, d, e⟩, f, g, i, j⟩ := h
  exact ⟨⟨w, a, b, c, .inl d, e⟩, f, g, i, j⟩
end RF

/-! C(k = v, ..), all by keywords -/
namespace RF
open PySem L2
def fMakeK (C : Addr) (F : FF) (n j : Nat) (g : List D → List D → List D) (fs : AF) : EF := fun env S => (fs env S).bind fun ds S1 => if ds.length = j ∧ (g [.ref S1.length] ds).length = n then (F (g [.ref S1.length] ds) (S1 ++ [.ins C []])).nox.bind (mkK2 S1.length) else .bad
section
variable {X : Cx} {E : XK} {k n : Nat} {f C : Addr} {fd : FuncData} {ps ks : List Str} {F : FF} {x nm : Str} {p pos kpos : Pos} {e : Expr} {kws : List Keyword} {fa : EF} {fs : AF} {g : List Value → List Value → List Value} {gV : List V → List V → List V} {gD : List D → List D → List D}
end
section
variable {C : Addr} {F : FF} {n j k : Nat} {g : List D → List D → List D} {fs : AF} {env : Lc} {S : Sto} {ds : List D}
def mkKK (C : Addr) (F : FF) (n j : Nat) (g : List D → List D → List D) : List D → Sto → R D := fun ds S1 => if ds.length = j ∧ (g [.ref S1.length] ds).length = n then (F (g [.ref S1.length] ds) (S1 ++ [.ins C []])).nox.bind (mkK2 S1.length) else .bad
def rng2K : List D → Sto → R It' := fun ds S1 => match ds with
  | [.int i, .int j] => if -(2 ^ 62) ≤ i ∧ i < 2 ^ 62 ∧ -(2 ^ 62) ≤ j ∧ j < 2 ^ 62 then .ok (.fix (rngD i (j - i).toNat)) S1 else .bad
  | _ => .bad
theorem ap_fRng2 : fRng2 fs env S = (fs env S).bind rng2K := (rfl)
theorem ap_rng2K {i j : Int} : rng2K [.int i, .int j] S = if -(2 ^ 62) ≤ i ∧ i < 2 ^ 62 ∧ -(2 ^ 62) ≤ j ∧ j < 2 ^ 62 then .ok (.fix (rngD i (j - i).toNat)) S else .bad := (rfl)
end
end RF

/-! a lock that is emptied -/
namespace RF
open PySem L2
def al (k : Nat) (st : LSt) (hs : List Who) : List Who := hs ++ (if k = 0 then [] else st.h.toList)
structure EI (ws0 : List Who) (t0 : Int) (k : Nat) (st : LSt) (hs : List Who) : Prop where
  ok : Okay st
  tn : st.t = t0 + (al k st hs).length
  sr : (al k st hs).Pairwise (fun a b => leW a b = true)
  le : ∀ a ∈ al k st hs, ∀ b ∈ st.ws, leW a b = true
  sb : ∀ a ∈ al k st hs, a ∈ ws0
  sw : ∀ b ∈ st.ws, b ∈ ws0
  ln : st.h.isSome = true → st.ws.length + k ≤ ws0.length
  hl : hs.length ≤ k
theorem EI.step {ws0 : List Who} {t0 : Int} {k : Nat} {st : LSt} {hs : List Who} {x : Who} (z : Int) (e : EI ws0 t0 k st hs) (hh : st.h = some x) : EI ws0 t0 (k + 1) (finS st x z).1 (al k st hs) := by
  obtain ⟨ok, tn, sr, le, sb, sw, ln, hl⟩ := e
  have hl2 : (al k st hs).length ≤ k + 1 := by
    unfold al
    rw [List.length_append]
    split
    · simp; omega
    · rw [hh]; simp; omega
  have hln := ln (by rw [hh]; rfl)
  have o2 := (ok.fin x z).1
  generalize al k st hs = gs at tn sr le sb hl2
  have hg : goneS ⟨z, st.t, st.h, st.ws⟩ x.1 x.2 = true := by unfold goneS upW; rw [hh]; simp
  have hks : ∀ b ∈ keepS ⟨z, st.t, st.h, st.ws⟩ x.1 x.2, b ∈ st.ws := fun b hb => (List.mem_filter.mp hb).1
  have hkl := keep_len (st := ⟨z, st.t, st.h, st.ws⟩) (tr := x.1) (att := x.2)
  have hf : finS st x z = freeS ⟨z, st.t, st.h, st.ws⟩ x.1 x.2 := by unfold finS; rw [if_neg (fun k => k hh)]
  rw [hf] at o2 ⊢
  unfold freeS at o2 ⊢
  rw [hg] at o2 ⊢
  simp only [Bool.true_eq_false, if_false] at o2 ⊢
  cases hq : keepS ⟨z, st.t, st.h, st.ws⟩ x.1 x.2 with
  | nil =>
    rw [hq] at o2
    have ea : al (k + 1) ⟨z, st.t, none, []⟩ gs = gs := by simp [al]
    exact ⟨o2, by rw [ea]; exact tn, by rw [ea]; exact sr, fun _ _ b hb => by simp at hb, by rw [ea]; exact sb, fun b hb => by simp at hb, fun h => by simp at h, hl2⟩
  | cons a r =>
    rw [hq] at o2 hks hkl
    simp only at o2 ⊢
    have hm := minW_mem a r
    have hle := minW_le a r
    generalize minW a r = mn at o2 hm hle
    have hmw := hks mn hm
    have ea : al (k + 1) ⟨z, st.t + 1, some mn, (a :: r).filter fun w => !decide (w = mn)⟩ gs = gs ++ [mn] := by simp [al]
    refine ⟨o2, ?_, ?_, ?_, ?_, ?_, ?_, hl2⟩
    · rw [ea, List.length_append]
      show st.t + 1 = _
      simp; omega
    · rw [ea, List.pairwise_append]
      refine ⟨sr, by simp, fun p hp q hq2 => ?_⟩
      rw [List.mem_singleton] at hq2
      subst hq2
      exact le p hp _ hmw
    · rw [ea]
      intro p hp b hb
      have hb2 : b ∈ a :: r := (List.mem_filter.mp hb).1
      rcases List.mem_append.mp hp with hp | hp
      · exact le p hp b (hks b hb2)
      · rw [List.mem_singleton] at hp
        subst hp
        exact leW_iff.mpr (hle b hb2)
    · rw [ea]
      intro p hp
      rcases List.mem_append.mp hp with hp | hp
      · exact sb p hp
      · rw [List.mem_singleton] at hp
        subst hp
        exact sw _ hmw
    · intro b hb
      exact sw b (hks b (List.mem_filter.mp hb).1)
    · intro _
      have h1 : ((a :: r).filter fun w => !decide (w = mn)).length < (a :: r).length := by
        rw [List.length_filter_lt_length_iff_exists]
        exact ⟨mn, hm, by simp⟩
      show ((a :: r).filter fun w => !decide (w = mn)).length + (k + 1) ≤ ws0.length
      have h2 : (LSt.mk z st.t st.h st.ws).ws.length = st.ws.length := rfl
      omega
theorem EI.last {ws0 : List Who} {t0 : Int} {st : LSt} {hs : List Who} (e : EI ws0 t0 (ws0.length + 1) st hs) : st.h = none := by
  cases h : st.h with
  | none => rfl
  | some x =>
    have := e.ln (by rw [h]; rfl)
    omega
theorem EI.done {ws0 : List Who} {t0 : Int} {k : Nat} {st : LSt} {hs : List Who} (e : EI ws0 t0 k st hs) (hh : st.h = none) : st.ws = [] ∧ st.t = t0 + hs.length ∧ sortW hs = hs ∧ ∀ a ∈ hs, a ∈ ws0 := by
  have ea : al k st hs = hs := by unfold al; rw [hh]; simp
  obtain ⟨ok, tn, sr, le, sb, sw, ln, hl⟩ := e
  rw [ea] at tn sr sb
  exact ⟨ok.no hh, tn, List.mergeSort_of_pairwise sr, sb⟩
end RF

/-! list(d), d a dict with tuples as keys -/
namespace RF
open PySem L2
def kD : Key → D
  | .inl i => .int i
  | .inr x => .str x
def keysOf (kvs : List (List Key × D)) : List D := kvs.map fun kv => .tup (kv.1.map kD)
def oListT : OpN := fun ds S => match ds with
  | [.ref n] => match S[n]? with
    | some (.dt kvs) => .ok (.ref S.length) (S ++ [.lst (keysOf kvs)])
    | _ => oList [.ref n] S
  | ds => oList ds S
theorem kD_rd {K : PySem.W.Frag} {L : List Addr} {H : Hp} : ∀ ks : List Key, RDs K L H (ks.map kV) (ks.map kD)
  | [] => .nil
  | .inl i :: ks => .cons (.int i) (kD_rd ks)
  | .inr x :: ks => .cons (.str x) (kD_rd ks)
def rListT (K : PySem.W.Frag) : List V → Hp → VK → Prop := fun xs H Q => (∃ p ys, xs = [.ref p] ∧ (SqL K H p ys ∨ SqT K H p ys) ∧ ∀ l, H l = none → Q (.ref l) (upd H l (.lst ys))) ∨
  ∃ d kvs, xs = [V.ref d] ∧ Rd H d (.dT kvs) ∧ ∀ p bs, H p = none → IsKeys H kvs bs → Q (.ref p) (upd H p (.lst (bs.map V.ref)))
theorem call_listT {X : Cx} (hc : X.calm = true) : CallR X (.type "list") (rListT X.K) := call_list_of.or (call_list_dT hc)
theorem keys_rd {K : PySem.W.Frag} {L : List Addr} {H : Hp} : ∀ {ws : List (List Key × V)} {kvs : List (List Key × D)} {bs : List Addr}, RK K L H ws kvs → IsKeys H ws bs → RDs K L H (bs.map V.ref) (keysOf kvs)
  | [], [], _, _, h => by cases h; exact .nil
  | p :: ws, q :: kvs, _, ⟨e, _, c⟩, h => by
    cases h with
    | cons h1 h2 =>
      rw [e] at h1
      exact .cons (.tup h1 (kD_rd q.1)) (keys_rd c h2)
  | [], _ :: _, _, h, _ => h.elim
  | _ :: _, [], _, h, _ => h.elim
section
variable {K : PySem.W.Frag} {E : XK}
theorem f_listT : CaF K E (rListT K) oListT := by
  intro L H S xs ds Q rep rs q
  by_cases hd : ∃ n kvs, ds = [.ref n] ∧ S[n]? = some (.dt kvs)
  · obtain ⟨n, kvs, rfl, hn⟩ := hd
    obtain ⟨x, rfl, r⟩ := rs.one
    cases r with
    | @ref a _ ha =>
      obtain ⟨c, hc, rc⟩ := rep.adr ha
      rw [hn] at hc
      cases hc
      obtain ⟨ws, hw, rk⟩ := rc
      have q : EndV K E L H Q (.ok (.ref S.length) (S ++ [.lst (keysOf kvs)])) := by
        unfold oListT at q
        simp only [hn] at q
        exact q
      exact .inr ⟨a, ws, rfl, .of hw, fun p bs hp hk => newList q rep (keys_rd rk hk) p hp⟩
  · have e : oListT ds S = oList ds S := by
      unfold oListT
      split
      · rename_i n
        split
        · rename_i kvs h
          exact absurd ⟨n, kvs, rfl, h⟩ hd
        · rfl
      · rfl
    rw [e] at q
    exact .inl (f_list L H S xs ds Q rep rs q)
end
end RF

/-! keys (house, name), steps, programs -/
namespace RF
open PySem L2
abbrev K2 := Int × Str
def eK (k : K2) : D := .tup [.int k.1, .str k.2]
def pK (k : K2) : PyData := .tuple [.int k.1, .str k.2]
def kk (k : K2) : List Key := [.inl k.1, .inr k.2]
def eKs (ks : List K2) : List D := ks.map eK
/-- the key of a step -/
def keyOfD : D → K2
  | .tup (_ :: .tup [.int a, .str b] :: _) => (a, b)
  | _ => (0, ⟨#[]⟩)
structure IsStep (d : D) : Prop where
  ex : ∃ w r, d = .tup (w :: eK (keyOfD d) :: r)
  ok : PyData.strOk (keyOfD d).2 = true
section
variable {S : Sto} {n j : Nat} {k g : K2} {ks gs : List K2}
theorem toP_eK (h : PyData.strOk k.2 = true) : toP S (j + 1) (eK k) = some (pK k) := by
  unfold eK pK
  rw [toP_tup, toP_mapM_cons, toP_mapM_cons, toP_mapM_nil, toP_int, toP_str, if_pos h]
  rfl
theorem eqv_K : PyData.eqv (pK k) (pK g) = decide (k = g) := by
  unfold pK
  simp only [PyData.eqv, PyData.eqvAll]
  obtain ⟨a, b⟩ := k
  obtain ⟨c, d⟩ := g
  simp only [Prod.mk.injEq]
  by_cases h1 : a = c <;> by_cases h2 : b = d <;> simp [h1, h2]
/-! unlike keys, in the order of their first use -/
def addK (acc : List K2) (k : K2) : List K2 := if k ∈ acc then acc else acc ++ [k]
def unl (ks : List K2) : List K2 := ks.foldl addK []
theorem addK_mem {acc : List K2} {x : K2} : x ∈ addK acc k ↔ x ∈ acc ∨ x = k := by
  unfold addK
  split
  · rename_i h
    exact ⟨.inl, fun z => z.elim id (fun e => e ▸ h)⟩
  · simp
theorem fold_mem {x : K2} : ∀ {ks acc : List K2}, x ∈ ks.foldl addK acc ↔ x ∈ acc ∨ x ∈ ks
  | [], acc => by simp
  | k :: ks, acc => by
    rw [List.foldl_cons, fold_mem, addK_mem]
    simp only [List.mem_cons]
    exact ⟨fun h => by rcases h with (h | h) | h <;> simp [h], fun h => by rcases h with h | h | h <;> simp [h]⟩
theorem unl_mem {x : K2} : x ∈ unl ks ↔ x ∈ ks := by
  unfold unl
  rw [fold_mem]
  simp
def encK (ks : List K2) : List (List Key × D) := ks.map fun k => (kk k, .bl true)
def listTC (S : Sto) (n : Nat) : Option Cell → R D
  | some (.dt kvs) => .ok (.ref S.length) (S ++ [.lst (keysOf kvs)])
  | _ => oList [.ref n] S
theorem o_listT : oListT [.ref n] S = listTC S n S[n]? := by unfold oListT listTC; rfl
end
theorem cut_take {α : Type} {l : List α} {k : Nat} (h : k ≤ l.length) : cutD l none (some (k : Int)) = l.take k := by
  unfold cutD
  rw [HT.sIx_none, HT.sIx_nat, Nat.min_eq_left h]
  simp
end RF

/-! dicts whose keys are tuples of any form (nested): in, [], get, [] =, list(d), len(d), {} -/
namespace RF
open PySem L2

mutual
def keyN : D → Option NestedKey
  | .non => some .none
  | .int i => some (.num i)
  | .str x => some (.text x)
  | .tup ds => match keyNs ds with
    | some ks => some (.tup ks)
    | none => none
  | .bl _ => none
  | .ref _ => none
  | .rl _ => none
  | .kt _ => none
  | .exc _ => none
def keyNs : List D → Option (List NestedKey)
  | [] => some []
  | d :: ds => match keyN d with
    | some k => match keyNs ds with
      | some ks => some (k :: ks)
      | none => none
    | none => none
end
mutual
def dOf : NestedKey → D
  | .none => .non
  | .num i => .int i
  | .text x => .str x
  | .tup ks => .tup (dOfs ks)
def dOfs : List NestedKey → List D
  | [] => []
  | k :: ks => dOf k :: dOfs ks
end
/-- the key that a tuple is -/
def keyT : D → Option NestedKey
  | .tup ds => match keyNs ds with
    | some ks => if NestedKey.depth (.tup ks) ≤ 8 then some (.tup ks) else none
    | none => none
  | _ => none
section
variable {K : PySem.W.Frag} {L : List Addr} {H : Hp} {S : Sto}
mutual
theorem RD.nk : ∀ {v : V} {d : D} {k : NestedKey}, RD K L H v d → keyN d = some k → NK H k v
  | _, _, _, .non, e => by simp only [keyN] at e; cases e; exact .none
  | _, _, _, .int i, e => by simp only [keyN] at e; cases e; exact .num i
  | _, _, _, .str x, e => by simp only [keyN] at e; cases e; exact .text x
  | _, _, _, .bl b, e => by simp only [keyN] at e; cases e
  | _, _, _, .ref h, e => by simp only [keyN] at e; cases e
  | _, _, _, .rl h r, e => by simp only [keyN] at e; cases e
  | _, _, _, .kt h r, e => by simp only [keyN] at e; cases e
  | _, _, _, .exc a, e => by simp only [keyN] at e; cases e
  | _, _, _, .tup (ds := ds) h r, e => by
    simp only [keyN] at e
    cases q : keyNs ds with
    | none => rw [q] at e; cases e
    | some ks => rw [q] at e; cases e; exact .tup h (RDs.nks r q)
theorem RDs.nks : ∀ {vs : List V} {ds : List D} {ks : List NestedKey}, RDs K L H vs ds → keyNs ds = some ks → NKs H ks vs
  | _, _, _, .nil, e => by simp only [keyNs] at e; cases e; exact .nil
  | _, _, _, .cons (d := d) (ds := ds) a b, e => by
    simp only [keyNs] at e
    cases q : keyN d with
    | none => rw [q] at e; cases e
    | some k =>
      rw [q] at e
      cases q2 : keyNs ds with
      | none => rw [q2] at e; cases e
      | some ks => rw [q2] at e; cases e; exact .cons (RD.nk a q) (RDs.nks b q2)
end
mutual
theorem NK.rd : ∀ {k : NestedKey} {v : V}, NK H k v → RD K L H v (dOf k)
  | _, _, .none => by simp only [dOf]; exact .non
  | _, _, .num i => by simp only [dOf]; exact .int i
  | _, _, .text x => by simp only [dOf]; exact .str x
  | _, _, .tup h r => by simp only [dOf]; exact .tup h (NKs.rd r)
theorem NKs.rd : ∀ {ks : List NestedKey} {vs : List V}, NKs H ks vs → RDs K L H vs (dOfs ks)
  | _, _, .nil => by simp only [dOfs]; exact .nil
  | _, _, .cons a b => by simp only [dOfs]; exact .cons (NK.rd a) (NKs.rd b)
end
theorem RD.keyt {v : V} {d : D} {k : NestedKey} (r : RD K L H v d) (e : keyT d = some k) : ∃ b, v = .ref b ∧ NK H k (.ref b) ∧ k.depth ≤ 8 := by
  cases r with
  | @tup a vs ds h rs =>
    unfold keyT at e
    simp only at e
    cases q : keyNs ds with
    | none => rw [q] at e; cases e
    | some ks =>
      rw [q] at e
      simp only at e
      by_cases hd : NestedKey.depth (.tup ks) ≤ 8
      · rw [if_pos hd] at e; cases e
        exact ⟨a, rfl, .tup h (rs.nks q), hd⟩
      · rw [if_neg hd] at e; cases e
  | _ => cases e
end
/-! the heap -/
mutual
theorem nk_is {P : Program} {w : World} {H : Hp} {h : Heap} (ok : HOk P w H h) : ∀ {k : NestedKey} {v : V} {u : Value}, NK H k v → RelV v u → NestedIs h k u
  | _, _, _, .none, r => by cases (show _ = Value.none from r); exact .none
  | _, _, _, .num i, r => by obtain ⟨t, q⟩ := (show ∃ t, _ = Value.int i t from r); cases q; exact .int i t
  | _, _, _, .text x, r => by obtain ⟨t, q⟩ := (show ∃ t, _ = Value.str x t from r); cases q; exact .text x t
  | _, _, _, .tup (a := a) (vs := vs) e rs, r => by
    cases (show _ = Value.ref a from r)
    obtain ⟨_, its, rv, o, h1, h2, n, h3⟩ := (show ObjOk P w H h a (.tup vs) from ok a _ e)
    exact .tup h1 h2 h3 (by simpa using nks_are ok rs rv)
theorem nks_are {P : Program} {w : World} {H : Hp} {h : Heap} (ok : HOk P w H h) : ∀ {ks : List NestedKey} {vs : List V} {us : List Value}, NKs H ks vs → Vals vs us → NestedAll h ks us
  | _, _, _, .nil, r => by cases r; exact .nil
  | _, _, _, .cons a b, r => by cases r with | cons r1 r2 => exact .cons (nk_is ok a r1) (nks_are ok b r2)
end
abbrev ZOk (H : Hp) (zs : List ZN) : Prop := ∀ z ∈ zs, NK H z.1 (.ref z.2.1) ∧ z.1.depth ≤ 8
def valZ (zs : List ZN) (k : NestedKey) : Option V := (zs.find? fun z => decide (z.1 = k)).map (·.2.2)
def putZ (zs : List ZN) (k : NestedKey) (b : Addr) (v : V) : List ZN := if (zs.any fun z => decide (z.1 = k)) = true then zs.map (fun z => if z.1 = k then (z.1, z.2.1, v) else z) else zs ++ [(k, b, v)]
theorem zx_val {zs : List ZN} {xs : List (NestedKey × Addr × Value)} (r : Paired ZX zs xs) (k : NestedKey) : RelO (valZ zs k) ((atKey xs k).map (·.2)) := by
  induction r with
  | nil => exact True.intro
  | @cons p q ps qs h t ih =>
    obtain ⟨h1, _, h2⟩ := h
    unfold valZ atKey at *
    rw [List.find?_cons, List.find?_cons]
    by_cases e : p.1 = k
    · have e' : q.1 = k := h1.symm.trans e
      rw [decide_eq_true e, decide_eq_true e']
      exact h2
    · have e' : ¬ q.1 = k := fun z => e (h1.trans z)
      rw [decide_eq_false e, decide_eq_false e']
      exact ih
theorem zx_any {zs : List ZN} {xs : List (NestedKey × Addr × Value)} (r : Paired ZX zs xs) (k : NestedKey) : (zs.any fun z => decide (z.1 = k)) = (atKey xs k).isSome := by
  induction r with
  | nil => rfl
  | @cons p q ps qs h t ih =>
    unfold atKey at *
    rw [List.find?_cons, List.any_cons, ih]
    by_cases e : p.1 = k
    · have e' : q.1 = k := h.1.symm.trans e
      rw [decide_eq_true e, decide_eq_true e']; rfl
    · have e' : ¬ q.1 = k := fun z => e (h.1.trans z)
      rw [decide_eq_false e, decide_eq_false e']; rfl
theorem zx_repl {zs : List ZN} {xs : List (NestedKey × Addr × Value)} (r : Paired ZX zs xs) (k : NestedKey) {y : V} {u : Value} (ry : RelV y u) : Paired ZX (zs.map fun z => if z.1 = k then (z.1, z.2.1, y) else z) (xs.map (putAt k u)) := by
  induction r with
  | nil => exact .nil
  | @cons p q ps qs h t ih =>
    rw [List.map_cons, List.map_cons]
    refine .cons ?_ ih
    obtain ⟨h1, h2, h3⟩ := h
    unfold putAt
    by_cases e : p.1 = k
    · rw [if_pos e, if_pos (h1.symm.trans e)]; exact ⟨h1, h2, ry⟩
    · rw [if_neg e, if_neg (fun z => e (h1.trans z))]; exact ⟨h1, h2, h3⟩
theorem zx_put {zs : List ZN} {xs : List (NestedKey × Addr × Value)} (r : Paired ZX zs xs) (k : NestedKey) {b : Addr} {y : V} {u : Value} (ry : RelV y u) : Paired ZX (putZ zs k b y) (storedH xs k b u) := by
  unfold putZ storedH
  rw [zx_any r k]
  by_cases q : (atKey xs k).isSome = true
  · rw [if_pos q, if_pos q]; exact zx_repl r k ry
  · rw [if_neg q, if_neg q]; exact Paired.snoc r ⟨rfl, rfl, ry⟩
theorem putZ_len (zs : List ZN) (k : NestedKey) (b : Addr) (v : V) : (putZ zs k b v).length ≤ zs.length + 1 := by
  unfold putZ
  split
  · rw [List.length_map]; omega
  · rw [List.length_append]; simp
section
variable {P : Program} {w : World} {H : Hp} {h : Heap} {a : Addr} {zs : List ZN}
theorem dn_of (ok : HOk P w H h) (e : Rd H a (dnO w a zs)) (hz : ZOk H zs) : (a == sysModules) = false ∧ zs.length ≤ sizeLine ∧ ∃ xs, Paired ZX zs xs ∧ h.DictOfH (nestedKind P w) a xs := by
  have ob : ObjOk P w H h a (dnO w a zs) := by
    rcases e with e | ⟨o, e⟩
    · exact ok a _ e
    · exact (ok a _ e).2
  obtain ⟨⟨q1, q2, xs, r, o, es, ep, h1, h2, h3, h4, h5⟩, _⟩ := ob
  refine ⟨q1, q2, xs, r, o, es, ep, h1, h2, h3, h4, ?_, h5⟩
  have all : ∀ {zs : List ZN} {xs : List (NestedKey × Addr × Value)}, Paired ZX zs xs → ZOk H zs → ∀ x ∈ xs, (nestedKind P w).is h x.1 x.2.1 := by
    intro zs xs q
    induction q with
    | nil => intro _ x hx; exact nomatch hx
    | @cons p q ps qs hq t ih =>
      intro hz x hx
      rcases List.mem_cons.mp hx with e | hx
      · subst e
        obtain ⟨z1, z2⟩ := hz p (List.mem_cons_self ..)
        rw [← hq.1, ← hq.2.1]
        exact ⟨nk_is ok z1 rfl, z2⟩
      · exact ih (fun z hm => hz z (List.mem_cons_of_mem _ hm)) x hx
  exact all r hz
theorem dnO_ok {H' : Hp} {xs : List (NestedKey × Addr × Value)} (q1 : (a == sysModules) = false) (q2 : zs.length ≤ sizeLine) (r : Paired ZX zs xs) (dd : h.DictOfH (nestedKind P w) a xs) : ObjOk P w H' h a (dnO w a zs) := by
  obtain ⟨o, es, ep, h1, h2, h3, h4, _, h5⟩ := dd
  exact ⟨⟨q1, q2, xs, r, o, es, ep, h1, h2, h3, h4, h5⟩, ⟨o, h1⟩, fun g1 g2 ⟨z1, z2, xs, z3, o, es, ep, z4, z5⟩ hk => ⟨z1, z2, xs, z3, o, es, ep, hk _ z4, z5⟩⟩
end
section
variable {X : Cx} {pins : List (Addr × Obj)} {σ : St} {H : Hp} {s : Shared} {a b : Addr} {zs : List ZN} {k : NestedKey} {u : Value} {A : Around} {E : Value → Shared → Prop}
theorem nroom {P : Program} {w : World} (hu : A.units + 65 < cLine) : (nestedKind P w).room A.in1 := by
  show A.units + 1 + 8 < cLine
  omega
theorem n_type (ok : HOk X.prog X.w H s.heap) {w' : World} (e : Rd H a (dnO w' a zs)) : s.TypeIs (.ref a) "dict" ∧ (∀ b, Value.ref a = .ref b → ∃ ob, s.heap.get? b = some ob ∧ ob.dict = none) ∧ (a == sysModules) = false := by
  have ob : ObjOk X.prog X.w H s.heap a (dnO w' a zs) := by
    rcases e with e | ⟨o, e⟩
    · exact ok a _ e
    · exact (ok a _ e).2
  obtain ⟨⟨q1, _, _, _, o, es, ep, h1, h2, _⟩, _⟩ := ob
  exact ⟨⟨o, h1, h2.1⟩, fun b q => by cases q; exact ⟨o, h1, h2.2.1⟩, q1⟩
/-- k in d -/
theorem n_in {Q : Value → Shared → Prop} (hu : A.units + 65 < cLine) (I : Inv X pins σ H s) (e : Rd H a (dnO X.w a zs)) (hz : ZOk H zs) (hk : NK H k (.ref b)) (hd : k.depth ≤ 8) (h : ∀ s', Inv X pins σ H s' → Q (.bool (valZ zs k).isSome) s') :
    wpAny (model X.prog X.w) A (compareOp .In (.ref b) (.ref a)) Q E s := by
  obtain ⟨q1, q2, xs, r, dd⟩ := dn_of I.hok e hz
  refine wpAny_in_heap (nroom hu) (k := k) ⟨nk_is I.hok hk rfl, hd⟩ q1 dd ?_
  have q := (zx_val r k).isSome_eq
  rw [Option.isSome_map] at q
  rw [← q]
  exact h _ (I.tok _)
theorem n_notIn {Q : Value → Shared → Prop} (hu : A.units + 65 < cLine) (I : Inv X pins σ H s) (e : Rd H a (dnO X.w a zs)) (hz : ZOk H zs) (hk : NK H k (.ref b)) (hd : k.depth ≤ 8) (h : ∀ s', Inv X pins σ H s' → Q (.bool (!(valZ zs k).isSome)) s') :
    wpAny (model X.prog X.w) A (compareOp .NotIn (.ref b) (.ref a)) Q E s := by
  obtain ⟨q1, q2, xs, r, dd⟩ := dn_of I.hok e hz
  refine PyProof.Rows.wpAny_notIn_heap (nroom hu) (k := k) ⟨nk_is I.hok hk rfl, hd⟩ q1 dd ?_
  have q := (zx_val r k).isSome_eq
  rw [Option.isSome_map] at q
  rw [← q]
  exact h _ (I.tok _)
/-- d[k], there -/
theorem n_get {v : V} {Q : Value → Shared → Prop} (hu : A.units + 65 < cLine) (I : Inv X pins σ H s) (e : Rd H a (dnO X.w a zs)) (hz : ZOk H zs) (hk : NK H k (.ref b)) (hd : k.depth ≤ 8) (hv : valZ zs k = some v) (h : ∀ w' s', Inv X pins σ H s' → RelV v w' → Q w' s') :
    wpAny (model X.prog X.w) A (getItem (.ref a) (.ref b)) Q E s := by
  obtain ⟨q1, q2, xs, r, dd⟩ := dn_of I.hok e hz
  obtain ⟨w', hw, rw'⟩ := RelO.some_of (v := v) (o := (atKey xs k).map (·.2)) (by rw [← hv]; exact zx_val r k)
  obtain ⟨p, hp, hp2⟩ := Option.map_eq_some_iff.mp hw
  refine wpAny_getItem_heap (nroom hu) (k := k) ⟨nk_is I.hok hk rfl, hd⟩ dd hp ?_
  rw [hp2]
  exact h w' _ (I.tok _) rw'
/-- d.get(k, x) -/
theorem n_get2 {d : V} {r0 : Value} {Q : Value → Shared → Prop} (hu : A.units + 65 < cLine) (I : Inv X pins σ H s) (e : Rd H a (dnO X.w a zs)) (hz : ZOk H zs) (hk : NK H k (.ref b)) (hd : k.depth ≤ 8) (rd : RelV d r0) (h : ∀ w' s', Inv X pins σ H s' → RelV ((valZ zs k).getD d) w' → Q w' s') :
    wpAny (model X.prog X.w) A (call (.builtin "dict.get") [.ref a, .ref b, r0]) Q E s := by
  obtain ⟨q1, q2, xs, r, dd⟩ := dn_of I.hok e hz
  refine call_meetsIn PySem.F.slot_dict_get dd.typeIs PySem.F.entry_dict_get (PySem.F.args_dict_get_3 _ _ _) (meetsH_dict_get_default (nestedKind X.prog X.w) a b q1 r0) ⟨nroom hu, k, xs, ⟨nk_is I.hok hk rfl, hd⟩, dd, h _ _ (I.tok _) ?_⟩
  exact (zx_val r k).getD rd
/-- d[k] = v -/
theorem n_set {v : V} {r0 : Value} {Q : Unit → Shared → Prop} (hu : A.units + 65 < cLine) (I : Inv X pins σ H s) (e : H a = some (dnO X.w a zs)) (hz : ZOk H zs) (hk : NK H k (.ref b)) (hd : k.depth ≤ 8) (hl : zs.length < sizeLine) (rv : RelV v r0)
    (h : ∀ s', Inv X pins σ (upd H a (dnO X.w a (putZ zs k b v))) s' → Q () s') : wpAny (model X.prog X.w) A (setItem (.ref a) (.ref b) r0) Q E s := by
  obtain ⟨q1, q2, xs, r, dd⟩ := dn_of I.hok (.inl e) hz
  have hxz : xs.length ≤ sizeLine := by rw [← Paired.length r]; exact q2
  refine wpAny_setItem_heap (hsz := hxz) (nroom hu) (k := k) ⟨nk_is I.hok hk rfl, hd⟩ dd fun h' dd' hs => h _ ?_
  have hl2 : (putZ zs k b v).length ≤ sizeLine := by have := putZ_len zs k b v; omega
  have he : ∃ q, h'.get? a = some q := let ⟨q, _, _, hq, _⟩ := dd'; ⟨q, hq⟩
  exact d_write I (by rw [e]; exact True.intro) hs he (dnO_ok q1 hl2 (zx_put r k rv) dd')
end
/-! rules by values -/
def rInN (w : World) (neg : Bool) : R2 := fun x y H Q => ∃ a b zs k, x = .ref b ∧ y = .ref a ∧ Rd H a (dnO w a zs) ∧ ZOk H zs ∧ NK H k (.ref b) ∧ k.depth ≤ 8 ∧ Q (.bl (if neg = true then !(valZ zs k).isSome else (valZ zs k).isSome)) H
section
variable {X : Cx}
theorem op_inN (hu : X.A.units + 65 < cLine) : OpR X (compareOp .In) (rInN X.w false) := by
  intro pins s σ H x y v u Q I rx ry h
  obtain ⟨a, b, zs, k, rfl, rfl, e, hz, hk, hd, q⟩ := h
  cases (show v = Value.ref b from rx)
  cases (show u = Value.ref a from ry)
  exact n_in hu I e hz hk hd fun s' I' => ⟨.bl _, H, I', rfl, q⟩
theorem op_notInN (hu : X.A.units + 65 < cLine) : OpR X (compareOp .NotIn) (rInN X.w true) := by
  intro pins s σ H x y v u Q I rx ry h
  obtain ⟨a, b, zs, k, rfl, rfl, e, hz, hk, hd, q⟩ := h
  cases (show v = Value.ref b from rx)
  cases (show u = Value.ref a from ry)
  exact n_notIn hu I e hz hk hd fun s' I' => ⟨.bl _, H, I', rfl, q⟩
end
/-! functions -/
open Classical in
noncomputable def lookNC (w : World) (c : Option Cell) (y : D) : Option (Option D) := match c with
  | some (.dn w' kvs) => if w = w' then (keyT y).map fun k => valK kvs k else none
  | some (.df w' kvs) => if w = w' then (keyT y).map fun k => valK kvs k else none
  | _ => none
noncomputable def lookN (w : World) (S : Sto) (x y : D) : Option (Option D) := match x with
  | .ref n => lookNC w S[n]? y
  | _ => none
noncomputable def oInN (w : World) (neg : Bool) : Op2 := fun y x S => match lookN w S x y with
  | some o => .ok (.bl (if neg = true then !o.isSome else o.isSome)) S
  | none => .bad
noncomputable def oIxN (w : World) : Op2 := fun x y S => match lookN w S x y with
  | some (some d) => .ok d S
  | _ => .bad
noncomputable def fIxN (w : World) (fa fb : EF) : EF := fBin (oIxN w) fa fb
def isN (S : Sto) : D → Bool
  | .ref n => match S[n]? with
    | some (.dn _ _) => true
    | some (.df _ _) => true
    | _ => false
  | _ => false
noncomputable def getN (w : World) (x y d : D) (S : Sto) : R D := match lookN w S x y with
  | some o => .ok (o.getD d) S
  | none => .bad
noncomputable def fGetN (w : World) (fo fk fx : EF) : EF := fun env S => (fo env S).bind fun x S1 => if isN S1 x = true then (fk env S1).bind fun y S2 => (fx env S2).bind fun d S3 => getN w x y d S3 else .bad
open Classical in
noncomputable def setNC (w : World) (S : Sto) (n : Nat) (c : Option Cell) (y d : D) : R Unit := match c with
  | some (.dn w' kvs) => if w = w' then match keyT y with
    | some k => if kvs.length < 100000 then .ok () (S.set n (.dn w (putKD kvs k d))) else .bad
    | none => .bad
    else .bad
  | _ => .bad
noncomputable def oSetN (w : World) (x y d : D) (S : Sto) : R Unit := match x with
  | .ref n => setNC w S n S[n]? y d
  | _ => .bad
noncomputable def gSubN (w : World) (fo fi : EF) : GF := fun d env S => (fo env S).bind fun x S1 => (fi env S1).bind fun y S2 => (oSetN w x y d S2).bind fun _ S3 => .ok env S3
def fDictN0 (w : World) : EF := fun _ S => .ok (.ref S.length) (S ++ [.dn w []])
section
variable {K : PySem.W.Frag} {L : List Addr} {H : Hp} {S : Sto}
theorem RN.zok : ∀ {zs : List ZN} {kvs : List (NestedKey × D)}, RN K L H zs kvs → ZOk H zs
  | [], [], _ => fun _ h => nomatch h
  | p :: ps, q :: qs, ⟨_, b, _, d⟩ => fun z hz => by
    rcases List.mem_cons.mp hz with rfl | hz
    · exact b
    · exact RN.zok d z hz
  | [], _ :: _, h => h.elim
  | _ :: _, [], h => h.elim
theorem RN.length : ∀ {zs : List ZN} {kvs : List (NestedKey × D)}, RN K L H zs kvs → zs.length = kvs.length
  | [], [], _ => rfl
  | p :: ps, q :: qs, ⟨_, _, _, d⟩ => by rw [List.length_cons, List.length_cons, RN.length d]
  | [], _ :: _, h => h.elim
  | _ :: _, [], h => h.elim
theorem RN.val (k : NestedKey) : ∀ {zs : List ZN} {kvs : List (NestedKey × D)}, RN K L H zs kvs → (valK kvs k = none ∧ valZ zs k = none) ∨ ∃ v d, valK kvs k = some d ∧ valZ zs k = some v ∧ RD K L H v d
  | [], [], _ => .inl ⟨rfl, rfl⟩
  | p :: ps, q :: qs, ⟨a, _, c, d⟩ => by
    unfold RF.valK valZ
    rw [List.find?_cons, List.find?_cons, a]
    cases q' : decide (q.1 = k) with
    | true => exact .inr ⟨_, _, rfl, rfl, c⟩
    | false => exact RN.val k d
  | [], _ :: _, h => h.elim
  | _ :: _, [], h => h.elim
theorem RN.any (k : NestedKey) : ∀ {zs : List ZN} {kvs : List (NestedKey × D)}, RN K L H zs kvs → (zs.any fun z => decide (z.1 = k)) = kvs.any fun z => decide (z.1 = k)
  | [], [], _ => rfl
  | p :: ps, q :: qs, ⟨a, _, _, d⟩ => by rw [List.any_cons, List.any_cons, RN.any k d, a]
  | [], _ :: _, h => h.elim
  | _ :: _, [], h => h.elim
theorem RN.repl {k : NestedKey} {v : V} {d : D} (rv : RD K L H v d) : ∀ {zs : List ZN} {kvs : List (NestedKey × D)}, RN K L H zs kvs → RN K L H (zs.map fun z => if z.1 = k then (z.1, z.2.1, v) else z) (kvs.map fun z => if z.1 = k then (z.1, d) else z)
  | [], [], _ => trivial
  | p :: ps, q :: qs, ⟨a, b, c, e⟩ => by
    rw [List.map_cons, List.map_cons]
    by_cases h : p.1 = k
    · simp only [if_pos h, if_pos (a.symm.trans h)]
      exact ⟨a, b, rv, RN.repl rv e⟩
    · simp only [if_neg h, if_neg (fun z => h (a.trans z))]
      exact ⟨a, b, c, RN.repl rv e⟩
  | [], _ :: _, h => h.elim
  | _ :: _, [], h => h.elim
theorem RN.snoc {k : NestedKey} {b : Addr} {v : V} {d : D} (h1 : NK H k (.ref b) ∧ k.depth ≤ 8) (rv : RD K L H v d) : ∀ {zs : List ZN} {kvs : List (NestedKey × D)}, RN K L H zs kvs → RN K L H (zs ++ [(k, b, v)]) (kvs ++ [(k, d)])
  | [], [], _ => ⟨rfl, h1, rv, trivial⟩
  | p :: ps, q :: qs, ⟨a, b', c, e⟩ => ⟨a, b', c, RN.snoc h1 rv e⟩
  | [], _ :: _, h => h.elim
  | _ :: _, [], h => h.elim
theorem RN.put {k : NestedKey} {b : Addr} {v : V} {d : D} {zs : List ZN} {kvs : List (NestedKey × D)} (h : RN K L H zs kvs) (h1 : NK H k (.ref b) ∧ k.depth ≤ 8) (rv : RD K L H v d) : RN K L H (putZ zs k b v) (putKD kvs k d) := by
  unfold putZ putKD
  rw [h.any k]
  split
  · exact h.repl rv
  · exact h.snoc h1 rv
theorem lookN_of {w : World} {x y : D} {v u : V} {o : Option D} (rep : Rep K L H S) (rx : RD K L H v x) (ry : RD K L H u y) (h : lookN w S x y = some o) :
    ∃ a b zs k, v = .ref a ∧ u = .ref b ∧ Rd H a (dnO w a zs) ∧ ZOk H zs ∧ NK H k (.ref b) ∧ k.depth ≤ 8 ∧ ((o = none ∧ valZ zs k = none) ∨ ∃ d z, o = some d ∧ valZ zs k = some z ∧ RD K L H z d) := by
  unfold lookN at h
  cases rx with
  | @ref a n ha =>
    obtain ⟨c, hc, rc⟩ := rep.adr ha
    simp only [hc] at h
    unfold lookNC at h
    cases c with
    | dn w' kvs =>
      simp only at h
      split at h
      · rename_i ew
        subst ew
        cases hk : keyT y with
        | none => rw [hk] at h; cases h
        | some k =>
          rw [hk] at h
          obtain ⟨b, rfl, k1, k2⟩ := ry.keyt hk
          obtain ⟨zs, hz, rn⟩ := rc
          have h : valK kvs k = o := Option.some.inj h
          subst h
          refine ⟨a, b, zs, k, rfl, rfl, .inl hz, rn.zok, k1, k2, ?_⟩
          rcases rn.val k with ⟨e1, e2⟩ | ⟨z, d, e1, e2, e3⟩
          · exact .inl ⟨e1, e2⟩
          · exact .inr ⟨d, z, e1, e2, e3⟩
      · cases h
    | df w' kvs =>
      simp only at h
      split at h
      · rename_i ew
        subst ew
        cases hk : keyT y with
        | none => rw [hk] at h; cases h
        | some k =>
          rw [hk] at h
          obtain ⟨b, rfl, k1, k2⟩ := ry.keyt hk
          obtain ⟨od, zs, hz, rn⟩ := rc
          have h : valK kvs k = o := Option.some.inj h
          subst h
          refine ⟨a, b, zs, k, rfl, rfl, .inr ⟨od, hz⟩, rn.zok, k1, k2, ?_⟩
          rcases rn.val k with ⟨e1, e2⟩ | ⟨z, d, e1, e2, e3⟩
          · exact .inl ⟨e1, e2⟩
          · exact .inr ⟨d, z, e1, e2, e3⟩
      · cases h
    | _ => cases h
  | _ => cases h
end
section
variable {K : PySem.W.Frag} {E : XK} {w : World}
theorem f_inN {neg : Bool} : OpF K E (rInN w neg) (oInN w neg) := by
  intro L H S x y d1 d2 Q rep rx ry q
  unfold oInN at q
  cases h : lookN w S d2 d1 with
  | none => rw [h] at q; exact q.elim
  | some o =>
    rw [h] at q
    simp only at q
    obtain ⟨a, b, zs, k, rfl, rfl, e, hz, hk, hd, r⟩ := lookN_of rep ry rx h
    refine ⟨a, b, zs, k, rfl, rfl, e, hz, hk, hd, EndV.val q rep ?_⟩
    rcases r with ⟨e1, e2⟩ | ⟨d, z, e1, e2, _⟩
    · rw [e1, e2]; exact .bl _
    · rw [e1, e2]; exact .bl _
end
section
variable {X : Cx} {E : XK} {o i e f : Expr} {fo fi fk fx : EF} {pos apos cpos : Pos}
theorem xIxN (hu : X.A.units + 65 < cLine) (ho : PE X o (tE X.K E fo)) (hi : PE X i (tE X.K E fi)) (hs : PlainIx i) : PE X (.Subscript o i pos) (tE X.K E (fIxN X.w fo fi)) := by
  refine ⟨fun pins s σ H Q I h => ?_⟩
  obtain ⟨L, env, S, rep, re, h⟩ := h
  refine subD_of PySem.F.slot_dict_getitem.lookup hs (thn (ho.run pins s σ H (fun x H1 => tE X.K E fi σ H1 fun y H2 => ∃ a b zs k v, x = .ref a ∧ y = .ref b ∧ Rd H2 a (dnO X.w a zs) ∧ ZOk H2 zs ∧ NK H2 k (.ref b) ∧ k.depth ≤ 8 ∧ valZ zs k = some v ∧ Q v H2) I
    ⟨L, env, S, rep, re, (End.bind h).imp fun x S1 L1 H1 e1 rep1 h1 v rv => ⟨L1, env, S1, rep1, re.mono e1, (End.bind h1).imp fun y S2 L2 H2 e2 rep2 h2 u ru => ?_⟩⟩)
    fun ov s1 ⟨x, H1, I1, rx, q1⟩ => thn (hi.run pins s1 σ H1 _ I1 q1) fun iv s2 ⟨y, H2, I2, ry, a, b, zs, k, v, ex, ey, e, hz, hk, hd, hv, q2⟩ => ?_)
  · unfold oIxN at h2
    cases hl : lookN X.w S2 x y with
    | none => rw [hl] at h2; exact h2.elim
    | some r =>
      rw [hl] at h2
      cases r with
      | none => exact h2.elim
      | some d =>
        simp only at h2
        obtain ⟨a, b, zs, k, rfl, rfl, e, hz, hk, hd, r⟩ := lookN_of rep2 (rv.mono e2) ru hl
        rcases r with ⟨z, _⟩ | ⟨d', z, z1, z2, z3⟩
        · cases z
        · cases z1
          exact ⟨a, b, zs, k, z, rfl, rfl, e, hz, hk, hd, z2, EndV.val h2 rep2 z3⟩
  · subst ex; subst ey
    obtain rfl : ov = Value.ref a := rx
    obtain rfl : iv = Value.ref b := ry
    exact ⟨(n_type I2.hok e).1, n_get hu I2 e hz hk hd hv fun w' s3 I3 rw' => ⟨v, H2, I3, rw', q2⟩⟩
theorem isN_of {K : PySem.W.Frag} {L : List Addr} {H : Hp} {S : Sto} {x : D} {v : V} (rep : Rep K L H S) (rx : RD K L H v x) (h : isN S x = true) : ∃ a w zs, v = .ref a ∧ Rd H a (dnO w a zs) := by
  cases rx with
  | @ref a n ha =>
    obtain ⟨c, hc, rc⟩ := rep.adr ha
    unfold isN at h
    simp only [hc] at h
    cases c with
    | dn w kvs =>
      obtain ⟨zs, hz, _⟩ := rc
      exact ⟨a, w, zs, rfl, .inl hz⟩
    | df w kvs =>
      obtain ⟨od, zs, hz, _⟩ := rc
      exact ⟨a, w, zs, rfl, .inr ⟨od, hz⟩⟩
    | _ => cases h
  | _ => cases h
theorem xGetN (hu : X.A.units + 65 < cLine) (ho : PE X o (tE X.K E fo)) (he : PE X e (tE X.K E fk)) (hf : PE X f (tE X.K E fx)) (m : M2 X o "get" apos e f cpos) : PE X (.Call (.Attribute o "get" apos) [e, f] [] cpos) (tE X.K E (fGetN X.w fo fk fx)) := by
  refine ⟨fun pins s σ H Q I h => ?_⟩
  obtain ⟨L, env, S, rep, re, h⟩ := h
  refine wpAny_Call_method m.base m.few m.line PySem.F.plainAttrs_dict PySem.F.slot_dict_get PySem.F.type_dict_get (thn (ho.run pins s σ H (fun x H1 => ∃ a w' zs', x = .ref a ∧ Rd H1 a (dnO w' a zs') ∧ tE X.K E fk σ H1 fun y H2 => tE X.K E fx σ H2 fun z H3 =>
      ∃ b zs k, y = .ref b ∧ Rd H3 a (dnO X.w a zs) ∧ ZOk H3 zs ∧ NK H3 k (.ref b) ∧ k.depth ≤ 8 ∧ Q ((valZ zs k).getD z) H3) I
    ⟨L, env, S, rep, re, (End.bind h).imp fun x S1 L1 H1 e1 rep1 h1 v rv => ?_⟩) fun u s1 ⟨x, H1, I1, rx, a, w', zs', ex, ea, q1⟩ => ?_)
  · by_cases hn : isN S1 x = true
    · rw [if_pos hn] at h1
      obtain ⟨a, w', zs', rfl, ea⟩ := isN_of rep1 rv hn
      refine ⟨a, w', zs', rfl, ea, L1, env, S1, rep1, re.mono e1, (End.bind h1).imp fun y S2 L2 H2 e2 rep2 h2 u ru => ⟨L2, env, S2, rep2, (re.mono e1).mono e2, (End.bind h2).imp fun d S3 L3 H3 e3 rep3 h3 z rz => ?_⟩⟩
      unfold getN at h3
      cases hl : lookN X.w S3 x y with
      | none => rw [hl] at h3; exact h3.elim
      | some r =>
        rw [hl] at h3
        simp only at h3
        obtain ⟨a', b, zs, k, ea', rfl, e, hz, hk, hd, r⟩ := lookN_of rep3 ((rv.mono e2).mono e3) (ru.mono e3) hl
        cases ea'
        refine ⟨b, zs, k, rfl, e, hz, hk, hd, EndV.val h3 rep3 ?_⟩
        rcases r with ⟨z1, z2⟩ | ⟨d', z', z1, z2, z3⟩
        · rw [z1, z2]; exact rz
        · rw [z1, z2]; exact z3
    · rw [if_neg hn] at h1; exact h1.elim
  · subst ex
    obtain rfl : u = Value.ref a := rx
    obtain ⟨t1, t2, _⟩ := n_type I1.hok ea
    refine ⟨t1, t2, ?_⟩
    rw [m.trees]
    refine Calls.callWith_builtin rfl (Calls.evalArgs_plain (Calls.spliced_cons (thn (he.run pins s1 σ H1 _ I1 q1) fun iv s2 ⟨y, H2, I2, ry, q2⟩ =>
      Calls.spliced_cons (thn (hf.run pins s2 σ H2 _ I2 q2) fun fv s3 ⟨z, H3, I3, rz, b, zs, k, ey, e, hz, hk, hd, q3⟩ => Calls.spliced_nil ?_))))
    subst ey
    obtain rfl : iv = Value.ref b := ry
    exact n_get2 hu I3 e hz hk hd rz fun w' s4 I4 rw' => ⟨_, H3, I4, rw', q3⟩
theorem pset_N (hu : X.A.units + 65 < cLine) : PSet X (fun o i v H Q => ∃ a b zs k, o = .ref a ∧ i = .ref b ∧ H a = some (dnO X.w a zs) ∧ ZOk H zs ∧ NK H k (.ref b) ∧ k.depth ≤ 8 ∧ zs.length < sizeLine ∧ Q (upd H a (dnO X.w a (putZ zs k b v)))) := by
  intro pins s σ H o i v ov iv r Q I ro ri rv h
  obtain ⟨a, b, zs, k, rfl, rfl, e, hz, hk, hd, hl, q⟩ := h
  obtain rfl : ov = Value.ref a := ro
  obtain rfl : iv = Value.ref b := ri
  exact n_set hu I e hz hk hd hl rv fun s1 I1 => ⟨_, I1, q⟩
theorem xgSubN (hu : X.A.units + 65 < cLine) (ho : PE X o (tE X.K E fo)) (hi : PE X i (tE X.K E fi)) (ha : ∀ v, assign (.Subscript o i pos) X.env v = (do
      let ov ← holding [v] (eval o X.env)
      let iv ← holding [v, ov] (eval i X.env)
      standAt pos
      holding [v, ov, iv] (setItem ov iv v)
      release [v, ov, iv] []) := by intro _; rfl) : PG X (.Subscript o i pos) (tG X.K E (gSubN X.w fo fi)) := by
  refine ⟨fun pins s σ H v u Q I r q => (pg_sub ho hi (pset_N hu) ha).run pins s σ H v u Q I r ?_⟩
  obtain ⟨L, env, S, d, rep, re, rd, q⟩ := q
  refine ⟨L, env, S, rep, re, (End.bind q).imp fun x S1 L1 H1 e1 rep1 h1 v1 rv => ?_⟩
  refine ⟨L1, env, S1, rep1, re.mono e1, (End.bind h1).imp fun y S2 L2 H2 e2 rep2 h2 w rw' => ?_⟩
  have h3 := End.bind h2
  have rx := rv.mono e2
  have rd2 := (rd.mono e1).mono e2
  unfold oSetN at h3
  cases rx with
  | @ref a n hn =>
    obtain ⟨c, hc, rc⟩ := rep2.adr hn
    simp only [hc] at h3
    unfold setNC at h3
    cases c with
    | dn w' kvs =>
      simp only at h3
      split at h3
      · rename_i ew
        subst ew
        cases hk : keyT y with
        | none => rw [hk] at h3; exact h3.elim
        | some k =>
          rw [hk] at h3
          obtain ⟨b, rfl, k1, k2⟩ := rw'.keyt hk
          obtain ⟨zs, hz, rn⟩ := rc
          by_cases hl : kvs.length < 100000
          · simp only [if_pos hl] at h3
            refine ⟨a, b, zs, k, rfl, rfl, hz, rn.zok, k1, k2, by rw [rn.length]; exact sz5l hl, ?_⟩
            have gr : Gr L2 H2 L2 (upd H2 a (dnO X.w a (putZ zs k b v))) := Gr.wr rep2 hn
            obtain ⟨ex, rep3⟩ := rep2.write (c := .dn X.w (putKD kvs k d)) hn ⟨_, upd_same, (rn.put ⟨k1, k2⟩ rd2).grow gr⟩
            have h4 := h3 _ _ ex rep3
            exact h4 _ _ (Ex.refl _ _) rep3 σ (((re.mono e1).mono e2).mono ex)
          · simp only [if_neg hl] at h3; exact h3.elim
      · exact h3.elim
    | _ => exact h3.elim
  | _ => exact h3.elim
def tDNewN (w : World) : TE := fun _ H Q => ∀ p, H p = none → Q (.ref p) (upd H p (dnO w p []))
theorem pe_dnewN : PE X (.Dict [] [] pos) (tDNewN X.w) := ⟨fun pins s σ H Q I h =>
  wpAny_Dict_empty ⟨.ref s.heap.objs.size, _, I.laid (a := s.heap.objs.size) (o := dnO X.w s.heap.objs.size []) (t' := s.toks) (fun _ _ q => Heap.get?_push_of_some _ q) (Nat.le_refl _)
    (dnO_ok (P := X.prog) (beq_eq_false_iff_ne.mpr (Ne.symm (Nat.ne_of_lt I.big))) (Nat.zero_le _) .nil (Heap.DictOfH.new _)), rfl, h _ (I.hok.fresh (Nat.le_refl _))⟩⟩
theorem xDictN0 : PE X (.Dict [] [] pos) (tE X.K E (fDictN0 X.w)) :=
  monoE pe_dnewN fun σ H Q h => by
    obtain ⟨L, env, S, rep, re, h⟩ := h
    intro p hp
    have ex := Ex.newc (L := L) (o := dnO X.w p []) hp
    refine EndV.val (h.later ex) (rep.newc hp ⟨[], upd_same, trivial⟩) (.ref ?_)
    rw [← rep.len, List.getElem?_append_right (Nat.le_refl _)]
    simp
end
/-! list(d) -/
def keysN (kvs : List (NestedKey × D)) : List D := kvs.map fun kv => dOf kv.1
def oListN : OpN := fun ds S => match ds with
  | [.ref n] => match S[n]? with
    | some (.dn _ kvs) => .ok (.ref S.length) (S ++ [.lst (keysN kvs)])
    | _ => oListT [.ref n] S
  | ds => oListT ds S
def rListN (K : PySem.W.Frag) : List V → Hp → VK → Prop := fun xs H Q => rListT K xs H Q ∨
  ∃ a w zs, xs = [V.ref a] ∧ H a = some (dnO w a zs) ∧ ∀ p, H p = none → Q (.ref p) (upd H p (.lst (zs.map fun z => V.ref z.2.1)))
theorem zx_refs {zs : List ZN} {xs : List (NestedKey × Addr × Value)} (r : Paired ZX zs xs) : Vals (zs.map fun z => V.ref z.2.1) (xs.map fun x => Value.ref x.2.1) := by
  induction r with
  | nil => exact .nil
  | @cons p q ps qs h t ih =>
    rw [List.map_cons, List.map_cons]
    exact .cons (by rw [h.2.1]; exact rfl) ih
section
variable {X : Cx}
theorem call_listN (hc : X.calm = true) : CallR X (.type "list") (rListN X.K) := by
  refine (call_listT hc).or ?_
  intro pins s σ H xs us Q I r h
  obtain ⟨d, w, zs, rfl, hd, q⟩ := h
  obtain ⟨u, rfl, rx⟩ := r.one
  cases rx
  obtain ⟨⟨hs, z, ks, pr, o, es, ep, ho, hx, hdt, he, hn⟩, _⟩ := I.hok d _ hd
  have l1 : es.size = ks.length := by rw [← Array.length_toList, he, List.length_map]
  have l2 : zs.length = ks.length := Paired.length pr
  refine PySem.W.kdl_call (kdl_raw hs hx hdt) (I.ok.hd hc) ho (by omega) fun h' tk acc' c' kp e it => ?_
  have ea : acc'.toList = ks.map fun x => Value.ref x.2.1 := by
    have hl : acc'.toList.length = ks.length := by rw [Array.length_toList, it.1]; exact l1
    apply List.ext_getElem?
    intro j
    rw [List.getElem?_map]
    cases hj : acc'.toList[j]? with
    | none =>
      have h1 := List.getElem?_eq_none_iff.mp hj
      rw [List.getElem?_eq_none (by omega)]
      all_goals rfl
    | some v =>
      obtain ⟨en, hen, hv⟩ := it.2 j v (by rw [← Array.getElem?_toList]; exact hj)
      have qe : es[j]? = (ks[j]?).map (fun x => (⟨x.1.hash w, .ref x.2.1, x.2.2⟩ : DictEntry)) := by rw [← Array.getElem?_toList, he, List.getElem?_map]
      rw [hen] at qe
      cases hb : ks[j]? with
      | none =>
        rw [hb] at qe
        exact nomatch (show some en = none from qe)
      | some b =>
        rw [hb] at qe
        have e2 : en = (⟨b.1.hash w, .ref b.2.1, b.2.2⟩ : DictEntry) := Option.some.inj qe
        rw [hv, e2]
        all_goals rfl
  have rv : Vals (zs.map fun z => V.ref z.2.1) acc'.toList := by rw [ea]; exact zx_refs pr
  have hz : (zs.map fun z => V.ref z.2.1).length ≤ sizeLine := by rw [List.length_map]; exact z
  refine ⟨.ref s.heap.objs.size, _, I.laid (t' := tk) (o := .lst (zs.map fun z => V.ref z.2.1)) kp (Nat.le_refl _) ?_, rfl, q _ (I.hok.fresh (Nat.le_refl _))⟩
  exact ⟨hz, acc'.toList, c', rv, by rw [Array.toArray_toList]; exact e⟩
end
section
variable {K : PySem.W.Frag} {E : XK} {L : List Addr} {H : Hp}
theorem RN.keys : ∀ {zs : List ZN} {kvs : List (NestedKey × D)}, RN K L H zs kvs → RDs K L H (zs.map fun z => V.ref z.2.1) (keysN kvs)
  | [], [], _ => .nil
  | p :: ps, q :: qs, ⟨a, b, _, d⟩ => .cons (by show RD K L H (.ref p.2.1) (dOf q.1); rw [← a]; exact NK.rd b.1) (RN.keys d)
  | [], _ :: _, h => h.elim
  | _ :: _, [], h => h.elim
theorem f_listN : CaF K E (rListN K) oListN := by
  intro L H S xs ds Q rep rs q
  by_cases hd : ∃ n w kvs, ds = [.ref n] ∧ S[n]? = some (.dn w kvs)
  · obtain ⟨n, w, kvs, rfl, hn⟩ := hd
    obtain ⟨x, rfl, r⟩ := rs.one
    cases r with
    | @ref a _ ha =>
      obtain ⟨c, hc, rc⟩ := rep.adr ha
      rw [hn] at hc
      cases hc
      obtain ⟨zs, hz, rn⟩ := rc
      have q : EndV K E L H Q (.ok (.ref S.length) (S ++ [.lst (keysN kvs)])) := by
        unfold oListN at q
        simp only [hn] at q
        exact q
      exact .inr ⟨a, w, zs, rfl, hz, fun p hp => newList q rep rn.keys p hp⟩
  · have e : oListN ds S = oListT ds S := by
      unfold oListN
      split
      · rename_i n
        split
        · rename_i w kvs h
          exact absurd ⟨n, w, kvs, rfl, h⟩ hd
        · rfl
      · rfl
    rw [e] at q
    exact .inl (f_listT L H S xs ds Q rep rs q)
end
end RF

/-! rewriting lemmas for dicts with nested keys -/
namespace RF
open PySem L2
section
variable {env : Lc} {S : Sto} {n : Nat} {w : World} {x y d : D} {kvs : List (NestedKey × D)} {fa fb fc : EF} {neg : Bool}
theorem lookN_ref : lookN w S (.ref n) y = lookNC w S[n]? y := (rfl)
theorem lookNC_dn : lookNC w (some (.dn w kvs)) y = (keyT y).map fun k => valK kvs k := by unfold lookNC; exact if_pos rfl
theorem lookNC_df : lookNC w (some (.df w kvs)) y = (keyT y).map fun k => valK kvs k := by unfold lookNC; exact if_pos rfl
def inNK (S : Sto) (neg : Bool) : Option (Option D) → R D
  | some o => .ok (.bl (if neg = true then !o.isSome else o.isSome)) S
  | none => .bad
theorem o_inN : oInN w neg y x S = inNK S neg (lookN w S x y) := by unfold oInN inNK; rfl
theorem o_inNK {o : Option D} : inNK S neg (some o) = .ok (.bl (if neg = true then !o.isSome else o.isSome)) S := (rfl)
theorem ap_fIxN : fIxN w fa fb env S = fBin (oIxN w) fa fb env S := (rfl)
theorem o_ixN : oIxN w x y S = getDK S (lookN w S x y) := by unfold oIxN getDK; rfl
def isNC : Option Cell → Bool
  | some (.dn _ _) => true
  | some (.df _ _) => true
  | _ => false
theorem o_isDn : isN S (.ref n) = isNC S[n]? := by unfold isN isNC; rfl
theorem o_isNC : isNC (some (.dn w kvs)) = true := (rfl)
noncomputable def gtK (w : World) (fk fx : EF) (env : Lc) : D → Sto → R D := fun x S1 => if isN S1 x = true then (fk env S1).bind fun y S2 => (fx env S2).bind fun d S3 => getN w x y d S3 else .bad
noncomputable def gtK2 (w : World) (x : D) (fx : EF) (env : Lc) : D → Sto → R D := fun y S2 => (fx env S2).bind fun d S3 => getN w x y d S3
noncomputable def gtK3 (w : World) (x y : D) : D → Sto → R D := fun d S3 => getN w x y d S3
theorem ap_fGetN : fGetN w fa fb fc env S = (fa env S).bind (gtK w fb fc env) := (rfl)
theorem ap_gtK : gtK w fb fc env x S = if isN S x = true then (fb env S).bind (gtK2 w x fc env) else .bad := (rfl)
theorem ap_gtK2 : gtK2 w x fc env y S = (fc env S).bind (gtK3 w x y) := (rfl)
theorem ap_gtK3 : gtK3 w x y d S = getN w x y d S := (rfl)
def getNK (S : Sto) (d : D) : Option (Option D) → R D
  | some o => .ok (o.getD d) S
  | none => .bad
theorem o_getN : getN w x y d S = getNK S d (lookN w S x y) := by unfold getN getNK; rfl
theorem o_getNK {o : Option D} : getNK S d (some o) = .ok (o.getD d) S := (rfl)
theorem oSetN_ref : oSetN w (.ref n) y d S = setNC w S n S[n]? y d := (rfl)
def setNK (w : World) (S : Sto) (n : Nat) (kvs : List (NestedKey × D)) (d : D) : Option NestedKey → R Unit
  | some k => if kvs.length < 100000 then .ok () (S.set n (.dn w (putKD kvs k d))) else .bad
  | none => .bad
theorem setNC_dn : setNC w S n (some (.dn w kvs)) y d = setNK w S n kvs d (keyT y) := by
  unfold setNC
  exact if_pos rfl
theorem setNK_some {k : NestedKey} : setNK w S n kvs d (some k) = if kvs.length < 100000 then .ok () (S.set n (.dn w (putKD kvs k d))) else .bad := (rfl)
noncomputable def gnK (w : World) (fi : EF) (d : D) (env : Lc) : D → Sto → R Lc := fun x S1 => (fi env S1).bind fun y S2 => (oSetN w x y d S2).bind fun _ S3 => .ok env S3
noncomputable def gnK2 (w : World) (x d : D) (env : Lc) : D → Sto → R Lc := fun y S2 => (oSetN w x y d S2).bind fun _ S3 => .ok env S3
def gnK3 (env : Lc) : Unit → Sto → R Lc := fun _ S3 => .ok env S3
theorem ap_gSubN : gSubN w fa fb d env S = (fa env S).bind (gnK w fb d env) := (rfl)
theorem ap_gnK : gnK w fb d env x S = (fb env S).bind (gnK2 w x d env) := (rfl)
theorem ap_gnK2 : gnK2 w x d env y S = (oSetN w x y d S).bind (gnK3 env) := (rfl)
theorem ap_gnK3 {u : Unit} : gnK3 env u S = .ok env S := (rfl)
theorem ap_fDictN0 : fDictN0 w env S = .ok (.ref S.length) (S ++ [.dn w []]) := (rfl)
def listNC (S : Sto) (n : Nat) : Option Cell → R D
  | some (.dn _ kvs) => .ok (.ref S.length) (S ++ [.lst (keysN kvs)])
  | _ => oListT [.ref n] S
theorem o_listN : oListN [.ref n] S = listNC S n S[n]? := by unfold oListN listNC; rfl
theorem o_listNC : listNC S n (some (.dn w kvs)) = .ok (.ref S.length) (S ++ [.lst (keysN kvs)]) := (rfl)
theorem o_listNL {xs : List D} : listNC S n (some (.lst xs)) = oListT [.ref n] S := (rfl)
def prpK (C : Addr) (F : FF) (n : Nat) : D → Sto → R D := fun x S1 => match fldsOf C S1 x with
  | some _ => if 1 = n then (F [x] S1).nox else .bad
  | none => .bad
def prpK2 (F : FF) (n : Nat) (x : D) (S1 : Sto) : Option (Nat × List (Str × D)) → R D
  | some _ => if 1 = n then (F [x] S1).nox else .bad
  | none => .bad
theorem o_someMap {α β : Type} {f : α → β} {a : α} : (some a).map f = some (f a) := (rfl)
end
section
variable {X : Cx} {E : XK} {e : Expr} {fo : EF} {pos : Pos} {C p g : Addr} {f : Str} {k n : Nat} {fd : FuncData} {ps : List Str} {F : FF}
end
end RF

/-! < and > of data -/
namespace RF
open PySem L2
def rGtP (K : PySem.W.Frag) : R2 := fun x y H Q => ∃ p q, Dp K H x p ∧ Dp K H y q ∧ PySem.W.alike p q = true ∧ p ≠ .none ∧ p.depth ≤ 60 ∧ Q (.bl (PySem.W.dataLt q p)) H
def rLtP (K : PySem.W.Frag) : R2 := fun x y H Q => ∃ p q, Dp K H x p ∧ Dp K H y q ∧ PySem.W.alike p q = true ∧ p ≠ .none ∧ p.depth ≤ 60 ∧ Q (.bl (PySem.W.dataLt p q)) H
def isNonP : PyData → Bool
  | .none => true
  | _ => false
def cmpP (f : PyData → PyData → Bool) (S : Sto) : Option PyData → Option PyData → R D
  | some p, some q => if (PySem.W.alike p q && !isNonP p && decide (p.depth ≤ 60)) = true then .ok (.bl (f p q)) S else .bad
  | _, _ => .bad
def oGtP : Op2 := fun x y S => cmpP (fun p q => PySem.W.dataLt q p) S (toP S 20 x) (toP S 20 y)
def oLtP : Op2 := fun x y S => cmpP (fun p q => PySem.W.dataLt p q) S (toP S 20 x) (toP S 20 y)
section
variable {K : PySem.W.Frag} {E : XK}
end
/-! pairs of ints -/
def ltT (a b : Int × Int) : Bool := decide (a.1 < b.1 ∨ (a.1 = b.1 ∧ a.2 < b.2))
section
variable {S : Sto} {a b : Int × Int}
end
end RF

/-! x in t, t a tuple; kinds of data that stand for values of a type; marks -/
namespace RF
open PySem L2
def rInTu (K : PySem.W.Frag) (neg : Bool) : R2 := fun x y H Q => ∃ d ds, Dp K H x d ∧ Dp K H y (.tuple ds) ∧ SeqAt.shaped d = true ∧ SeqAt.shaped (.tuple ds) = true ∧ Q (.bl (if neg = true then !(ds.any fun z => PyData.eqv z d) else ds.any fun z => PyData.eqv z d)) H
def oInTu (neg : Bool) : Op2 := fun x y S => match toP S 20 x, toP S 20 y with
  | some p, some (.tuple qs) => .ok (.bl (if neg = true then !(qs.any fun z => PyData.eqv z p) else qs.any fun z => PyData.eqv z p)) S
  | _, _ => .bad
/-- how the values of a type stand as data -/
structure Cod (α : Type) [DecidableEq α] where
  e : α → D
  p : α → PyData
  ok : α → Prop
  toP : ∀ (S : Sto) (k : Nat) (a : α), ok a → RF.toP S (k + 6) (e a) = some (p a)
  eqv : ∀ a b, PyData.eqv (p a) (p b) = decide (a = b)
  alike : ∀ a b, PySem.W.alike (p a) (p b) = true
  tupl : ∀ a, isTupP (p a) = true
namespace Cod
variable {α : Type} [DecidableEq α] {C : Cod α} {S : Sto} {n k : Nat} {a b : α} {as bs : List α}
def es (C : Cod α) (as : List α) : List D := as.map C.e
theorem es_len : (C.es as).length = as.length := List.length_map ..
theorem toPs (h : ∀ a ∈ as, C.ok a) : (C.es as).mapM (RF.toP S (k + 6)) = some (as.map C.p) := by
  induction as with
  | nil => rfl
  | cons a as ih =>
    show List.mapM (RF.toP S (k + 6)) (C.e a :: C.es as) = _
    rw [toP_mapM_cons, ih (fun x hx => h x (List.mem_cons_of_mem _ hx)), C.toP _ _ _ (h a (List.mem_cons_self ..))]; rfl
theorem one (h1 : C.ok a) (h2 : C.ok b) : oNe (C.e a) (C.e b) S = .ok (.bl (!decide (a = b))) S := by rw [o_ne, C.toP _ _ _ h1, C.toP _ _ _ h2, neK_some, C.eqv]
theorem any_ : ((as.map C.p).any fun z => PyData.eqv z (C.p a)) = decide (a ∈ as) := by
  induction as with
  | nil => simp
  | cons w ws ih =>
    rw [List.map_cons, List.any_cons, ih, C.eqv]
    by_cases h1 : w = a
    · simp [h1]
    · by_cases h2 : a ∈ ws
      · simp [h2]
      · have h3 : ¬ a = w := fun e => h1 e.symm
        simp [h1, h2, h3]
theorem oin {neg : Bool} (e1 : S[n]? = some (.lst (C.es as))) (h1 : ∀ a ∈ as, C.ok a) (h2 : C.ok a) {b : Bool} (hb : b = true ↔ a ∈ as) : oInL neg (C.e a) (.ref n) S = .ok (.bl (if neg = true then !b else b)) S := by
  unfold oInL
  rw [C.toP _ _ _ h2, show (20 : Nat) = 19 + 1 from rfl, toP_ref, e1, toPC_lst, show (19 : Nat) = 13 + 6 from rfl, toPs h1]
  have hd : decide (a ∈ as) = b := by cases b <;> simp at hb ⊢ <;> exact hb
  simp only [Option.map_some, any_, hd]
/-- sorted -/
def le (C : Cod α) (a b : α) : Bool := !PySem.W.dataLt (C.p b) (C.p a)
def sort (C : Cod α) (as : List α) : List α := as.mergeSort C.le
theorem zip_ : (C.es as).zip (as.map C.p) = as.map fun w => (C.e w, C.p w) := by
  induction as with
  | nil => rfl
  | cons w ws ih => show (C.e w, C.p w) :: (C.es ws).zip (ws.map C.p) = _; rw [ih]; rfl
theorem sortDs_ : sortDs (C.es as) (as.map C.p) = C.es (C.sort as) := by
  unfold sortDs sort
  rw [zip_, ← List.map_mergeSort (r := C.le) (s := PySem.W.dataLe false Prod.snd) (f := fun w => (C.e w, C.p w)) (l := as) (fun a _ b _ => ?_), List.map_map]
  · rfl
  · rw [PySem.W.dataLe_eq]; rfl
theorem sortB_ : sortB (as.map C.p) = true := by
  unfold sortB
  have h : likeB (as.map C.p) = true := by
    unfold likeB
    simp only [List.all_map, List.all_eq_true, Function.comp]
    intro a _ b _
    exact C.alike a b
  rw [h, Bool.true_and, Bool.or_eq_true]
  refine .inl ?_
  simp only [List.all_map, List.all_eq_true, Function.comp]
  intro a _
  exact C.tupl a
theorem osort (e1 : S[n]? = some (.lst (C.es as))) (h1 : ∀ a ∈ as, C.ok a) (hl : as.length ≤ 100000) : oSorted [.ref n] S = .ok (.ref S.length) (S ++ [.lst (C.es (C.sort as))]) := by
  unfold oSorted
  simp only
  have e : lstD S (.ref n) = some (C.es as) := by unfold lstD; simp only [e1]
  rw [e]
  simp only
  rw [show (20 : Nat) = 14 + 6 from rfl, toPs h1]
  simp only
  rw [if_pos ⟨sortB_, by rw [es_len]; exact hl⟩, sortDs_]
end Cod
/-! marks -/
abbrev Mk := (Int × Int) × Int × K2 × Int
def eM (m : Mk) : D := .tup [eT m.1, .int m.2.1, eK m.2.2.1, .int m.2.2.2]
def pM (m : Mk) : PyData := .tuple [pT m.1, .int m.2.1, pK m.2.2.1, .int m.2.2.2]
def kM (m : Mk) : NestedKey := .tup [.tup [.num m.1.1, .num m.1.2], .num m.2.1, .tup [.num m.2.2.1.1, .text m.2.2.1.2], .num m.2.2.2]
def okM (m : Mk) : Prop := PyData.strOk m.2.2.1.2 = true
def cM : Cod Mk where
  e := eM
  p := pM
  ok := okM
  toP := fun S k m h => by
    unfold eM pM
    have h : PyData.strOk m.2.2.1.2 = true := h
    rw [toP_tup, toP_mapM_cons, toP_mapM_cons, toP_mapM_cons, toP_mapM_cons, toP_mapM_nil, fT_eT, toP_int, toP_eK h, toP_int]
    rfl
  eqv := fun a b => by
    unfold pM
    simp only [PyData.eqv, PyData.eqvAll, eqv_T, eqv_K]
    obtain ⟨a1, a2, a3, a4⟩ := a
    obtain ⟨b1, b2, b3, b4⟩ := b
    simp only [Prod.mk.injEq]
    by_cases h1 : a1 = b1 <;> by_cases h2 : a2 = b2 <;> by_cases h3 : a3 = b3 <;> by_cases h4 : a4 = b4 <;> simp [h1, h2, h3, h4]
  alike := fun a b => by simp [pM, pT, pK, PySem.W.alike, PySem.W.alikeAll]
  tupl := fun a => by simp [pM, isTupP]
/-- a dict that holds marks alone -/
def encM (ms : List Mk) : List (NestedKey × D) := ms.map fun m => (kM m, .bl true)
def addM (acc : List Mk) (m : Mk) : List Mk := if m ∈ acc then acc else acc ++ [m]
end RF

/-! loops by an invariant -/
namespace RF
open PySem L2
/-- one turn of a loop goes on -/
def Turn1 (g : GF) (body : SF) (d : D) (env : Lc) (S : Sto) (e : Lc) (S1 : Sto) : Prop := (g d env S).bind body = .ok (.nx e) S1
theorem loopX_inv {g : GF} {body : SF} {P : Nat → Lc → Sto → Prop} {xs : List D} (step : ∀ j e S d, xs[j]? = some d → P j e S → ∃ e1 S1, Turn1 g body d e S e1 S1 ∧ P (j + 1) e1 S1) : ∀ (r j : Nat), r = xs.length - j → j ≤ xs.length → ∀ e S, P j e S → ∃ e1 S1, loopX g body (xs.drop j) e S = .ok (.nx e1) S1 ∧ P xs.length e1 S1
  | 0, j, hr, hj, e, S, h => by
    have : j = xs.length := by omega
    subst this
    rw [List.drop_length]
    exact ⟨e, S, rfl, h⟩
  | r + 1, j, hr, hj, e, S, h => by
    have hlt : j < xs.length := by omega
    rw [List.drop_eq_getElem_cons hlt]
    obtain ⟨e1, S1, t, h1⟩ := step j e S _ (List.getElem?_eq_getElem hlt) h
    obtain ⟨e2, S2, k, h2⟩ := loopX_inv step r (j + 1) (by omega) (by omega) e1 S1 h1
    refine ⟨e2, S2, ?_, h2⟩
    unfold Turn1 at t
    unfold loopX
    cases q : g xs[j] e S with
    | ok a T =>
      rw [q] at t
      simp only [R.bind_ok] at t ⊢
      rw [t]
      simp only [R.bind_ok]
      exact k
    | ex a T => rw [q] at t; cases t
    | bad => rw [q] at t; cases t
theorem loopX_ok {g : GF} {body : SF} {xs : List D} (P : Nat → Lc → Sto → Prop) (step : ∀ j e S d, xs[j]? = some d → P j e S → ∃ e1 S1, Turn1 g body d e S e1 S1 ∧ P (j + 1) e1 S1) {e : Lc} {S : Sto} (h : P 0 e S) : ∃ e1 S1, loopX g body xs e S = .ok (.nx e1) S1 ∧ P xs.length e1 S1 := by
  obtain ⟨e1, S1, k, q⟩ := loopX_inv step xs.length 0 (by omega) (Nat.zero_le _) e S h
  rw [List.drop_zero] at k
  exact ⟨e1, S1, k, q⟩
theorem loopL_inv {n : Nat} {g : GF} {body : SF} {P : Nat → Lc → Sto → Prop} {ys : List D} (hn : ∀ j e S, P j e S → S[n]? = some (.lst ys)) (step : ∀ j e S d, ys[j]? = some d → P j e S → ∃ e1 S1, Turn1 g body d e S e1 S1 ∧ P (j + 1) e1 S1) :
    ∀ (xs : List D) (j : Nat), xs.length = ys.length - j → j ≤ ys.length → ∀ e S, P j e S → ∃ e1 S1, loopL n g body xs j e S = .ok (.nx e1) S1 ∧ P ys.length e1 S1
  | [], j, hr, hj, e, S, h => by
    have hr : 0 = ys.length - j := hr
    have : j = ys.length := by omega
    subst this
    refine ⟨e, S, ?_, h⟩
    unfold loopL
    rw [hn _ _ _ h]
    simp
  | x :: xs, j, hr, hj, e, S, h => by
    rw [List.length_cons] at hr
    have hlt : j < ys.length := by omega
    obtain ⟨e1, S1, t, h1⟩ := step j e S _ (List.getElem?_eq_getElem hlt) h
    obtain ⟨e2, S2, k, h2⟩ := loopL_inv hn step xs (j + 1) (by omega) (by omega) e1 S1 h1
    refine ⟨e2, S2, ?_, h2⟩
    unfold Turn1 at t
    unfold loopL
    rw [hn _ _ _ h]
    simp only
    rw [List.getElem?_eq_getElem hlt]
    simp only
    cases q : g ys[j] e S with
    | ok a T =>
      rw [q] at t
      simp only [R.bind_ok] at t ⊢
      rw [t]
      simp only [R.bind_ok]
      exact k
    | ex a T => rw [q] at t; cases t
    | bad => rw [q] at t; cases t
theorem loopL_ok {n : Nat} {g : GF} {body : SF} {ys : List D} (P : Nat → Lc → Sto → Prop) (hn : ∀ j e S, P j e S → S[n]? = some (.lst ys)) (step : ∀ j e S d, ys[j]? = some d → P j e S → ∃ e1 S1, Turn1 g body d e S e1 S1 ∧ P (j + 1) e1 S1) {e : Lc} {S : Sto} (h : P 0 e S) :
    ∃ e1 S1, loopL n g body ys 0 e S = .ok (.nx e1) S1 ∧ P ys.length e1 S1 := loopL_inv hn step ys 0 (by omega) (Nat.zero_le _) e S h
/-- the same store, but for what is new and the places P -/
structure Fr (S S1 : Sto) (P : Nat → Prop) : Prop where
  le : S.length ≤ S1.length
  eq : ∀ i, i < S.length → ¬ P i → S1[i]? = S[i]?
theorem Fr.get {S S1 : Sto} {P : Nat → Prop} (k : Fr S S1 P) {i : Nat} {c : Cell} (h : S[i]? = some c) (hp : ¬ P i) : S1[i]? = some c := (k.eq i (List.getElem?_eq_some_iff.mp h).1 hp).trans h
theorem Fr.refl (S : Sto) (P : Nat → Prop) : Fr S S P := ⟨Nat.le_refl _, fun _ _ _ => rfl⟩
theorem Fr.trans {S S1 S2 : Sto} {P : Nat → Prop} (a : Fr S S1 P) (b : Fr S1 S2 P) : Fr S S2 P := ⟨Nat.le_trans a.le b.le, fun i h hp => (b.eq i (Nat.lt_of_lt_of_le h a.le) hp).trans (a.eq i h hp)⟩
theorem Fr.mono {S S1 : Sto} {P Q : Nat → Prop} (a : Fr S S1 P) (h : ∀ i, P i → Q i) : Fr S S1 Q := ⟨a.le, fun i hi hq => a.eq i hi fun z => hq (h i z)⟩
theorem Fr.app (S T : Sto) (P : Nat → Prop) : Fr S (S ++ T) P := ⟨by rw [List.length_append]; omega, fun i h _ => List.getElem?_append_left h⟩
theorem Fr.set {S : Sto} {n : Nat} {c : Cell} {P : Nat → Prop} (h : P n) : Fr S (S.set n c) P := ⟨by rw [List.length_set]; exact Nat.le_refl _, fun i _ hp => List.getElem?_set_ne (fun z => hp (by rw [← z]; exact h))⟩
/-- what is new may change -/
theorem Fr.new {S S1 S2 : Sto} {P Q : Nat → Prop} (a : Fr S S1 P) (b : Fr S1 S2 Q) (h : ∀ i, i < S.length → Q i → P i) : Fr S S2 P := ⟨Nat.le_trans a.le b.le, fun i hi hp => (b.eq i (Nat.lt_of_lt_of_le hi a.le) fun z => hp (h i hi z)).trans (a.eq i hi hp)⟩
end RF
namespace RF
open PySem L2
def tupC (S : Sto) : Option (List D) → R D
  | some xs => .ok (.tup xs) S
  | none => .bad
theorem o_tupR {x : D} {S : Sto} : oTuple [x] S = tupC S (seqD S x) := by unfold oTuple tupC; rfl
theorem o_tupC {xs : List D} {S : Sto} : tupC S (some xs) = .ok (.tup xs) S := (rfl)
/-! the marks of a transaction -/
def eO : Option Mk → D
  | none => .non
  | some m => eM m
section
variable {C : Addr} {x : D} {n : Nat} {S : Sto} {d0 d1 d2 : D}
def mkf (d0 d1 d2 : D) : List (Str × D) := [(⟨#[95, 116, 114, 97, 110, 115, 97, 99, 116, 105, 111, 110]⟩, d0), (⟨#[95, 111, 119, 110]⟩, d1), (⟨#[95, 121, 111, 117, 110, 103, 101, 114]⟩, d2)]
def mkc (C : Addr) (d0 d1 d2 : D) : Cell := .ins C (mkf d0 d1 d2)
end
def mkC (C : Addr) (tr : Int × Int) (own : Option Mk) (y : Nat) : Cell := mkc C (eT tr) (eO own) (.ref y)
def addY (tr : Int × Int) (acc : List Mk) (m : Mk) : List Mk := if ltT tr m.1 = true then addM acc m else acc
/-- all of them are fit for dicts and sorted -/
def okMs (ms : List Mk) : Prop := ∀ m ∈ ms, okM m
def tellL (own : Option Mk) (ms : List Mk) : List Mk := match own with
  | none => []
  | some o => cM.sort (o :: ms)
theorem o_tyT {S : Sto} {xs : List D} : tyD S (.tup xs) = some "tuple" := (rfl)
def pO : Option Mk → PyData
  | none => .none
  | some m => pM m
end RF

/-! sorted(d), len(d) of a dict whose keys are tuples of any form -/
namespace RF
open PySem L2
mutual
theorem NK.dp {K : PySem.W.Frag} {H : Hp} : ∀ {k : NestedKey} {v : V}, NK H k v → Dp K H v k.data
  | _, _, .none => by simp only [NestedKey.data]; exact .non
  | _, _, .num i => by simp only [NestedKey.data]; exact .int i
  | _, _, .text x => by simp only [NestedKey.data]; exact .str x
  | _, _, .tup h r => by simp only [NestedKey.data]; exact .tup (.of h) (NKs.dp r)
theorem NKs.dp {K : PySem.W.Frag} {H : Hp} : ∀ {ks : List NestedKey} {vs : List V}, NKs H ks vs → DpAll K H vs (NestedKey.datas ks)
  | _, _, .nil => by simp only [NestedKey.datas]; exact .nil
  | _, _, .cons a b => by simp only [NestedKey.datas]; exact .cons (NK.dp a) (NKs.dp b)
end
/-- what stands behind: the address of the key, its data -/
abbrev zV (z : ZN) : V := .ref z.2.1
def rSortN : List V → Hp → VK → Prop := fun vs H Q => ∃ (a : Addr) (w : World) (zs : List ZN), vs = [V.ref a] ∧ H a = some (dnO w a zs) ∧ ZOk H zs ∧ PySem.W.AllAlike (zs.map fun z => z.1.data) ∧ PySem.W.Sortable (zs.map fun z => z.1.data) ∧ zs.length ≤ 100000 ∧
  (∀ z ∈ zs, z.1.data.depth ≤ 60) ∧ ∀ p, H p = none → Q (.ref p) (upd H p (.lst ((zs.mergeSort (PySem.W.dataLe false fun z => z.1.data)).map zV)))
section
variable {X : Cx}
end
end RF

/-! comprehensions whose target is a tuple of names -/
namespace RF
open PySem L2
def unset : List Nat → Lc → Lc
  | [], env => env
  | i :: is, env => (unset is env).set i none
def gcompX (pt : D → Lc → Option Lc) (ft : BF) (fe : EF) (env : Lc) : List D → List D → Sto → R D
  | [], acc, S => .ok (.ref S.length) (S ++ [.lst acc])
  | d :: xs, acc, S => match pt d env with
    | some ee => (ft ee S).nox.bind fun b S1 => if b = true then ((fe ee S1).nox.bind fun y S2 => if acc.length < 100000 then gcompX pt ft fe env xs (acc ++ [y]) S2 else .bad) else gcompX pt ft fe env xs acc S1
    | none => .bad
def gcompL (n : Nat) (pt : D → Lc → Option Lc) (ft : BF) (fe : EF) (env : Lc) : List D → Nat → List D → Sto → R D
  | [], j, acc, S => match S[n]? with
    | some (.lst ys) => if ys.length ≤ j then .ok (.ref S.length) (S ++ [.lst acc]) else .bad
    | _ => .bad
  | _ :: xs, j, acc, S => match S[n]? with
    | some (.lst ys) => match ys[j]? with
      | none => .ok (.ref S.length) (S ++ [.lst acc])
      | some d => match pt d env with
        | some ee => (ft ee S).nox.bind fun b S1 => if b = true then ((fe ee S1).nox.bind fun y S2 => if acc.length < 100000 then gcompL n pt ft fe env xs (j + 1) (acc ++ [y]) S2 else .bad) else gcompL n pt ft fe env xs (j + 1) acc S1
        | none => .bad
    | _ => .bad
def fGComp (fi : IF) (is : List Nat) (pt : D → Lc → Option Lc) (ft : BF) (fe : EF) : EF := fun env S => (fi env S).bind fun it S1 => match it with
  | .fix xs => gcompX pt ft fe (unset is env) xs [] S1
  | .live n xs => gcompL n pt ft fe (unset is env) xs 0 [] S1
/-- a target by a function -/
def TgF (K : PySem.W.Frag) (is : List Nat) (g : TG) (pt : D → Lc → Option Lc) : Prop := ∀ {L : List Addr} {H : Hp} {x : V} {d : D} {σ0 : St} {env0 env1 : Lc} {Q : St → Hp → Prop}, RD K L H x d → RE K L H σ0 env0 → pt d env0 = some env1 →
  (∀ σ1, RE K L H σ1 env1 → wipe σ1 is = wipe σ0 is → Q σ1 H) → g x σ0 H Q
/-- the names of a tuple -/
def setD : List Nat → List D → Lc → Lc
  | i :: is, d :: ds, env => setD is ds (env.set i (some d))
  | _, _, env => env
def setVs : List Nat → List V → St → St
  | i :: is, v :: vs, σ => setVs is vs (σ.set i (some v))
  | _, _, σ => σ
def gNames : List Nat → TGs
  | [] => gNil
  | i :: is => gCons (gName i) (gNames is)
def ptT (is : List Nat) : D → Lc → Option Lc := fun d env => match d with
  | .tup ds => if ds.length = is.length then some (setD is ds env) else none
  | _ => none
section
variable {X : Cx} {E : XK} {tg l iter elt : Expr} {fa fe : EF} {ft : BF} {fi : IF} {pos : Pos}
end
end RF

/-! sorted(d) as a function; types whose values are keys -/
namespace RF
open PySem L2
def sortNC (S : Sto) (n : Nat) : Option Cell → R D
  | some (.dn _ kvs) => if sortB (kvs.map fun kv => kv.1.data) = true ∧ kvs.length ≤ 100000 ∧ (kvs.all fun kv => decide (kv.1.data.depth ≤ 60)) = true then .ok (.ref S.length) (S ++ [.lst (sortDs (keysN kvs) (kvs.map fun kv => kv.1.data))]) else .bad
  | _ => oSorted [.ref n] S
def oSortN : OpN := fun ds S => match ds with
  | [.ref n] => sortNC S n S[n]?
  | ds => oSorted ds S
theorem RN.data {K : PySem.W.Frag} {L : List Addr} {H : Hp} : ∀ {zs : List ZN} {kvs : List (NestedKey × D)}, RN K L H zs kvs → (zs.map fun z => z.1.data) = kvs.map fun kv => kv.1.data
  | [], [], _ => rfl
  | p :: ps, q :: qs, ⟨a, _, _, d⟩ => by rw [List.map_cons, List.map_cons, RN.data d, a]
  | [], _ :: _, h => h.elim
  | _ :: _, [], h => h.elim
/-- values that are keys -/
structure CodK (α : Type) [DecidableEq α] extends Cod α where
  kf : α → NestedKey
  keyT : ∀ a, RF.keyT (e a) = some (kf a)
  inj : ∀ a b, kf a = kf b ↔ a = b
  dOf : ∀ a, RF.dOf (kf a) = e a
  data : ∀ a, (kf a).data = p a
  dep : ∀ a, (p a).depth ≤ 60
namespace CodK
variable {α : Type} [DecidableEq α] {C : CodK α} {S : Sto} {n : Nat} {a : α} {kvs : List (α × D)} {w : World} {d : D}
def enc (C : CodK α) (kvs : List (α × D)) : List (NestedKey × D) := kvs.map fun kv => (C.kf kv.1, kv.2)
theorem enc_len : (C.enc kvs).length = kvs.length := List.length_map ..
theorem val : valK (C.enc kvs) (C.kf a) = valK kvs a := by
  unfold valK enc
  induction kvs with
  | nil => rfl
  | cons kv r ih =>
    rw [List.map_cons, List.find?_cons, List.find?_cons]
    by_cases h : kv.1 = a
    · have h2 : C.kf kv.1 = C.kf a := by rw [h]
      simp [h, h2]
    · have h2 : ¬ C.kf kv.1 = C.kf a := fun z => h ((C.inj _ _).mp z)
      simp only [decide_eq_false h, decide_eq_false h2]
      exact ih
theorem any : ((C.enc kvs).any fun kv => decide (kv.1 = C.kf a)) = kvs.any fun kv => decide (kv.1 = a) := by
  unfold enc
  induction kvs with
  | nil => rfl
  | cons kv r ih =>
    rw [List.map_cons, List.any_cons, List.any_cons, ih]
    by_cases h : kv.1 = a
    · have h2 : C.kf kv.1 = C.kf a := by rw [h]
      simp [h, h2]
    · have h2 : ¬ C.kf kv.1 = C.kf a := fun z => h ((C.inj _ _).mp z)
      simp [h, h2]
theorem put : putKD (C.enc kvs) (C.kf a) d = C.enc (putKD kvs a d) := by
  unfold putKD
  rw [any]
  split
  · unfold enc
    rw [List.map_map, List.map_map]
    refine List.map_congr_left fun kv _ => ?_
    show (if C.kf kv.1 = C.kf a then (C.kf kv.1, d) else (C.kf kv.1, kv.2)) = _
    by_cases h : kv.1 = a
    · have h2 : C.kf kv.1 = C.kf a := by rw [h]
      simp [h, h2]
    · have h2 : ¬ C.kf kv.1 = C.kf a := fun z => h ((C.inj _ _).mp z)
      simp [h, h2]
  · unfold enc
    rw [List.map_append]; rfl
theorem keys : keysN (C.enc kvs) = C.es (kvs.map (·.1)) := by
  unfold keysN enc Cod.es
  rw [List.map_map, List.map_map]
  exact List.map_congr_left fun kv _ => C.dOf kv.1
theorem datas : ((C.enc kvs).map fun kv => kv.1.data) = (kvs.map (·.1)).map C.p := by
  unfold enc
  rw [List.map_map, List.map_map]
  exact List.map_congr_left fun kv _ => C.data kv.1
theorem osort (h : S[n]? = some (.dn w (C.enc kvs))) (hl : kvs.length ≤ 100000) : oSortN [.ref n] S = .ok (.ref S.length) (S ++ [.lst (C.es (C.sort (kvs.map (·.1))))]) := by
  unfold oSortN
  simp only [h]
  unfold sortNC
  simp only
  have h3 : ((C.enc kvs).all fun kv => decide (kv.1.data.depth ≤ 60)) = true := by
    rw [List.all_eq_true]
    intro kv hk
    obtain ⟨x, _, rfl⟩ := List.mem_map.mp hk
    rw [decide_eq_true_iff]
    show (C.kf x.1).data.depth ≤ 60
    rw [C.data]
    exact C.dep _
  have h2 : (C.enc kvs).length ≤ 100000 := by rw [enc_len]; exact hl
  rw [datas, keys, if_pos ⟨Cod.sortB_, h2, h3⟩, Cod.sortDs_]
end CodK
def kK : CodK K2 where
  e := eK
  p := pK
  ok := fun k => PyData.strOk k.2 = true
  toP := fun S k a h => toP_eK h
  eqv := fun _ _ => eqv_K
  alike := fun a b => by simp [pK, PySem.W.alike, PySem.W.alikeAll]
  tupl := fun a => by simp [pK, isTupP]
  kf := fun k => .tup [.num k.1, .text k.2]
  keyT := fun _ => (rfl)
  inj := fun a b => by
    obtain ⟨a1, a2⟩ := a
    obtain ⟨b1, b2⟩ := b
    simp
  dOf := fun _ => (rfl)
  data := fun _ => (rfl)
  dep := fun a => by simp [pK, PyData.depth, PyData.depthAll]
def kT : CodK (Int × Int) where
  e := eT
  p := pT
  ok := fun _ => True
  toP := fun S k a _ => fT_eT
  eqv := fun _ _ => eqv_T
  alike := fun a b => by simp [pT, PySem.W.alike, PySem.W.alikeAll]
  tupl := fun a => by simp [pT, isTupP]
  kf := fun k => .tup [.num k.1, .num k.2]
  keyT := fun _ => (rfl)
  inj := fun a b => by
    obtain ⟨a1, a2⟩ := a
    obtain ⟨b1, b2⟩ := b
    simp
  dOf := fun _ => (rfl)
  data := fun _ => (rfl)
  dep := fun a => by simp [pT, PyData.depth, PyData.depthAll]
def eKT (x : K2 × (Int × Int)) : D := .tup [eK x.1, eT x.2]
def pKT (x : K2 × (Int × Int)) : PyData := .tuple [pK x.1, pT x.2]
def kKT : CodK (K2 × (Int × Int)) where
  e := eKT
  p := pKT
  ok := fun x => PyData.strOk x.1.2 = true
  toP := fun S k a h => by
    unfold eKT pKT
    rw [toP_tup, toP_mapM_cons, toP_mapM_cons, toP_mapM_nil, toP_eK h, fT_eT]
    rfl
  eqv := fun a b => by
    unfold pKT
    simp only [PyData.eqv, PyData.eqvAll, eqv_T, eqv_K]
    obtain ⟨a1, a2⟩ := a
    obtain ⟨b1, b2⟩ := b
    simp only [Prod.mk.injEq]
    by_cases h1 : a1 = b1 <;> by_cases h2 : a2 = b2 <;> simp [h1, h2]
  alike := fun a b => by simp [pKT, pK, pT, PySem.W.alike, PySem.W.alikeAll]
  tupl := fun a => by simp [pKT, isTupP]
  kf := fun x => .tup [.tup [.num x.1.1, .text x.1.2], .tup [.num x.2.1, .num x.2.2]]
  keyT := fun _ => (rfl)
  inj := fun a b => by
    obtain ⟨⟨a1, a2⟩, a3, a4⟩ := a
    obtain ⟨⟨b1, b2⟩, b3, b4⟩ := b
    simp
  dOf := fun _ => (rfl)
  data := fun _ => (rfl)
  dep := fun a => by simp [pKT, pK, pT, PyData.depth, PyData.depthAll]
end RF

/-! shelves and their plain model in the store -/
namespace RF
open PySem L2
section
variable {C : Addr} {x : D} {n : Nat} {S : Sto} {d0 d1 : D}
def shf (d0 d1 : D) : List (Str × D) := [(⟨#[95, 108, 111, 99, 107, 115]⟩, d0), (⟨#[95, 103, 105, 118, 101, 110, 95, 98, 97, 99, 107]⟩, d1)]
def shc (C : Addr) (d0 d1 : D) : Cell := .ins C (shf d0 d1)
end
section
variable {S : Sto} {a b d : D} {n m : Nat}
def nLk : Str := ⟨#[108, 111, 99, 107, 115]⟩
def nPa : Str := ⟨#[112, 97, 115, 116]⟩
def smF (a b : D) : List (Key × D) := [(.inr nLk, a), (.inr nPa, b)]
def smC (a b : D) : Cell := .dk (smF a b)
end
abbrev PK := K2 × (Int × Int)
abbrev Ent := K2 × LSt × Nat
def LkAt (C : Addr) (l : Nat) (st : LSt) (S : Sto) : Prop := ∃ w, S[l]? = some (lkS C st w) ∧ S[w]? = some (.lst (eWs st.ws))
def MdAt (l : Nat) (st : LSt) (S : Sto) : Prop := ∃ w, S[l]? = some (mdS st w) ∧ S[w]? = some (.lst (eWs st.ws))
def fLk (es : List Ent) : List (K2 × D) := es.map fun e => (e.1, .ref e.2.2)
def fPa (pa : List (PK × Int)) : List (PK × D) := pa.map fun x => (x.1, .int x.2)
def stp (es : List Ent) : List (K2 × LSt) := es.map fun e => (e.1, e.2.1)
/-! the plain state -/
def st0 : LSt := ⟨0, 0, none, []⟩
def getS (sh : List (K2 × LSt)) (k : K2) : Option LSt := valK sh k
def lockS (sh : List (K2 × LSt)) (k : K2) : List (K2 × LSt) := match valK sh k with
  | some _ => sh
  | none => sh ++ [(k, st0)]
def setS (sh : List (K2 × LSt)) (k : K2) (st : LSt) : List (K2 × LSt) := sh.map fun e => if e.1 = k then (e.1, st) else e
def pastG (pa : List (PK × Int)) (x : PK) : Int := (valK pa x).getD 0
def giveS (pa : List (PK × Int)) (x : PK) (att : Int) : List (PK × Int) := putKD pa x (if att > pastG pa x then att else pastG pa x)
def sGr : Str := ⟨#[103, 114, 97, 110, 116, 101, 100]⟩
def sBe : Str := ⟨#[98, 101, 104, 105, 110, 100]⟩
def sFr : Str := ⟨#[102, 114, 101, 101, 100]⟩
def sFi : Str := ⟨#[102, 105, 110, 105, 115, 104, 101, 100]⟩
def ansD (key : K2) (st : LSt) (u : Who) : D := match st.h with
  | some h => if h = u then .tup [.int u.1.2, .tup [.str sGr, eT u.1, .int u.2, eK key, .int st.t, .int st.v]] else .tup [.int u.1.2, .tup [.str sBe, eT u.1, .int u.2, eK key, .int st.t, eT h.1, .int h.2]]
  | none => .non
def toldS (key : K2) (st : LSt) : List D := match st.h with
  | some h => (h :: sortW st.ws).map (ansD key st)
  | none => []
def freD (s : Str) (key : K2) (u : Who) : D := .tup [.int u.1.2, .tup [.str s, eT u.1, .int u.2, eK key]]
inductive Kd where
  | ask | free | fin (z : Int)
def handS (kd : Kd) (u : Who) (key : K2) (sh : List (K2 × LSt)) (pa : List (PK × Int)) (st : LSt) : List (K2 × LSt) × List (PK × Int) × List D := match kd with
  | .ask => if u.2 ≤ pastG pa (key, u.1) then (sh, pa, []) else
      (setS sh key (askS st u).1, pa, if (askS st u).2 = [] then [ansD key (askS st u).1 u] else toldS key (askS st u).1)
  | .free => (setS sh key (freeS st u.1 u.2).1, giveS pa (key, u.1) u.2, (if (freeS st u.1 u.2).2 = [] then [] else toldS key (freeS st u.1 u.2).1) ++ [freD sFr key u])
  | .fin z => if st.h = some u then (setS sh key (finS st u z).1, giveS pa (key, u.1) u.2, (if (finS st u z).2 = [] then [] else toldS key (finS st u z).1) ++ [freD sFi key u])
      else (sh, pa, if u.2 ≤ pastG pa (key, u.1) then [freD sFi key u] else [])
structure PR (C CL : Addr) (w : World) (sl dl dp : Nat) (es : List Ent) (pa : List (PK × Int)) (S : Sto) : Prop where
  ob : S[sl]? = some (shc C (.ref dl) (.ref dp))
  lk : S[dl]? = some (.dn w (kK.enc (fLk es)))
  pa : S[dp]? = some (.dn w (kKT.enc (fPa pa)))
  ne : dl ≠ dp
  at_ : ∀ e ∈ es, LkAt CL e.2.2 e.2.1 S
  nd : (es.map (·.2.2)).Nodup
  kd : (es.map (·.1)).Nodup
structure MR (w : World) (ml el ep : Nat) (es : List Ent) (pa : List (PK × Int)) (S : Sto) : Prop where
  ob : S[ml]? = some (smC (.ref el) (.ref ep))
  lk : S[el]? = some (.dn w (kK.enc (fLk es)))
  pa : S[ep]? = some (.dn w (kKT.enc (fPa pa)))
  ne : el ≠ ep
  at_ : ∀ e ∈ es, MdAt e.2.2 e.2.1 S
  nd : (es.map (·.2.2)).Nodup
  kd : (es.map (·.1)).Nodup
def PFt (CL : Addr) (dl dp : Nat) (S : Sto) : Nat → Prop := fun i => i = dl ∨ i = dp ∨ ∃ st w, S[i]? = some (lkS CL st w)
def MF (el ep : Nat) (S : Sto) : Nat → Prop := fun i => i = el ∨ i = ep ∨ ∃ st w, S[i]? = some (mdS st w)
section
variable {C CL : Addr} {w : World} {sl dl dp ml el ep : Nat} {es : List Ent} {pa : List (PK × Int)} {S S1 : Sto} {l : Nat} {st : LSt}
theorem LkAt.keep (h : LkAt CL l st S) {P : Nat → Prop} (fr : Fr S S1 P) (hl : ¬ P l) (hw : ∀ i xs, S[i]? = some (.lst xs) → ¬ P i) : LkAt CL l st S1 := by
  obtain ⟨w, h1, h2⟩ := h
  exact ⟨w, fr.get h1 hl, fr.get h2 (hw w _ h2)⟩
theorem MdAt.keep (h : MdAt l st S) {P : Nat → Prop} (fr : Fr S S1 P) (hl : ¬ P l) (hw : ∀ i xs, S[i]? = some (.lst xs) → ¬ P i) : MdAt l st S1 := by
  obtain ⟨w, h1, h2⟩ := h
  exact ⟨w, fr.get h1 hl, fr.get h2 (hw w _ h2)⟩
theorem MR.pr {es' : List Ent} {pa' : List (PK × Int)} (h : PR C CL w sl dl dp es pa S) (hm : MR w ml el ep es' pa' S) (fr : Fr S S1 (MF el ep S)) (hd : el ≠ dl ∧ el ≠ dp ∧ ep ≠ dl ∧ ep ≠ dp) : PR C CL w sl dl dp es pa S1 := by
  have ins : ∀ {i : Nat} {c : Cell}, S[i]? = some c → (∀ st w, c ≠ mdS st w) → ¬ (i = el) → ¬ (i = ep) → ¬ MF el ep S i := by
    rintro i c hc hk h1 h2 (z | z | ⟨st, w, z⟩)
    · exact h1 z
    · exact h2 z
    · rw [hc] at z; exact hk st w (Option.some.inj z)
  have kd : ∀ {i j : Nat} {c c' : Cell}, S[i]? = some c → S[j]? = some c' → c ≠ c' → ¬ i = j := fun h1 h2 hne => ne_of_cell h1 h2 hne
  have ls : ∀ i xs, S[i]? = some (.lst xs) → ¬ MF el ep S i := fun i xs hi => ins hi (fun _ _ z => nomatch z) (kd hi hm.lk (fun z => nomatch z)) (kd hi hm.pa (fun z => nomatch z))
  refine ⟨fr.get h.ob (ins h.ob (fun _ _ z => nomatch z) (kd h.ob hm.lk (fun z => nomatch z)) (kd h.ob hm.pa (fun z => nomatch z))), fr.get h.lk (ins h.lk (fun _ _ z => nomatch z) (fun z => hd.1 z.symm) (fun z => hd.2.2.1 z.symm)), fr.get h.pa (ins h.pa (fun _ _ z => nomatch z) (fun z => hd.2.1 z.symm) (fun z => hd.2.2.2 z.symm)), h.ne, fun e he => ?_, h.nd, h.kd⟩
  obtain ⟨w1, h1, h2⟩ := h.at_ e he
  exact ⟨w1, fr.get h1 (ins h1 (fun _ _ z => nomatch z) (kd h1 hm.lk (fun z => nomatch z)) (kd h1 hm.pa (fun z => nomatch z))), fr.get h2 (ls _ _ h2)⟩
end

/-! look-ups and stores -/
section
variable {C CL : Addr} {w : World} {sl dl dp ml el ep : Nat} {es : List Ent} {pa : List (PK × Int)} {S S1 : Sto} {l : Nat} {st : LSt} {k : K2} {x : PK} {a : Int} {e : Ent}
def atE (es : List Ent) (k : K2) : Option Ent := es.find? fun e => decide (e.1 = k)
theorem atE_some (h : atE es k = some e) : e ∈ es ∧ e.1 = k := ⟨List.mem_of_find?_eq_some h, by have := List.find?_some h; simpa using this⟩
theorem atE_none (h : atE es k = none) : k ∉ es.map (·.1) := by
  intro hm
  obtain ⟨y, hy, e⟩ := List.mem_map.mp hm
  have := List.find?_eq_none.mp h y hy
  simp [e] at this
def setE (es : List Ent) (k : K2) (st : LSt) : List Ent := es.map fun e => if e.1 = k then (e.1, st, e.2.2) else e
theorem setE_lk : fLk (setE es k st) = fLk es := by
  unfold fLk setE
  rw [List.map_map]
  refine List.map_congr_left fun y _ => ?_
  show ((if y.1 = k then (y.1, st, y.2.2) else y).1, D.ref (if y.1 = k then (y.1, st, y.2.2) else y).2.2) = (y.1, .ref y.2.2)
  by_cases h : y.1 = k <;> simp [h]
theorem setE_k : (setE es k st).map (·.1) = es.map (·.1) := by
  unfold setE
  rw [List.map_map]
  refine List.map_congr_left fun y _ => ?_
  show (if y.1 = k then (y.1, st, y.2.2) else y).1 = y.1
  by_cases h : y.1 = k <;> simp [h]
theorem setE_l : (setE es k st).map (·.2.2) = es.map (·.2.2) := by
  unfold setE
  rw [List.map_map]
  refine List.map_congr_left fun y _ => ?_
  show (if y.1 = k then (y.1, st, y.2.2) else y).2.2 = y.2.2
  by_cases h : y.1 = k <;> simp [h]
theorem nd_inj {α β : Type} {f : α → β} {xs : List α} (h : (xs.map f).Nodup) {a b : α} (ha : a ∈ xs) (hb : b ∈ xs) (e : f a = f b) : a = b := by
  induction xs with
  | nil => cases ha
  | cons x xs ih =>
    rw [List.map_cons, List.nodup_cons] at h
    rcases List.mem_cons.mp ha with h1 | h1
    · rcases List.mem_cons.mp hb with h2 | h2
      · exact h1.trans h2.symm
      · exact absurd (by rw [← h1, e]; exact List.mem_map_of_mem (f := f) h2) h.1
    · rcases List.mem_cons.mp hb with h2 | h2
      · exact absurd (by rw [← h2, ← e]; exact List.mem_map_of_mem (f := f) h1) h.1
      · exact ih h.2 h1 h2
/-- a lock has changed -/
theorem PR.upd (h : PR C CL w sl dl dp es pa S) (he : atE es k = some e) (fr : Fr S S1 (fun i => i = e.2.2)) (ha : LkAt CL e.2.2 st S1) : PR C CL w sl dl dp (setE es k st) pa S1 := by
  obtain ⟨hm, hk⟩ := atE_some he
  obtain ⟨w0, g1, g2⟩ := h.at_ e hm
  have kd : ∀ {i : Nat} {c : Cell}, S[i]? = some c → (∀ st w, c ≠ lkS CL st w) → ¬ i = e.2.2 := fun h1 hne => ne_of_cell h1 g1 (hne _ _)
  refine ⟨fr.get h.ob (kd h.ob fun _ _ z => by unfold shc lkS lkC shf lkF at z; injection z with _ z; injection z with _ z; injection z with _ z; cases z), by rw [setE_lk]; exact fr.get h.lk (kd h.lk fun _ _ z => nomatch z), fr.get h.pa (kd h.pa fun _ _ z => nomatch z), h.ne, fun y hy => ?_, by rw [setE_l]; exact h.nd, by rw [setE_k]; exact h.kd⟩
  obtain ⟨x, hx, rfl⟩ := List.mem_map.mp hy
  by_cases hxk : x.1 = k
  · rw [if_pos hxk]
    have : x = e := nd_inj h.kd hx hm (hxk.trans hk.symm)
    rw [this]; exact ha
  · rw [if_neg hxk]
    refine (h.at_ x hx).keep fr (fun z => hxk ?_) fun i xs hi => kd hi fun _ _ z => nomatch z
    rw [nd_inj h.nd hx hm z]; exact hk
theorem MR.upd (h : MR w ml el ep es pa S) (he : atE es k = some e) (fr : Fr S S1 (fun i => i = e.2.2)) (ha : MdAt e.2.2 st S1) : MR w ml el ep (setE es k st) pa S1 := by
  obtain ⟨hm, hk⟩ := atE_some he
  obtain ⟨w0, g1, g2⟩ := h.at_ e hm
  have kd : ∀ {i : Nat} {c : Cell}, S[i]? = some c → (∀ st w, c ≠ mdS st w) → ¬ i = e.2.2 := fun h1 hne => ne_of_cell h1 g1 (hne _ _)
  refine ⟨fr.get h.ob (kd h.ob fun _ _ z => by unfold smC mdS mdC smF mdF at z; injection z with z; injection z with _ z; injection z with _ z; cases z), by rw [setE_lk]; exact fr.get h.lk (kd h.lk fun _ _ z => nomatch z), fr.get h.pa (kd h.pa fun _ _ z => nomatch z), h.ne, fun y hy => ?_, by rw [setE_l]; exact h.nd, by rw [setE_k]; exact h.kd⟩
  obtain ⟨x, hx, rfl⟩ := List.mem_map.mp hy
  by_cases hxk : x.1 = k
  · rw [if_pos hxk]
    have : x = e := nd_inj h.kd hx hm (hxk.trans hk.symm)
    rw [this]; exact ha
  · rw [if_neg hxk]
    refine (h.at_ x hx).keep fr (fun z => hxk ?_) fun i xs hi => kd hi fun _ _ z => nomatch z
    rw [nd_inj h.nd hx hm z]; exact hk
end

theorem PR.app {C CL : Addr} {w : World} {sl dl dp : Nat} {es : List Ent} {pa : List (PK × Int)} {S T : Sto} (h : PR C CL w sl dl dp es pa S) : PR C CL w sl dl dp es pa (S ++ T) :=
  ⟨app_get h.ob, app_get h.lk, app_get h.pa, h.ne, fun e he => let ⟨w1, h1, h2⟩ := h.at_ e he; ⟨w1, app_get h1, app_get h2⟩, h.nd, h.kd⟩
theorem MR.app {w : World} {ml el ep : Nat} {es : List Ent} {pa : List (PK × Int)} {S T : Sto} (h : MR w ml el ep es pa S) : MR w ml el ep es pa (S ++ T) :=
  ⟨app_get h.ob, app_get h.lk, app_get h.pa, h.ne, fun e he => let ⟨w1, h1, h2⟩ := h.at_ e he; ⟨w1, app_get h1, app_get h2⟩, h.nd, h.kd⟩
/-- what was given back has changed -/
theorem PR.give {C CL : Addr} {w : World} {sl dl dp : Nat} {es : List Ent} {pa pa2 : List (PK × Int)} {S : Sto} (h : PR C CL w sl dl dp es pa S) : PR C CL w sl dl dp es pa2 (S.set dp (.dn w (kKT.enc (fPa pa2)))) := by
  have kd : ∀ {i : Nat} {c : Cell}, S[i]? = some c → (∀ kvs, c ≠ .dn w kvs) → i ≠ dp := fun h1 hne => ne_of_cell h1 h.pa (hne _)
  have st : ∀ {i : Nat} {c : Cell}, S[i]? = some c → (∀ kvs, c ≠ .dn w kvs) → (S.set dp (.dn w (kKT.enc (fPa pa2))))[i]? = some c := fun h1 hne => by rw [List.getElem?_set_ne (fun z => kd h1 hne z.symm)]; exact h1
  exact ⟨st h.ob (fun _ z => nomatch z), by rw [List.getElem?_set_ne (fun z => h.ne z.symm)]; exact h.lk, set_get h.pa, h.ne, fun e he => let ⟨w1, h1, h2⟩ := h.at_ e he; ⟨w1, st h1 (fun _ z => nomatch z), st h2 (fun _ z => nomatch z)⟩, h.nd, h.kd⟩
theorem MR.give {w : World} {ml el ep : Nat} {es : List Ent} {pa pa2 : List (PK × Int)} {S : Sto} (h : MR w ml el ep es pa S) : MR w ml el ep es pa2 (S.set ep (.dn w (kKT.enc (fPa pa2)))) := by
  have kd : ∀ {i : Nat} {c : Cell}, S[i]? = some c → (∀ kvs, c ≠ .dn w kvs) → i ≠ ep := fun h1 hne => ne_of_cell h1 h.pa (hne _)
  have st : ∀ {i : Nat} {c : Cell}, S[i]? = some c → (∀ kvs, c ≠ .dn w kvs) → (S.set ep (.dn w (kKT.enc (fPa pa2))))[i]? = some c := fun h1 hne => by rw [List.getElem?_set_ne (fun z => kd h1 hne z.symm)]; exact h1
  exact ⟨st h.ob (fun _ z => nomatch z), by rw [List.getElem?_set_ne (fun z => h.ne z.symm)]; exact h.lk, set_get h.pa, h.ne, fun e he => let ⟨w1, h1, h2⟩ := h.at_ e he; ⟨w1, st h1 (fun _ z => nomatch z), st h2 (fun _ z => nomatch z)⟩, h.nd, h.kd⟩
theorem PR.add {C CL : Addr} {w : World} {sl dl dp : Nat} {es : List Ent} {pa : List (PK × Int)} {S : Sto} {k : K2} (h : PR C CL w sl dl dp es pa S) (hk : atE es k = none) :
    PR C CL w sl dl dp (es ++ [(k, st0, S.length)]) pa (S.set dl (.dn w (kK.enc (fLk (es ++ [(k, st0, S.length)])))) ++ [lkS CL st0 (S.length + 1), .lst (eWs [])]) := by
  have kd : ∀ {i : Nat} {c : Cell}, S[i]? = some c → (∀ kvs, c ≠ .dn w kvs) → i ≠ dl := fun h1 hne => ne_of_cell h1 h.lk (hne _)
  have st : ∀ {i : Nat} {c d : Cell} {T : Sto}, S[i]? = some c → (∀ kvs, c ≠ .dn w kvs) → (S.set dl d ++ T)[i]? = some c := fun h1 hne => app_get (by rw [List.getElem?_set_ne (fun z => kd h1 hne z.symm)]; exact h1)
  refine ⟨st h.ob (fun _ z => nomatch z), app_get (set_get h.lk), app_get (by rw [List.getElem?_set_ne h.ne]; exact h.pa), h.ne, fun e he => ?_, ?_, ?_⟩
  · rcases List.mem_append.mp he with he | he
    · obtain ⟨w1, h1, h2⟩ := h.at_ e he
      exact ⟨w1, st h1 (fun _ z => nomatch z), st h2 (fun _ z => nomatch z)⟩
    · rw [List.mem_singleton.mp he]
      exact ⟨S.length + 1, by rw [get_apps0]; rfl, by rw [get_apps]; rfl⟩
  · rw [List.map_append, List.nodup_append]
    refine ⟨h.nd, by simp, fun a ha b hb z => ?_⟩
    rw [List.mem_singleton.mp hb] at z
    obtain ⟨e, he, rfl⟩ := List.mem_map.mp ha
    obtain ⟨w1, h1, _⟩ := h.at_ e he
    have := (List.getElem?_eq_some_iff.mp h1).1
    have z : e.2.2 = S.length := z
    omega
  · rw [List.map_append, List.nodup_append]
    refine ⟨h.kd, by simp, fun a ha b hb z => ?_⟩
    rw [List.mem_singleton.mp hb] at z
    exact atE_none hk (by rw [← show a = k from z]; exact ha)
theorem MR.add {w : World} {ml el ep : Nat} {es : List Ent} {pa : List (PK × Int)} {S : Sto} {k : K2} (h : MR w ml el ep es pa S) (hk : atE es k = none) :
    MR w ml el ep (es ++ [(k, st0, S.length)]) pa (S.set el (.dn w (kK.enc (fLk (es ++ [(k, st0, S.length)])))) ++ [mdS st0 (S.length + 1), .lst (eWs [])]) := by
  have kd : ∀ {i : Nat} {c : Cell}, S[i]? = some c → (∀ kvs, c ≠ .dn w kvs) → i ≠ el := fun h1 hne => ne_of_cell h1 h.lk (hne _)
  have st : ∀ {i : Nat} {c d : Cell} {T : Sto}, S[i]? = some c → (∀ kvs, c ≠ .dn w kvs) → (S.set el d ++ T)[i]? = some c := fun h1 hne => app_get (by rw [List.getElem?_set_ne (fun z => kd h1 hne z.symm)]; exact h1)
  refine ⟨st h.ob (fun _ z => nomatch z), app_get (set_get h.lk), app_get (by rw [List.getElem?_set_ne h.ne]; exact h.pa), h.ne, fun e he => ?_, ?_, ?_⟩
  · rcases List.mem_append.mp he with he | he
    · obtain ⟨w1, h1, h2⟩ := h.at_ e he
      exact ⟨w1, st h1 (fun _ z => nomatch z), st h2 (fun _ z => nomatch z)⟩
    · rw [List.mem_singleton.mp he]
      exact ⟨S.length + 1, by rw [get_apps0]; rfl, by rw [get_apps]; rfl⟩
  · rw [List.map_append, List.nodup_append]
    refine ⟨h.nd, by simp, fun a ha b hb z => ?_⟩
    rw [List.mem_singleton.mp hb] at z
    obtain ⟨e, he, rfl⟩ := List.mem_map.mp ha
    obtain ⟨w1, h1, _⟩ := h.at_ e he
    have := (List.getElem?_eq_some_iff.mp h1).1
    have z : e.2.2 = S.length := z
    omega
  · rw [List.map_append, List.nodup_append]
    refine ⟨h.kd, by simp, fun a ha b hb z => ?_⟩
    rw [List.mem_singleton.mp hb] at z
    exact atE_none hk (by rw [← show a = k from z]; exact ha)
/-- what an operation on the shelf leaves -/
structure POut (C CL : Addr) (w : World) (sl dl dp : Nat) (S : Sto) (q : List (K2 × LSt) × List (PK × Int) × List D) (x : R D) : Prop where
  ex : ∃ S1 r es1, x = .ok (.ref r) S1 ∧ PR C CL w sl dl dp es1 q.2.1 S1 ∧ stp es1 = q.1 ∧ Fr S S1 (PFt CL dl dp S) ∧ S1[r]? = some (.lst q.2.2) ∧ ∃ S0, PR C CL w sl dl dp es1 q.2.1 S0 ∧ Fr S0 S1 (fun _ => False) ∧ S.length ≤ S0.length ∧ S0.length ≤ r
structure MOut (w : World) (ml el ep : Nat) (S : Sto) (q : List (K2 × LSt) × List (PK × Int) × List D) (x : R D) : Prop where
  ex : ∃ S1 r es1, x = .ok (.ref r) S1 ∧ MR w ml el ep es1 q.2.1 S1 ∧ stp es1 = q.1 ∧ Fr S S1 (MF el ep S) ∧ S1[r]? = some (.lst q.2.2) ∧ S.length ≤ r

theorem o_seqT {S : Sto} {xs : List D} : seqD S (.tup xs) = some xs := (rfl)
theorem keyT_eK {k : K2} : keyT (eK k) = some (kK.kf k) := (rfl)
/-! data that compare with themselves -/
def gd : Nat → D → Bool
  | _, .non => true
  | _, .bl _ => true
  | _, .int _ => true
  | _, .str x => PyData.strOk x
  | n + 1, .tup xs => xs.all (gd n)
  | _, _ => false
theorem gd_toP : ∀ (n : Nat) (d : D), gd n d = true → ∃ p, (∀ (S : Sto) (k : Nat), n ≤ k → toP S k d = some p) ∧ PyData.eqv p p = true := by
  intro n
  induction n with
  | zero =>
    intro d h
    cases d with
    | non => exact ⟨.none, fun S k _ => by cases k <;> rfl, by simp [PyData.eqv]⟩
    | bl b => exact ⟨.bool b, fun S k _ => by cases k <;> rfl, by simp [PyData.eqv]⟩
    | int i => exact ⟨.int i, fun S k _ => by cases k <;> rfl, by simp [PyData.eqv]⟩
    | str x => exact ⟨.str x, fun S k _ => by rw [toP_str, if_pos (by simpa [gd] using h)], by simp [PyData.eqv]⟩
    | _ => simp [gd] at h
  | succ n ih =>
    intro d h
    cases d with
    | non => exact ⟨.none, fun S k _ => by cases k <;> rfl, by simp [PyData.eqv]⟩
    | bl b => exact ⟨.bool b, fun S k _ => by cases k <;> rfl, by simp [PyData.eqv]⟩
    | int i => exact ⟨.int i, fun S k _ => by cases k <;> rfl, by simp [PyData.eqv]⟩
    | str x => exact ⟨.str x, fun S k _ => by rw [toP_str, if_pos (by simpa [gd] using h)], by simp [PyData.eqv]⟩
    | tup xs =>
      have hx : ∀ x ∈ xs, gd n x = true := by simpa [gd] using h
      have key : ∀ xs : List D, (∀ x ∈ xs, gd n x = true) → ∃ ps, (∀ (S : Sto) (k : Nat), n ≤ k → xs.mapM (toP S k) = some ps) ∧ PyData.eqvAll ps ps = true := by
        intro xs
        induction xs with
        | nil => intro _; exact ⟨[], fun S k _ => rfl, by simp [PyData.eqvAll]⟩
        | cons x xs ihx =>
          intro hx
          obtain ⟨p, h1, h2⟩ := ih x (hx x (List.mem_cons_self ..))
          obtain ⟨ps, h3, h4⟩ := ihx fun y hy => hx y (List.mem_cons_of_mem _ hy)
          exact ⟨p :: ps, fun S k hk => by rw [toP_mapM_cons, h1 S k hk, h3 S k hk]; rfl, by simp [PyData.eqvAll, h2, h4]⟩
      obtain ⟨ps, h1, h2⟩ := key xs hx
      refine ⟨.tuple ps, fun S k hk => ?_, by simpa [PyData.eqv] using h2⟩
      cases k with
      | zero => omega
      | succ k => rw [toP_tup, h1 S k (by omega)]; rfl
    | _ => simp [gd] at h
theorem gds {xs : List D} (h : ∀ x ∈ xs, gd 15 x = true) : ∃ ps, (∀ S : Sto, xs.mapM (toP S 19) = some ps) ∧ PyData.eqv (.tuple ps) (.tuple ps) = true ∧ PyData.eqv (.list ps) (.list ps) = true := by
  induction xs with
  | nil => exact ⟨[], fun S => rfl, by simp [PyData.eqv, PyData.eqvAll], by simp [PyData.eqv, PyData.eqvAll]⟩
  | cons x xs ih =>
    obtain ⟨p, h1, h2⟩ := gd_toP 15 x (h x (List.mem_cons_self ..))
    obtain ⟨ps, h3, h4, h5⟩ := ih fun y hy => h y (List.mem_cons_of_mem _ hy)
    refine ⟨p :: ps, fun S => by rw [toP_mapM_cons, h1 S 19 (by omega), h3 S]; rfl, ?_, ?_⟩
    · simp only [PyData.eqv, PyData.eqvAll] at h4 ⊢; rw [h2, h4]; rfl
    · simp only [PyData.eqv, PyData.eqvAll] at h5 ⊢; rw [h2, h5]; rfl
def rowD (sh : List (K2 × LSt)) (k : K2) : D := match valK sh k with
  | some st => .tup [eK k, .int st.v, .int st.t, eH st.h]
  | none => .non
def rowsD (sh : List (K2 × LSt)) : List D := (kK.sort (sh.map (·.1))).map (rowD sh)
def pastD (pa : List (PK × Int)) : List D := (kKT.sort (pa.map (·.1))).map fun x => .tup [eK x.1, eT x.2, .int (pastG pa x)]
theorem PR.fr0 {C CL : Addr} {w : World} {sl dl dp : Nat} {es : List Ent} {pa : List (PK × Int)} {S S1 : Sto} (h : PR C CL w sl dl dp es pa S) (f : Fr S S1 (fun _ => False)) : PR C CL w sl dl dp es pa S1 :=
  ⟨f.get h.ob id, f.get h.lk id, f.get h.pa id, h.ne, fun e he => let ⟨w1, h1, h2⟩ := h.at_ e he; ⟨w1, f.get h1 id, f.get h2 id⟩, h.nd, h.kd⟩
theorem MR.fr0 {w : World} {ml el ep : Nat} {es : List Ent} {pa : List (PK × Int)} {S S1 : Sto} (h : MR w ml el ep es pa S) (f : Fr S S1 (fun _ => False)) : MR w ml el ep es pa S1 :=
  ⟨f.get h.ob id, f.get h.lk id, f.get h.pa id, h.ne, fun e he => let ⟨w1, h1, h2⟩ := h.at_ e he; ⟨w1, f.get h1 id, f.get h2 id⟩, h.nd, h.kd⟩
/-- what is fit for the rows -/
def okSh (sh : List (K2 × LSt)) (pa : List (PK × Int)) : Prop := (∀ e ∈ sh, PyData.strOk e.1.2 = true) ∧ ∀ x ∈ pa, PyData.strOk x.1.1.2 = true
def gcompK (is : List Nat) (pt : D → Lc → Option Lc) (ft : BF) (fe : EF) (env : Lc) : It' → Sto → R D := fun it S1 => match it with
  | .fix xs => gcompX pt ft fe (unset is env) xs [] S1
  | .live n xs => gcompL n pt ft fe (unset is env) xs 0 [] S1
theorem o_kKe {k : K2} : kK.e k = eK k := (rfl)
end RF

/-! tuple * int; == of lists of other lengths -/
namespace RF
open PySem L2
section
variable {K : PySem.W.Frag} {L : List Addr} {H : Hp}
theorem RDs.rep {vs : List V} {xs : List D} (r : RDs K L H vs xs) : ∀ k : Nat, RDs K L H (List.replicate k vs).flatten (List.replicate k xs).flatten
  | 0 => .nil
  | k + 1 => by
    rw [List.replicate_succ, List.replicate_succ, List.flatten_cons, List.flatten_cons]
    exact r.append (RDs.rep r k)
end
def oMulT : Op2 := fun x y S => match x, y with
  | .tup xs, .int k => if xs ≠ [] ∧ 2 ≤ k ∧ k ≤ 1000 ∧ xs.length ≤ 1000 then .ok (.tup (List.replicate k.toNat xs).flatten) S else .bad
  | _, _ => .bad
def rEqLen (K : PySem.W.Frag) : R2 := fun x y H Q => ∃ a b xs ys, x = .ref a ∧ y = .ref b ∧ SqL K H a xs ∧ SqL K H b ys ∧ xs.length ≠ ys.length ∧ Q (.bl false) H
theorem op_eqLen {X : Cx} (hu : X.A.units < cLine) : OpR X (compareOp .Eq) (rEqLen X.K) := by
  intro pins s σ H x y v u Q I rx ry h
  obtain ⟨a, b, xs, ys, rfl, rfl, ha, hb, hne, q⟩ := h
  cases (show v = Value.ref a from rx)
  cases (show u = Value.ref b from ry)
  obtain ⟨us, r1, p1, _⟩ := I.list ha
  obtain ⟨ws, r2, p2, _⟩ := I.list hb
  have hsz : (us.toArray.size != ws.toArray.size) = true := by
    rw [List.size_toArray, List.size_toArray, ← r1.length, ← r2.length]
    simpa using hne
  exact SeqAt.RcAt.lists_lengths p1.isList p2.isList hsz hu X.prog X.w _ _ ⟨.bl false, H, I, rfl, q⟩
def oEqL : Op2 := fun x y S => match x, y with
  | .ref n, .ref m => match S[n]?, S[m]? with
    | some (.lst xs), some (.lst ys) => if xs.length = ys.length then oEq x y S else .ok (.bl false) S
    | _, _ => .bad
  | _, _ => .bad
def rEqLD (K : PySem.W.Frag) : R2 := fun x y H Q => rEqLen K x y H Q ∨ rEqD K x y H Q
theorem op_eqLD {X : Cx} (hu : X.A.units + 64 < cLine) : OpR X (compareOp .Eq) (rEqLD X.K) := (op_eqLen (by omega)).or (op_eqD hu)
theorem f_eqL {K : PySem.W.Frag} {E : XK} : OpF K E (rEqLD K) oEqL := by
  intro L H S x y d1 d2 Q rep r1 r2 q
  cases r1 with
  | @ref a n ha =>
    cases r2 with
    | @ref b m hb =>
      obtain ⟨c, hc, rc⟩ := rep.adr ha
      obtain ⟨c2, hc2, rc2⟩ := rep.adr hb
      unfold oEqL at q
      simp only [hc, hc2] at q
      cases c with
      | lst xs =>
        cases c2 with
        | lst ys =>
          simp only at q
          obtain ⟨vs, hv, rv⟩ := id rc
          obtain ⟨ws, hw, rw'⟩ := id rc2
          by_cases hl : xs.length = ys.length
          · rw [if_pos hl] at q
            exact .inr (f_eq _ _ _ _ _ _ _ _ rep (.ref ha) (.ref hb) q)
          · rw [if_neg hl] at q
            exact .inl ⟨a, b, vs, ws, rfl, rfl, .of hv, .of hw, by rw [rv.length, rw'.length]; exact hl, EndV.val q rep (.bl _)⟩
        | _ => exact q.elim
      | _ => exact q.elim
    | _ => exact q.elim
  | _ => exact q.elim
section
variable {S : Sto} {n m : Nat} {xs ys : List D} {k : Int} {a b : D}
theorem eqL_ne (h1 : S[n]? = some (.lst xs)) (h2 : S[m]? = some (.lst ys)) (h : ¬ xs.length = ys.length) : oEqL (.ref n) (.ref m) S = .ok (.bl false) S := by
  unfold oEqL
  simp only [h1, h2, if_neg h]
theorem eqL_00 (h1 : S[n]? = some (.lst [])) (h2 : S[m]? = some (.lst [])) : oEqL (.ref n) (.ref m) S = .ok (.bl true) S := by
  unfold oEqL
  simp only [h1, h2, if_true]
  rw [o_eq, show (20 : Nat) = 19 + 1 from rfl, toP_ref, toP_ref, h1, h2, toPC_lst, toP_mapM_nil]
  show (eqK S (some (.list [])) (some (.list []))) = _
  rw [eqK_some]
  simp [PyData.eqv, PyData.eqvAll]
end
end RF

/-! d.get(k) of dicts whose keys are tuples of any form (nested): in, [], get, [] =, list(d), len(d), {} -/
namespace RF
open PySem L2
section
variable {X : Cx} {pins : List (Addr × Obj)} {σ : St} {H : Hp} {s : Shared} {a b : Addr} {zs : List ZN} {k : NestedKey} {u : Value} {A : Around} {E : Value → Shared → Prop}
end
section
variable {X : Cx} {E : XK} {o i e f : Expr} {fo fi fk fx : EF} {pos apos cpos : Pos}
end
end RF

/-! t[::-1], t a tuple -/
namespace RF
open PySem PySem.Spec PyProof.Rows
section
variable {prog : Program} {w : World} {A : Around} {E : Value → Shared → Prop} {s : Shared}
end
end RF
namespace RF
open PySem L2 PySem.Spec PyProof.Rows
def revK : D → Sto → R D := fun x S => match x with
  | .tup xs => .ok (.tup xs.reverse) S
  | _ => .bad
def fRev (fa : EF) : EF := fun env S => (fa env S).bind revK
section
variable {K : PySem.W.Frag} {L : List Addr} {H : Hp}
end
section
variable {fa : EF} {env : Lc} {S : Sto} {xs : List D}
end
end RF

/-! max of a list of data; list(range(n)); l.pop(i) -/
namespace RF
open PySem L2
def rMaxD (K : PySem.W.Frag) : List V → Hp → VK → Prop := fun vs H Q => ∃ (a : Addr) (bs : List VDP) (x : PyData) (ps : List PyData), vs = [V.ref a] ∧ SqL K H a (bs.map (·.1)) ∧ DpAll K H (bs.map (·.1)) (bs.map (·.2.2)) ∧ bs.map (·.2.2) = x :: ps ∧ PySem.W.AlikeAll (x :: ps) ∧
  PyData.depthAll (x :: ps) ≤ 60 ∧ PyData.canLayAll0 (x :: ps) = true ∧ ∀ b ∈ bs, b.2.2 = PySem.W.maxD x ps → Q b.1 H
def oMax1 : OpN := fun ds S => match ds with
  | [x] => match lstD S x with
    | some xs => match xs.mapM (toP S 20) with
      | some (p :: ps) => if likeB (p :: ps) = true ∧ notNoneB (p :: ps) = true ∧ pureTs xs = true then .ok (toD (PySem.W.maxD p ps)) S else .bad
      | _ => .bad
    | none => .bad
  | _ => .bad
section
variable {K : PySem.W.Frag} {E : XK}
end
def mPopAt : OpM := fun x ds S => match x, ds with
  | .ref n, [.int i] => match S[n]? with
    | some (.lst xs) => if 0 ≤ i ∧ i < xs.length ∧ xs.length < 100000 then match xs[i.toNat]? with
      | some y => .ok y (S.set n (.lst (xs.eraseIdx i.toNat)))
      | none => .bad
      else .bad
    | _ => .bad
  | _, _ => .bad
section
variable {K : PySem.W.Frag} {E : XK}
end
def lstRgK : D → Sto → R D := fun d S => match d with
  | .int j => if 0 ≤ j ∧ j ≤ 1000 then .ok (.ref S.length) (S ++ [.lst (rngD 0 j.toNat)]) else .bad
  | _ => .bad
def fLstRg (fa : EF) : EF := fun env S => (fa env S).bind lstRgK
section
variable {fa : EF} {env : Lc} {S : Sto} {j : Int} {n : Nat} {xs : List D}
end
end RF

/-! a dict with nested keys stands still while it is walked: for k in d, [.. for k in d] -/
namespace RF
open PySem L2
section
variable {K : PySem.W.Frag} {E : XK} {L L1 : List Addr} {H H1 : Hp} {S S1 : Sto} {n : Nat} {a : Addr} {w : World} {zs : List ZN} {kvs : List (NestedKey × D)} {od : Obj}
theorem RE.growG {σ : St} {env : Lc} (r : RE K L H σ env) (e : Gr L H L1 H1) : RE K L1 H1 σ env := ⟨r.len, fun i d h => let ⟨v, h1, h2⟩ := r.val i d h; ⟨v, h1, h2.grow e⟩⟩
/-- what has been frozen .. -/
theorem Rep.ice (rep : Rep K L H S) (ha : L[n]? = some a) (hz : H a = some (dnO w a zs)) (rn : RN K L H zs kvs) (od : Obj) :
    Ex L H L (upd H a (.frz od (dnO w a zs))) ∧ Rep K L (upd H a (.frz od (dnO w a zs))) (S.set n (.df w kvs)) :=
  rep.write (c := .df w kvs) ha ⟨od, zs, upd_same, rn.grow (Gr.wr rep ha)⟩
/-- .. thaws -/
theorem Rep.thaw (rep : Rep K L1 H1 S1) (hL : L[n]? = some a) (hz : H a = some (dnO w a zs)) (ex : Ex L (upd H a (.frz od (dnO w a zs))) L1 H1) {w' : World} {kvs' : List (NestedKey × D)} (hc : S1[n]? = some (.df w' kvs')) :
    H1 a = some (.frz od (dnO w a zs)) ∧ Ex L H L1 (upd H1 a (dnO w a zs)) ∧ Gr L1 H1 L1 (upd H1 a (dnO w a zs)) ∧ Rep K L1 (upd H1 a (dnO w a zs)) (S1.set n (.dn w' kvs')) := by
  have hf : H1 a = some (.frz od (dnO w a zs)) := ex.fz _ _ _ upd_same
  have hL1 := ex.px _ _ hL
  have neq : ∀ b u, H b = some u → (∀ φ, u ≠ .ext φ) → b ≠ a := fun b u e hu z => by
    rw [z, hz] at e
    exact hu _ (Option.some.inj e).symm
  have neq1 : ∀ b u, H1 b = some u → (∀ o v, u = .frz o v → v ≠ dnO w a zs) → b ≠ a := fun b u e hu z => by
    rw [z, hf] at e
    exact hu _ _ (Option.some.inj e).symm rfl
  have gr : Gr L1 H1 L1 (upd H1 a (dnO w a zs)) := ⟨fun _ _ q => q, fun b xs q => by rw [upd_ne (neq1 b _ q (fun _ _ z => nomatch z))]; exact q, fun b o xs q => by
    rw [upd_ne (neq1 b _ q (fun _ _ z z2 => by cases z; cases z2))]; exact q⟩
  refine ⟨hf, ⟨ex.px, fun b hb => ?_, fun b o hb e => ?_, fun b xs e => ?_, fun b o u e => ?_⟩, gr, ?_⟩
  · rcases ex.nw b hb with h | h
    · exact .inl h
    · by_cases z : b = a
      · exact .inl (z ▸ List.mem_of_getElem? hL)
      · rw [upd_ne z] at h; exact .inr h
  · have z : b ≠ a := fun z => hb (z ▸ List.mem_of_getElem? hL)
    rw [upd_ne z]
    exact ex.fr b o hb (by rw [upd_ne z]; exact e)
  · have z := neq b _ e (fun _ z => nomatch z)
    rw [upd_ne z]
    exact ex.tp b xs (by rw [upd_ne z]; exact e)
  · have z := neq b _ e (fun _ z => nomatch z)
    rw [upd_ne z]
    exact ex.fz b o u (by rw [upd_ne z]; exact e)
  · refine ⟨by rw [List.length_set]; exact rep.len, rep.nd, fun m b c h1 h2 => ?_⟩
    by_cases hm : n = m
    · subst hm
      rw [hL1] at h1; cases h1
      rw [List.getElem?_set_self (by rw [← rep.len]; exact (List.getElem?_eq_some_iff.mp hL1).1)] at h2
      cases h2
      obtain ⟨od', zs', e, rn⟩ := rep.cel n a _ hL1 hc
      rw [hf] at e
      have e2 : dnO w a zs = dnO w' a zs' := by
        have := Option.some.inj e
        injection this
      exact ⟨zs', by rw [upd_same, e2], rn.grow gr⟩
    · rw [List.getElem?_set_ne hm] at h2
      refine (rep.cel m b c h1 h2).grow gr (upd_ne fun z => hm ?_)
      obtain ⟨l1, e1⟩ := List.getElem?_eq_some_iff.mp hL1
      obtain ⟨l2, e2⟩ := List.getElem?_eq_some_iff.mp h1
      exact (List.getElem_inj rep.nd).mp (e1.trans (z.symm.trans e2.symm))
end
/-- the dict at n may change again -/
def thawR {α : Type} (n : Nat) : R α → R α
  | .ok a S => match S[n]? with
    | some (.df w kvs) => .ok a (S.set n (.dn w kvs))
    | _ => .bad
  | _ => .bad
theorem thawR_ok {α : Type} {n : Nat} {a : α} {S : Sto} : thawR n (.ok a S) = (match S[n]? with
    | some (.df w kvs) => .ok a (S.set n (.dn w kvs))
    | _ => .bad) := (rfl)
def fIce (fa : EF) (s : SF) : SF := fun env S => match fa env S with
  | .ok (.ref n) _ => match S[n]? with
    | some (.dn w kvs) => thawR n (s env (S.set n (.df w kvs)))
    | _ => .bad
  | _ => .bad
def fIceE (fa : EF) (f : EF) : EF := fun env S => match fa env S with
  | .ok (.ref n) _ => match S[n]? with
    | some (.dn w kvs) => thawR n (f env (S.set n (.df w kvs)))
    | _ => .bad
  | _ => .bad
def fIterN (fa : EF) : IF := fun env S => (fa env S).bind fun d S1 => match d with
  | .ref n => match S1[n]? with
    | some (.df w kvs) => .ok (.fix (keysN kvs)) S1
    | _ => .bad
  | _ => .bad
section
variable {X : Cx} {E : XK} {e : Expr} {st : Stmt} {fa f : EF} {s : SF}
theorem xIce (h : PS X st (tS X.K E s)) : PS X st (tS X.K E (fIce fa s)) := monoS (ps_lock h) fun D σ H h => by
  obtain ⟨L, env, S, rep, re, q⟩ := h
  unfold fIce at q
  split at q
  · rename_i n S0 _
    split at q
    · rename_i w kvs hn
      obtain ⟨a, ha, zs, hz, rn⟩ := rep.at hn
      refine ⟨a, _, hz, trivial, fun od => ?_⟩
      obtain ⟨ex, rep2⟩ := rep.ice ha hz rn od
      refine ⟨L, env, _, rep2, re.mono ex, ?_⟩
      cases hs : s env (S.set n (.df w kvs)) with
      | ok fl S1 =>
        rw [hs, thawR_ok] at q
        intro L1 H1 ex1 rep1
        split at q
        · rename_i w' kvs' hc
          obtain ⟨t1, t2, t3, t4⟩ := rep1.thaw ha hz ex1 hc
          have q := q L1 _ t2 t4
          cases fl with
          | nx e => exact fun σ' r => ⟨t1, q σ' (r.growG t3)⟩
          | rt d => exact fun v r => ⟨t1, q v (r.grow t3)⟩
          | bk e => exact fun σ' r => ⟨t1, q σ' (r.growG t3)⟩
          | ct e => exact fun σ' r => ⟨t1, q σ' (r.growG t3)⟩
        · exact q.elim
      | ex c S1 => rw [hs] at q; exact q.elim
      | bad => rw [hs] at q; exact q.elim
    · exact q.elim
  · exact q.elim
end
/-! the walk itself -/
/-- the keys of the frozen dict at d -/
def ItN (w : World) (d : Addr) (o : Obj) (zs : List ZN) : It :=
  ⟨fun i H => i < zs.length ∧ H d = some (.frz o (dnO w d zs)), fun i H x H' => (∃ z, zs[i]? = some z ∧ x = V.ref z.2.1) ∧ H' = H, fun i H => zs.length ≤ i ∧ H d = some (.frz o (dnO w d zs))⟩
section
variable {X : Cx} {pins : List (Addr × Obj)} {σ : St} {H : Hp} {s : Shared} {d : Addr} {o : Obj} {zs : List ZN} {w : World}
theorem ice_raw (I : Inv X pins σ H s) (h : H d = some (.frz o (dnO w d zs))) : (d == sysModules) = false ∧ s.heap.get? d = some o ∧ o.ExactDict ∧ ∃ (es : Array DictEntry) (ep : Nat), o.data = .dict es ep ∧ es.size = zs.length ∧
    ∀ (i : Nat) (z : ZN), zs[i]? = some z → ∃ en : DictEntry, es[i]? = some en ∧ en.key = .ref z.2.1 := by
  obtain ⟨hg, ⟨q1, _, xs, pr, o', es, ep, h1, h2, h3, h4, _⟩, _⟩ := I.hok d _ h
  have e : o' = o := by rw [h1] at hg; exact Option.some.inj hg
  subst e
  have l1 : es.size = xs.length := by rw [← Array.length_toList, h4, List.length_map]
  refine ⟨q1, h1, h2, es, ep, h3, l1.trans (Paired.length pr).symm, fun i z hz => ?_⟩
  obtain ⟨b, hb, _, e2, _⟩ := paired_get pr hz
  have q : es[i]? = (xs[i]?).map fun x => (⟨x.1.hash w, .ref x.2.1, x.2.2⟩ : DictEntry) := by rw [← Array.getElem?_toList, h4, List.getElem?_map]
  rw [hb] at q
  exact ⟨_, q, by rw [e2]⟩
theorem turn_ice {P : Program} {w0 : World} {K : PySem.W.Frag} {tg : Expr} {es : Array DictEntry} {ep : Nat} (it : Addr) (hod : o.data = .dict es ep) : Turn P w0 K tg (ItN w d o zs) [it] it (fun i h => h.IsKeyIter it d i zs.length ep) where
  mem := List.mem_cons_self ..
  obj := fun i h ⟨oi, k1, k2, k3⟩ b hb => by
    cases List.mem_singleton.mp hb
    exact ⟨oi, k1, fun v z => by rw [k3] at z; cases z⟩
  keep := fun i h h' k1 k2 => k1.at fun oi k3 => k2 it (List.mem_cons_self ..) oi k3
  item := by
    intro X e1 e2 e3 hc i pins s σ H E I hf k1 ⟨hi, hd⟩
    subst e1 e2 e3
    obtain ⟨a0, a1, a2, a3, a4, a5⟩ := hf it (List.mem_cons_self ..)
    obtain ⟨_, b1, b2, es', ep', b3, b4, b5⟩ := ice_raw I hd
    obtain ⟨rfl, rfl⟩ := dict_ep hod b3
    obtain ⟨en, c1, c2⟩ := b5 i zs[i] (List.getElem?_eq_getElem hi)
    refine next_key_item k1 b1 b3 b4 c1 fun h' k2 k3 => ?_
    have J : Inv X pins σ H { s with heap := h' } := Inv.turned (t' := s.toks) I (fun b ob hb k4 => (k3.2 b hb).trans k4) a0 a1 a3 a4 a5
    obtain ⟨oi, d1, d2, d3⟩ := id k2
    exact ⟨en.key, rfl, go_of (s := { s with heap := h' }) d1 d2 d3 (by decide) ⟨.ref zs[i].2.1, H, J, c2, ⟨⟨_, List.getElem?_eq_getElem hi, rfl⟩, rfl⟩, k2, fun b hb => (hf b hb).1⟩⟩
  done := by
    intro X e1 e2 e3 hc i pins s σ H E I hf k1 ⟨hi, hd⟩
    subst e1 e2 e3
    obtain ⟨a0, a1, a2, a3, a4, a5⟩ := hf it (List.mem_cons_self ..)
    obtain ⟨_, b1, b2, es', ep', b3, b4, b5⟩ := ice_raw I hd
    obtain ⟨rfl, rfl⟩ := dict_ep hod b3
    exact next_key_end (I.ok.hd hc) k1 b1 b3 b4 hi fun h' k2 => ⟨rfl, Inv.turned (t' := s.toks) I (fun b ob hb k4 => k2 b ob hb k4) a0 a1 a3 a4 a5⟩
  self := fun A i s Q E k1 h => wpAny_pyIter_keyiter k1 h
def iIce (w : World) (td : TE) : TI := fun σ H R => td σ H fun x H1 => ∃ d o zs, x = .ref d ∧ H1 d = some (.frz o (dnO w d zs)) ∧ R (ItN w d o zs) H1
theorem pi_ice {w : World} {tg e : Expr} {td : TE} (he : PE X e td) : PI X tg e (fun σ H R => td σ H fun x H1 => ∃ d o zs w, x = .ref d ∧ H1 d = some (.frz o (dnO w d zs)) ∧ R (ItN w d o zs) H1) := by
  refine ⟨fun pins s σ H R I h => thn (he.run pins s σ H _ I h) fun u s1 ⟨x, H1, J, rx, d, o, zs, w, ex, k1, q⟩ => ?_⟩
  subst ex
  obtain rfl : u = Value.ref d := rx
  obtain ⟨b0, b1, b2, es, ep, b3, b4, b5⟩ := ice_raw J k1
  refine iter_keys b0 b1 b2 b3 (pi_one (tk := s1.toks) J _ (turn_ice _ b3) ⟨_, Heap.get?_push_size _ rfl, rfl, ?_⟩ q)
  rw [b4] <;> rfl
theorem RN.keyAt {K : PySem.W.Frag} {L : List Addr} {H : Hp} {i : Nat} {dd : D} : ∀ {zs : List ZN} {kvs : List (NestedKey × D)} {i : Nat}, RN K L H zs kvs → (keysN kvs)[i]? = some dd → ∃ z, zs[i]? = some z ∧ RD K L H (.ref z.2.1) dd := fun {zs kvs i} rn h => by
  obtain ⟨v, h1, h2⟩ := rn.keys.get h
  rw [List.getElem?_map] at h1
  obtain ⟨z, hz, rfl⟩ := Option.map_eq_some_iff.mp h1
  exact ⟨z, hz, h2⟩
theorem xIterN {E : XK} {tg e : Expr} {fa : EF} (h : PE X e (tE X.K E fa)) : PI X tg e (tI X.K E (fIterN fa)) := by
  have h1 := pi_ice (tg := tg) (w := X.w) h
  refine ⟨fun pins s σ H R I q => h1.run pins s σ H R I ?_⟩
  obtain ⟨L, env, S, rep, re, q⟩ := q
  refine ⟨L, env, S, rep, re, (End.bind q).imp fun x S1 L1 H1 ex1 rep1 q1 v rv => ?_⟩
  cases rv with
  | @ref a n ha =>
    obtain ⟨c, hc, rc⟩ := rep1.adr ha
    simp only [hc] at q1
    cases c with
    | df w kvs =>
      obtain ⟨od, zs, hz, rn⟩ := rc
      refine ⟨a, od, zs, w, rfl, hz, q1 L1 H1 (Ex.refl _ _) rep1 _ fun i L2 H2 S2 ex2 rep2 => ?_⟩
      have hz2 := ex2.fz _ _ _ hz
      have rn2 := rn.grow ex2.gr
      refine ⟨fun dd hdd => ?_, fun hl => ⟨by rw [rn2.length]; unfold keysN at hl; rwa [List.length_map] at hl, hz2⟩⟩
      obtain ⟨z, k1, k2⟩ := rn2.keyAt (i := i) hdd
      refine ⟨⟨(List.getElem?_eq_some_iff.mp k1).1, hz2⟩, fun y H3 hy => ?_⟩
      obtain ⟨⟨z', k3, rfl⟩, rfl⟩ := hy
      rw [k1] at k3; cases k3
      exact ⟨Ex.refl _ _, rep2, k2⟩
    | _ => exact q1.elim
  | _ => exact q1.elim
end
/-! rewriting -/
def iceC (s : SF) (env : Lc) (S : Sto) (n : Nat) : Option Cell → R Fl
  | some (.dn w kvs) => thawR n (s env (S.set n (.df w kvs)))
  | _ => .bad
def iceM (s : SF) (env : Lc) (S : Sto) : R D → R Fl
  | .ok (.ref n) _ => iceC s env S n S[n]?
  | _ => .bad
def thawC {α : Type} (a : α) (S : Sto) (n : Nat) : Option Cell → R α
  | some (.df w kvs) => .ok a (S.set n (.dn w kvs))
  | _ => .bad
def itNC (S : Sto) : Option Cell → R It'
  | some (.df _ kvs) => .ok (.fix (keysN kvs)) S
  | _ => .bad
def itNK : D → Sto → R It' := fun d S1 => match d with
  | .ref n => match S1[n]? with
    | some (.df w kvs) => .ok (.fix (keysN kvs)) S1
    | _ => .bad
  | _ => .bad
section
variable {fa : EF} {s : SF} {env : Lc} {S S0 : Sto} {n : Nat} {w : World} {kvs : List (NestedKey × D)}
theorem ap_fIce : fIce fa s env S = iceM s env S (fa env S) := by unfold fIce iceM iceC; rfl
theorem ap_iceM : iceM s env S (.ok (.ref n) S0) = iceC s env S n S[n]? := (rfl)
theorem ap_iceC : iceC s env S n (some (.dn w kvs)) = thawR n (s env (S.set n (.df w kvs))) := (rfl)
theorem ap_thawR {α : Type} {a : α} : thawR n (.ok a S) = thawC a S n S[n]? := by unfold thawR thawC; rfl
theorem ap_thawC {α : Type} {a : α} : thawC a S n (some (.df w kvs)) = .ok a (S.set n (.dn w kvs)) := (rfl)
theorem ap_fIterN : fIterN fa env S = (fa env S).bind itNK := (rfl)
theorem ap_itNK : itNK (.ref n) S = itNC S S[n]? := by unfold itNK itNC; rfl
theorem ap_itNC : itNC S (some (.df w kvs)) = .ok (.fix (keysN kvs)) S := (rfl)
end
end RF

/-! {k: v for x in ..} with nested tuples as keys -/
namespace RF
open PySem L2
section
variable {X : Cx} {pins : List (Addr × Obj)} {σ : St} {H : Hp} {s : Shared} {a b : Addr} {zs : List ZN} {k : NestedKey}
/-- an entry comes into the dict that a comprehension makes -/
theorem n_dictSet {v : V} {r0 : Value} {Q : Unit → Shared → Prop} {E : Value → Shared → Prop} (hu : X.A.units + 65 < cLine) (I : Inv X pins σ H s) (e : H a = some (dnO X.w a zs)) (hz : ZOk H zs) (hk : NK H k (.ref b)) (hd : k.depth ≤ 8) (hl : zs.length < sizeLine) (rv : RelV v r0)
    (h : ∀ s', Inv X pins σ (upd H a (dnO X.w a (putZ zs k b v))) s' → Q () s') : wpAny (model X.prog X.w) X.A (dictSet a (.ref b) r0) Q E s := by
  obtain ⟨q1, q2, xs, r, dd⟩ := dn_of I.hok (.inl e) hz
  have room : (nestedKind X.prog X.w).room X.A := by
    show X.A.units + 8 < cLine
    omega
  refine wpAny_dictSet_heap (hsz := by rw [← Paired.length r]; exact q2) room (k := k) ⟨nk_is I.hok hk rfl, hd⟩ dd fun h' dd' hs => h _ ?_
  have hl2 : (putZ zs k b v).length ≤ sizeLine := by have := putZ_len zs k b v; omega
  exact d_write I (by rw [e]; exact True.intro) hs (let ⟨q, _, _, hq, _⟩ := dd'; ⟨q, hq⟩) (dnO_ok q1 hl2 (zx_put r k rv) dd')
end
/-- {k: v for target in iter if ..}: dd the new dict -/
def tDcN (w : World) (wi : TI) (g : TG) (tt : TT) (tk tv : TE) (vs : List Nat) : TE := fun σ H Q => wi σ H fun J H1 => ∀ dd, H1 dd = none → ∃ ww : Nat → Nat → Hp → Prop, (∃ m, ww 0 m (upd H1 dd (dnO w dd []))) ∧ ∀ i m H, ww i m H →
  (J.stop i H ∧ Q (.ref dd) H) ∨ (J.go i H ∧ ∃ nx : Hp → Prop, (∀ H', nx H' → ∃ m', m' < m ∧ ww (i + 1) m' H') ∧ ∀ x H', J.yld i H x H' → g x (wipe σ vs) H' fun σ2 H2 => wipe σ2 vs = wipe σ vs ∧ tt σ2 H2 fun c H3 =>
    if c = true then tk σ2 H3 fun y H4 => tv σ2 H4 fun z H5 => ∃ zs k b, y = .ref b ∧ H5 dd = some (dnO w dd zs) ∧ ZOk H5 zs ∧ NK H5 k (.ref b) ∧ k.depth ≤ 8 ∧ zs.length < sizeLine ∧ nx (upd H5 dd (dnO w dd (putZ zs k b z))) else nx H3)
abbrev InBlk (X : Cx) (scope : Scope) (P : Cx → Prop) : Prop := ∀ (s : Shared) (H : Hp) (C : Addr) (cl : List (Str × Addr)) (fp : List Addr), P (X.blk s H scope (compEnvC scope cl C X.env) fp)
section
variable {X : Cx}
theorem dcn_core {pins : List (Addr × Obj)} {s : Shared} {σ : St} {H : Hp} {Q : VK} {kx vx tg iter : Expr} {ifs : List Expr} {scope : Scope} {own : List (Str × Nat)} {pos posB : Pos} {wi : TI} {g : TG} {tt : TT} {tk tv : TE} {use : Option (Value → Sem Unit)} {Qz : Value → Shared → Prop}
    (hu : X.A.units + 65 < cLine) (hc : X.calm = true) (hN : X.N.Nodup) (I : Inv X pins σ H s) (hi : PI X tg iter wi) (ok : BlkOk X.N X.env.scope scope own)
    (hg : InBlk X scope fun Y => PG Y tg g) (ht : InBlk X scope fun Y => PTs Y ifs tt) (hk : InBlk X scope fun Y => PE Y kx tk) (he : InBlk X scope fun Y => PE Y vx tv) (hs : ∀ x, PySem.foldedSetIterable iter X.env x = pure x)
    (h : tDcN X.w wi g tt tk tv (own.map (·.2)) σ H Q)
    (after : ∀ dd C s' m H', Inv X pins σ H' s' → Q (.ref dd) H' → s'.heap.Ns C m → FpOk X pins H' C → compPost (model X.prog X.w) X.A X.xe use Qz (.ref dd) C (.ok .next) s') :
    wpAny (model X.prog X.w) X.A (comprehension (.DictComp kx vx [⟨tg, iter, ifs, 0⟩] scope pos) scope X.env posB newDict false (eval iter X.env) use) Qz X.xe s := by
  have cells : ∀ y ∈ scope.names, y.2 = .free → ∃ c, X.env.cells.lookup y.1 = some c := fun y hy e => (ok.free y hy e).elim (fun z => I.ok.has _ (.inl z)) fun z => I.ok.has _ (.inr z)
  refine wpAny_comprehension_free (use := use) rfl hs (closure_ok cells) ok.kind (fun y hy e => by rw [ok.uniq y hy, e]) (thn (hi.run pins s σ H _ I h) fun _ s1 k1 => thn k1 fun _ s2 k2 => ?_)
  obtain ⟨it, ps, tn, J, H2, e, I2, tu, c2, f2, q⟩ := k2
  subst e
  refine wpAny_newObj_type (newEnv_comp ?_)
  generalize hdd : s2.heap.objs.size = dd
  have free : H2 dd = none := I2.hok.fresh (Nat.le_of_eq hdd)
  obtain ⟨ww, ⟨m0, w0⟩, go⟩ := q dd free
  generalize hsA : ({ s2 with heap := s2.heap.push { cls := .type "dict", data := .dict #[] } } : Shared) = sA
  have hp3 : sA.heap = s2.heap.push { cls := .type "dict", data := .dict #[] } := by rw [← hsA]
  generalize hH3 : upd H2 dd (dnO X.w dd []) = H3 at w0
  have I3 : Inv X pins σ H3 sA := by
    rw [← hsA, ← hH3]
    refine Inv.laid I2 (t' := s2.toks) (fun b o z => Heap.get?_push_of_some _ z) (Nat.le_of_eq hdd) ?_
    rw [← hdd]
    exact dnO_ok (P := X.prog) (beq_eq_false_iff_ne.mpr (Ne.symm (Nat.ne_of_lt I2.big))) (Nat.zero_le _) .nil (Heap.DictOfH.new _)
  have small : ∀ b ∈ ps, b < s2.heap.objs.size := fun b hb => let ⟨_, z, _⟩ := tu.obj _ _ c2 b hb; Heap.lt_size z
  have f3 : ∀ b ∈ ps, FpOk X pins H3 b ∧ b < sA.heap.objs.size := fun b hb => by
    have lt := small b hb
    refine ⟨⟨?_, (f2 b hb).2⟩, by rw [hp3, Heap.size_push]; exact Nat.lt_succ_of_lt lt⟩
    rw [← hH3, upd_ne (by rw [← hdd]; exact Nat.ne_of_lt lt)]
    exact (f2 b hb).1
  have c3 : tn 0 sA.heap := tu.keep _ _ _ c2 fun b _ o z => by rw [hp3]; exact Heap.get?_push_of_some _ z
  have IB := block_start I3 ok hN f3
  generalize hcl : cellsFrom (sA.heap.objs.size + 1) scope.names (cloFrom X.env.cells scope.names []) = cl at IB
  have pg := hg sA H3 sA.heap.objs.size cl ps
  have pt := ht sA H3 sA.heap.objs.size cl ps
  have pk := hk sA H3 sA.heap.objs.size cl ps
  have pe := he sA H3 sA.heap.objs.size cl ps
  have nps : ∀ b ∈ ps, H3 b = none := fun b hb => (f3 b hb).1.1
  show codeAny _ _ (.compStart _ 0 (.ref it) (.ref dd) (compEnvC scope cl sA.heap.objs.size X.env)) (compPost (model X.prog X.w) X.A X.xe use Qz (.ref dd) sA.heap.objs.size) { sA with heap := pushCells (sA.heap.push { cls := .type "dict", data := .dict #[] }) scope.names }
  generalize hce : compEnvC scope cl sA.heap.objs.size X.env = ce at IB pg pt pk pe ⊢
  have cLoc : ce.locals = sA.heap.objs.size := by subst hce; rfl
  generalize hsB : ({ sA with heap := pushCells (sA.heap.push { cls := .type "dict", data := .dict #[] }) scope.names } : Shared) = sB at IB ⊢
  have c4 : tn 0 sB.heap := tu.keep _ _ _ c3 fun b _ o z => by rw [← hsB]; exact pushCells_keeps _ _ _ _ (Heap.get?_push_of_some _ z)
  have stay : ∀ {τ : St} {H' : Hp} {s' : Shared}, Inv (X.blk sA H3 scope ce ps) [] τ H' s' → (∀ b ∈ ps, H' b = none) → ∀ b ∈ ps, FpOk (X.blk sA H3 scope ce ps) [] H' b := fun {τ H' s'} J' hns b hb =>
    ⟨hns b hb, (J'.ok.exf b hb).1, J'.ok.exfs b hb, .inl hb, fun x c z => (J'.ok.exf b hb).2 x c z, fun p hp => absurd (show p ∈ ([] : List (Addr × Obj)) ++ [] from hp) (by simp)⟩
  have loop : codeAny (model X.prog X.w) X.A (.compLoop (.DictComp kx vx [⟨tg, iter, ifs, 0⟩] scope pos) 0 (.ref it) (.ref dd) ce) (compPost (model X.prog X.w) X.A X.xe use Qz (.ref dd) sA.heap.objs.size) sB := by
    refine compLoop_anyD (fun n s' => ∃ i H', Inv (X.blk sA H3 scope ce ps) [] (wipe σ (own.map (·.2))) H' s' ∧ tn i s'.heap ∧ (∀ b ∈ ps, H' b = none) ∧ ww i n H') ?_ m0 ⟨0, H3, IB, c4, nps, w0⟩
    rintro n s5 ⟨i, H5, I5, c5, n5, w5⟩
    rcases go i n H5 w5 with ⟨stop, qq⟩ | ⟨on, nx, hnx, step⟩
    · refine thnF (tu.done (X.blk sA H3 scope ce ps) rfl rfl rfl hc i [] s5 _ H5 (fun _ _ => False) I5 (stay I5 n5) c5 stop) fun r s6 ⟨hr, I6⟩ => ?_
      subst hr
      have I7 : Inv X pins σ H5 s6 := I3.call' (ch := ps) I6.os I6.base I6.hok I6.bare fun b hb => let z := (f3 b hb).1.2; ⟨z.2.2.1, z.1, z.2.2.2.1, z.2.2.2.2⟩
      have free5 : H5 ce.locals = none := I6.free
      obtain ⟨m, hns, _⟩ := I6.loc
      have hns : s6.heap.Ns ce.locals m := hns
      rw [cLoc] at hns free5
      exact after dd sA.heap.objs.size s6 m H5 I7 qq hns (I3.fpOk (Nat.le_refl _) free5)
    · refine thnF (tu.item (X.blk sA H3 scope ce ps) rfl rfl rfl hc i [] s5 _ H5 (fun _ _ => False) I5 (stay I5 n5) c5 on) fun r s6 ⟨u, hr, h6⟩ => ?_
      subst hr
      refine thnF h6 fun _ s7 ⟨x, H7, I7, r7, y7, c7, n7⟩ => ?_
      refine thnF (pg.run _ s7 _ H7 x u _ (I7.pinned (stay I7 n7) (tu.obj _ _ c7)) r7 (step x H7 y7)) fun _ s8 ⟨σ8, H8, I8, hw8, q8⟩ => ?_
      refine thnF (pt.run _ s8 σ8 H8 _ I8 q8) fun c s9 ⟨H9, I9, qc⟩ => ?_
      have fin : ∀ {s' : Shared} {H' : Hp}, Inv (X.blk sA H3 scope ce ps) ([] ++ pinsAt ps s7.heap) σ8 H' s' → nx H' → ∃ m, m < n ∧ ∃ i H', Inv (X.blk sA H3 scope ce ps) [] (wipe σ (own.map (·.2))) H' s' ∧ tn i s'.heap ∧ (∀ b ∈ ps, H' b = none) ∧ ww i m H' := fun {s' H'} J' z => by
        obtain ⟨m', hm, w'⟩ := hnx H' z
        have pin : ∀ b ∈ ps, ∀ o, s7.heap.get? b = some o → s'.heap.get? b = some o ∧ H' b = none := fun b hb o e =>
          have z := J'.pin (b, o) (List.mem_append_right _ (List.mem_append_right _ (mem_pinsAt hb e)))
          ⟨z.1, z.2.1⟩
        have hlen : (wipe σ (own.map (·.2))).length = σ8.length := by rw [← hw8, wipe_length]
        refine ⟨m', hm, i + 1, H', (J'.unpinned (pins := [])).weak hlen (fun j v e => by rw [← hw8] at e; exact (wipe_some e).1), tu.keep _ _ _ c7 fun b hb o e => (pin b hb o e).1, fun b hb => ?_, w'⟩
        obtain ⟨o, e, _⟩ := tu.obj _ _ c7 b hb
        exact (pin b hb o e).2
      cases c with
      | false =>
        simp only [Bool.false_eq_true, if_false] at qc ⊢
        exact fin I9 qc
      | true =>
        simp only [if_true] at qc ⊢
        refine thnF (pk.run _ s9 σ8 H9 _ I9 qc) fun z s10 ⟨ky, H10, I10, r10, qd⟩ => ?_
        refine thnF (pe.run _ s10 σ8 H10 _ I10 qd) fun z2 s11 ⟨yv, H11, I11, r11, zs, k, b, ek, d11, z11, k11, k12, l11, last⟩ => ?_
        subst ek
        obtain rfl : z = Value.ref b := r10
        exact n_dictSet (X := X.blk sA H3 scope ce ps) hu I11 d11 z11 k11 k12 l11 r11 fun s12 I12 => fin I12 last
  exact codeAny_compStart_dict loop (tu.self X.A 0 _ _ _ c4 loop)
end
section
variable {X : Cx} {kx vx tg iter : Expr} {ifs : List Expr} {scope : Scope} {own : List (Str × Nat)} {pos : Pos} {wi : TI} {g : TG} {tt : TT} {tk tv : TE}
theorem pe_dcN (hu : X.A.units + 65 < cLine) (hc : X.calm = true) (hN : X.N.Nodup) (hi : PI X tg iter wi) (ok : BlkOk X.N X.env.scope scope own)
    (hg : InBlk X scope fun Y => PG Y tg g) (ht : InBlk X scope fun Y => PTs Y ifs tt) (hk : InBlk X scope fun Y => PE Y kx tk) (he : InBlk X scope fun Y => PE Y vx tv) (hs : ∀ x, PySem.foldedSetIterable iter X.env x = pure x := by intro _; rfl) :
    PE X (.DictComp kx vx [⟨tg, iter, ifs, 0⟩] scope pos) (tDcN X.w wi g tt tk tv (own.map (·.2))) := by
  refine ⟨fun pins s σ H Q I h => ?_⟩
  rw [arm_eval_DictComp]
  refine dcn_core hu hc hN I hi ok hg ht hk he hs h fun dd C s' m H' J q hn f => ⟨m, hn, fun h'' sb => ?_⟩
  obtain ⟨g0, g1, g2, g3, g4, g5⟩ := f
  exact ⟨.ref dd, H', J.turned (t' := s'.toks) (fun b o hb z => (sb.2 b hb).trans z) g0 g1 g3 g4 g5, rfl, q⟩
theorem sw_trueD {gs : List Comprehension} {py : Pos} {y : Str} {l : Nat} {env : Env} (hk : env.scope.kind = .function) (hy : env.scope.names.lookup y = some .local) (hl : (py.line == pos.line) = true)
    (ha : (scope.names.any fun (n, k) => n == y && (k == .local || k == .cell)) = false) : swapsWith (.DictComp kx vx gs scope pos) (some (.Name y py)) l env = pure true := by
  have k1 : env.kindOf y = some .local := hy
  have k2 : env.blockKind = .function := by unfold Env.blockKind; rw [hk]; rfl
  unfold swapsWith
  simp only [k2, k1, ha, Expr.pos, hl]
  rfl
/-- name = {..} on one line, the name a local -/
theorem ps_setDcN {i : Nat} {y : Str} {py spos : Pos} (hu : X.A.units + 65 < cLine) (hc : X.calm = true) (hN : X.N.Nodup) (hy : X.N[i]? = some y) (hyl : X.env.scope.names.lookup y = some .local)
    (hsw : swapsWith (.DictComp kx vx [⟨tg, iter, ifs, 0⟩] scope pos) (some (.Name y py)) spos.line X.env = pure true) (hi : PI X tg iter wi) (ok : BlkOk X.N X.env.scope scope own)
    (hg : InBlk X scope fun Y => PG Y tg g) (ht : InBlk X scope fun Y => PTs Y ifs tt) (hk : InBlk X scope fun Y => PE Y kx tk) (he : InBlk X scope fun Y => PE Y vx tv) (hs : ∀ x, PySem.foldedSetIterable iter X.env x = pure x := by intro _; rfl) :
    PS X (.Assign [.Name y py] (.DictComp kx vx [⟨tg, iter, ifs, 0⟩] scope pos) spos) (tAsg (tDcN X.w wi g tt tk tv (own.map (·.2))) (gName i)) := by
  refine ⟨fun pins s σ H D I h => ?_⟩; rw [exec_Assign_Name_used (hs := hsw)]; refine wpAny_bind (wpAny_standAt (wpAny_bind ?_))
  show wpAny _ X.A (do let _ ← comprehension (.DictComp kx vx [⟨tg, iter, ifs, 0⟩] scope pos) scope X.env (firstIterPos [⟨tg, iter, ifs, 0⟩] pos) newDict false (eval iter X.env) (some (assign (.Name y py) X.env))) _ _ s
  have h : tDcN X.w wi g tt tk tv (own.map (·.2)) σ H (fun x H1 => gName i x σ H1 D.nx) := h
  refine wpAny_bind (thn (dcn_core (Qz := fun _ s' => SP X pins D .next s') hu hc hN I hi ok hg ht hk he hs h fun dd C s' m H' J q hn f => ?_) fun _ _ hq => wpAny_pure (wpAny_pure hq))
  show wpAny _ _ (assign (.Name y py) X.env (.ref dd)) _ _ _
  refine wpAny_assign_Name (store_ok2 (v := V.ref dd) J hN hy (.inl hyl) rfl (fun s2 J2 ⟨a, sb, ha⟩ => ?_) (.inr hyl))
  obtain ⟨g0, g1, g2, g3, g4, g5⟩ := f
  have ne : C ≠ a := ha.elim (fun z => by rw [z]; exact g1) fun z e => g4 y a z e.symm
  exact ⟨m, hn.sameBut sb ne, fun h3 sb3 => ⟨_, H', J2.turned (t' := s2.toks) (fun b o hb z => (sb3.2 b hb).trans z) g0 g1 g3 g4 g5, q⟩⟩
end
/-! functions -/
def dcK (ft : BF) (fk fv : EF) (ee : Lc) (acc : List (NestedKey × D)) (next : List (NestedKey × D) → Sto → R D) : Sto → R D := fun S => (ft ee S).nox.bind fun b S1 => if b = true then ((fk ee S1).nox.bind fun y S2 => (fv ee S2).nox.bind fun z S3 => match keyT y with
    | some k => if acc.length < 100000 then next (putKD acc k z) S3 else .bad
    | none => .bad) else next acc S1
def compXD (w : World) (i : Nat) (ft : BF) (fk fv : EF) (env : Lc) : List D → List (NestedKey × D) → Sto → R D
  | [], acc, S => .ok (.ref S.length) (S ++ [.dn w acc])
  | d :: xs, acc, S => dcK ft fk fv (env.set i (some d)) acc (compXD w i ft fk fv env xs) S
def compLD (w : World) (n i : Nat) (ft : BF) (fk fv : EF) (env : Lc) : List D → Nat → List (NestedKey × D) → Sto → R D
  | [], j, acc, S => match S[n]? with
    | some (.lst ys) => if ys.length ≤ j then .ok (.ref S.length) (S ++ [.dn w acc]) else .bad
    | _ => .bad
  | _ :: xs, j, acc, S => match S[n]? with
    | some (.lst ys) => match ys[j]? with
      | none => .ok (.ref S.length) (S ++ [.dn w acc])
      | some d => dcK ft fk fv (env.set i (some d)) acc (compLD w n i ft fk fv env xs (j + 1)) S
    | _ => .bad
def fDComp (w : World) (fi : IF) (i : Nat) (ft : BF) (fk fv : EF) : EF := fun env S => (fi env S).bind fun it S1 => match it with
  | .fix xs => compXD w i ft fk fv (env.set i none) xs [] S1
  | .live n xs => compLD w n i ft fk fv (env.set i none) xs 0 [] S1
section
variable {K : PySem.W.Frag} {L L1 : List Addr} {H H1 : Hp} {S S1 : Sto} {E : XK}
theorem Rep.adoptC {D : Addr} {c : Cell} (r : Rep K L H S) (hn : D ∉ L) (hc : RC K (L ++ [D]) H D c) : Rep K (L ++ [D]) H (S ++ [c]) := by
  have gr : Gr L H (L ++ [D]) H := ⟨fun n a h => by rw [List.getElem?_append_left (List.getElem?_eq_some_iff.mp h).1]; exact h, fun _ _ h => h, fun _ _ _ h => h⟩
  refine ⟨by rw [List.length_append, List.length_append, r.len]; rfl, ?_, fun n b c' h1 h2 => ?_⟩
  · rw [List.nodup_append]
    refine ⟨r.nd, by simp, fun b hb d hd e => ?_⟩
    rw [List.mem_singleton] at hd
    subst hd; subst e
    exact hn hb
  · by_cases hl : n < L.length
    · rw [List.getElem?_append_left hl] at h1
      rw [List.getElem?_append_left (by rw [← r.len]; exact hl)] at h2
      exact (r.cel n b c' h1 h2).grow gr rfl
    · rw [List.getElem?_append_right (Nat.le_of_not_lt hl)] at h1
      rw [List.getElem?_append_right (by rw [← r.len]; exact Nat.le_of_not_lt hl)] at h2
      rw [← r.len] at h2
      have e : n - L.length = 0 := by
        have := (List.getElem?_eq_some_iff.mp h1).1
        simp at this; omega
      rw [e] at h1 h2
      simp at h1 h2
      subst h1; subst h2
      exact hc
theorem adoptN_val {D : Addr} {w : World} {zs : List ZN} {acc : List (NestedKey × D')} {L0 : List Addr} {H0 : Hp} {Q : VK} (h : EndV K E L0 H0 Q (.ok (.ref S.length) (S ++ [.dn w acc]))) (r : Rep K L H S) (hD : H D = some (dnO w D zs)) (hn : D ∉ L) (hf : H0 D = none) (ex : Ex L0 H0 L H) (rd : RN K L H zs acc) : Q (.ref D) H := by
  have gr : Gr L H (L ++ [D]) H := ⟨fun n a h => by rw [List.getElem?_append_left (List.getElem?_eq_some_iff.mp h).1]; exact h, fun _ _ h => h, fun _ _ _ h => h⟩
  refine h (L ++ [D]) H ⟨fun n a q => ?_, fun a q => ?_, ex.fr, ex.tp, ex.fz⟩ (r.adoptC hn ⟨zs, hD, rd.grow gr⟩) _ (.ref ?_)
  · rw [List.getElem?_append_left (List.getElem?_eq_some_iff.mp (ex.px n a q)).1]; exact ex.px n a q
  · rcases List.mem_append.mp q with q | q
    · exact ex.nw a q
    · rw [List.mem_singleton.mp q]; exact .inr hf
  · rw [← r.len, List.getElem?_append_right (Nat.le_refl _)]; simp
end
section
variable {X : Cx} {E : XK} {tg l iter kx vx : Expr} {fk fv : EF} {ft : BF} {fi : IF} {pos : Pos}
theorem dcomp_of {K : PySem.W.Frag} {w : World} {i : Nat} {σ : St} {H : Hp} {Q : VK} (h : tE K E (fDComp w fi i ft fk fv) σ H Q) : tDcN w (tI K E fi) (gName i) (tT K E0' ft) (tE K E0' fk) (tE K E0' fv) [i] σ H Q := by
  obtain ⟨L, env, S, rep, re, h⟩ := h
  refine ⟨L, env, S, rep, re, (End.bind h).imp fun it S1 L1 H1 e1 rep1 h1 J hJ D hD => ?_⟩
  have re1 := (re.mono e1).wipe i
  have exD : Ex L1 H1 L1 (upd H1 D (dnO w D [])) := Ex.new hD
  have nD : D ∉ L1 := rep1.fresh hD
  have turn : ∀ {fin : List (NestedKey × D') → Sto → R D'} {Nx : Hp → Prop} {L2 : List Addr} {H2 : Hp} {S2 : Sto} {d : D'} {x : V} {H3 : Hp} {acc : List (NestedKey × D')} {zs : List ZN}, Ex L1 H1 L2 H2 → Rep K L2 H2 S2 → D ∉ L2 → H2 D = some (dnO w D zs) → RN K L2 H2 zs acc →
      Ex L2 H2 L2 H3 → Rep K L2 H3 S2 → RD K L2 H3 x d →
      (∀ {L4 : List Addr} {H4 : Hp} {S4 : Sto} {ws : List ZN} {acc2 : List (NestedKey × D')}, Ex L1 H1 L4 H4 → Rep K L4 H4 S4 → D ∉ L4 → H4 D = some (dnO w D ws) → RN K L4 H4 ws acc2 → EndV K E L1 H1 Q (fin acc2 S4) → Nx H4) →
      EndV K E L1 H1 Q (dcK ft fk fv ((env.set i none).set i (some d)) acc fin S2) →
      gName i x (wipe σ [i]) H3 fun σ2 H2 => wipe σ2 [i] = wipe σ [i] ∧ (tT K E0' ft) σ2 H2 fun b H3 =>
        if b = true then (tE K E0' fk) σ2 H3 fun y H4 => (tE K E0' fv) σ2 H4 fun z H5 => ∃ zs k b, y = .ref b ∧ H5 D = some (dnO w D zs) ∧ ZOk H5 zs ∧ NK H5 k (.ref b) ∧ k.depth ≤ 8 ∧ zs.length < sizeLine ∧ Nx (upd H5 D (dnO w D (putZ zs k b z))) else Nx H3 := by
    intro fin Nx L2 H2 S2 d x H3 acc zs e2 rep2 n2 hD2 rd2 e3 rep3 rx hN hq
    refine ⟨wipe_set, ?_⟩
    have re3 : RE K L2 H3 ((wipe σ [i]).set i (some x)) ((env.set i none).set i (some d)) := ((re1.mono e2).mono e3).set rx
    obtain ⟨n3, hD3⟩ := e3.outside n2 hD2
    unfold dcK at hq
    refine ⟨L2, _, S2, rep3, re3, (End.keep hq).imp fun b S4 L4 H4 e4 rep4 q4 => ?_⟩
    obtain ⟨n4, hD4⟩ := e4.outside n3 hD3
    cases b with
    | false => exact iteF (hN ((e2.trans e3).trans e4) rep4 n4 hD4 ((rd2.grow e3.gr).grow e4.gr) q4)
    | true =>
      refine iteT ⟨L4, _, S4, rep4, re3.mono e4, (End.keep q4).imp fun y S5 L5 H5 e5 rep5 q5 v rv => ⟨L5, _, S5, rep5, (re3.mono e4).mono e5, (End.keep q5).imp fun z S6 L6 H6 e6 rep6 q6 u ru => ?_⟩⟩
      obtain ⟨n5, hD5⟩ := e5.outside n4 hD4
      obtain ⟨n6, hD6⟩ := e6.outside n5 hD5
      cases hk : keyT y with
      | none => rw [hk] at q6; exact q6.elim
      | some k =>
        rw [hk] at q6
        obtain ⟨b, rfl, k1, k2⟩ := (rv.mono e6).keyt hk
        simp only at q6
        by_cases hl : acc.length < 100000
        · rw [if_pos hl] at q6
          have rl : zs.length = acc.length := rd2.length
          have rn6 := (((rd2.grow e3.gr).grow e4.gr).grow e5.gr).grow e6.gr
          have gr : Gr L6 H6 L6 (upd H6 D (dnO w D (putZ zs k b u))) := Gr.out hD6 (fun _ z => nomatch z) (fun _ _ z => nomatch z)
          refine ⟨zs, k, b, rfl, hD6, rn6.zok, k1, k2, by rw [rl]; exact sz5l hl, ?_⟩
          exact hN (Ex.out ((((e2.trans e3).trans e4).trans e5).trans e6) hD hD6) (rep6.out n6 hD6 (fun _ z => nomatch z) (fun _ _ z => nomatch z)) n6 upd_same ((rn6.put ⟨k1, k2⟩ ru).grow gr) q6
        · rw [if_neg hl] at q6; exact q6.elim
  cases it with
  | fix xs =>
    refine ⟨fun j m H => m = xs.length - j ∧ j ≤ xs.length ∧ ∃ L2 S2 acc vs, Ex L1 H1 L2 H ∧ Rep K L2 H S2 ∧ D ∉ L2 ∧ H D = some (dnO w D vs) ∧ RN K L2 H vs acc ∧ EndV K E L1 H1 Q (compXD w i ft fk fv (env.set i none) (xs.drop j) acc S2),
      ⟨xs.length, by simp, Nat.zero_le _, L1, S1, [], [], exD, rep1.new hD, nD, upd_same, trivial, h1⟩, ?_⟩
    rintro j m H2 ⟨rfl, hj, L2, S2, acc, vs, e2, rep2, n2, hD2, rd2, h2⟩
    have ok := hJ j L2 H2 S2 e2 rep2
    by_cases hlt : j < xs.length
    · have hd : xs[j]? = some xs[j] := List.getElem?_eq_getElem hlt
      obtain ⟨hgo, hy⟩ := ok.1 _ hd
      rw [List.drop_eq_getElem_cons hlt] at h2
      refine .inr ⟨hgo, fun H3 => ∃ L2 S2 acc vs, Ex L1 H1 L2 H3 ∧ Rep K L2 H3 S2 ∧ D ∉ L2 ∧ H3 D = some (dnO w D vs) ∧ RN K L2 H3 vs acc ∧ EndV K E L1 H1 Q (compXD w i ft fk fv (env.set i none) (xs.drop (j + 1)) acc S2),
        fun H3 q => ⟨_, by omega, rfl, hlt, q⟩, fun x H3 y => ?_⟩
      obtain ⟨e3, rep3, rx⟩ := hy x H3 y
      exact turn (fin := fun a s => compXD w i ft fk fv (env.set i none) (xs.drop (j + 1)) a s) e2 rep2 n2 hD2 rd2 e3 rep3 rx (fun q1 q2 q3 q4 q5 q6 => ⟨_, _, _, _, q1, q2, q3, q4, q5, q6⟩) h2
    · refine .inl ⟨ok.2 (by omega), ?_⟩
      rw [List.drop_eq_nil_of_le (by omega)] at h2
      exact adoptN_val h2 rep2 hD2 n2 hD e2 rd2
  | live n xs =>
    refine ⟨fun j m H => ∃ rest L2 S2 acc vs, m = List.length rest ∧ Ex L1 H1 L2 H ∧ Rep K L2 H S2 ∧ D ∉ L2 ∧ H D = some (dnO w D vs) ∧ RN K L2 H vs acc ∧ EndV K E L1 H1 Q (compLD w n i ft fk fv (env.set i none) rest j acc S2),
      ⟨xs.length, xs, L1, S1, [], [], rfl, exD, rep1.new hD, nD, upd_same, trivial, h1⟩, ?_⟩
    rintro j m H2 ⟨rest, L2, S2, acc, vs, rfl, e2, rep2, n2, hD2, rd2, h2⟩
    cases rest with
    | nil =>
      unfold compLD at h2
      cases q : S2[n]? with
      | none => rw [q] at h2; exact h2.elim
      | some c =>
        cases c with
        | lst ys =>
          rw [q] at h2
          simp only at h2
          by_cases hl : ys.length ≤ j
          · rw [if_pos hl] at h2
            exact .inl ⟨(hJ j L2 H2 S2 ys e2 rep2 q).2 hl, adoptN_val h2 rep2 hD2 n2 hD e2 rd2⟩
          · rw [if_neg hl] at h2; exact h2.elim
        | _ => rw [q] at h2; exact h2.elim
    | cons r0 rest =>
      unfold compLD at h2
      cases q : S2[n]? with
      | none => rw [q] at h2; exact h2.elim
      | some c =>
        cases c with
        | lst ys =>
          rw [q] at h2
          simp only at h2
          cases hd : ys[j]? with
          | none =>
            rw [hd] at h2
            exact .inl ⟨(hJ j L2 H2 S2 ys e2 rep2 q).2 (List.getElem?_eq_none_iff.mp hd), adoptN_val h2 rep2 hD2 n2 hD e2 rd2⟩
          | some d =>
            rw [hd] at h2
            simp only at h2
            obtain ⟨hgo, hy⟩ := (hJ j L2 H2 S2 ys e2 rep2 q).1 _ hd
            refine .inr ⟨hgo, fun H3 => ∃ L2 S2 acc vs, Ex L1 H1 L2 H3 ∧ Rep K L2 H3 S2 ∧ D ∉ L2 ∧ H3 D = some (dnO w D vs) ∧ RN K L2 H3 vs acc ∧ EndV K E L1 H1 Q (compLD w n i ft fk fv (env.set i none) rest (j + 1) acc S2),
              fun H3 ⟨q0, q1, q2, q3, q4⟩ => ⟨_, by simp, rest, q0, q1, q2, q3, rfl, q4⟩, fun x H3 y => ?_⟩
            obtain ⟨e3, rep3, rx⟩ := hy x H3 y
            exact turn (fin := fun a s => compLD w n i ft fk fv (env.set i none) rest (j + 1) a s) e2 rep2 n2 hD2 rd2 e3 rep3 rx (fun q1 q2 q3 q4 q5 q6 => ⟨_, _, _, _, q1, q2, q3, q4, q5, q6⟩) h2
        | _ => rw [q] at h2; exact h2.elim
theorem xDComp {x : Str} {i : Nat} {px : Pos} {ifs : List Expr} {scope : Scope} (hu : X.A.units + 65 < cLine) (hc : X.calm = true) (hN : X.N.Nodup) (hi : PI X (.Name x px) iter (tI X.K E fi)) (ok : BlkOk X.N X.env.scope scope [(x, i)])
    (hg : InBlk X scope fun Y => PG Y (.Name x px) (gName i)) (ht : InBlk X scope fun Y => PTs Y ifs (tT X.K E0' ft)) (hk : InBlk X scope fun Y => PE Y kx (tE X.K E0' fk)) (he : InBlk X scope fun Y => PE Y vx (tE X.K E0' fv)) (hs : ∀ x, PySem.foldedSetIterable iter X.env x = pure x := by intro _; rfl) :
    PE X (.DictComp kx vx [⟨.Name x px, iter, ifs, 0⟩] scope pos) (tE X.K E (fDComp X.w fi i ft fk fv)) :=
  monoE (pe_dcN (own := [(x, i)]) hu hc hN hi ok hg ht hk he hs) fun σ H Q h => dcomp_of h
theorem xSetDComp {x y : Str} {i j : Nat} {px py spos : Pos} {ifs : List Expr} {scope : Scope} (hu : X.A.units + 65 < cLine) (hc : X.calm = true) (hN : X.N.Nodup) (hy : X.N[j]? = some y) (hyl : X.env.scope.names.lookup y = some .local)
    (hsw : swapsWith (.DictComp kx vx [⟨.Name x px, iter, ifs, 0⟩] scope pos) (some (.Name y py)) spos.line X.env = pure true) (hi : PI X (.Name x px) iter (tI X.K E fi)) (ok : BlkOk X.N X.env.scope scope [(x, i)])
    (hg : InBlk X scope fun Y => PG Y (.Name x px) (gName i)) (ht : InBlk X scope fun Y => PTs Y ifs (tT X.K E0' ft)) (hk : InBlk X scope fun Y => PE Y kx (tE X.K E0' fk)) (he : InBlk X scope fun Y => PE Y vx (tE X.K E0' fv)) (hs : ∀ x, PySem.foldedSetIterable iter X.env x = pure x := by intro _; rfl) :
    PS X (.Assign [.Name y py] (.DictComp kx vx [⟨.Name x px, iter, ifs, 0⟩] scope pos) spos) (tS X.K E (fAsg (fDComp X.w fi i ft fk fv) (gN j))) :=
  monoS (ps_setDcN (own := [(x, i)]) hu hc hN hy hyl hsw hi ok hg ht hk he hs) fun D σ H h => by
    obtain ⟨L, env, S, rep, re, h⟩ := h
    refine dcomp_of ⟨L, env, S, rep, re, (End.bind h).imp fun d S1 L1 H1 e1 rep1 h1 v rv => ?_⟩
    exact h1 L1 H1 (Ex.refl _ _) rep1 _ ((re.mono e1).set rv)
end
end RF
namespace RF
open PySem L2
/-! rewriting -/
section
variable {w : World} {i n j : Nat} {ft : BF} {fk fv : EF} {fi : IF} {env ee : Lc} {S : Sto} {d y : D} {xs ys : List D} {acc : List (NestedKey × D)} {k : NestedKey} {next : List (NestedKey × D) → Sto → R D}
def dcFK (w : World) (i : Nat) (ft : BF) (fk fv : EF) (env : Lc) : It' → Sto → R D := fun it S1 => match it with
  | .fix xs => compXD w i ft fk fv (env.set i none) xs [] S1
  | .live n xs => compLD w n i ft fk fv (env.set i none) xs 0 [] S1
theorem ap_fDComp : fDComp w fi i ft fk fv env S = (fi env S).bind (dcFK w i ft fk fv env) := (rfl)
theorem ap_dcFK_fix : dcFK w i ft fk fv env (.fix xs) S = compXD w i ft fk fv (env.set i none) xs [] S := (rfl)
theorem ap_dcFK_live : dcFK w i ft fk fv env (.live n xs) S = compLD w n i ft fk fv (env.set i none) xs 0 [] S := (rfl)
/-- a comprehension over items that make key and value and leave the store -/
theorem dcompX_map {f : D → NestedKey} {h : D → D} {e : D → D} (hf : ∀ d ∈ xs, fk (env.set i (some d)) S = .ok (e d) S ∧ keyT (e d) = some (f d) ∧ fv (env.set i (some d)) S = .ok (h d) S) (hl : acc.length + xs.length ≤ 100000) :
    compXD w i fYes fk fv env xs acc S = .ok (.ref S.length) (S ++ [.dn w (xs.foldl (fun a d => putKD a (f d) (h d)) acc)]) := by
  induction xs generalizing acc with
  | nil => rfl
  | cons x xs ih =>
    rw [List.length_cons] at hl
    obtain ⟨h1, h2, h3⟩ := hf x (List.mem_cons_self ..)
    have hp : (putKD acc (f x) (h x)).length ≤ acc.length + 1 := by
      unfold putKD
      split
      · rw [List.length_map]; omega
      · rw [List.length_append]; exact Nat.le_refl _
    show dcK fYes fk fv (env.set i (some x)) acc (compXD w i fYes fk fv env xs) S = _
    unfold dcK
    rw [show fYes (env.set i (some x)) S = .ok true S from rfl]
    simp only [R.nox_ok, R.bind_ok, if_true]
    rw [h1]
    simp only [R.nox_ok, R.bind_ok]
    rw [h3]
    simp only [R.nox_ok, R.bind_ok]
    rw [h2]
    simp only
    rw [if_pos (by omega), ih (fun d hd => hf d (List.mem_cons_of_mem _ hd)) (by omega), List.foldl_cons]
theorem dcompL_map {f : D → NestedKey} {h : D → D} {e : D → D} (hn : S[n]? = some (.lst ys)) (hf : ∀ d ∈ ys, fk (env.set i (some d)) S = .ok (e d) S ∧ keyT (e d) = some (f d) ∧ fv (env.set i (some d)) S = .ok (h d) S) :
    ∀ (r j : Nat) (xs : List D) (acc : List (NestedKey × D)), r = ys.length - j → xs.length = r → acc.length + r ≤ 100000 → compLD w n i fYes fk fv env xs j acc S = .ok (.ref S.length) (S ++ [.dn w ((ys.drop j).foldl (fun a d => putKD a (f d) (h d)) acc)])
  | 0, j, xs, acc, hr, hx, hl => by
    have hx : xs = [] := List.length_eq_zero_iff.mp hx
    subst hx
    unfold compLD
    rw [hn]
    simp only
    rw [if_pos (by omega), List.drop_eq_nil_of_le (by omega)]
    rfl
  | r + 1, j, [], acc, hr, hx, hl => by simp at hx
  | r + 1, j, x :: xs, acc, hr, hx, hl => by
    have hj : j < ys.length := by omega
    obtain ⟨h1, h2, h3⟩ := hf ys[j] (List.getElem_mem hj)
    have hp : (putKD acc (f ys[j]) (h ys[j])).length ≤ acc.length + 1 := by
      unfold putKD
      split
      · rw [List.length_map]; omega
      · rw [List.length_append]; exact Nat.le_refl _
    unfold compLD
    rw [hn]
    simp only
    rw [List.getElem?_eq_getElem hj]
    simp only
    unfold dcK
    rw [show fYes (env.set i (some ys[j])) S = .ok true S from rfl]
    simp only [R.nox_ok, R.bind_ok, if_true]
    rw [h1]
    simp only [R.nox_ok, R.bind_ok]
    rw [h3]
    simp only [R.nox_ok, R.bind_ok]
    rw [h2]
    simp only
    have hx' : xs.length = r := by simpa using hx
    rw [if_pos (by omega), dcompL_map hn hf r (j + 1) xs _ (by omega) hx' (by omega), List.drop_eq_getElem_cons hj, List.foldl_cons]
end
end RF

/-! len of dicts with nested keys; tuples whose object is known: tuple(list), == with them, dict(t) of pairs -/
namespace RF
open PySem L2
def rLenN : List V → Hp → VK → Prop := fun xs H Q => ∃ a w zs, xs = [V.ref a] ∧ Rd H a (dnO w a zs) ∧ ZOk H zs ∧ Q (.int ((zs.length : Nat) : Int)) H
section
variable {X : Cx}
end
def oLenN : OpN := fun ds S => match ds with
  | [.ref n] => match S[n]? with
    | some (.dn _ kvs) => .ok (.int (kvs.length : Nat)) S
    | some (.df _ kvs) => .ok (.int (kvs.length : Nat)) S
    | _ => oLen [.ref n] S
  | ds => oLen ds S
section
variable {K : PySem.W.Frag} {E : XK}
end
/-! a tuple as a cell -/
/-- what a value reads as, whatever tells of it -/
def RdX (X : Cx) (H : Hp) (v : V) (p : PyData) : Prop := ∀ {pins : List (Addr × Obj)} {σ : St} {s : Shared} {u : Value}, Inv X pins σ H s → RelV v u → ∃ as, Reads s.heap u p as
def RdXs (X : Cx) (H : Hp) (vs : List V) (ps : List PyData) : Prop := ∀ {pins : List (Addr × Obj)} {σ : St} {s : Shared} {us : List Value}, Inv X pins σ H s → Vals vs us → ∃ as, ReadsAll s.heap us ps as
def toPX (S : Sto) : Nat → D → Option PyData
  | 0, d => leafP d
  | k + 1, d => match d with
    | .tup xs => (xs.mapM (toPX S k)).map .tuple
    | .ref n => match S[n]? with
      | some (.tp xs) => (xs.mapM (toPX S k)).map .tuple
      | _ => none
    | d => leafP d
section
variable {X : Cx} {L : List Addr} {H : Hp} {S : Sto}
theorem RdX.of {v : V} {p : PyData} (h : Dp X.K H v p) : RdX X H v p := fun I r => Dp.reads I p v _ h r
def rNeX (X : Cx) : R2 := fun x y H Q => ∃ d e, RdX X H x d ∧ RdX X H y e ∧ SeqAt.shaped d = true ∧ SeqAt.shaped e = true ∧ Q (.bl (!PyData.eqv d e)) H
end
def oNeX : Op2 := fun x y S => match toPX S 20 x, toPX S 20 y with
  | some p, some q => .ok (.bl (!PyData.eqv p q)) S
  | _, _ => .bad
/-! tuple(list), its object known -/
def rTupX (K : PySem.W.Frag) : List V → Hp → VK → Prop := fun xs H Q => ∃ p ys, xs = [V.ref p] ∧ SqL K H p ys ∧ ∀ l, H l = none → Q (.ref l) (upd H l (tpO l ys))
def oTupX : OpN := fun ds S => match ds with
  | [.ref n] => match S[n]? with
    | some (.lst xs) => .ok (.ref S.length) (S ++ [.tp xs])
    | _ => .bad
  | _ => .bad
/-! dict(t), t such a tuple of pairs whose keys are nested tuples -/
def PairZ (H : Hp) (v : V) (z : ZN) : Prop := ∃ t, v = V.ref t ∧ H t = some (.tup [V.ref z.2.1, z.2.2]) ∧ NK H z.1 (.ref z.2.1) ∧ z.1.depth ≤ 8
def putZs (zs : List ZN) : List ZN := zs.foldl (fun a z => putZ a z.1 z.2.1 z.2.2) []
def rDictX (w : World) : List V → Hp → VK → Prop := fun xs H Q => ∃ (a : Addr) (vs : List V) (zs : List ZN), xs = [V.ref a] ∧ H a = some (tpO a vs) ∧ Paired (PairZ H) vs zs ∧ ∀ p, H p = none → Q (.ref p) (upd H p (dnO w p (putZs zs)))
def tsOf (vs : List V) (j : Nat) : Addr := match vs[j]? with
  | some (.ref t) => t
  | _ => 0
/-- the pairs of data -/
def pairKs : List D → Option (List (NestedKey × D))
  | [] => some []
  | .tup [k, v] :: ds => match keyT k with
    | some n => (pairKs ds).map ((n, v) :: ·)
    | none => none
  | _ => none
def putKs (kvs : List (NestedKey × D)) : List (NestedKey × D) := kvs.foldl (fun a z => putKD a z.1 z.2) []
def oDictX (w : World) : OpN := fun ds S => match ds with
  | [.ref n] => match S[n]? with
    | some (.tp xs) => match pairKs xs with
      | some kvs => .ok (.ref S.length) (S ++ [.dn w (putKs kvs)])
      | none => .bad
    | _ => .bad
  | _ => .bad
section
variable {K : PySem.W.Frag} {E : XK} {L : List Addr} {H : Hp}
end
/-! rewriting -/
def lenNC (S : Sto) (n : Nat) : Option Cell → R D
  | some (.dn _ kvs) => .ok (.int (kvs.length : Nat)) S
  | some (.df _ kvs) => .ok (.int (kvs.length : Nat)) S
  | _ => oLen [.ref n] S
def tupXC (S : Sto) : Option Cell → R D
  | some (.lst xs) => .ok (.ref S.length) (S ++ [.tp xs])
  | _ => .bad
def dictXC (w : World) (S : Sto) : Option Cell → R D
  | some (.tp xs) => match pairKs xs with
    | some kvs => .ok (.ref S.length) (S ++ [.dn w (putKs kvs)])
    | none => .bad
  | _ => .bad
section
variable {w : World} {S : Sto} {n : Nat} {kvs : List (NestedKey × D)} {xs : List D} {x y : D}
end
theorem sw_cellD {kx vx : Expr} {gs : List Comprehension} {scope : Scope} {pos py : Pos} {y : Str} {l : Nat} {env : Env} (hy : env.scope.names.lookup y = some .cell) : swapsWith (.DictComp kx vx gs scope pos) (some (.Name y py)) l env = pure false := by
  have k1 : env.kindOf y = some .cell := hy
  unfold swapsWith
  simp only [k1]
  cases (env.blockKind == .function) <;> rfl
end RF

/-! trips and their plain model in the store -/
namespace RF
open PySem L2
section
variable {C : Addr} {x : D} {n : Nat} {S : Sto} {d0 d1 d2 d3 d4 d5 d6 d7 d8 d9 d10 : D}
def trf (d0 d1 d2 d3 d4 d5 d6 d7 d8 d9 d10 : D) : List (Str × D) := [(⟨#[116, 114, 97, 110, 115, 97, 99, 116, 105, 111, 110]⟩, d0), (⟨#[112, 114, 111, 103, 114, 97, 109]⟩, d1), (⟨#[97, 116, 116, 101, 109, 112, 116]⟩, d2), (⟨#[95, 111, 117, 116, 99, 111, 109, 101]⟩, d3), (⟨#[95, 101, 110, 100, 101, 100]⟩, d4), (⟨#[95, 107, 101, 121, 115]⟩, d5), (⟨#[95, 118, 97, 108, 117, 101, 115]⟩, d6), (⟨#[95, 109, 97, 114, 107, 115]⟩, d7), (⟨#[95, 104, 111, 108, 100, 101, 114]⟩, d8), (⟨#[95, 102, 114, 101, 101, 100, 95, 107, 101, 121, 115]⟩, d9), (⟨#[95, 102, 105, 110, 105, 115, 104, 101, 100, 95, 107, 101, 121, 115]⟩, d10)]
def trc (C : Addr) (d0 d1 d2 d3 d4 d5 d6 d7 d8 d9 d10 : D) : Cell := .ins C (trf d0 d1 d2 d3 d4 d5 d6 d7 d8 d9 d10)
end
section
variable {S : Sto} {n m : Nat} {x a0 a1 a2 a3 a4 a5 a6 a7 a8 a9 : D}
def mtF (a0 a1 a2 a3 a4 a5 a6 a7 a8 a9 : D) : List (Key × D) := [(.inr ⟨#[110, 97, 109, 101]⟩, a0), (.inr ⟨#[112, 114, 111, 103, 114, 97, 109]⟩, a1), (.inr ⟨#[97, 116, 116, 101, 109, 112, 116]⟩, a2), (.inr ⟨#[111, 117, 116, 99, 111, 109, 101]⟩, a3), (.inr ⟨#[101, 110, 100, 101, 100]⟩, a4), (.inr ⟨#[104, 101, 108, 100]⟩, a5), (.inr ⟨#[104, 111, 108, 100, 101, 114]⟩, a6), (.inr ⟨#[109, 97, 114, 107]⟩, a7), (.inr ⟨#[107, 101, 112, 116]⟩, a8), (.inr ⟨#[100, 111, 110, 101]⟩, a9)]
def mtC (a0 a1 a2 a3 a4 a5 a6 a7 a8 a9 : D) : Cell := .dk (mtF a0 a1 a2 a3 a4 a5 a6 a7 a8 a9)
def mtK : List Key := [.inr ⟨#[110, 97, 109, 101]⟩, .inr ⟨#[112, 114, 111, 103, 114, 97, 109]⟩, .inr ⟨#[97, 116, 116, 101, 109, 112, 116]⟩, .inr ⟨#[111, 117, 116, 99, 111, 109, 101]⟩, .inr ⟨#[101, 110, 100, 101, 100]⟩, .inr ⟨#[104, 101, 108, 100]⟩, .inr ⟨#[104, 111, 108, 100, 101, 114]⟩, .inr ⟨#[109, 97, 114, 107]⟩, .inr ⟨#[107, 101, 112, 116]⟩, .inr ⟨#[100, 111, 110, 101]⟩]
end
/-! steps -/
inductive Stp where
  | rd (k : K2) | st (k : K2) | put (k : K2) (z : Int) | add (k : K2) (z : Int) | need (k : K2) (z : Int)
def Stp.key : Stp → K2
  | .rd k | .st k | .put k _ | .add k _ | .need k _ => k
def sRd : Str := ⟨#[114, 101, 97, 100]⟩
def sSt : Str := ⟨#[115, 116, 111, 114, 101]⟩
def sPu : Str := ⟨#[112, 117, 116]⟩
def sAd : Str := ⟨#[97, 100, 100]⟩
def sNe : Str := ⟨#[110, 101, 101, 100]⟩
def eS : Stp → D
  | .rd k => .tup [.str sRd, eK k]
  | .st k => .tup [.str sSt, eK k]
  | .put k z => .tup [.str sPu, eK k, .int z]
  | .add k z => .tup [.str sAd, eK k, .int z]
  | .need k z => .tup [.str sNe, eK k, .int z]
def eSs (ss : List Stp) : List D := ss.map eS
def okKs (ks : List K2) : Prop := ∀ k ∈ ks, PyData.strOk k.2 = true
def keysS (ss : List Stp) : List K2 := unl (ss.map Stp.key)
abbrev Vals2 := List (K2 × Int)
def fVs (vs : Vals2) : List (K2 × D) := vs.map fun x => (x.1, .int x.2)
def vlV (vs : Vals2) (k : K2) : Int := (valK vs k).getD 0
/-- the run of a program: done, what was read, the values behind -/
def runS (first : Vals2) : List Stp → Vals2 → List Int → Bool × List Int × Vals2
  | [], now, rs => (true, rs, now)
  | .rd k :: ss, now, rs => runS first ss now (rs ++ [vlV now k])
  | .st k :: ss, now, rs => runS first ss (putKD now k (rs.getLast?.getD 0)) rs
  | .put k z :: ss, now, rs => runS first ss (putKD now k z) rs
  | .add k z :: ss, now, rs => runS first ss (putKD now k (vlV now k + z)) rs
  | .need k z :: ss, now, rs => if vlV now k < z then (false, rs, first) else runS first ss now rs
def firstS (ks : List K2) (vs : Vals2) : Vals2 := ks.foldl (fun a k => putKD a k (vlV vs k)) []
def runP (ss : List Stp) (vs : Vals2) : Bool × List Int × Vals2 := runS (firstS (keysS ss) vs) ss (firstS (keysS ss) vs) []
/-- an outcome: done, read, the values of the keys -/
structure Out where
  d : Bool
  rs : List Int
  ps : Vals2
def outOf (ss : List Stp) (vs : Vals2) : Out := ⟨(runP ss vs).1, (runP ss vs).2.1, (keysS ss).map fun k => (k, vlV (runP ss vs).2.2 k)⟩
def eP (x : K2 × Int) : D := .tup [eK x.1, .int x.2]
def eI (xs : List Int) : List D := xs.map D.int
def eOut : Option Out → D
  | none => .non
  | some o => .tup [.bl o.d, .tup (eI o.rs), .tup (o.ps.map eP)]
def eOutM (t : Nat) : Option Out → D
  | none => .non
  | some o => .tup [.bl o.d, .tup (eI o.rs), .ref t]
/-- a trip -/
structure TSt where
  nm : Int × Int
  pg : List Stp
  at_ : Int
  out : Option Out
  en : Bool
  vs : Vals2
  ow : Option Mk
  yo : List Mk
  ho : Option Who
  fr : List K2
  fi : List K2
def fTr (ks : List K2) : List (K2 × D) := ks.map fun k => (k, .bl true)
structure PPl where
  sl : Nat
  kl : Nat
  vl : Nat
  ml : Nat
  yl : Nat
  fl : Nat
  il : Nat
def PPl.l (p : PPl) : List Nat := [p.sl, p.kl, p.vl, p.ml, p.yl, p.fl, p.il]
structure PT (C CM : Addr) (w : World) (p : PPl) (t : TSt) (S : Sto) : Prop where
  ob : S[p.sl]? = some (trc C (eT t.nm) (.tup (eSs t.pg)) (.int t.at_) (eOut t.out) (.bl t.en) (.ref p.kl) (.ref p.vl) (.ref p.ml) (eH t.ho) (.ref p.fl) (.ref p.il))
  kl : S[p.kl]? = some (.lst (kK.es (keysS t.pg)))
  vl : S[p.vl]? = some (.dn w (kK.enc (fVs t.vs)))
  ml : S[p.ml]? = some (mkC CM t.nm t.ow p.yl)
  yl : S[p.yl]? = some (.dn w (encM t.yo))
  fl : S[p.fl]? = some (.dn w (kK.enc (fTr t.fr)))
  il : S[p.il]? = some (.dn w (kK.enc (fTr t.fi)))
  nd : [p.vl, p.yl, p.fl, p.il].Nodup
structure MPl where
  m : Nat
  hl : Nat
  kt : Nat
  dn : Nat
  t3 : Nat
def MPl.l (p : MPl) : List Nat := [p.m, p.hl, p.kt, p.dn, p.t3]
structure MT (w : World) (p : MPl) (t : TSt) (done : List K2) (S : Sto) : Prop where
  ob : S[p.m]? = some (mtC (eT t.nm) (.tup (eSs t.pg)) (.int t.at_) (eOutM p.t3 t.out) (.bl t.en) (.ref p.hl) (eH t.ho) (eO t.ow) (.ref p.kt) (.ref p.dn))
  hl : S[p.hl]? = some (.dn w (kK.enc (fVs t.vs)))
  kt : S[p.kt]? = some (.lst (cM.es t.yo))
  dn : S[p.dn]? = some (.lst (kK.es done))
  t3 : ∀ o, t.out = some o → S[p.t3]? = some (.tp (o.ps.map eP))
  ne : p.kt ≠ p.dn
def eKO : Option K2 → D
  | none => .non
  | some k => eK k
def nextK (ks : List K2) (vs : Vals2) : Option K2 := ks.find? fun k => (valK vs k).isNone
def TSt.keys (t : TSt) : List K2 := keysS t.pg
def TSt.next (t : TSt) : Option K2 := nextK t.keys t.vs
def TSt.going (t : TSt) : Bool := !t.en && t.out.isNone
def sGo : Str := ⟨#[103, 111, 105, 110, 103]⟩
def sCo : Str := ⟨#[99, 111, 109, 109, 105, 116, 116, 101, 100]⟩
def sEn : Str := ⟨#[101, 110, 100, 101, 100]⟩
def TSt.st (t : TSt) : Str := if t.en = true then sEn else if t.out.isNone = true then sGo else sCo
def eOut2 : Option Out → D
  | none => .non
  | some o => .tup [.bl o.d, .tup (eI o.rs)]
end RF

/-! C(e, .., k = v, ..) -/
namespace RF
open PySem L2
def fMakeKP (C : Addr) (F : FF) (n i j : Nat) (g : List D → List D → List D) (as fs : AF) : EF := fun env S => (as env S).bind fun vs S1 => (fs env S1).bind fun ds S2 => if vs.length = i ∧ ds.length = j ∧ (g (.ref S2.length :: vs) ds).length = n then (F (g (.ref S2.length :: vs) ds) (S2 ++ [.ins C []])).nox.bind (mkK2 S2.length) else .bad
section
variable {X : Cx} {E : XK} {k n : Nat} {f C : Addr} {fd : FuncData} {ps ks : List Str} {F : FF} {x nm : Str} {p pos kpos : Pos} {e : Expr} {es : List Expr} {kws : List Keyword} {as fs : AF} {g : List Value → List Value → List Value} {gV : List V → List V → List V} {gD : List D → List D → List D}
end
section
variable {C : Addr} {F : FF} {n i j : Nat} {g : List D → List D → List D} {as fs : AF} {env : Lc} {S : Sto} {ds vs : List D}
def mkKP1 (C : Addr) (F : FF) (n i j : Nat) (g : List D → List D → List D) (fs : AF) (env : Lc) : List D → Sto → R D := fun vs S1 => (fs env S1).bind fun ds S2 => if vs.length = i ∧ ds.length = j ∧ (g (.ref S2.length :: vs) ds).length = n then (F (g (.ref S2.length :: vs) ds) (S2 ++ [.ins C []])).nox.bind (mkK2 S2.length) else .bad
def mkKP2 (C : Addr) (F : FF) (n i j : Nat) (g : List D → List D → List D) (vs : List D) : List D → Sto → R D := fun ds S2 => if vs.length = i ∧ ds.length = j ∧ (g (.ref S2.length :: vs) ds).length = n then (F (g (.ref S2.length :: vs) ds) (S2 ++ [.ins C []])).nox.bind (mkK2 S2.length) else .bad
end
end RF

/-! t == (); zip of two tuples in a comprehension; d.get(k, x) of a dict of the module: texts to ints -/
namespace RF
open PySem L2
def rEqE (K : PySem.W.Frag) : R2 := fun x y H Q => ∃ a b xs, x = .ref a ∧ y = .ref b ∧ SqT K H a xs ∧ SqT K H b [] ∧ Q (.bl xs.isEmpty) H
def oEqE : Op2 := fun x y S => match x, y with
  | .tup xs, .tup [] => .ok (.bl xs.isEmpty) S
  | _, _ => .bad
/-! != of lists of other lengths -/
def rNeLen (K : PySem.W.Frag) : R2 := fun x y H Q => ∃ a b xs ys, x = .ref a ∧ y = .ref b ∧ SqL K H a xs ∧ SqL K H b ys ∧ xs.length ≠ ys.length ∧ Q (.bl true) H
theorem op_neLen {X : Cx} (hu : X.A.units < cLine) : OpR X (compareOp .NotEq) (rNeLen X.K) := by
  intro pins s σ H x y v u Q I rx ry h
  obtain ⟨a, b, xs, ys, rfl, rfl, ha, hb, hne, q⟩ := h
  cases (show v = Value.ref a from rx)
  cases (show u = Value.ref b from ry)
  obtain ⟨us, r1, p1, _⟩ := I.list ha
  obtain ⟨ws, r2, p2, _⟩ := I.list hb
  have hsz : (us.toArray.size != ws.toArray.size) = true := by
    rw [List.size_toArray, List.size_toArray, ← r1.length, ← r2.length]
    simpa using hne
  exact SeqAt.RcNeAt.lists_lengths p1.isList p2.isList hsz hu X.prog X.w _ _ ⟨.bl true, H, I, rfl, q⟩
def oNeL : Op2 := fun x y S => match x, y with
  | .ref n, .ref m => match S[n]?, S[m]? with
    | some (.lst xs), some (.lst ys) => if xs.length = ys.length then oNe x y S else .ok (.bl true) S
    | _, _ => .bad
  | _, _ => .bad
def rNeLD (K : PySem.W.Frag) : R2 := fun x y H Q => rNeLen K x y H Q ∨ rNeD K x y H Q
theorem op_neLD {X : Cx} (hu : X.A.units + 64 < cLine) : OpR X (compareOp .NotEq) (rNeLD X.K) := (op_neLen (by omega)).or (op_neD hu)
theorem f_neL {K : PySem.W.Frag} {E : XK} : OpF K E (rNeLD K) oNeL := by
  intro L H S x y d1 d2 Q rep r1 r2 q
  cases r1 with
  | @ref a n ha =>
    cases r2 with
    | @ref b m hb =>
      obtain ⟨c, hc, rc⟩ := rep.adr ha
      obtain ⟨c2, hc2, rc2⟩ := rep.adr hb
      unfold oNeL at q
      simp only [hc, hc2] at q
      cases c with
      | lst xs =>
        cases c2 with
        | lst ys =>
          simp only at q
          obtain ⟨vs, hv, rv⟩ := id rc
          obtain ⟨ws, hw, rw'⟩ := id rc2
          by_cases hl : xs.length = ys.length
          · rw [if_pos hl] at q
            exact .inr (f_ne _ _ _ _ _ _ _ _ rep (.ref ha) (.ref hb) q)
          · rw [if_neg hl] at q
            exact .inl ⟨a, b, vs, ws, rfl, rfl, .of hv, .of hw, by rw [rv.length, rw'.length]; exact hl, EndV.val q rep (.bl _)⟩
        | _ => exact q.elim
      | _ => exact q.elim
    | _ => exact q.elim
  | _ => exact q.elim
section
variable {S : Sto} {n m : Nat} {xs ys : List D}
theorem neL_ne (h1 : S[n]? = some (.lst xs)) (h2 : S[m]? = some (.lst ys)) (h : ¬ xs.length = ys.length) : oNeL (.ref n) (.ref m) S = .ok (.bl true) S := by
  unfold oNeL
  simp only [h1, h2, if_neg h]
theorem neL_00 (h1 : S[n]? = some (.lst [])) (h2 : S[m]? = some (.lst [])) : oNeL (.ref n) (.ref m) S = .ok (.bl false) S := by
  unfold oNeL
  simp only [h1, h2, if_true]
  rw [o_ne, show (20 : Nat) = 19 + 1 from rfl, toP_ref, toP_ref, h1, h2, toPC_lst, toP_mapM_nil]
  show (neK S (some (.list [])) (some (.list []))) = _
  rw [neK_some]
  simp [PyData.eqv, PyData.eqvAll]
/-- against the empty list -/
theorem neL_nil (h1 : S[n]? = some (.lst xs)) (h2 : S[m]? = some (.lst [])) : oNeL (.ref n) (.ref m) S = .ok (.bl (!xs.isEmpty)) S := by
  cases xs with
  | nil => exact neL_00 h1 h2
  | cons x xs => exact neL_ne h1 h2 (by simp)
end

/-! zip -/
def zipD : List D → List D → List D
  | x :: xs, y :: ys => .tup [x, y] :: zipD xs ys
  | _, _ => []
def fZip (fs : AF) : IF := fun env S => (fs env S).bind fun ds S1 => match ds with
  | [.tup xs, .tup ys] => .ok (.fix (zipD xs ys)) S1
  | _ => .bad
section
variable {X : Cx} {E : XK}
end

/-! a dict of the module -/
inductive GEnts (w : World) : List DictEntry → List (Str × Int) → Prop
  | nil : GEnts w [] []
  | cons {x : Str} {i : Int} {t u : Tok} {es : List DictEntry} {kvs : List (Str × Int)} : GEnts w es kvs → GEnts w (⟨PyData.keyHash w.params x, .str x t, .int i u⟩ :: es) ((x, i) :: kvs)
def GDict (K : PySem.W.Frag) (w : World) (a : Addr) (kvs : List (Str × Int)) : Prop :=
  (a == sysModules) = false ∧ ∃ o es ep, K.lookup a = some o ∧ o.ExactDict ∧ o.data = .dict es ep ∧ GEnts w es.toList kvs ∧ (kvs.map (·.1)).Nodup
theorem GEnts.keys {P : Program} {w : World} {es : List DictEntry} {kvs : List (Str × Int)} (h : GEnts w es kvs) : ∀ e ∈ es, ∃ k, (strKind P w).is k e.key = true ∧ e.hash = (strKind P w).hash k := by
  induction h with
  | nil => intro e h; cases h
  | @cons x i t u es kvs h ih =>
    intro e he
    rcases List.mem_cons.mp he with rfl | he
    · exact ⟨x, by simp [strKind, Value.isStrOf], rfl⟩
    · exact ih e he
def GVals : List (Str × Int) → List (Str × Value) → Prop
  | [], [] => True
  | (x, i) :: ps, (y, v) :: qs => x = y ∧ (∃ t, v = .int i t) ∧ GVals ps qs
  | _, _ => False
theorem GEnts.pairs {P : Program} {w : World} {es : List DictEntry} {kvs : List (Str × Int)} (h : GEnts w es kvs) : ∃ vs : List (Str × Value), Pairs (strKind P w) es vs ∧ GVals kvs vs := by
  induction h with
  | nil => exact ⟨[], .nil, trivial⟩
  | @cons x i t u es kvs h ih =>
    obtain ⟨vs, h1, h2⟩ := ih
    exact ⟨(x, .int i u) :: vs, .cons (by simp [strKind, Value.isStrOf]) rfl h1, rfl, ⟨u, rfl⟩, h2⟩
theorem GVals.keys : ∀ {kvs : List (Str × Int)} {vs : List (Str × Value)}, GVals kvs vs → vs.map (·.1) = kvs.map (·.1)
  | [], [], _ => rfl
  | (x, i) :: ps, (y, v) :: qs, ⟨a, _, c⟩ => by rw [List.map_cons, List.map_cons, GVals.keys c]; subst a; rfl
  | [], _ :: _, h => h.elim
  | _ :: _, [], h => h.elim
theorem GVals.val : ∀ {kvs : List (Str × Int)} {vs : List (Str × Value)} (z : Str), GVals kvs vs → match kvs.lookup z with | some i => ∃ t, valueAt vs z = some (.int i t) | none => valueAt vs z = none
  | [], [], _, _ => rfl
  | (x, i) :: ps, (y, v) :: qs, z, ⟨a, b, c⟩ => by
    subst a
    have ih := GVals.val z c
    rw [List.lookup_cons]
    by_cases h : x = z
    · subst h
      obtain ⟨t, rfl⟩ := b
      simp [valueAt]
    · have h' : (z == x) = false := beq_eq_false_iff_ne.mpr fun e => h e.symm
      rw [h']
      have e : valueAt ((x, v) :: qs) z = valueAt qs z := by simp [valueAt, List.find?_cons, h]
      rw [e]
      exact ih
  | [], _ :: _, _, h => h.elim
  | _ :: _, [], _, h => h.elim
theorem GDict.of {X : Cx} {pins : List (Addr × Obj)} {σ : St} {H : Hp} {s : Shared} {a : Addr} {kvs : List (Str × Int)} (I : Inv X pins σ H s) (g : GDict X.K X.w a kvs) :
    (a == sysModules) = false ∧ ∃ vs, s.heap.DictOf (strKind X.prog X.w) a vs ∧ GVals kvs vs := by
  obtain ⟨h0, o, es, ep, h1, h2, h3, h4, h5⟩ := g
  obtain ⟨vs, p, q⟩ := h4.pairs (P := X.prog)
  exact ⟨h0, vs, ⟨o, es, ep, I.kIn a o h1, h2, h3, fun e he => h4.keys e (Array.mem_toList_iff.mpr he), p, by rw [q.keys]; exact h5⟩, q⟩
def fGetG (kvs : List (Str × Int)) (fk fx : EF) : EF := fun env S => (fk env S).bind fun k S1 => match k with
  | .str z => (fx env S1).bind fun x S2 => match kvs.lookup z with
    | some i => .ok (.int i) S2
    | none => .ok x S2
  | _ => .bad
section
variable {X : Cx} {E : XK} {e f : Expr} {fk fx : EF} {apos cpos p : Pos}
end
/-! rewriting -/
def zipK : List D → Sto → R It' := fun ds S1 => match ds with
  | [.tup xs, .tup ys] => .ok (.fix (zipD xs ys)) S1
  | _ => .bad
def getGV : Option Int → D → Sto → R D
  | some i => fun _ S => .ok (.int i) S
  | none => fun x S => .ok x S
def getGK (kvs : List (Str × Int)) (fx : EF) (env : Lc) : D → Sto → R D := fun k S1 => match k with
  | .str z => (fx env S1).bind (getGV (kvs.lookup z))
  | _ => .bad
end RF

/-! orders of data: keys, transactions, marks; what a sort gives -/
namespace RF
open PySem L2
/-! orders -/
structure Lin {α : Type} (lt : α → α → Bool) : Prop where
  irr : ∀ a, lt a a = false
  tr : ∀ a b d, lt a b = true → lt b d = true → lt a d = true
  tri : ∀ a b, lt a b = true ∨ a = b ∨ lt b a = true
theorem Lin.pair {α β : Type} [DecidableEq α] [DecidableEq β] {l1 : α → α → Bool} {l2 : β → β → Bool} (h1 : Lin l1) (h2 : Lin l2) : Lin (fun (x y : α × β) => if x.1 = y.1 then (if x.2 = y.2 then false else l2 x.2 y.2) else l1 x.1 y.1) := by
  refine ⟨fun a => by simp, fun a b d k1 k2 => ?_, fun a b => ?_⟩
  · by_cases e1 : a.1 = b.1
    · rw [if_pos e1] at k1
      by_cases e2 : b.1 = d.1
      · rw [if_pos e2] at k2
        rw [if_pos (e1.trans e2)]
        by_cases e3 : a.2 = b.2
        · rw [if_pos e3] at k1; cases k1
        · rw [if_neg e3] at k1
          by_cases e4 : b.2 = d.2
          · rw [if_pos e4] at k2; cases k2
          · rw [if_neg e4] at k2
            have k := h2.tr _ _ _ k1 k2
            rw [if_neg (fun z => by rw [z, h2.irr] at k; cases k)]
            exact k
      · rw [if_neg e2] at k2
        rw [if_neg (fun z => e2 (e1.symm.trans z)), e1]
        exact k2
    · rw [if_neg e1] at k1
      by_cases e2 : b.1 = d.1
      · rw [if_neg (fun z => e1 (z.trans e2.symm)), ← e2]
        exact k1
      · rw [if_neg e2] at k2
        have k := h1.tr _ _ _ k1 k2
        rw [if_neg (fun z => by rw [z, h1.irr] at k; cases k)]
        exact k
  · by_cases e1 : a.1 = b.1
    · by_cases e2 : a.2 = b.2
      · exact .inr (.inl (Prod.ext e1 e2))
      · rw [if_pos e1, if_neg e2, if_pos e1.symm, if_neg (fun z => e2 z.symm)]
        rcases h2.tri a.2 b.2 with k | k | k
        · exact .inl k
        · exact absurd k e2
        · exact .inr (.inr k)
    · rw [if_neg e1, if_neg (fun z => e1 z.symm)]
      rcases h1.tri a.1 b.1 with k | k | k
      · exact .inl k
      · exact absurd k e1
      · exact .inr (.inr k)
end RF

/-! for i, x in enumerate(xs), a list that stands -/
namespace RF
open PySem L2
def loopE (n : Nat) (g : GF) (body : SF) : List D → Nat → Lc → Sto → R Fl
  | [], i, env, S => match S[n]? with
    | some (.lst ys) => if ys.length ≤ i then .ok (.nx env) S else .bad
    | _ => .bad
  | _ :: xs, i, env, S => match S[n]? with
    | some (.lst ys) => match ys[i]? with
      | none => .ok (.nx env) S
      | some d => (g (.tup [.int (i : Nat), d]) env S).bind fun env1 S1 => (body env1 S1).bind fun fl S2 => match fl with
        | .nx e => loopE n g body xs (i + 1) e S2
        | .ct e => loopE n g body xs (i + 1) e S2
        | .bk e => .ok (.nx e) S2
        | .rt d => .ok (.rt d) S2
    | _ => .bad
def fForEn (fs : AF) (g : GF) (body : SF) : SF := fun env S => (fs env S).bind fun ds S1 => match ds with
  | [.ref n] => match S1[n]? with
    | some (.lst xs) => loopE n g body xs 0 env S1
    | _ => .bad
  | _ => .bad
section
variable {X : Cx} {E : XK} {pos tpos p : Pos}
end
def forEC (n : Nat) (g : GF) (body : SF) (env : Lc) (S : Sto) : Option Cell → R Fl
  | some (.lst xs) => loopE n g body xs 0 env S
  | _ => .bad
def forEK (g : GF) (body : SF) (env : Lc) : List D → Sto → R Fl
  | [.ref n] => fun S => forEC n g body env S S[n]?
  | _ => fun _ => .bad
end RF

/-! comprehensions that filter and map; dicts with values of a type; keys of a word and a transaction -/
namespace RF
open PySem L2
theorem comp_fm {n i : Nat} {ft : BF} {fe : EF} {env : Lc} {S : Sto} {ys : List D} {p : D → Bool} {f : D → D} (h : S[n]? = some (.lst ys)) (h1 : ∀ d ∈ ys, ft (env.set i (some d)) S = .ok (p d) S) (h2 : ∀ d ∈ ys, p d = true → fe (env.set i (some d)) S = .ok (f d) S) (hl : ys.length < 100000) :
    ∀ (r j : Nat) (xs acc : List D), r = ys.length - j → xs.length = r → acc.length ≤ j → compL n i ft fe env xs j acc S = .ok (.ref S.length) (S ++ [.lst (acc ++ ((ys.drop j).filter p).map f)])
  | 0, j, xs, acc, hr, hx, ha => by
    have hx : xs = [] := List.length_eq_zero_iff.mp hx
    subst hx
    unfold compL
    rw [h]
    simp only
    rw [if_pos (by omega), List.drop_eq_nil_of_le (by omega)]
    simp
  | r + 1, j, [], acc, hr, hx, ha => by simp at hx
  | r + 1, j, x :: xs, acc, hr, hx, ha => by
    have hj : j < ys.length := by omega
    unfold compL
    rw [h]
    simp only
    rw [List.getElem?_eq_getElem hj]
    simp only
    rw [h1 _ (List.getElem_mem hj), List.drop_eq_getElem_cons hj, List.filter_cons]
    simp only [R.nox_ok, R.bind_ok]
    have hx' : xs.length = r := by simpa using hx
    cases hp : p ys[j] with
    | false =>
      simp only [Bool.false_eq_true, if_false]
      exact comp_fm h h1 h2 hl r (j + 1) xs acc (by omega) hx' (by omega)
    | true =>
      simp only [if_true]
      rw [h2 _ (List.getElem_mem hj) hp]
      simp only [R.nox_ok, R.bind_ok]
      rw [if_pos (by omega), comp_fm h h1 h2 hl r (j + 1) xs _ (by omega) hx' (by rw [List.length_append, List.length_singleton]; omega)]
      simp
theorem comp_fm0 {n i : Nat} {ft : BF} {fe : EF} {env : Lc} {S : Sto} {ys : List D} {p : D → Bool} {f : D → D} (h : S[n]? = some (.lst ys)) (h1 : ∀ d ∈ ys, ft (env.set i (some d)) S = .ok (p d) S) (h2 : ∀ d ∈ ys, p d = true → fe (env.set i (some d)) S = .ok (f d) S) (hl : ys.length < 100000) :
    compL n i ft fe env ys 0 [] S = .ok (.ref S.length) (S ++ [.lst ((ys.filter p).map f)]) := by
  have h := comp_fm h h1 h2 hl ys.length 0 ys [] (by omega) rfl (Nat.le_refl _)
  simpa using h
/-! values of a type -/
section
variable {κ β : Type} [DecidableEq κ] {f : β → D} {kvs : List (κ × β)} {k : κ} {v : β}
def mapV (f : β → D) (kvs : List (κ × β)) : List (κ × D) := kvs.map fun x => (x.1, f x.2)
theorem mapV_val : valK (mapV f kvs) k = (valK kvs k).map f := by
  unfold valK mapV
  induction kvs with
  | nil => rfl
  | cons x r ih =>
    rw [List.map_cons, List.find?_cons, List.find?_cons]
    by_cases h : x.1 = k
    · simp [h]
    · simp only [decide_eq_false h]
      exact ih
theorem mapV_put : putKD (mapV f kvs) k (f v) = mapV f (putKD kvs k v) := by
  unfold putKD
  have e : ((mapV f kvs).any fun kv => decide (kv.1 = k)) = kvs.any fun kv => decide (kv.1 = k) := by
    unfold mapV; rw [List.any_map]; rfl
  rw [e]
  split
  · unfold mapV
    rw [List.map_map, List.map_map]
    refine List.map_congr_left fun x _ => ?_
    show (if x.1 = k then (x.1, f v) else (x.1, f x.2)) = _
    by_cases h : x.1 = k <;> simp [h]
  · unfold mapV
    rw [List.map_append]; rfl
theorem mapV_len : (mapV f kvs).length = kvs.length := List.length_map ..
end
/-! (word, transaction) -/
def eWT (x : Str × (Int × Int)) : D := .tup [.str x.1, eT x.2]
def pWT (x : Str × (Int × Int)) : PyData := .tuple [.str x.1, pT x.2]
def kWT : CodK (Str × (Int × Int)) where
  e := eWT
  p := pWT
  ok := fun x => PyData.strOk x.1 = true
  toP := fun S k a h => by
    unfold eWT pWT
    rw [toP_tup, toP_mapM_cons, toP_mapM_cons, toP_mapM_nil, toP_str, if_pos h, fT_eT]
    rfl
  eqv := fun a b => by
    unfold pWT
    simp only [PyData.eqv, PyData.eqvAll, eqv_T]
    obtain ⟨a1, a2⟩ := a
    obtain ⟨b1, b2⟩ := b
    simp only [Prod.mk.injEq]
    by_cases h1 : a1 = b1 <;> by_cases h2 : a2 = b2 <;> simp [h1, h2]
  alike := fun a b => by simp [pWT, pT, PySem.W.alike, PySem.W.alikeAll]
  tupl := fun a => by simp [pWT, isTupP]
  kf := fun x => .tup [.text x.1, .tup [.num x.2.1, .num x.2.2]]
  keyT := fun _ => (rfl)
  inj := fun a b => by
    obtain ⟨a1, a2, a3⟩ := a
    obtain ⟨b1, b2, b3⟩ := b
    simp
  dOf := fun _ => (rfl)
  data := fun _ => (rfl)
  dep := fun a => by simp [pWT, pT, PyData.depth, PyData.depthAll]
theorem keyT_eTk {t : Int × Int} : keyT (eT t) = some (kT.kf t) := (rfl)
theorem eqL_nil {S : Sto} {n m : Nat} {xs : List D} (h1 : S[n]? = some (.lst xs)) (h2 : S[m]? = some (.lst [])) : oEqL (.ref n) (.ref m) S = .ok (.bl xs.isEmpty) S := by
  cases xs with
  | nil => exact eqL_00 h1 h2
  | cons x xs => exact eqL_ne h1 h2 (by simp)
def slC (S : Sto) (l h : Option Int) : Option Cell → R D
  | some (.lst xs) => .ok (.ref S.length) (S ++ [.lst (cutD xs l h)])
  | _ => .bad
theorem oSl_ref {S : Sto} {n : Nat} {l h : Option Int} : oSl (.ref n) l h S = slC S l h S[n]? := by unfold oSl slC; rfl
theorem o_slC {S : Sto} {l h : Option Int} {xs : List D} : slC S l h (some (.lst xs)) = .ok (.ref S.length) (S ++ [.lst (cutD xs l h)]) := (rfl)
end RF

/-! == and != of dicts with nested tuples as keys, entry by entry alike; d[a text] = v of such a dict -/
namespace RF
open PySem L2 PySem.Spec PyProof.Rows
section
variable {P : Program} {w : World} {A : Around} {E : Value → Shared → Prop} {s : Shared} {c d : Addr} {xs ys : List (NestedKey × Addr × Value)}
theorem pairs_same {nm : String} {Q : Bool → Shared → Prop} (hc : (c == sysModules) = false) (hd : (d == sysModules) = false) (hu : (nestedKind P w).room A)
    (mc : s.heap.DictOfH (nestedKind P w) c xs) (md : s.heap.DictOfH (nestedKind P w) d ys) (hl : xs.length = ys.length)
    (hv : ∀ (j : Nat) (k : NestedKey) (p : Addr) (v : Value), xs[j]? = some (k, p, v) → ∃ (q : Addr) (y : Value), ys[j]? = some (k, q, y) ∧ SeqAt.EqAt A s v y true) (fin : Q true s) : wpAny (model P w) A (Builtin.Dict.samePairs nm c d) Q E s := by
  obtain ⟨o1, es1, ep1, g1, _, d1, e1, i1, n1⟩ := mc
  obtain ⟨o2, es2, ep2, g2, _, d2, e2, i2, n2⟩ := md
  have z1 := size_of_entries e1
  have z2 := size_of_entries e2
  have zz : es1.size = es2.size := by omega
  unfold Builtin.Dict.samePairs Builtin.Dict.showsAll
  rw [if_neg (by rw [hc]; simp), if_neg (by rw [hd]; simp)]
  refine wpAny_bind (wpAny_pure (wpAny_bind (wpAny_pure (wpAny_bind (wpAny_dictEntries g1 d1 ?_)))))
  dsimp only
  refine wpAny_bind (wpAny_dictEntries g2 d2 ?_)
  rw [if_neg (by rw [zz]; simp)]
  refine wpAny_bind (wpAny_dictEpoch g1 d1 (wpAny_bind ?_))
  rw [Std.Legacy.Range.forIn_eq_forIn_range']
  simp only [Std.Legacy.Range.size, Nat.sub_zero, Nat.add_sub_cancel, Nat.div_one]
  refine wpAny_forIn_list _ (fun rest q s' => s' = s ∧ q = (none, ()) ∧ ∃ i, rest = List.range' i (es1.size - i) ∧ i ≤ es1.size) _ ?_ ?_ _ _ ⟨rfl, rfl, 0, by simp, Nat.zero_le _⟩
  · rintro x rest q s' ⟨rfl, rfl, i, hr, hi⟩
    have hlt : i < es1.size := by
      by_cases h : i < es1.size
      · exact h
      · rw [show es1.size - i = 0 by omega] at hr; simp at hr
    obtain ⟨rfl, hrest⟩ : x = i ∧ rest = List.range' (i + 1) (es1.size - (i + 1)) := by
      rw [show es1.size - i = (es1.size - (i + 1)) + 1 by omega, List.range'_succ] at hr
      injection hr with h1 h2
      exact ⟨h1, h2⟩
    obtain ⟨⟨k, p, v⟩, hx⟩ : ∃ y, xs[x]? = some y := ⟨xs[x]'(by omega), List.getElem?_eq_getElem _⟩
    obtain ⟨q, y, hy, he⟩ := hv x k p v hx
    have x1 : es1[x]? = some ⟨(nestedKind P w).hash k, .ref p, v⟩ := by rw [entry_at e1 x, hx]; rfl
    have x2 : es2[x]? = some ⟨(nestedKind P w).hash k, .ref q, y⟩ := by rw [entry_at e2 x, hy]; rfl
    refine wpAny_bind (wpAny_dictEntries g1 d1 ?_)
    rw [x1]
    dsimp only
    have hk := i1 _ (List.mem_of_getElem? hx)
    refine wpAny_bind (wpAny_holding (wpAny_bind (wpAny_dictFind_heap hu hk g2 d2 e2 i2 n2 (fun no => absurd hy (no x _)) fun j t hj => ?_)))
    obtain rfl : j = x := idxH_unique n2 hj hy
    refine wpAny_bind (wpAny_dictEntries g2 d2 ?_)
    rw [x2]
    dsimp only
    refine wpAny_holding (he P w E _ ?_)
    show wpAny _ _ (if (!true) = true then _ else _) _ E _
    rw [if_neg (by simp)]
    refine wpAny_bind (wpAny_dictEpoch g1 d1 ?_)
    rw [if_neg (by simp)]
    exact wpAny_pure ⟨rfl, rfl, j + 1, hrest, hlt⟩
  · rintro q s' ⟨rfl, rfl, i, hr, hi⟩
    exact wpAny_pure fin
theorem eq_dictH {Q : Value → Shared → Prop} (hc : (c == sysModules) = false) (hd : (d == sysModules) = false) (hu : A.units + 65 < cLine)
    (mc : s.heap.DictOfH (nestedKind P w) c xs) (md : s.heap.DictOfH (nestedKind P w) d ys) (hl : xs.length = ys.length)
    (hv : ∀ (j : Nat) (k : NestedKey) (p : Addr) (v : Value), xs[j]? = some (k, p, v) → ∃ (q : Addr) (y : Value), ys[j]? = some (k, q, y) ∧ SeqAt.EqAt A.in1 s v y true) (fin : Q (.bool true) s) : wpAny (model P w) A (compareOp .Eq (.ref c) (.ref d)) Q E s := by
  refine wpAny_richCompare_same_room (op := .Eq) mc.typeIs md.typeIs PySem.F.slot_dict_eq (wpAny_call_entry PySem.F.slot_dict_eq mc.typeIs PySem.F.entry_dict_eq ?_ (PySem.F.args_dict_eq_2 _ _)) (by omega)
  show wpAny _ _ (Builtin.Dict.dictSlotArgs "__eq__" ⟨[.ref c, .ref d], []⟩ >>= _) _ _ s
  unfold Builtin.Dict.dictSlotArgs
  refine wpAny_bind (wpAny_bind (wpAny_notOrdered_dict mc.typeIs ?_))
  show wpAny _ _ (pure (Value.ref c, Value.ref d)) _ _ s
  refine wpAny_pure (wpAny_bind (wpAny_isInstance (T := "dict") md.typeIs PySem.F.sub_dict_dict ?_))
  simp only [Bool.not_true, Bool.false_eq_true, if_false]
  refine wpAny_bind (wpAny_pure (wpAny_bind (wpAny_pure (wpAny_bind (pairs_same hc hd (nroom hu) mc md hl hv ?_)))))
  exact wpAny_pure ⟨_, rfl, (fun x => nomatch x), by simpa using fin⟩
theorem ne_dictH {Q : Value → Shared → Prop} (hc : (c == sysModules) = false) (hd : (d == sysModules) = false) (hu : A.units + 65 < cLine)
    (mc : s.heap.DictOfH (nestedKind P w) c xs) (md : s.heap.DictOfH (nestedKind P w) d ys) (hl : xs.length = ys.length)
    (hv : ∀ (j : Nat) (k : NestedKey) (p : Addr) (v : Value), xs[j]? = some (k, p, v) → ∃ (q : Addr) (y : Value), ys[j]? = some (k, q, y) ∧ SeqAt.EqAt A.in1 s v y true) (fin : Q (.bool false) s) : wpAny (model P w) A (compareOp .NotEq (.ref c) (.ref d)) Q E s := by
  refine wpAny_richCompare_same_room (op := .NotEq) mc.typeIs md.typeIs PySem.F.slot_dict_ne (wpAny_call_entry PySem.F.slot_dict_ne mc.typeIs PySem.F.entry_dict_ne ?_ (PySem.F.args_dict_ne_2 _ _)) (by omega)
  show wpAny _ _ (Builtin.Dict.dictSlotArgs "__ne__" ⟨[.ref c, .ref d], []⟩ >>= _) _ _ s
  unfold Builtin.Dict.dictSlotArgs
  refine wpAny_bind (wpAny_bind (wpAny_notOrdered_dict mc.typeIs ?_))
  show wpAny _ _ (pure (Value.ref c, Value.ref d)) _ _ s
  refine wpAny_pure (wpAny_bind (wpAny_isInstance (T := "dict") md.typeIs PySem.F.sub_dict_dict ?_))
  simp only [Bool.not_true, Bool.false_eq_true, if_false]
  refine wpAny_bind (wpAny_pure (wpAny_bind (wpAny_pure (wpAny_bind (pairs_same hc hd (nroom hu) mc md hl hv ?_)))))
  exact wpAny_pure ⟨_, rfl, (fun x => nomatch x), by simpa using fin⟩
end
/-- entries alike, in order -/
def ZE (K : PySem.W.Frag) (H : Hp) : List ZN → List ZN → Prop
  | [], [] => True
  | p :: ps, q :: qs => p.1 = q.1 ∧ (∃ d e, Dp K H p.2.2 d ∧ Dp K H q.2.2 e ∧ SeqAt.shaped d = true ∧ SeqAt.shaped e = true ∧ PyData.eqv d e = true) ∧ ZE K H ps qs
  | _, _ => False
def EqVs (A : Around) (s : Shared) (xs ys : List (NestedKey × Addr × Value)) : Prop := xs.length = ys.length ∧ ∀ (j : Nat) (k : NestedKey) (p : Addr) (v : Value), xs[j]? = some (k, p, v) → ∃ (q : Addr) (y : Value), ys[j]? = some (k, q, y) ∧ SeqAt.EqAt A s v y true
theorem EqVs.cons {A : Around} {s : Shared} {k : NestedKey} {p q : Addr} {v y : Value} {xs ys : List (NestedKey × Addr × Value)} (h : SeqAt.EqAt A s v y true) (r : EqVs A s xs ys) : EqVs A s ((k, p, v) :: xs) ((k, q, y) :: ys) := by
  refine ⟨by simp [r.1], fun j k' p' v' hj => ?_⟩
  cases j with
  | zero =>
    simp only [List.getElem?_cons_zero, Option.some.injEq, Prod.mk.injEq] at hj
    obtain ⟨rfl, rfl, rfl⟩ := hj
    exact ⟨q, y, rfl, h⟩
  | succ j =>
    rw [List.getElem?_cons_succ] at hj
    exact r.2 j k' p' v' hj
theorem ZE.vals {X : Cx} {pins : List (Addr × Obj)} {σ : L2.St} {H : Hp} {s : Shared} {A : Around} (hu : A.units + 64 < cLine) (I : Inv X pins σ H s) : ∀ {zs ws : List ZN} {xs ys : List (NestedKey × Addr × Value)}, ZE X.K H zs ws → Paired ZX zs xs → Paired ZX ws ys → EqVs A s xs ys
  | [], [], _, _, _, .nil, .nil => ⟨rfl, fun j k p v h => by simp at h⟩
  | p :: ps, q :: qs, _, _, ⟨h1, ⟨d, e, h2, h3, h4, h5, h6⟩, h7⟩, .cons (b := (k, a, v)) x1 r1, .cons (b := (k', a', v')) x2 r2 => by
    obtain ⟨x1a, x1b, x1c⟩ := x1
    obtain ⟨x2a, x2b, x2c⟩ := x2
    simp only at x1a x1b x1c x2a x2b x2c
    obtain rfl : k = k' := x1a.symm.trans (h1.trans x2a)
    refine EqVs.cons ?_ (ZE.vals hu I h7 r1 r2)
    obtain ⟨as, g1⟩ := Dp.reads I d _ _ h2 x1c
    obtain ⟨bs, g2⟩ := Dp.reads I e _ _ h3 x2c
    unfold SeqAt.shaped at h4 h5
    simp only [Bool.and_eq_true, decide_eq_true_eq] at h4 h5
    have g := SeqAt.eqAt_reads d e A s v v' as bs g1 g2 h4.1 h5.1 (by omega)
    rw [h6] at g
    exact g
  | [], _ :: _, _, _, h, _, _ => h.elim
  | _ :: _, [], _, _, h, _, _ => h.elim
def rEqN (K : PySem.W.Frag) (w : World) (neg : Bool) : R2 := fun x y H Q => ∃ a b zs ws, x = .ref a ∧ y = .ref b ∧ Rd H a (dnO w a zs) ∧ Rd H b (dnO w b ws) ∧ ZOk H zs ∧ ZOk H ws ∧ ZE K H zs ws ∧ Q (.bl (!neg)) H
section
variable {X : Cx} {K : PySem.W.Frag} {E : XK}
theorem op_neN (hu : X.A.units + 65 < cLine) : OpR X (compareOp .NotEq) (rEqN X.K X.w true) := by
  intro pins s σ H x y v u Q I rx ry h
  obtain ⟨a, b, zs, ws, rfl, rfl, ha, hb, za, zb, e, q⟩ := h
  cases (show v = Value.ref a from rx)
  cases (show u = Value.ref b from ry)
  obtain ⟨a1, a2, xs, a3, a4⟩ := dn_of I.hok ha za
  obtain ⟨b1, b2, ys, b3, b4⟩ := dn_of I.hok hb zb
  have ev := ZE.vals (A := X.A.in1) (by show X.A.units + 1 + 64 < cLine; omega) I e a3 b3
  exact ne_dictH a1 b1 hu a4 b4 ev.1 ev.2 ⟨.bl _, H, I, rfl, q⟩
end
/-- entries alike, as data -/
def eqKV (S : Sto) : List (NestedKey × D) → List (NestedKey × D) → Bool
  | [], [] => true
  | p :: ps, q :: qs => decide (p.1 = q.1) && (match toP S 20 p.2, toP S 20 q.2 with | some d, some e => PyData.eqv d e | _, _ => false) && eqKV S ps qs
  | _, _ => false
open Classical in
noncomputable def eqNC (w : World) (neg : Bool) (S : Sto) (c c' : Option Cell) : R D := match c, c' with
  | some (.dn w1 kvs), some (.dn w2 lvs) => if w1 = w ∧ w2 = w ∧ eqKV S kvs lvs = true then .ok (.bl (!neg)) S else .bad
  | _, _ => .bad
noncomputable def oEqN (w : World) (neg : Bool) : Op2 := fun x y S => match x, y with
  | .ref n, .ref m => eqNC w neg S S[n]? S[m]?
  | _, _ => .bad
section
variable {K : PySem.W.Frag} {E : XK}
theorem RN.ze {L : List Addr} {H : Hp} {S : Sto} (rep : Rep K L H S) : ∀ {zs ws : List ZN} {kvs lvs : List (NestedKey × D)}, RN K L H zs kvs → RN K L H ws lvs → eqKV S kvs lvs = true → ZE K H zs ws
  | [], [], [], [], _, _, _ => trivial
  | p :: ps, p' :: ps', q :: qs, q' :: qs', ⟨a, b, c, d⟩, ⟨a', b', c', d'⟩, h => by
    simp only [eqKV, Bool.and_eq_true, decide_eq_true_eq] at h
    obtain ⟨⟨h1, h2⟩, h3⟩ := h
    refine ⟨by rw [a, a', h1], ?_, RN.ze rep d d' h3⟩
    cases e1 : toP S 20 q.2 with
    | none => rw [e1] at h2; cases h2
    | some p1 =>
      cases e2 : toP S 20 q'.2 with
      | none => rw [e1, e2] at h2; cases h2
      | some p2 =>
        rw [e1, e2] at h2
        obtain ⟨x1, x2⟩ := toP_of rep 20 _ _ _ c e1
        obtain ⟨y1, y2⟩ := toP_of rep 20 _ _ _ c' e2
        exact ⟨p1, p2, x1, y1, x2.shaped (by decide), y2.shaped (by decide), h2⟩
  | [], _, _ :: _, _, h, _, _ => h.elim
  | _ :: _, _, [], _, h, _, _ => h.elim
  | _, [], _, _ :: _, _, h, _ => h.elim
  | _, _ :: _, _, [], _, h, _ => h.elim
  | _ :: _, [], _ :: _, [], _, _, h => by simp [eqKV] at h
  | [], _ :: _, [], _ :: _, _, _, h => by simp [eqKV] at h
theorem f_eqN {w : World} {neg : Bool} : OpF K E (rEqN K w neg) (oEqN w neg) := by
  intro L H S x y d1 d2 Q rep r1 r2 q
  unfold oEqN at q
  cases r1 with
  | @ref a n ha =>
    cases r2 with
    | @ref b m hb =>
      obtain ⟨c, hc, rc⟩ := rep.adr ha
      obtain ⟨c', hc', rc'⟩ := rep.adr hb
      simp only [hc, hc'] at q
      cases c with
      | dn w1 kvs =>
        cases c' with
        | dn w2 lvs =>
          simp only [eqNC] at q
          split at q
          · rename_i e
            obtain ⟨rfl, rfl, e⟩ := e
            obtain ⟨zs, hz, rz⟩ := rc
            obtain ⟨ws, hw, rw'⟩ := rc'
            exact ⟨a, b, zs, ws, rfl, rfl, .inl hz, .inl hw, rz.zok, rw'.zok, rz.ze rep rw' e, EndV.val q rep (.bl _)⟩
          · exact q.elim
        | _ => exact q.elim
      | _ => exact q.elim
    | _ => exact q.elim
  | _ => exact q.elim
end
theorem eqKV_gd {S : Sto} : ∀ {kvs : List (NestedKey × D)}, (∀ p ∈ kvs, ∃ d, toP S 20 p.2 = some d ∧ PyData.eqv d d = true) → eqKV S kvs kvs = true
  | [], _ => rfl
  | p :: ps, h => by
    obtain ⟨d, h1, h2⟩ := h p List.mem_cons_self
    simp only [eqKV, h1, h2, Bool.and_eq_true, decide_eq_true_eq, true_and]
    exact eqKV_gd fun q hq => h q (List.mem_cons_of_mem _ hq)
theorem o_eqN {w : World} {neg : Bool} {n m : Nat} {kvs : List (NestedKey × D)} {S : Sto} (h1 : S[n]? = some (.dn w kvs)) (h2 : S[m]? = some (.dn w kvs)) (h : eqKV S kvs kvs = true) : oEqN w neg (.ref n) (.ref m) S = .ok (.bl (!neg)) S := by
  simp only [oEqN, h1, h2, eqNC, h, and_self, if_true]
end RF

/-! d[a text] = v where all keys of d are tuples; a pair of empty dicts == such a pair -/
namespace RF
open PySem L2 PySem.Spec PyProof.Rows
section
variable {P : Program} {w : World} {A : Around} {E : Value → Shared → Prop} {s : Shared} {c d : Addr} {xs ys : List (NestedKey × Addr × Value)}
theorem text_quiet {x : Str} {t : Tok} {stored : List Value} {Q : Bool → Shared → Prop} (hst : ∀ v ∈ stored, ∃ k b, v = .ref b ∧ (nestedKind P w).is s.heap k b) (fin : Q false s) :
    wpAny (model P w) A (tableMayTell (.str x t) stored) Q E s := by
  unfold tableMayTell
  split
  · exact wpAny_pure fin
  · refine wpAny_bind (QuietAt.byValue (prog := P) (w := w) (n := 8) (s := s) (v := .str x t) rfl A _ _ ?_)
    simp only [Bool.not_true, Bool.false_eq_true, if_false]
    refine wpAny_bind (wpAny_forIn_list _ (fun rest r s' => s' = s ∧ r = (none, ()) ∧ ∀ u ∈ rest, ∃ k b, u = .ref b ∧ (nestedKind P w).is s.heap k b) _ ?_ ?_ _ _ ⟨rfl, rfl, hst⟩)
    · rintro u rest r s' ⟨rfl, rfl, hr⟩
      obtain ⟨k, b, rfl, hb⟩ := hr u List.mem_cons_self
      refine wpAny_bind ((nestedKind P w).quiet hb ?_)
      simp only [Bool.not_true, Bool.false_eq_true, if_false]
      exact wpAny_pure ⟨rfl, rfl, fun u hu => hr u (List.mem_cons_of_mem _ hu)⟩
    · rintro r s' ⟨rfl, rfl, _⟩
      exact wpAny_pure fin
theorem key_text {k : NestedKey} {b : Addr} {x : Str} {t : Tok} (hu : A.units < cLine) (h : (nestedKind P w).is s.heap k b) : SeqAt.EqAt A s (.ref b) (.str x t) false := by
  obtain ⟨h, _⟩ := h
  cases h with
  | tup hg hc hd hk => exact SeqAt.EqAt.tuple_str _ _ ⟨_, hg, hc, _, hd⟩ hu
theorem find_text {x : Str} {t : Tok} {h : Int} {Q : Option Nat → Shared → Prop} (hu : A.units < cLine) (md : s.heap.DictOfH (nestedKind P w) d ys) (fin : Q none s) : wpAny (model P w) A (dictFind d (.str x t) h) Q E s := by
  obtain ⟨o, es, ep, g, _, dd, e, i, n⟩ := md
  have at_ : ∀ (j : Nat) (en : DictEntry), es[j]? = some en → ∃ (k : NestedKey) (b : Addr), en.key = .ref b ∧ (nestedKind P w).is s.heap k b := fun j en hj => by
    rw [entry_at e j] at hj
    obtain ⟨y, hy, rfl⟩ := Option.map_eq_some_iff.mp hj
    exact ⟨y.1, y.2.1, rfl, i y (List.mem_of_getElem? hy)⟩
  unfold dictFind
  refine wpAny_holding (wpAny_bind (wpAny_dictEntries g dd ?_))
  dsimp only
  by_cases hall : (es.all fun e => isExactStrKey e.key) = true
  · rw [if_pos hall]
    have : es = #[] := by
      rw [← Array.all_toList, e] at hall
      cases ys with
      | nil => exact Array.toList_eq_nil_iff.mp e
      | cons y ys => simp [entryOfKey, isExactStrKey] at hall
    subst this
    unfold foundByValue
    rw [show (#[] : Array DictEntry).findIdx? (·.key.isStr x) = none from by simp]
    exact wpAny_pure fin
  · rw [if_neg hall]
    generalize hpl : placesWithHash es.size (fun i => es[i]?.map (·.hash)) h = places
    have hst : ∀ v ∈ places.filterMap (fun i => es[i]?.map (·.key)), ∃ k b, v = .ref b ∧ (nestedKind P w).is s.heap k b := fun v hv => by
      obtain ⟨j, _, hj⟩ := List.mem_filterMap.mp hv
      obtain ⟨en, h1, rfl⟩ := Option.map_eq_some_iff.mp hj
      obtain ⟨k, b, h2, h3⟩ := at_ j en h1
      exact ⟨k, b, h2, h3⟩
    by_cases hc : ((Value.str x t :: places.filterMap fun i => es[i]?.map (·.key)).all carriedByValue) = true
    · rw [if_pos hc]
      unfold dictWalkPlain
      refine wpAny_bind (wpAny_forIn_list _ (fun rest r s' => s' = s ∧ r = (none, ())) _ ?_ ?_ _ _ ⟨rfl, rfl⟩)
      · rintro j rest r s' ⟨rfl, rfl⟩
        cases hj : es[j]? with
        | none => exact wpAny_pure ⟨rfl, rfl⟩
        | some en =>
          dsimp only
          by_cases hh : (en.hash == h) = true
          · rw [if_pos hh]
            obtain ⟨k, b, h2, h3⟩ := at_ j en hj
            rw [h2]
            refine wpAny_bind (wpAny_dictEpoch g dd (wpAny_bind (key_text hu h3 P w E _ (wpAny_bind (wpAny_dictEpoch g dd ?_)))))
            rw [if_neg (by simp)]
            simp only [Bool.false_eq_true, if_false]
            exact wpAny_bind (wpAny_rule (wpAny_pure ⟨rfl, rfl⟩))
          · rw [if_neg hh]
            exact wpAny_pure ⟨rfl, rfl⟩
      · rintro r s' ⟨rfl, rfl⟩
        exact wpAny_pure fin
    · rw [if_neg hc]
      by_cases hone : ((places.filterMap fun i => es[i]?.map (·.key)) == [Value.str x t]) = true <;>
      (first | rw [if_pos hone] | rw [if_neg hone]) <;> (first | refine wpAny_bind (wpAny_pure ?_) | refine wpAny_bind (text_quiet hst ?_)) <;> (
        rw [if_neg (by simp)]
        refine wpAny_bind (wpAny_forIn_list _ (fun rest r s' => s' = s ∧ r = (none, none)) _ ?_ ?_ _ _ ⟨rfl, rfl⟩)
        · rintro j rest r s' ⟨rfl, rfl⟩
          cases hj : es[j]? with
          | none => exact wpAny_pure ⟨rfl, rfl⟩
          | some en =>
            dsimp only
            by_cases hh : (en.hash == h) = true
            · rw [if_pos hh]
              obtain ⟨k, b, h2, h3⟩ := at_ j en hj
              rw [h2]
              refine wpAny_bind (wpAny_dictEpoch g dd (wpAny_bind (key_text hu h3 P w E _ (wpAny_bind (wpAny_dictEpoch g dd ?_)))))
              rw [if_neg (by simp)]
              simp only [Bool.false_eq_true, if_false]
              refine wpAny_bind (wpAny_rule ?_)
              first | rw [if_neg (by simp)] | skip
              exact wpAny_pure ⟨rfl, rfl⟩
            · rw [if_neg hh]
              exact wpAny_pure ⟨rfl, rfl⟩
        · rintro r s' ⟨rfl, rfl⟩
          exact wpAny_pure fin)
theorem set_text {v : Value} {x : Str} {t : Tok} {Q : Unit → Shared → Prop} (hu : A.units + 65 < cLine) (md : s.heap.DictOfH (nestedKind P w) d ys) (hz : ys.length ≤ sizeLine)
    (fin : ∀ h' tk, Heap.SameBut d s.heap h' → (∃ q, h'.get? d = some q) → Q () { s with heap := h', toks := tk }) : wpAny (model P w) A (setItem (.ref d) (.str x t) v) Q E s := by
  unfold setItem
  try with_reducible refine wpAny_holding ?_
  refine wpAny_bind (wpAny_sequenceKey md.typeIs (by decide) (wpAny_bind (wpAny_callSpecial?_slot (name := Str.ofString "__setitem__") md.typeIs PySem.F.slot_dict_setitem (wpAny_call_entry PySem.F.slot_dict_setitem md.typeIs PySem.F.entry_dict_setitem ?_ (PySem.F.args_dict_setitem_3 _ _ _)))))
  show wpAny _ _ (Builtin.Dict.notOrdered "__setitem__" ⟨[.ref d, .str x t, v], []⟩ >>= _) _ _ s
  refine wpAny_bind (wpAny_notOrdered_dict md.typeIs ?_)
  show wpAny _ _ (dictSet d (.str x t) v >>= _) _ _ s
  unfold dictSet
  refine wpAny_bind (wpAny_holding (wpAny_bind (wpAny_pyHash_str ?_)))
  unfold dictSetHashed
  refine wpAny_holding ?_
  refine wpAny_bind (find_text (s := { s with toks := s.toks + 1 }) (ys := ys) (by show A.units + 1 < cLine; omega) md ?_)
  obtain ⟨o, es, ep, g, hc, dd, e, i, n⟩ := md
  refine wpAny_bind (wpAny_rule (wpAny_updateDictKeys (hz := by have q := size_of_entries e; omega) (s := { s with toks := s.toks + 1 }) g dd ?_))
  refine wpAny_pure ⟨.none, rfl, wpAny_pure (fin _ _ (Heap.SameBut.update ..) ⟨_, Heap.get?_update_self _ g (Obj.isFreed_of_dict (Obj.data_mapDictKeys dd _))⟩)⟩
end
section
variable {X : Cx} {E : XK} {o i : Expr} {pos : Pos} {fo fi : EF}
open Classical in
noncomputable def setXC (w : World) (S : Sto) (n : Nat) (c : Option Cell) (y : D) : R Unit := match c, y with
  | some (.dn w' kvs), .str _ => if w = w' ∧ kvs.length < 100000 then .ok () (S.set n .jk) else .bad
  | _, _ => .bad
noncomputable def oSetX (w : World) (x y : D) (S : Sto) : R Unit := match x with
  | .ref n => setXC w S n S[n]? y
  | _ => .bad
noncomputable def gSubX (w : World) (fo fi : EF) : GF := fun d env S => (fo env S).bind fun x S1 => (fi env S1).bind fun y S2 => (oSetX w x y S2).bind fun _ S3 => .ok env S3
theorem pset_X (hu : X.A.units + 65 < cLine) : PSet X (fun o i v H Q => ∃ a zs x, o = .ref a ∧ i = .str x ∧ H a = some (dnO X.w a zs) ∧ ZOk H zs ∧ Q (upd H a jkO)) := by
  intro pins s σ H o i v ov iv r Q I ro ri rv h
  obtain ⟨a, zs, x, rfl, rfl, e, hz, q⟩ := h
  obtain rfl : ov = Value.ref a := ro
  obtain ⟨t, rfl⟩ : ∃ t, iv = Value.str x t := ri
  obtain ⟨q1, q2, xs, r1, dd⟩ := dn_of I.hok (.inl e) hz
  refine set_text hu dd (by rw [← Paired.length r1]; exact q2) fun h' tk hs he => ⟨_, ?_, q⟩
  refine d_write I (by rw [e]; exact True.intro) hs he ⟨True.intro, he, fun _ _ _ _ => True.intro⟩
theorem xgSubX (hu : X.A.units + 65 < cLine) (ho : PE X o (tE X.K E fo)) (hi : PE X i (tE X.K E fi)) (ha : ∀ v, assign (.Subscript o i pos) X.env v = (do
      let ov ← holding [v] (eval o X.env); let iv ← holding [v, ov] (eval i X.env); standAt pos
      holding [v, ov, iv] (setItem ov iv v); release [v, ov, iv] []) := by intro _; rfl) : PG X (.Subscript o i pos) (tG X.K E (gSubX X.w fo fi)) := by
  refine ⟨fun pins s σ H v u Q I r q => (pg_sub ho hi (pset_X hu) ha).run pins s σ H v u Q I r ?_⟩
  obtain ⟨L, env, S, d, rep, re, rd, q⟩ := q
  refine ⟨L, env, S, rep, re, (End.bind q).imp fun x S1 L1 H1 e1 rep1 h1 v1 rv => ⟨L1, env, S1, rep1, re.mono e1, (End.bind h1).imp fun y S2 L2 H2 e2 rep2 h2 w rw' => ?_⟩⟩
  have h3 := End.bind h2
  have rx := rv.mono e2
  unfold oSetX at h3
  cases rx with
  | @ref a n hn =>
    obtain ⟨c, hc, rc⟩ := rep2.adr hn
    simp only [hc] at h3
    cases c with
    | dn w' kvs =>
      cases rw' with
      | str z =>
        simp only [setXC] at h3
        split at h3
        · rename_i ew
          obtain ⟨ew, _⟩ := ew
          subst ew
          obtain ⟨zs, hz, rn⟩ := rc
          refine ⟨a, zs, z, rfl, rfl, hz, rn.zok, ?_⟩
          obtain ⟨ex, rep3⟩ := rep2.write (c := .jk) (o := jkO) hn upd_same
          exact h3 _ _ ex rep3 _ _ (Ex.refl _ _) rep3 σ (((re.mono e1).mono e2).mono ex)
        · exact h3.elim
      | _ => exact h3.elim
    | _ => exact h3.elim
  | _ => exact h3.elim
noncomputable def subX3 (env : Lc) : Unit → Sto → R Lc := fun _ S3 => .ok env S3
noncomputable def subX2 (w : World) (env : Lc) (x : D) : D → Sto → R Lc := fun y S2 => (oSetX w x y S2).bind (subX3 env)
noncomputable def subX1 (w : World) (fi : EF) (env : Lc) : D → Sto → R Lc := fun x S1 => (fi env S1).bind (subX2 w env x)
theorem ap_gSubX {w : World} {fo fi : EF} {d : D} {env : Lc} {S : Sto} : gSubX w fo fi d env S = (fo env S).bind (subX1 w fi env) := (rfl)
theorem ap_subX1 {w : World} {fi : EF} {env : Lc} {x : D} {S : Sto} : subX1 w fi env x S = (fi env S).bind (subX2 w env x) := (rfl)
theorem ap_subX2 {w : World} {env : Lc} {x y : D} {S : Sto} : subX2 w env x y S = (oSetX w x y S).bind (subX3 env) := (rfl)
theorem ap_subX3 {env : Lc} {S : Sto} : subX3 env () S = .ok env S := (rfl)
theorem o_setX {w : World} {n : Nat} {x : Str} {kvs : List (NestedKey × D)} {S : Sto} (h : S[n]? = some (.dn w kvs)) (hl : kvs.length < 100000) : oSetX w (.ref n) (.str x) S = .ok () (S.set n .jk) := by
  simp only [oSetX, h, setXC, hl, and_self, if_true]
end
def rEqTE (w : World) : R2 := fun x y H Q => ∃ a b p1 p2 q1 q2, x = .ref a ∧ y = .ref b ∧ H a = some (.tup [.ref p1, .ref p2]) ∧ H b = some (.tup [.ref q1, .ref q2]) ∧ p1 ≠ q1 ∧ p2 ≠ q2 ∧
  Rd H p1 (dnO w p1 []) ∧ Rd H p2 (dnO w p2 []) ∧ Rd H q1 (dnO w q1 []) ∧ Rd H q2 (dnO w q2 []) ∧ Q (.bl true) H
section
variable {X : Cx} {pins : List (Addr × Obj)} {σ : L2.St} {H : Hp} {s : Shared}
theorem hu70 {A : Around} {k : Nat} (hr : Room k A) : A.units + 70 < cLine := by have := hr.un; omega
theorem zok_nil : ZOk H [] := fun _ h => nomatch h
theorem eqIn_empty {p q : Addr} {A : Around} (hu : A.units + 65 < cLine) (I : Inv X pins σ H s) (hne : p ≠ q) (hp : Rd H p (dnO X.w p [])) (hq : Rd H q (dnO X.w q [])) : SeqAt.EqIn X.prog X.w A s (.ref p) (.ref q) true := by
  obtain ⟨a1, _, xs, a3, a4⟩ := dn_of I.hok hp zok_nil
  obtain ⟨b1, _, ys, b3, b4⟩ := dn_of I.hok hq zok_nil
  cases a3; cases b3
  exact SeqAt.EqIn.of_refs hne fun E Q hq => eq_dictH a1 b1 hu a4 b4 rfl (fun j k p v h => by simp at h) hq
theorem op_eqTE (hu : X.A.units + 70 < cLine) : OpR X (compareOp .Eq) (rEqTE X.w) := by
  intro pins s σ H x y v u Q I rx ry h
  obtain ⟨a, b, p1, p2, q1, q2, rfl, rfl, ha, hb, n1, n2, h1, h2, h3, h4, q⟩ := h
  cases (show v = Value.ref a from rx)
  cases (show u = Value.ref b from ry)
  obtain ⟨us, r1, t1, _⟩ := I.tuple (.of ha)
  obtain ⟨ws, r2, t2, _⟩ := I.tuple (.of hb)
  cases r1 with
  | cons c1 r1 => cases r1 with
    | cons c2 r1 => cases r1 with
      | nil => cases r2 with
        | cons c3 r2 => cases r2 with
          | cons c4 r2 => cases r2 with
            | nil =>
              cases c1; cases c2; cases c3; cases c4
              have g : X.A.in1.units + 65 < cLine := by show X.A.units + 1 + 65 < cLine; omega
              refine SeqAt.rcIn_tuples (e := fun _ => true) t1 t2 (by omega) (fun j z1 z2 => ?_) ⟨.bl _, H, I, rfl, q⟩
              match j, z1, z2 with
              | 0, _, _ => exact eqIn_empty g I n1 h1 h3
              | 1, _, _ => exact eqIn_empty g I n2 h2 h4
              | j + 2, z1, _ => exact absurd z1 (by simp)
end
open Classical in
noncomputable def isE (w : World) (c : Option Cell) : Bool := match c with
  | some (.dn w' []) => decide (w' = w)
  | _ => false
noncomputable def oEqTE (w : World) : Op2 := fun x y S => match x, y with
  | .tup [.ref a, .ref b], .tup [.ref c, .ref d] => if a ≠ c ∧ b ≠ d ∧ isE w S[a]? = true ∧ isE w S[b]? = true ∧ isE w S[c]? = true ∧ isE w S[d]? = true then .ok (.bl true) S else .bad
  | _, _ => .bad
theorem isE_of {K : PySem.W.Frag} {L : List Addr} {H : Hp} {S : Sto} {w : World} {n : Nat} {a : Addr} (rep : Rep K L H S) (ha : L[n]? = some a) (h : isE w S[n]? = true) : Rd H a (dnO w a []) := by
  obtain ⟨c, hc, rc⟩ := rep.adr ha
  rw [hc] at h
  cases c with
  | dn w' kvs =>
    cases kvs with
    | nil =>
      simp only [isE, decide_eq_true_eq] at h
      subst h
      obtain ⟨zs, hz, rz⟩ := rc
      cases zs with
      | nil => exact .inl hz
      | cons _ _ => exact rz.elim
    | cons _ _ => simp [isE] at h
  | _ => simp [isE] at h
theorem nd_ne {L : List Addr} (nd : L.Nodup) {n m : Nat} {a b : Addr} (h1 : L[n]? = some a) (h2 : L[m]? = some b) (h : n ≠ m) : a ≠ b := fun e => by
  subst e
  obtain ⟨l1, e1⟩ := List.getElem?_eq_some_iff.mp h1
  obtain ⟨l2, e2⟩ := List.getElem?_eq_some_iff.mp h2
  exact h ((List.getElem_inj nd).mp (e1.trans e2.symm))
theorem f_eqTE {K : PySem.W.Frag} {E : XK} {w : World} : OpF K E (rEqTE w) (oEqTE w) := by
  intro L H S x y d1 d2 Q rep r1 r2 q
  unfold oEqTE at q
  split at q
  · split at q
    · rename_i h
      obtain ⟨n1, n2, e1, e2, e3, e4⟩ := h
      cases r1 with
      | tup ha rs => cases rs with
        | cons c1 rs => cases rs with
          | cons c2 rs => cases rs with
            | nil => cases r2 with
              | tup hb rs => cases rs with
                | cons c3 rs => cases rs with
                  | cons c4 rs => cases rs with
                    | nil =>
                      cases c1 with
                      | ref c1 => cases c2 with
                        | ref c2 => cases c3 with
                          | ref c3 => cases c4 with
                            | ref c4 => exact ⟨_, _, _, _, _, _, rfl, rfl, ha, hb, nd_ne rep.nd c1 c3 n1, nd_ne rep.nd c2 c4 n2, isE_of rep c1 e1, isE_of rep c2 e2, isE_of rep c3 e3, isE_of rep c4 e4, EndV.val q rep (.bl _)⟩
    · exact q.elim
  · exact q.elim
theorem o_eqTE {w : World} {a b c d : Nat} {S : Sto} (n1 : a ≠ c) (n2 : b ≠ d) (h1 : S[a]? = some (.dn w [])) (h2 : S[b]? = some (.dn w [])) (h3 : S[c]? = some (.dn w [])) (h4 : S[d]? = some (.dn w [])) :
    oEqTE w (.tup [.ref a, .ref b]) (.tup [.ref c, .ref d]) S = .ok (.bl true) S := by
  have g : isE w (some (.dn w [])) = true := by simp [isE]
  unfold oEqTE
  simp only [h1, h2, h3, h4, g]
  rw [if_pos ⟨n1, n2, trivial, trivial, trivial, trivial⟩]
end RF

namespace Qk35
open PySem L2 RF
noncomputable section
structure CA where
  w : World
/-- _law_stream -/
def b_law_stream (c : CA) : SF := fSeq (fAsg (fC (.int 0)) (gN 2)) (fSeq (fIf (fTest (fBin oGe (fVar 0) (fBin oPow (fC (.int 10)) (fC (.int 18))))) (fAsg (fVar 0) (gN 2)) fSkip) (fRet (fLst (fCons (fVar 2) (fCons (fBin oMod (fApp oInt (fCons (fBin oAdd (fBin oAdd (fBin oMul (fVar 0) (fC (.int 48271))) (fBin oMul (fVar 1) (fC (.int 69621)))) (fC (.int 77))) fNil)) (fC (.int 2147483647))) fNil)))))
def F_law_stream (c : CA) : FF := fnF 3 (b_law_stream c)
/-- _law_next -/
def b_law_next (c : CA) : SF := fSeq (fIf (fTest (fBin oGt (fIx (fVar 0) (fC (.int 0))) (fC (.int 0)))) (fSeq (fAsg (fBin oMod (fApp oInt (fCons (fIx (fVar 0) (fC (.int 0))) fNil)) (fVar 1)) (gN 2)) (fSeq (fAsg (fBin oDiv (fIx (fVar 0) (fC (.int 0))) (fVar 1)) (gSub' (fVar 0) (fC (.int 0)))) (fRet (fVar 2)))) fSkip) (fSeq (fAsg (fBin oMod (fApp oInt (fCons (fBin oAdd (fBin oMul (fIx (fVar 0) (fC (.int 1))) (fC (.int 48271))) (fC (.int 12820163))) fNil)) (fC (.int 2147483647))) (gSub' (fVar 0) (fC (.int 1)))) (fRet (fBin oMod (fApp oInt (fCons (fBin oDiv (fBin oMod (fApp oInt (fCons (fBin oAdd (fBin oMul (fIx (fVar 0) (fC (.int 1))) (fC (.int 16807))) (fC (.int 5))) fNil)) (fC (.int 2147483399))) (fC (.int 3))) fNil)) (fVar 1))))
def F_law_next (c : CA) : FF := fnF 3 (b_law_next c)
def lb_law_program_0 (c : CA) : SF := fSeq (fAsg (fTup (fCons (fCall (F_law_next c) 2 [] (fCons (fVar 0) (fCons (fVar 1) fNil))) (fCons (fIx (fTup (fCons (fC (.str ⟨#[97]⟩)) (fCons (fC (.str ⟨#[98]⟩)) (fCons (fC (.str ⟨#[99]⟩)) fNil)))) (fCall (F_law_next c) 2 [] (fCons (fVar 0) (fCons (fC (.int 3)) fNil)))) fNil))) (gN 4)) (fSeq (fAsg (fCall (F_law_next c) 2 [] (fCons (fVar 0) (fCons (fC (.int 8)) fNil))) (gN 5)) (fIf (fTest (fBin oLt (fVar 5) (fC (.int 3)))) (fDrop (fBm "list" mAppend (fVar 2) (fCons (fTup (fCons (fC (.str ⟨#[114, 101, 97, 100]⟩)) (fCons (fVar 4) fNil))) fNil))) (fIf (fTest (fBin oEq (fVar 5) (fC (.int 3)))) (fDrop (fBm "list" mAppend (fVar 2) (fCons (fTup (fCons (fC (.str ⟨#[115, 116, 111, 114, 101]⟩)) (fCons (fVar 4) fNil))) fNil))) (fSeq (fAsg (fIx (fTup (fCons (fC (.str ⟨#[112, 117, 116]⟩)) (fCons (fC (.str ⟨#[97, 100, 100]⟩)) (fCons (fC (.str ⟨#[97, 100, 100]⟩)) (fCons (fC (.str ⟨#[110, 101, 101, 100]⟩)) fNil))))) (fBin oSub (fVar 5) (fC (.int 4)))) (gN 6)) (fDrop (fBm "list" mAppend (fVar 2) (fCons (fTup (fCons (fVar 6) (fCons (fVar 4) (fCons (fBin oSub (fCall (F_law_next c) 2 [] (fCons (fVar 0) (fCons (fC (.int 25)) fNil))) (fC (.int 12))) fNil)))) fNil)))))))
theorem ap_lb_law_program_0 (c : CA) (env : Lc) (S : Sto) : lb_law_program_0 c env S = ((fSeq (fAsg (fTup (fCons (fCall (F_law_next c) 2 [] (fCons (fVar 0) (fCons (fVar 1) fNil))) (fCons (fIx (fTup (fCons (fC (.str ⟨#[97]⟩)) (fCons (fC (.str ⟨#[98]⟩)) (fCons (fC (.str ⟨#[99]⟩)) fNil)))) (fCall (F_law_next c) 2 [] (fCons (fVar 0) (fCons (fC (.int 3)) fNil)))) fNil))) (gN 4)) (fSeq (fAsg (fCall (F_law_next c) 2 [] (fCons (fVar 0) (fCons (fC (.int 8)) fNil))) (gN 5)) (fIf (fTest (fBin oLt (fVar 5) (fC (.int 3)))) (fDrop (fBm "list" mAppend (fVar 2) (fCons (fTup (fCons (fC (.str ⟨#[114, 101, 97, 100]⟩)) (fCons (fVar 4) fNil))) fNil))) (fIf (fTest (fBin oEq (fVar 5) (fC (.int 3)))) (fDrop (fBm "list" mAppend (fVar 2) (fCons (fTup (fCons (fC (.str ⟨#[115, 116, 111, 114, 101]⟩)) (fCons (fVar 4) fNil))) fNil))) (fSeq (fAsg (fIx (fTup (fCons (fC (.str ⟨#[112, 117, 116]⟩)) (fCons (fC (.str ⟨#[97, 100, 100]⟩)) (fCons (fC (.str ⟨#[97, 100, 100]⟩)) (fCons (fC (.str ⟨#[110, 101, 101, 100]⟩)) fNil))))) (fBin oSub (fVar 5) (fC (.int 4)))) (gN 6)) (fDrop (fBm "list" mAppend (fVar 2) (fCons (fTup (fCons (fVar 6) (fCons (fVar 4) (fCons (fBin oSub (fCall (F_law_next c) 2 [] (fCons (fVar 0) (fCons (fC (.int 25)) fNil))) (fC (.int 12))) fNil)))) fNil))))))))) env S := (rfl)
/-- _law_program -/
def b_law_program (c : CA) : SF := fSeq (fAsg (fLst fNil) (gN 2)) (fSeq (fFor (fRng1 (fCons (fBin oAdd (fC (.int 1)) (fCall (F_law_next c) 2 [] (fCons (fVar 0) (fCons (fC (.int 12)) fNil)))) fNil)) (gN 3) (lb_law_program_0 c)) (fRet (fApp oTuple (fCons (fVar 2) fNil))))
def F_law_program (c : CA) : FF := fnF 7 (b_law_program c)
def ce_law_events_0 (c : CA) : EF := fBin oSub (fCall (F_law_next c) 2 [] (fCons (fVar 5) (fCons (fC (.int 7)) fNil))) (fC (.int 3))
theorem ap_ce_law_events_0 (c : CA) (env : Lc) (S : Sto) : ce_law_events_0 c env S = ((fBin oSub (fCall (F_law_next c) 2 [] (fCons (fVar 5) (fCons (fC (.int 7)) fNil))) (fC (.int 3)))) env S := (rfl)
def lb_law_events_0 (c : CA) : SF := fSeq (fAsg (fCall (F_law_stream c) 2 [] (fCons (fIx (fVar 0) (fVar 4)) (fCons (fVar 4) fNil))) (gN 5)) (fSeq (fAsg (fTup (fCons (fBin oAdd (fC (.int 1)) (fCall (F_law_next c) 2 [] (fCons (fVar 5) (fCons (fC (.int 4)) fNil)))) (fCons (fCall (F_law_next c) 2 [] (fCons (fVar 5) (fCons (fC (.int 2)) fNil))) fNil))) (gN 6)) (fSeq (fIf (fAnd (fTest (fBin oNeL (fVar 3) (fLst fNil))) (fTest (fBin oGt (fCall (F_law_next c) 2 [] (fCons (fVar 5) (fCons (fC (.int 3)) fNil))) (fC (.int 0))))) (fAsg (fIx (fVar 3) (fCall (F_law_next c) 2 [] (fCons (fVar 5) (fCons (fApp oLen (fCons (fVar 3) fNil)) fNil)))) (gN 6)) fSkip) (fSeq (fAsg (fCall (F_law_next c) 2 [] (fCons (fVar 5) (fCons (fC (.int 10)) fNil))) (gN 7)) (fIf (fOr (fTest (fBin oLt (fVar 7) (fC (.int 3)))) (fTest (fBin oEqL (fVar 3) (fLst fNil)))) (fSeq (fDrop (fBm "list" mAppend (fVar 3) (fCons (fVar 6) fNil))) (fDrop (fBm "list" mAppend (fVar 2) (fCons (fTup (fCons (fC (.str ⟨#[98, 101, 103, 97, 110]⟩)) (fCons (fVar 6) (fCons (fCall (F_law_program c) 2 [] (fCons (fVar 5) (fCons (fC (.int 2)) fNil))) fNil)))) fNil)))) (fIf (fTest (fBin oLt (fVar 7) (fC (.int 8)))) (fSeq (fAsg (fApp oTuple (fCons (fComp (fRng1 (fCons (fCall (F_law_next c) 2 [] (fCons (fVar 5) (fCons (fC (.int 4)) fNil))) fNil)) 9 fYes (ce_law_events_0 c)) fNil)) (gN 8)) (fDrop (fBm "list" mAppend (fVar 2) (fCons (fTup (fCons (fC (.str ⟨#[99, 111, 109, 109, 105, 116, 116, 101, 100]⟩)) (fCons (fVar 6) (fCons (fBin oAdd (fC (.int 1)) (fCall (F_law_next c) 2 [] (fCons (fVar 5) (fCons (fC (.int 3)) fNil)))) (fCons (fBin oGt (fCall (F_law_next c) 2 [] (fCons (fVar 5) (fCons (fC (.int 3)) fNil))) (fC (.int 0))) (fCons (fVar 8) fNil)))))) fNil)))) (fIf (fTest (fBin oEq (fVar 7) (fC (.int 8)))) (fDrop (fBm "list" mAppend (fVar 2) (fCons (fTup (fCons (fC (.str ⟨#[103, 97, 118, 101, 32, 119, 97, 121]⟩)) (fCons (fVar 6) (fCons (fBin oAdd (fC (.int 1)) (fCall (F_law_next c) 2 [] (fCons (fVar 5) (fCons (fC (.int 3)) fNil)))) fNil)))) fNil))) (fDrop (fBm "list" mAppend (fVar 2) (fCons (fTup (fCons (fC (.str ⟨#[101, 110, 100, 101, 100]⟩)) (fCons (fVar 6) fNil))) fNil)))))))))
/-- _law_events -/
def b_law_events (c : CA) : SF := fSeq (fAsg (fLst fNil) (gN 2)) (fSeq (fAsg (fLst fNil) (gN 3)) (fSeq (fFor (fRng2 (fCons (fVar 1) (fCons (fApp oMin2 (fCons (fApp oLen (fCons (fVar 0) fNil)) (fCons (fC (.int 51)) fNil))) fNil))) (gN 4) (lb_law_events_0 c)) (fRet (fVar 2))))
def F_law_events (c : CA) : FF := fnF 10 (b_law_events c)
def lb_law_keys_0 (c : CA) : SF := fIf (fTest (fBin (oInL true) (fIx (fVar 2) (fC (.int 1))) (fVar 1))) (fDrop (fBm "list" mAppend (fVar 1) (fCons (fIx (fVar 2) (fC (.int 1))) fNil))) fSkip
theorem ap_lb_law_keys_0 (c : CA) (env : Lc) (S : Sto) : lb_law_keys_0 c env S = ((fIf (fTest (fBin (oInL true) (fIx (fVar 2) (fC (.int 1))) (fVar 1))) (fDrop (fBm "list" mAppend (fVar 1) (fCons (fIx (fVar 2) (fC (.int 1))) fNil))) fSkip)) env S := (rfl)
/-- _law_keys -/
def b_law_keys (c : CA) : SF := fSeq (fAsg (fLst fNil) (gN 1)) (fSeq (fFor (fIter (fVar 0)) (gN 2) (lb_law_keys_0 c)) (fRet (fVar 1)))
def F_law_keys (c : CA) : FF := fnF 3 (b_law_keys c)
def lb_law_run_0 (c : CA) : SF := fAsg (fIxN c.w (fVar 1) (fVar 3)) (gSubN c.w (fVar 2) (fVar 3))
theorem ap_lb_law_run_0 (c : CA) (env : Lc) (S : Sto) : lb_law_run_0 c env S = ((fAsg (fIxN c.w (fVar 1) (fVar 3)) (gSubN c.w (fVar 2) (fVar 3)))) env S := (rfl)
def lb_law_run_1 (c : CA) : SF := fAsg (fIxN c.w (fVar 1) (fVar 3)) (gSubN c.w (fVar 6) (fVar 3))
theorem ap_lb_law_run_1 (c : CA) (env : Lc) (S : Sto) : lb_law_run_1 c env S = ((fAsg (fIxN c.w (fVar 1) (fVar 3)) (gSubN c.w (fVar 6) (fVar 3)))) env S := (rfl)
def lb_law_run_2 (c : CA) : SF := fSeq (fIf (fTest (fBin oEq (fIx (fVar 5) (fC (.int 0))) (fC (.str ⟨#[114, 101, 97, 100]⟩)))) (fDrop (fBm "list" mAppend (fVar 4) (fCons (fIxN c.w (fVar 2) (fIx (fVar 5) (fC (.int 1)))) fNil))) fSkip) (fSeq (fIf (fTest (fBin oEq (fIx (fVar 5) (fC (.int 0))) (fC (.str ⟨#[112, 117, 116]⟩)))) (fAsg (fIx (fVar 5) (fC (.int 2))) (gSubN c.w (fVar 2) (fIx (fVar 5) (fC (.int 1))))) fSkip) (fSeq (fIf (fTest (fBin oEq (fIx (fVar 5) (fC (.int 0))) (fC (.str ⟨#[97, 100, 100]⟩)))) (fAsg (fBin oAdd (fIxN c.w (fVar 2) (fIx (fVar 5) (fC (.int 1)))) (fIx (fVar 5) (fC (.int 2)))) (gSubN c.w (fVar 2) (fIx (fVar 5) (fC (.int 1))))) fSkip) (fSeq (fIf (fTest (fBin oEq (fIx (fVar 5) (fC (.int 0))) (fC (.str ⟨#[115, 116, 111, 114, 101]⟩)))) (fAsg (fIx (fBin oAdd (fLst (fCons (fC (.int 0)) fNil)) (fVar 4)) (fUn oNeg (fC (.int 1)))) (gSubN c.w (fVar 2) (fIx (fVar 5) (fC (.int 1))))) fSkip) (fIf (fAnd (fTest (fBin oEq (fIx (fVar 5) (fC (.int 0))) (fC (.str ⟨#[110, 101, 101, 100]⟩)))) (fTest (fBin oLt (fIxN c.w (fVar 2) (fIx (fVar 5) (fC (.int 1)))) (fIx (fVar 5) (fC (.int 2)))))) (fSeq (fAsg (fDictN0 c.w) (gN 6)) (fSeq (fFor (fIter (fCall (F_law_keys c) 1 [] (fCons (fVar 0) fNil))) (gN 3) (lb_law_run_1 c)) (fRet (fTup (fCons (fC (.bl false)) (fCons (fVar 4) (fCons (fVar 6) fNil))))))) fSkip))))
theorem ap_lb_law_run_2 (c : CA) (env : Lc) (S : Sto) : lb_law_run_2 c env S = ((fSeq (fIf (fTest (fBin oEq (fIx (fVar 5) (fC (.int 0))) (fC (.str ⟨#[114, 101, 97, 100]⟩)))) (fDrop (fBm "list" mAppend (fVar 4) (fCons (fIxN c.w (fVar 2) (fIx (fVar 5) (fC (.int 1)))) fNil))) fSkip) (fSeq (fIf (fTest (fBin oEq (fIx (fVar 5) (fC (.int 0))) (fC (.str ⟨#[112, 117, 116]⟩)))) (fAsg (fIx (fVar 5) (fC (.int 2))) (gSubN c.w (fVar 2) (fIx (fVar 5) (fC (.int 1))))) fSkip) (fSeq (fIf (fTest (fBin oEq (fIx (fVar 5) (fC (.int 0))) (fC (.str ⟨#[97, 100, 100]⟩)))) (fAsg (fBin oAdd (fIxN c.w (fVar 2) (fIx (fVar 5) (fC (.int 1)))) (fIx (fVar 5) (fC (.int 2)))) (gSubN c.w (fVar 2) (fIx (fVar 5) (fC (.int 1))))) fSkip) (fSeq (fIf (fTest (fBin oEq (fIx (fVar 5) (fC (.int 0))) (fC (.str ⟨#[115, 116, 111, 114, 101]⟩)))) (fAsg (fIx (fBin oAdd (fLst (fCons (fC (.int 0)) fNil)) (fVar 4)) (fUn oNeg (fC (.int 1)))) (gSubN c.w (fVar 2) (fIx (fVar 5) (fC (.int 1))))) fSkip) (fIf (fAnd (fTest (fBin oEq (fIx (fVar 5) (fC (.int 0))) (fC (.str ⟨#[110, 101, 101, 100]⟩)))) (fTest (fBin oLt (fIxN c.w (fVar 2) (fIx (fVar 5) (fC (.int 1)))) (fIx (fVar 5) (fC (.int 2)))))) (fSeq (fAsg (fDictN0 c.w) (gN 6)) (fSeq (fFor (fIter (fCall (F_law_keys c) 1 [] (fCons (fVar 0) fNil))) (gN 3) (lb_law_run_1 c)) (fRet (fTup (fCons (fC (.bl false)) (fCons (fVar 4) (fCons (fVar 6) fNil))))))) fSkip)))))) env S := (rfl)
/-- _law_run -/
def b_law_run (c : CA) : SF := fSeq (fAsg (fDictN0 c.w) (gN 2)) (fSeq (fFor (fIter (fCall (F_law_keys c) 1 [] (fCons (fVar 0) fNil))) (gN 3) (lb_law_run_0 c)) (fSeq (fAsg (fLst fNil) (gN 4)) (fSeq (fFor (fIter (fVar 0)) (gN 5) (lb_law_run_2 c)) (fRet (fTup (fCons (fC (.bl true)) (fCons (fVar 4) (fCons (fVar 2) fNil))))))))
def F_law_run (c : CA) : FF := fnF 7 (b_law_run c)
def ct_law_replay_0 (c : CA) : BF := fAnd (fTest (fBin oEq (fIx (fVar 10) (fC (.int 0))) (fC (.str ⟨#[98, 101, 103, 97, 110]⟩)))) (fTest (fBin oEq (fIx (fVar 10) (fC (.int 1))) (fIx (fVar 4) (fC (.int 1)))))
theorem ap_ct_law_replay_0 (c : CA) (env : Lc) (S : Sto) : ct_law_replay_0 c env S = ((fAnd (fTest (fBin oEq (fIx (fVar 10) (fC (.int 0))) (fC (.str ⟨#[98, 101, 103, 97, 110]⟩)))) (fTest (fBin oEq (fIx (fVar 10) (fC (.int 1))) (fIx (fVar 4) (fC (.int 1))))))) env S := (rfl)
def ce_law_replay_0 (c : CA) : EF := fIx (fVar 10) (fC (.int 2))
theorem ap_ce_law_replay_0 (c : CA) (env : Lc) (S : Sto) : ce_law_replay_0 c env S = ((fIx (fVar 10) (fC (.int 2)))) env S := (rfl)
def lb_law_replay_0 (c : CA) : SF := fIf (fTest (fBin (oInN c.w true) (fVar 6) (fVar 2))) (fAsg (fC (.int 0)) (gSubN c.w (fVar 2) (fVar 6))) fSkip
theorem ap_lb_law_replay_0 (c : CA) (env : Lc) (S : Sto) : lb_law_replay_0 c env S = ((fIf (fTest (fBin (oInN c.w true) (fVar 6) (fVar 2))) (fAsg (fC (.int 0)) (gSubN c.w (fVar 2) (fVar 6))) fSkip)) env S := (rfl)
def lb_law_replay_1 (c : CA) : SF := fAsg (fIxN c.w (fVar 9) (fVar 6)) (gSubN c.w (fVar 2) (fVar 6))
theorem ap_lb_law_replay_1 (c : CA) (env : Lc) (S : Sto) : lb_law_replay_1 c env S = ((fAsg (fIxN c.w (fVar 9) (fVar 6)) (gSubN c.w (fVar 2) (fVar 6)))) env S := (rfl)
def lb_law_replay_2 (c : CA) : SF := fSeq (fAsg (fIx (fVar 0) (fVar 3)) (gN 4)) (fIf (fAnd (fTest (fBin oEq (fIx (fVar 4) (fC (.int 0))) (fC (.str ⟨#[99, 111, 109, 109, 105, 116, 116, 101, 100]⟩)))) (fTest (fBin (oInN c.w true) (fIx (fVar 4) (fC (.int 1))) (fVar 1)))) (fSeq (fAsg (fComp (fIter (fSl (fVar 0) pNo (pSo (fVar 3)))) 10 (ct_law_replay_0 c) (ce_law_replay_0 c)) (gN 5)) (fIf (fTest (fBin oNeL (fVar 5) (fLst fNil))) (fSeq (fFor (fIter (fCall (F_law_keys c) 1 [] (fCons (fIx (fVar 5) (fUn oNeg (fC (.int 1)))) fNil))) (gN 6) (lb_law_replay_0 c)) (fSeq (fAsg (fCall (F_law_run c) 2 [] (fCons (fIx (fVar 5) (fUn oNeg (fC (.int 1)))) (fCons (fVar 2) fNil))) (gUnp 3 (gCons' (gN 7) (gCons' (gN 8) (gCons' (gN 9) gNil'))))) (fSeq (fAsg (fTup (fCons (fVar 7) (fCons (fApp oTuple (fCons (fVar 8) fNil)) fNil))) (gSubN c.w (fVar 1) (fIx (fVar 4) (fC (.int 1))))) (fIce (fVar 9) (fFor (fIterN (fVar 9)) (gN 6) (lb_law_replay_1 c)))))) fSkip)) fSkip)
theorem ap_lb_law_replay_2 (c : CA) (env : Lc) (S : Sto) : lb_law_replay_2 c env S = ((fSeq (fAsg (fIx (fVar 0) (fVar 3)) (gN 4)) (fIf (fAnd (fTest (fBin oEq (fIx (fVar 4) (fC (.int 0))) (fC (.str ⟨#[99, 111, 109, 109, 105, 116, 116, 101, 100]⟩)))) (fTest (fBin (oInN c.w true) (fIx (fVar 4) (fC (.int 1))) (fVar 1)))) (fSeq (fAsg (fComp (fIter (fSl (fVar 0) pNo (pSo (fVar 3)))) 10 (ct_law_replay_0 c) (ce_law_replay_0 c)) (gN 5)) (fIf (fTest (fBin oNeL (fVar 5) (fLst fNil))) (fSeq (fFor (fIter (fCall (F_law_keys c) 1 [] (fCons (fIx (fVar 5) (fUn oNeg (fC (.int 1)))) fNil))) (gN 6) (lb_law_replay_0 c)) (fSeq (fAsg (fCall (F_law_run c) 2 [] (fCons (fIx (fVar 5) (fUn oNeg (fC (.int 1)))) (fCons (fVar 2) fNil))) (gUnp 3 (gCons' (gN 7) (gCons' (gN 8) (gCons' (gN 9) gNil'))))) (fSeq (fAsg (fTup (fCons (fVar 7) (fCons (fApp oTuple (fCons (fVar 8) fNil)) fNil))) (gSubN c.w (fVar 1) (fIx (fVar 4) (fC (.int 1))))) (fIce (fVar 9) (fFor (fIterN (fVar 9)) (gN 6) (lb_law_replay_1 c)))))) fSkip)) fSkip))) env S := (rfl)
/-- _law_replay -/
def b_law_replay (c : CA) : SF := fSeq (fAsg (fDictN0 c.w) (gN 1)) (fSeq (fAsg (fDictN0 c.w) (gN 2)) (fSeq (fFor (fRng1 (fCons (fApp oLen (fCons (fVar 0) fNil)) fNil)) (gN 3) (lb_law_replay_2 c)) (fRet (fLst (fCons (fVar 1) (fCons (fVar 2) fNil))))))
def F_law_replay (c : CA) : FF := fnF 11 (b_law_replay c)
def lb_keys_of_0 (c : CA) : SF := fAsg (fC (.bl true)) (gSubN c.w (fVar 1) (fIx (fVar 2) (fC (.int 1))))
theorem ap_lb_keys_of_0 (c : CA) (env : Lc) (S : Sto) : lb_keys_of_0 c env S = ((fAsg (fC (.bl true)) (gSubN c.w (fVar 1) (fIx (fVar 2) (fC (.int 1)))))) env S := (rfl)
/-- keys_of -/
def b_keys_of (c : CA) : SF := fSeq (fAsg (fDictN0 c.w) (gN 1)) (fSeq (fFor (fIter (fVar 0)) (gN 2) (lb_keys_of_0 c)) (fRet (fApp oListN (fCons (fVar 1) fNil))))
def F_keys_of (c : CA) : FF := fnF 3 (b_keys_of c)
/-- _value_behind -/
def b_value_behind (c : CA) : SF := fSeq (fIf (fTest (fBin oEq (fIx (fVar 0) (fC (.int 0))) (fC (.str ⟨#[112, 117, 116]⟩)))) (fRet (fIx (fVar 0) (fC (.int 2)))) fSkip) (fSeq (fIf (fTest (fBin oEq (fIx (fVar 0) (fC (.int 0))) (fC (.str ⟨#[97, 100, 100]⟩)))) (fRet (fBin oAdd (fVar 1) (fIx (fVar 0) (fC (.int 2))))) fSkip) (fRet (fIfE (fTru (fVar 2)) (fIx (fVar 2) (fUn oNeg (fC (.int 1)))) (fC (.int 0)))))
def F_value_behind (c : CA) : FF := fnF 3 (b_value_behind c)
def ce_run_program_0 (c : CA) : EF := fVar 6
def ce_run_program_1 (c : CA) : EF := fIxN c.w (fVar 1) (fVar 6)
theorem ap_ce_run_program_1 (c : CA) (env : Lc) (S : Sto) : ce_run_program_1 c env S = ((fIxN c.w (fVar 1) (fVar 6))) env S := (rfl)
def ce_run_program_2 (c : CA) : EF := fVar 6
def ce_run_program_3 (c : CA) : EF := fIxN c.w (fVar 2) (fVar 6)
theorem ap_ce_run_program_3 (c : CA) (env : Lc) (S : Sto) : ce_run_program_3 c env S = ((fIxN c.w (fVar 2) (fVar 6))) env S := (rfl)
def lb_run_program_0 (c : CA) : SF := fSeq (fAsg (fIx (fVar 5) (fC (.int 1))) (gN 6)) (fIf (fTest (fBin oEq (fIx (fVar 5) (fC (.int 0))) (fC (.str ⟨#[114, 101, 97, 100]⟩)))) (fDrop (fBm "list" mAppend (fVar 4) (fCons (fIxN c.w (fVar 3) (fVar 6)) fNil))) (fIf (fTest (fBin oNe (fIx (fVar 5) (fC (.int 0))) (fC (.str ⟨#[110, 101, 101, 100]⟩)))) (fAsg (fCall (F_value_behind c) 3 [] (fCons (fVar 5) (fCons (fIxN c.w (fVar 3) (fVar 6)) (fCons (fVar 4) fNil)))) (gSubN c.w (fVar 3) (fVar 6))) (fIf (fTest (fBin oLt (fIxN c.w (fVar 3) (fVar 6)) (fIx (fVar 5) (fC (.int 2))))) (fRet (fTup (fCons (fC (.bl false)) (fCons (fVar 4) (fCons (fVar 2) fNil))))) fSkip)))
theorem ap_lb_run_program_0 (c : CA) (env : Lc) (S : Sto) : lb_run_program_0 c env S = ((fSeq (fAsg (fIx (fVar 5) (fC (.int 1))) (gN 6)) (fIf (fTest (fBin oEq (fIx (fVar 5) (fC (.int 0))) (fC (.str ⟨#[114, 101, 97, 100]⟩)))) (fDrop (fBm "list" mAppend (fVar 4) (fCons (fIxN c.w (fVar 3) (fVar 6)) fNil))) (fIf (fTest (fBin oNe (fIx (fVar 5) (fC (.int 0))) (fC (.str ⟨#[110, 101, 101, 100]⟩)))) (fAsg (fCall (F_value_behind c) 3 [] (fCons (fVar 5) (fCons (fIxN c.w (fVar 3) (fVar 6)) (fCons (fVar 4) fNil)))) (gSubN c.w (fVar 3) (fVar 6))) (fIf (fTest (fBin oLt (fIxN c.w (fVar 3) (fVar 6)) (fIx (fVar 5) (fC (.int 2))))) (fRet (fTup (fCons (fC (.bl false)) (fCons (fVar 4) (fCons (fVar 2) fNil))))) fSkip))))) env S := (rfl)
/-- run_program -/
def b_run_program (c : CA) : SF := fSeq (fAsg (fDComp c.w (fIter (fCall (F_keys_of c) 1 [] (fCons (fVar 0) fNil))) 6 fYes (ce_run_program_0 c) (ce_run_program_1 c)) (gN 2)) (fSeq (fIce (fVar 2) (fAsg (fDComp c.w (fIterN (fVar 2)) 6 fYes (ce_run_program_2 c) (ce_run_program_3 c)) (gN 3))) (fSeq (fAsg (fLst fNil) (gN 4)) (fSeq (fFor (fIter (fVar 0)) (gN 5) (lb_run_program_0 c)) (fRet (fTup (fCons (fC (.bl true)) (fCons (fVar 4) (fCons (fVar 3) fNil))))))))
def F_run_program (c : CA) : FF := fnF 7 (b_run_program c)
def ce_replay_0 (c : CA) : EF := fVar 11
def ce_replay_1 (c : CA) : EF := fGetN c.w (fVar 3) (fVar 11) (fC (.int 0))
theorem ap_ce_replay_1 (c : CA) (env : Lc) (S : Sto) : ce_replay_1 c env S = ((fGetN c.w (fVar 3) (fVar 11) (fC (.int 0)))) env S := (rfl)
def lb_replay_0 (c : CA) : SF := fAsg (fIxN c.w (fVar 10) (fVar 11)) (gSubN c.w (fVar 3) (fVar 11))
theorem ap_lb_replay_0 (c : CA) (env : Lc) (S : Sto) : lb_replay_0 c env S = ((fAsg (fIxN c.w (fVar 10) (fVar 11)) (gSubN c.w (fVar 3) (fVar 11)))) env S := (rfl)
def lb_replay_1 (c : CA) : SF := fSeq (fAsg (fSl (fVar 4) pNo (pSo (fC (.int 2)))) (gUnp 2 (gCons' (gN 5) (gCons' (gN 6) gNil')))) (fIf (fTest (fBin oEq (fVar 5) (fC (.str ⟨#[98, 101, 103, 97, 110]⟩)))) (fAsg (fIx (fVar 4) (fC (.int 2))) (gSubN c.w (fVar 1) (fVar 6))) (fIf (fAnd (fTest (fBin oEq (fVar 5) (fC (.str ⟨#[99, 111, 109, 109, 105, 116, 116, 101, 100]⟩)))) (fAnd (fTest (fBin (oInN c.w false) (fVar 6) (fVar 1))) (fTest (fBin (oInN c.w true) (fVar 6) (fVar 2))))) (fSeq (fAsg (fIxN c.w (fVar 1) (fVar 6)) (gN 7)) (fSeq (fAsg (fCall (F_run_program c) 2 [] (fCons (fVar 7) (fCons (fDComp c.w (fIter (fCall (F_keys_of c) 1 [] (fCons (fVar 7) fNil))) 11 fYes (ce_replay_0 c) (ce_replay_1 c)) fNil))) (gUnp 3 (gCons' (gN 8) (gCons' (gN 9) (gCons' (gN 10) gNil'))))) (fSeq (fAsg (fTup (fCons (fVar 8) (fCons (fApp oTuple (fCons (fVar 9) fNil)) fNil))) (gSubN c.w (fVar 2) (fVar 6))) (fIce (fVar 10) (fFor (fIterN (fVar 10)) (gN 11) (lb_replay_0 c)))))) fSkip))
theorem ap_lb_replay_1 (c : CA) (env : Lc) (S : Sto) : lb_replay_1 c env S = ((fSeq (fAsg (fSl (fVar 4) pNo (pSo (fC (.int 2)))) (gUnp 2 (gCons' (gN 5) (gCons' (gN 6) gNil')))) (fIf (fTest (fBin oEq (fVar 5) (fC (.str ⟨#[98, 101, 103, 97, 110]⟩)))) (fAsg (fIx (fVar 4) (fC (.int 2))) (gSubN c.w (fVar 1) (fVar 6))) (fIf (fAnd (fTest (fBin oEq (fVar 5) (fC (.str ⟨#[99, 111, 109, 109, 105, 116, 116, 101, 100]⟩)))) (fAnd (fTest (fBin (oInN c.w false) (fVar 6) (fVar 1))) (fTest (fBin (oInN c.w true) (fVar 6) (fVar 2))))) (fSeq (fAsg (fIxN c.w (fVar 1) (fVar 6)) (gN 7)) (fSeq (fAsg (fCall (F_run_program c) 2 [] (fCons (fVar 7) (fCons (fDComp c.w (fIter (fCall (F_keys_of c) 1 [] (fCons (fVar 7) fNil))) 11 fYes (ce_replay_0 c) (ce_replay_1 c)) fNil))) (gUnp 3 (gCons' (gN 8) (gCons' (gN 9) (gCons' (gN 10) gNil'))))) (fSeq (fAsg (fTup (fCons (fVar 8) (fCons (fApp oTuple (fCons (fVar 9) fNil)) fNil))) (gSubN c.w (fVar 2) (fVar 6))) (fIce (fVar 10) (fFor (fIterN (fVar 10)) (gN 11) (lb_replay_0 c)))))) fSkip)))) env S := (rfl)
/-- replay -/
def b_replay (c : CA) : SF := fSeq (fAsg (fDictN0 c.w) (gN 1)) (fSeq (fAsg (fDictN0 c.w) (gN 2)) (fSeq (fAsg (fDictN0 c.w) (gN 3)) (fSeq (fFor (fIter (fVar 0)) (gN 4) (lb_replay_1 c)) (fRet (fTup (fCons (fVar 2) (fCons (fVar 3) fNil)))))))
def F_replay (c : CA) : FF := fnF 12 (b_replay c)
def lb_law_0 (c : CA) : SF := fSeq (fAsg (fCall (F_replay c) 1 [] (fCons (fVar 2) fNil)) (gN 6)) (fSeq (fIf (fOr (fNot (fTest (fIsi "tuple" (fVar 6)))) (fOr (fTest (fBin oNe (fApp oLen (fCons (fVar 6) fNil)) (fC (.int 2)))) (fOr (fTest (fBin (oEqN c.w true) (fIx (fVar 6) (fC (.int 0))) (fVar 3))) (fOr (fTest (fBin (oEqN c.w true) (fIx (fVar 6) (fC (.int 1))) (fVar 4))) (fTest (fBin oNe (fVar 2) (fVar 1))))))) (fRet (fC (.bl false))) fSkip) (fSeq (fAsg (fC (.int 0)) (gSubX c.w (fIx (fVar 6) (fC (.int 0))) (fC (.str ⟨#[120]⟩)))) (fAsg (fC (.int 0)) (gSubX c.w (fIx (fVar 6) (fC (.int 1))) (fC (.str ⟨#[120]⟩))))))
theorem ap_lb_law_0 (c : CA) (env : Lc) (S : Sto) : lb_law_0 c env S = ((fSeq (fAsg (fCall (F_replay c) 1 [] (fCons (fVar 2) fNil)) (gN 6)) (fSeq (fIf (fOr (fNot (fTest (fIsi "tuple" (fVar 6)))) (fOr (fTest (fBin oNe (fApp oLen (fCons (fVar 6) fNil)) (fC (.int 2)))) (fOr (fTest (fBin (oEqN c.w true) (fIx (fVar 6) (fC (.int 0))) (fVar 3))) (fOr (fTest (fBin (oEqN c.w true) (fIx (fVar 6) (fC (.int 1))) (fVar 4))) (fTest (fBin oNe (fVar 2) (fVar 1))))))) (fRet (fC (.bl false))) fSkip) (fSeq (fAsg (fC (.int 0)) (gSubX c.w (fIx (fVar 6) (fC (.int 0))) (fC (.str ⟨#[120]⟩)))) (fAsg (fC (.int 0)) (gSubX c.w (fIx (fVar 6) (fC (.int 1))) (fC (.str ⟨#[120]⟩)))))))) env S := (rfl)
/-- law -/
def b_law (c : CA) : SF := fSeq (fAsg (fCall (F_law_events c) 2 [] (fCons (fVar 0) (fCons (fC (.int 0)) fNil))) (gN 1)) (fSeq (fAsg (fApp oListN (fCons (fVar 1) fNil)) (gN 2)) (fSeq (fAsg (fCall (F_law_replay c) 1 [] (fCons (fVar 1) fNil)) (gUnp 2 (gCons' (gN 3) (gCons' (gN 4) gNil')))) (fSeq (fFor (fRng1 (fCons (fC (.int 2)) fNil)) (gN 5) (lb_law_0 c)) (fRet (fBin (oEqTE c.w) (fCall (F_replay c) 1 [] (fCons (fLst fNil) fNil)) (fTup (fCons (fDictN0 c.w) (fCons (fDictN0 c.w) fNil))))))))
def F_law (c : CA) : FF := fnF 7 (b_law c)
end
def top (i : Nat) : Stmt := PySem.Challenge.pw_ringloosed_k35_replays_of_events.main.body.getD i (.Pass ⟨0, 0, 0, 0⟩)
abbrev s_law_stream : Stmt := top 7
abbrev s_law_next : Stmt := top 8
abbrev s_law_program : Stmt := top 9
abbrev s_law_events : Stmt := top 12
abbrev s_law_keys : Stmt := top 10
abbrev s_law_run : Stmt := top 11
abbrev s_law_replay : Stmt := top 14
abbrev s_keys_of : Stmt := top 1
abbrev s_value_behind : Stmt := top 2
abbrev s_run_program : Stmt := top 3
abbrev s_replay : Stmt := top 5
abbrev s_law : Stmt := top 15
structure Ad extends CA where
  a_law_stream : Addr
  d_law_stream : FuncData
  a_law_next : Addr
  d_law_next : FuncData
  a_law_program : Addr
  d_law_program : FuncData
  a_law_events : Addr
  d_law_events : FuncData
  a_law_keys : Addr
  d_law_keys : FuncData
  a_law_run : Addr
  d_law_run : FuncData
  a_law_replay : Addr
  d_law_replay : FuncData
  a_keys_of : Addr
  d_keys_of : FuncData
  a_value_behind : Addr
  d_value_behind : FuncData
  a_run_program : Addr
  d_run_program : FuncData
  a_replay : Addr
  d_replay : FuncData
  a_law : Addr
  d_law : FuncData
structure Gm (K : PySem.W.Frag) (mg : Str → Option Value) (A : Ad) : Prop where
  z_int : mg "int" = none
  z_isinstance : mg "isinstance" = none
  z_len : mg "len" = none
  z_list : mg "list" = none
  z_min : mg "min" = none
  z_range : mg "range" = none
  z_tuple : mg "tuple" = none
  F_law_stream : Fun K "_law_stream" "_law_stream" s_law_stream A.a_law_stream A.d_law_stream
  b_law_stream : Binds K A.d_law_stream ["cell", "k"] []
  g_law_stream : mg "_law_stream" = some (.ref A.a_law_stream)
  F_law_next : Fun K "_law_next" "_law_next" s_law_next A.a_law_next A.d_law_next
  b_law_next : Binds K A.d_law_next ["stream", "size"] []
  g_law_next : mg "_law_next" = some (.ref A.a_law_next)
  F_law_program : Fun K "_law_program" "_law_program" s_law_program A.a_law_program A.d_law_program
  b_law_program : Binds K A.d_law_program ["stream", "houses"] []
  g_law_program : mg "_law_program" = some (.ref A.a_law_program)
  F_law_events : Fun K "_law_events" "_law_events" s_law_events A.a_law_events A.d_law_events
  b_law_events : Binds K A.d_law_events ["script", "least"] []
  g_law_events : mg "_law_events" = some (.ref A.a_law_events)
  F_law_keys : Fun K "_law_keys" "_law_keys" s_law_keys A.a_law_keys A.d_law_keys
  b_law_keys : Binds K A.d_law_keys ["program"] []
  g_law_keys : mg "_law_keys" = some (.ref A.a_law_keys)
  F_law_run : Fun K "_law_run" "_law_run" s_law_run A.a_law_run A.d_law_run
  b_law_run : Binds K A.d_law_run ["program", "values"] []
  g_law_run : mg "_law_run" = some (.ref A.a_law_run)
  F_law_replay : Fun K "_law_replay" "_law_replay" s_law_replay A.a_law_replay A.d_law_replay
  b_law_replay : Binds K A.d_law_replay ["events"] []
  g_law_replay : mg "_law_replay" = some (.ref A.a_law_replay)
  F_keys_of : Fun K "keys_of" "keys_of" s_keys_of A.a_keys_of A.d_keys_of
  b_keys_of : Binds K A.d_keys_of ["program"] []
  g_keys_of : mg "keys_of" = some (.ref A.a_keys_of)
  F_value_behind : Fun K "_value_behind" "_value_behind" s_value_behind A.a_value_behind A.d_value_behind
  b_value_behind : Binds K A.d_value_behind ["step", "value", "read"] []
  g_value_behind : mg "_value_behind" = some (.ref A.a_value_behind)
  F_run_program : Fun K "run_program" "run_program" s_run_program A.a_run_program A.d_run_program
  b_run_program : Binds K A.d_run_program ["program", "values"] []
  g_run_program : mg "run_program" = some (.ref A.a_run_program)
  F_replay : Fun K "replay" "replay" s_replay A.a_replay A.d_replay
  b_replay : Binds K A.d_replay ["events"] []
  g_replay : mg "replay" = some (.ref A.a_replay)
  F_law : Fun K "law" "law" s_law A.a_law A.d_law
  b_law : Binds K A.d_law ["script"] []
  g_law : mg "law" = some (.ref A.a_law)
section
variable {P : Program} {K : PySem.W.Frag} {mg : Str → Option Value} {base : Heap} {A : Ad}
abbrev N_law_stream : List Str := ["cell", "k", "digits"]
theorem sc_law_stream : FnScope N_law_stream ["cell", "k"] (defScope s_law_stream) := ⟨rfl, rfl, rfl, by decide +kernel, rfl, by decide +kernel, by decide +kernel⟩
theorem ok_law_stream (G : Gm K mg A) : FnOk P A.w K mg base CX0 1 A.a_law_stream A.d_law_stream ["cell", "k"] (spF K 2 (F_law_stream A.toCA)) := by
  refine fn_ok G.F_law_stream sc_law_stream rfl (fun cdv A0 outer s H E hr => ?_)
  have nd := sc_law_stream.nd
  exact (xSeq (xSet (i := 2) nd rfl (by first | exact Or.inl rfl | exact Or.inr rfl) (xInt)) (xSeq (xIf (xCmpT op_ge f_ge (nomark _) (xVar 0) (xOp op_pow f_pow (xInt) (xInt))) (xOne (xSet (i := 2) nd rfl (by first | exact Or.inl rfl | exact Or.inr rfl) (xVar 0))) xSkip) (xOne (xRet (xLst (xCons (xVar 2) (xCons (xOp op_mod f_mod (xCT call_int1 f_int (by rfl) G.z_int (by decide +kernel) (xCons (xOp op_addA f_add (xOp op_addA f_add (xOp op_mul f_mul (xVar 0) (xInt)) (xOp op_mul f_mul (xVar 1) (xInt))) (xInt)) xNil)) (xInt)) xNil)))))))
abbrev N_law_next : List Str := ["stream", "size", "drawn"]
theorem sc_law_next : FnScope N_law_next ["stream", "size"] (defScope s_law_next) := ⟨rfl, rfl, rfl, by decide +kernel, rfl, by decide +kernel, by decide +kernel⟩
theorem ok_law_next (G : Gm K mg A) : FnOk P A.w K mg base CX0 1 A.a_law_next A.d_law_next ["stream", "size"] (spF K 2 (F_law_next A.toCA)) := by
  refine fn_ok G.F_law_next sc_law_next rfl (fun cdv A0 outer s H E hr => ?_)
  have nd := sc_law_next.nd
  exact (xSeq (xIf (xCmpT op_gt f_gt (nomark _) (xIx (hu_of hr) (xVar 0) (xInt) (fun _ _ => rfl)) (xInt)) (xSeq (xSet (i := 2) nd rfl (by first | exact Or.inl rfl | exact Or.inr rfl) (xOp op_mod f_mod (xCT call_int1 f_int (by rfl) G.z_int (by decide +kernel) (xCons (xIx (hu_of hr) (xVar 0) (xInt) (fun _ _ => rfl)) xNil)) (xVar 1))) (xSeq (xAsg (xOp op_fdivW f_div (xIx (hu_of hr) (xVar 0) (xInt) (fun _ _ => rfl)) (xVar 1)) (xgSub (hu_of hr) (xVar 0) (xInt))) (xOne (xRet (xVar 2))))) xSkip) (xSeq (xAsg (xOp op_mod f_mod (xCT call_int1 f_int (by rfl) G.z_int (by decide +kernel) (xCons (xOp op_addA f_add (xOp op_mul f_mul (xIx (hu_of hr) (xVar 0) (xInt) (fun _ _ => rfl)) (xInt)) (xInt)) xNil)) (xInt)) (xgSub (hu_of hr) (xVar 0) (xInt))) (xOne (xRet (xOp op_mod f_mod (xCT call_int1 f_int (by rfl) G.z_int (by decide +kernel) (xCons (xOp op_fdivW f_div (xOp op_mod f_mod (xCT call_int1 f_int (by rfl) G.z_int (by decide +kernel) (xCons (xOp op_addA f_add (xOp op_mul f_mul (xIx (hu_of hr) (xVar 0) (xInt) (fun _ _ => rfl)) (xInt)) (xInt)) xNil)) (xInt)) (xInt)) xNil)) (xVar 1))))))
abbrev N_law_program : List Str := ["stream", "houses", "steps", "k", "key", "kind", "step"]
theorem sc_law_program : FnScope N_law_program ["stream", "houses"] (defScope s_law_program) := ⟨rfl, rfl, rfl, by decide +kernel, rfl, by decide +kernel, by decide +kernel⟩
theorem ok_law_program (G : Gm K mg A) : FnOk P A.w K mg base CX0 2 A.a_law_program A.d_law_program ["stream", "houses"] (spF K 2 (F_law_program A.toCA)) := by
  refine fn_ok G.F_law_program sc_law_program rfl (fun cdv A0 outer s H E hr => ?_)
  have nd := sc_law_program.nd
  exact (xSeq (xSet (i := 2) nd rfl (by first | exact Or.inl rfl | exact Or.inr rfl) (xLst xNil)) (xSeq (xFor PassesOwn.never rfl (xRng1 (by rfl) G.z_range (xCons (xOp op_addA f_add (xInt) (xCall (ok_law_next G) (hr.mono (by decide)) (by rfl) G.g_law_next G.F_law_next.kp G.b_law_next (xCons (xVar 0) (xCons (xInt) xNil)))) xNil)) (xgN nd rfl (by first | exact Or.inl rfl | exact Or.inr rfl)) (xSeq (xSet (i := 4) nd rfl (by first | exact Or.inl rfl | exact Or.inr rfl) (xTup (xCons (xCall (ok_law_next G) (hr.mono (by decide)) (by rfl) G.g_law_next G.F_law_next.kp G.b_law_next (xCons (xVar 0) (xCons (xVar 1) xNil))) (xCons (xIx (hu_of hr) (xTup (xCons (xStr (y := ⟨#[97]⟩) (by decide +kernel)) (xCons (xStr (y := ⟨#[98]⟩) (by decide +kernel)) (xCons (xStr (y := ⟨#[99]⟩) (by decide +kernel)) xNil)))) (xCall (ok_law_next G) (hr.mono (by decide)) (by rfl) G.g_law_next G.F_law_next.kp G.b_law_next (xCons (xVar 0) (xCons (xInt) xNil))) (fun _ _ => rfl)) xNil)))) (xSeq (xSet (i := 5) nd rfl (by first | exact Or.inl rfl | exact Or.inr rfl) (xCall (ok_law_next G) (hr.mono (by decide)) (by rfl) G.g_law_next G.F_law_next.kp G.b_law_next (xCons (xVar 0) (xCons (xInt) xNil)))) (xOne (xIf (xCmpT op_lt f_lt (nomark _) (xVar 5) (xInt)) (xOne (xExpr (xBm PySem.F.plainAttrs_list PySem.F.slot_list_append PySem.F.type_list_append mt_append f_append (xVar 2) (xCons (xTup (xCons (xStr (y := ⟨#[114, 101, 97, 100]⟩) (by decide +kernel)) (xCons (xVar 4) xNil))) xNil)))) (xOne (xIf (xCmpT (op_eqD (hr.units)) f_eq (nomark _) (xVar 5) (xInt)) (xOne (xExpr (xBm PySem.F.plainAttrs_list PySem.F.slot_list_append PySem.F.type_list_append mt_append f_append (xVar 2) (xCons (xTup (xCons (xStr (y := ⟨#[115, 116, 111, 114, 101]⟩) (by decide +kernel)) (xCons (xVar 4) xNil))) xNil)))) (xSeq (xSet (i := 6) nd rfl (by first | exact Or.inl rfl | exact Or.inr rfl) (xIx (hu_of hr) (xTup (xCons (xStr (y := ⟨#[112, 117, 116]⟩) (by decide +kernel)) (xCons (xStr (y := ⟨#[97, 100, 100]⟩) (by decide +kernel)) (xCons (xStr (y := ⟨#[97, 100, 100]⟩) (by decide +kernel)) (xCons (xStr (y := ⟨#[110, 101, 101, 100]⟩) (by decide +kernel)) xNil))))) (xOp op_sub f_sub (xVar 5) (xInt)) (fun _ _ => rfl))) (xOne (xExpr (xBm PySem.F.plainAttrs_list PySem.F.slot_list_append PySem.F.type_list_append mt_append f_append (xVar 2) (xCons (xTup (xCons (xVar 6) (xCons (xVar 4) (xCons (xOp op_sub f_sub (xCall (ok_law_next G) (hr.mono (by decide)) (by rfl) G.g_law_next G.F_law_next.kp G.b_law_next (xCons (xVar 0) (xCons (xInt) xNil))) (xInt)) xNil)))) xNil)))))))))))) (xOne (xRet (xCT call_tuple_of f_tuple (by rfl) G.z_tuple (by decide +kernel) (xCons (xVar 2) xNil))))))
abbrev N_law_events : List Str := ["script", "least", "events", "names", "k", "stream", "name", "kind", "read", "j"]
theorem sc_law_events : FnScope N_law_events ["script", "least"] (defScope s_law_events) := ⟨rfl, rfl, rfl, by decide +kernel, rfl, by decide +kernel, by decide +kernel⟩
theorem ok_law_events (G : Gm K mg A) : FnOk P A.w K mg base CX0 3 A.a_law_events A.d_law_events ["script", "least"] (spF K 2 (F_law_events A.toCA)) := by
  refine fn_ok G.F_law_events sc_law_events rfl (fun cdv A0 outer s H E hr => ?_)
  have nd := sc_law_events.nd
  exact (xSeq (xSet (i := 2) nd rfl (by first | exact Or.inl rfl | exact Or.inr rfl) (xLst xNil)) (xSeq (xSet (i := 3) nd rfl (by first | exact Or.inl rfl | exact Or.inr rfl) (xLst xNil)) (xSeq (xFor PassesOwn.never rfl (xRng2 (by rfl) G.z_range (xCons (xVar 1) (xCons (xCB (call_min2 rfl) f_min2 (by rfl) G.z_min (by decide +kernel) (xCons (xCB call_lenA f_len (by rfl) G.z_len (by decide +kernel) (xCons (xVar 0) xNil)) (xCons (xInt) xNil))) xNil))) (xgN nd rfl (by first | exact Or.inl rfl | exact Or.inr rfl)) (xSeq (xSet (i := 5) nd rfl (by first | exact Or.inl rfl | exact Or.inr rfl) (xCall (ok_law_stream G) (hr.mono (by decide)) (by rfl) G.g_law_stream G.F_law_stream.kp G.b_law_stream (xCons (xIx (hu_of hr) (xVar 0) (xVar 4) (fun _ _ => rfl)) (xCons (xVar 4) xNil)))) (xSeq (xSet (i := 6) nd rfl (by first | exact Or.inl rfl | exact Or.inr rfl) (xTup (xCons (xOp op_addA f_add (xInt) (xCall (ok_law_next G) (hr.mono (by decide)) (by rfl) G.g_law_next G.F_law_next.kp G.b_law_next (xCons (xVar 5) (xCons (xInt) xNil)))) (xCons (xCall (ok_law_next G) (hr.mono (by decide)) (by rfl) G.g_law_next G.F_law_next.kp G.b_law_next (xCons (xVar 5) (xCons (xInt) xNil))) xNil)))) (xSeq (xIf (PW.pt (xAnd (xCmpT (op_neLD (hr.units)) f_neL (nomark _) (xVar 3) (xLst xNil)) (xAnd1 (xCmpT op_gt f_gt (nomark _) (xCall (ok_law_next G) (hr.mono (by decide)) (by rfl) G.g_law_next G.F_law_next.kp G.b_law_next (xCons (xVar 5) (xCons (xInt) xNil))) (xInt))))) (xOne (xSet (i := 6) nd rfl (by first | exact Or.inl rfl | exact Or.inr rfl) (xIx (hu_of hr) (xVar 3) (xCall (ok_law_next G) (hr.mono (by decide)) (by rfl) G.g_law_next G.F_law_next.kp G.b_law_next (xCons (xVar 5) (xCons (xCB call_lenA f_len (by rfl) G.z_len (by decide +kernel) (xCons (xVar 3) xNil)) xNil))) (fun _ _ => rfl)))) xSkip) (xSeq (xSet (i := 7) nd rfl (by first | exact Or.inl rfl | exact Or.inr rfl) (xCall (ok_law_next G) (hr.mono (by decide)) (by rfl) G.g_law_next G.F_law_next.kp G.b_law_next (xCons (xVar 5) (xCons (xInt) xNil)))) (xOne (xIf (PW.pt (xOr (xCmpT op_lt f_lt (nomark _) (xVar 7) (xInt)) (xOr1 (xCmpT (op_eqLD (hr.units)) f_eqL (nomark _) (xVar 3) (xLst xNil))))) (xSeq (xExpr (xBm PySem.F.plainAttrs_list PySem.F.slot_list_append PySem.F.type_list_append mt_append f_append (xVar 3) (xCons (xVar 6) xNil))) (xOne (xExpr (xBm PySem.F.plainAttrs_list PySem.F.slot_list_append PySem.F.type_list_append mt_append f_append (xVar 2) (xCons (xTup (xCons (xStr (y := ⟨#[98, 101, 103, 97, 110]⟩) (by decide +kernel)) (xCons (xVar 6) (xCons (xCall (ok_law_program G) (hr.mono (by decide)) (by rfl) G.g_law_program G.F_law_program.kp G.b_law_program (xCons (xVar 5) (xCons (xInt) xNil))) xNil)))) xNil))))) (xOne (xIf (xCmpT op_lt f_lt (nomark _) (xVar 7) (xInt)) (xSeq (xSet (i := 8) nd rfl (by first | exact Or.inl rfl | exact Or.inr rfl) (xCT call_tuple_of f_tuple (by rfl) G.z_tuple (by decide +kernel) (xCons (xComp rfl nd (xRng1 (by rfl) G.z_range (xCons (xCall (ok_law_next G) (hr.mono (by decide)) (by rfl) G.g_law_next G.F_law_next.kp G.b_law_next (xCons (xVar 5) (xCons (xInt) xNil))) xNil)) (blkOk_by (N := N_law_events) (sc := defScope s_law_events) (by decide +kernel)) (fun _ _ _ _ _ => pg_name (i := 9) nd rfl (Or.inl rfl)) (fun _ _ _ _ _ => xYes) (fun _ _ _ _ _ => (xOp op_sub f_sub (xCall (ok_law_next G) (hr.mono (by decide)) (by rfl) G.g_law_next G.F_law_next.kp G.b_law_next (xCons (xVar 5) (xCons (xInt) xNil))) (xInt)))) xNil))) (xOne (xExpr (xBm PySem.F.plainAttrs_list PySem.F.slot_list_append PySem.F.type_list_append mt_append f_append (xVar 2) (xCons (xTup (xCons (xStr (y := ⟨#[99, 111, 109, 109, 105, 116, 116, 101, 100]⟩) (by decide +kernel)) (xCons (xVar 6) (xCons (xOp op_addA f_add (xInt) (xCall (ok_law_next G) (hr.mono (by decide)) (by rfl) G.g_law_next G.F_law_next.kp G.b_law_next (xCons (xVar 5) (xCons (xInt) xNil)))) (xCons (xCmp op_gt f_gt (nomark _) (xCall (ok_law_next G) (hr.mono (by decide)) (by rfl) G.g_law_next G.F_law_next.kp G.b_law_next (xCons (xVar 5) (xCons (xInt) xNil))) (xInt)) (xCons (xVar 8) xNil)))))) xNil))))) (xOne (xIf (xCmpT (op_eqD (hr.units)) f_eq (nomark _) (xVar 7) (xInt)) (xOne (xExpr (xBm PySem.F.plainAttrs_list PySem.F.slot_list_append PySem.F.type_list_append mt_append f_append (xVar 2) (xCons (xTup (xCons (xStr (y := ⟨#[103, 97, 118, 101, 32, 119, 97, 121]⟩) (by decide +kernel)) (xCons (xVar 6) (xCons (xOp op_addA f_add (xInt) (xCall (ok_law_next G) (hr.mono (by decide)) (by rfl) G.g_law_next G.F_law_next.kp G.b_law_next (xCons (xVar 5) (xCons (xInt) xNil)))) xNil)))) xNil)))) (xOne (xExpr (xBm PySem.F.plainAttrs_list PySem.F.slot_list_append PySem.F.type_list_append mt_append f_append (xVar 2) (xCons (xTup (xCons (xStr (y := ⟨#[101, 110, 100, 101, 100]⟩) (by decide +kernel)) (xCons (xVar 6) xNil))) xNil))))))))))))))) (xOne (xRet (xVar 2))))))
abbrev N_law_keys : List Str := ["program", "keys", "step"]
theorem sc_law_keys : FnScope N_law_keys ["program"] (defScope s_law_keys) := ⟨rfl, rfl, rfl, by decide +kernel, rfl, by decide +kernel, by decide +kernel⟩
theorem ok_law_keys (G : Gm K mg A) : FnOk P A.w K mg base CX0 1 A.a_law_keys A.d_law_keys ["program"] (spF K 1 (F_law_keys A.toCA)) := by
  refine fn_ok G.F_law_keys sc_law_keys rfl (fun cdv A0 outer s H E hr => ?_)
  have nd := sc_law_keys.nd
  exact (xSeq (xSet (i := 1) nd rfl (by first | exact Or.inl rfl | exact Or.inr rfl) (xLst xNil)) (xSeq (xFor PassesOwn.never rfl (xIter (xVar 0)) (xgN nd rfl (by first | exact Or.inl rfl | exact Or.inr rfl)) (xOne (xIf (xCmpT (op_notInD (hu65 hr)) f_notInL rfl (xIx (hu_of hr) (xVar 2) (xInt) (fun _ _ => rfl)) (xVar 1)) (xOne (xExpr (xBm PySem.F.plainAttrs_list PySem.F.slot_list_append PySem.F.type_list_append mt_append f_append (xVar 1) (xCons (xIx (hu_of hr) (xVar 2) (xInt) (fun _ _ => rfl)) xNil)))) xSkip))) (xOne (xRet (xVar 1)))))
abbrev N_law_run : List Str := ["program", "values", "now", "key", "read", "step", "back"]
theorem sc_law_run : FnScope N_law_run ["program", "values"] (defScope s_law_run) := ⟨rfl, rfl, rfl, by decide +kernel, rfl, by decide +kernel, by decide +kernel⟩
theorem ok_law_run (G : Gm K mg A) : FnOk P A.w K mg base CX0 2 A.a_law_run A.d_law_run ["program", "values"] (spF K 2 (F_law_run A.toCA)) := by
  refine fn_ok G.F_law_run sc_law_run rfl (fun cdv A0 outer s H E hr => ?_)
  have nd := sc_law_run.nd
  exact (xSeq (xSet (i := 2) nd rfl (by first | exact Or.inl rfl | exact Or.inr rfl) (xDictN0)) (xSeq (xFor PassesOwn.never rfl (xIter (xCall (ok_law_keys G) (hr.mono (by decide)) (by rfl) G.g_law_keys G.F_law_keys.kp G.b_law_keys (xCons (xVar 0) xNil))) (xgN nd rfl (by first | exact Or.inl rfl | exact Or.inr rfl)) (xOne (xAsg (xIxN (hu65 hr) (xVar 1) (xVar 3) (fun _ _ => rfl)) (xgSubN (hu65 hr) (xVar 2) (xVar 3))))) (xSeq (xSet (i := 4) nd rfl (by first | exact Or.inl rfl | exact Or.inr rfl) (xLst xNil)) (xSeq (xFor PassesOwn.never rfl (xIter (xVar 0)) (xgN nd rfl (by first | exact Or.inl rfl | exact Or.inr rfl)) (xSeq (xIf (xCmpT (op_eqD (hr.units)) f_eq (nomark _) (xIx (hu_of hr) (xVar 5) (xInt) (fun _ _ => rfl)) (xStr (y := ⟨#[114, 101, 97, 100]⟩) (by decide +kernel))) (xOne (xExpr (xBm PySem.F.plainAttrs_list PySem.F.slot_list_append PySem.F.type_list_append mt_append f_append (xVar 4) (xCons (xIxN (hu65 hr) (xVar 2) (xIx (hu_of hr) (xVar 5) (xInt) (fun _ _ => rfl)) (fun _ _ => rfl)) xNil)))) xSkip) (xSeq (xIf (xCmpT (op_eqD (hr.units)) f_eq (nomark _) (xIx (hu_of hr) (xVar 5) (xInt) (fun _ _ => rfl)) (xStr (y := ⟨#[112, 117, 116]⟩) (by decide +kernel))) (xOne (xAsg (xIx (hu_of hr) (xVar 5) (xInt) (fun _ _ => rfl)) (xgSubN (hu65 hr) (xVar 2) (xIx (hu_of hr) (xVar 5) (xInt) (fun _ _ => rfl))))) xSkip) (xSeq (xIf (xCmpT (op_eqD (hr.units)) f_eq (nomark _) (xIx (hu_of hr) (xVar 5) (xInt) (fun _ _ => rfl)) (xStr (y := ⟨#[97, 100, 100]⟩) (by decide +kernel))) (xOne (xAsg (xOp op_addA f_add (xIxN (hu65 hr) (xVar 2) (xIx (hu_of hr) (xVar 5) (xInt) (fun _ _ => rfl)) (fun _ _ => rfl)) (xIx (hu_of hr) (xVar 5) (xInt) (fun _ _ => rfl))) (xgSubN (hu65 hr) (xVar 2) (xIx (hu_of hr) (xVar 5) (xInt) (fun _ _ => rfl))))) xSkip) (xSeq (xIf (xCmpT (op_eqD (hr.units)) f_eq (nomark _) (xIx (hu_of hr) (xVar 5) (xInt) (fun _ _ => rfl)) (xStr (y := ⟨#[115, 116, 111, 114, 101]⟩) (by decide +kernel))) (xOne (xAsg (xIx (hu_of hr) (xOp op_addA f_add (xLst (xCons (xInt) xNil)) (xVar 4)) (xUn un_neg f_neg (xInt)) (fun _ _ => rfl)) (xgSubN (hu65 hr) (xVar 2) (xIx (hu_of hr) (xVar 5) (xInt) (fun _ _ => rfl))))) xSkip) (xOne (xIf (PW.pt (xAnd (xCmpT (op_eqD (hr.units)) f_eq (nomark _) (xIx (hu_of hr) (xVar 5) (xInt) (fun _ _ => rfl)) (xStr (y := ⟨#[110, 101, 101, 100]⟩) (by decide +kernel))) (xAnd1 (xCmpT op_lt f_lt (nomark _) (xIxN (hu65 hr) (xVar 2) (xIx (hu_of hr) (xVar 5) (xInt) (fun _ _ => rfl)) (fun _ _ => rfl)) (xIx (hu_of hr) (xVar 5) (xInt) (fun _ _ => rfl)))))) (xSeq (xSet (i := 6) nd rfl (by first | exact Or.inl rfl | exact Or.inr rfl) (xDictN0)) (xSeq (xFor PassesOwn.never rfl (xIter (xCall (ok_law_keys G) (hr.mono (by decide)) (by rfl) G.g_law_keys G.F_law_keys.kp G.b_law_keys (xCons (xVar 0) xNil))) (xgN nd rfl (by first | exact Or.inl rfl | exact Or.inr rfl)) (xOne (xAsg (xIxN (hu65 hr) (xVar 1) (xVar 3) (fun _ _ => rfl)) (xgSubN (hu65 hr) (xVar 6) (xVar 3))))) (xOne (xRet (xTup (xCons (xBl) (xCons (xVar 4) (xCons (xVar 6) xNil)))))))) xSkip))))))) (xOne (xRet (xTup (xCons (xBl) (xCons (xVar 4) (xCons (xVar 2) xNil))))))))))
abbrev N_law_replay : List Str := ["events", "outcomes", "values", "place", "event", "programs", "key", "done", "read", "now", "other"]
theorem sc_law_replay : FnScope N_law_replay ["events"] (defScope s_law_replay) := ⟨rfl, rfl, rfl, by decide +kernel, rfl, by decide +kernel, by decide +kernel⟩
theorem ok_law_replay (G : Gm K mg A) : FnOk P A.w K mg base CX0 3 A.a_law_replay A.d_law_replay ["events"] (spF K 1 (F_law_replay A.toCA)) := by
  refine fn_ok G.F_law_replay sc_law_replay rfl (fun cdv A0 outer s H E hr => ?_)
  have nd := sc_law_replay.nd
  exact (xSeq (xSet (i := 1) nd rfl (by first | exact Or.inl rfl | exact Or.inr rfl) (xDictN0)) (xSeq (xSet (i := 2) nd rfl (by first | exact Or.inl rfl | exact Or.inr rfl) (xDictN0)) (xSeq (xFor PassesOwn.never rfl (xRng1 (by rfl) G.z_range (xCons (xCB call_lenA f_len (by rfl) G.z_len (by decide +kernel) (xCons (xVar 0) xNil)) xNil)) (xgN nd rfl (by first | exact Or.inl rfl | exact Or.inr rfl)) (xSeq (xSet (i := 4) nd rfl (by first | exact Or.inl rfl | exact Or.inr rfl) (xIx (hu_of hr) (xVar 0) (xVar 3) (fun _ _ => rfl))) (xOne (xIf (PW.pt (xAnd (xCmpT (op_eqD (hr.units)) f_eq (nomark _) (xIx (hu_of hr) (xVar 4) (xInt) (fun _ _ => rfl)) (xStr (y := ⟨#[99, 111, 109, 109, 105, 116, 116, 101, 100]⟩) (by decide +kernel))) (xAnd1 (xCmpT (op_notInN (hu65 hr)) f_inN rfl (xIx (hu_of hr) (xVar 4) (xInt) (fun _ _ => rfl)) (xVar 1))))) (xSeq (xSetComp rfl nd rfl rfl (sw_true rfl rfl rfl (by decide +kernel)) (xIter (xSl (xVar 0) xPNo (xPSo (xVar 3)))) (blkOk_by (N := N_law_replay) (sc := defScope s_law_replay) (by decide +kernel)) (fun _ _ _ _ _ => pg_name (i := 10) nd rfl (Or.inl rfl)) (fun _ _ _ _ _ => (xTst (PW.pt (xAnd (xCmpT (op_eqD (hr.units)) f_eq (nomark _) (xIx (hu_of hr) (xVar 10) (xInt) (fun _ _ => rfl)) (xStr (y := ⟨#[98, 101, 103, 97, 110]⟩) (by decide +kernel))) (xAnd1 (xCmpT (op_eqD (hr.units)) f_eq (nomark _) (xIx (hu_of hr) (xVar 10) (xInt) (fun _ _ => rfl)) (xIx (hu_of hr) (xVar 4) (xInt) (fun _ _ => rfl)))))))) (fun _ _ _ _ _ => (xIx (hu_of hr) (xVar 10) (xInt) (fun _ _ => rfl)))) (xOne (xIf (xCmpT (op_neLD (hr.units)) f_neL (nomark _) (xVar 5) (xLst xNil)) (xSeq (xFor PassesOwn.never rfl (xIter (xCall (ok_law_keys G) (hr.mono (by decide)) (by rfl) G.g_law_keys G.F_law_keys.kp G.b_law_keys (xCons (xIx (hu_of hr) (xVar 5) (xUn un_neg f_neg (xInt)) (fun _ _ => rfl)) xNil))) (xgN nd rfl (by first | exact Or.inl rfl | exact Or.inr rfl)) (xOne (xIf (xCmpT (op_notInN (hu65 hr)) f_inN rfl (xVar 6) (xVar 2)) (xOne (xAsg (xInt) (xgSubN (hu65 hr) (xVar 2) (xVar 6)))) xSkip))) (xSeq (xAsg (xCall (ok_law_run G) (hr.mono (by decide)) (by rfl) G.g_law_run G.F_law_run.kp G.b_law_run (xCons (xIx (hu_of hr) (xVar 5) (xUn un_neg f_neg (xInt)) (fun _ _ => rfl)) (xCons (xVar 2) xNil))) (xgUnp rfl (xgCons (xgN nd rfl (by first | exact Or.inl rfl | exact Or.inr rfl)) (xgCons (xgN nd rfl (by first | exact Or.inl rfl | exact Or.inr rfl)) (xgCons (xgN nd rfl (by first | exact Or.inl rfl | exact Or.inr rfl)) xgNil))))) (xSeq (xAsg (xTup (xCons (xVar 7) (xCons (xCT call_tuple_of f_tuple (by rfl) G.z_tuple (by decide +kernel) (xCons (xVar 8) xNil)) xNil))) (xgSubN (hu65 hr) (xVar 1) (xIx (hu_of hr) (xVar 4) (xInt) (fun _ _ => rfl)))) (xOne (xIce (xFor PassesOwn.never rfl (xIterN (xVar 9)) (xgN nd rfl (by first | exact Or.inl rfl | exact Or.inr rfl)) (xOne (xAsg (xIxN (hu65 hr) (xVar 9) (xVar 6) (fun _ _ => rfl)) (xgSubN (hu65 hr) (xVar 2) (xVar 6)))))))))) xSkip))) xSkip)))) (xOne (xRet (xLst (xCons (xVar 1) (xCons (xVar 2) xNil))))))))
abbrev N_keys_of : List Str := ["program", "found", "step"]
theorem sc_keys_of : FnScope N_keys_of ["program"] (defScope s_keys_of) := ⟨rfl, rfl, rfl, by decide +kernel, rfl, by decide +kernel, by decide +kernel⟩
theorem ok_keys_of (G : Gm K mg A) : FnOk P A.w K mg base CX0 1 A.a_keys_of A.d_keys_of ["program"] (spF K 1 (F_keys_of A.toCA)) := by
  refine fn_ok G.F_keys_of sc_keys_of rfl (fun cdv A0 outer s H E hr => ?_)
  have nd := sc_keys_of.nd
  exact (xSeq (xSet (i := 1) nd rfl (by first | exact Or.inl rfl | exact Or.inr rfl) (xDictN0)) (xSeq (xFor PassesOwn.never rfl (xIter (xVar 0)) (xgN nd rfl (by first | exact Or.inl rfl | exact Or.inr rfl)) (xOne (xAsg (xBl) (xgSubN (hu65 hr) (xVar 1) (xIx (hu_of hr) (xVar 2) (xInt) (fun _ _ => rfl)))))) (xOne (xRet (xCT (call_listN rfl) f_listN (by rfl) G.z_list (by decide +kernel) (xCons (xVar 1) xNil))))))
abbrev N_value_behind : List Str := ["step", "value", "read"]
theorem sc_value_behind : FnScope N_value_behind ["step", "value", "read"] (defScope s_value_behind) := ⟨rfl, rfl, rfl, by decide +kernel, rfl, by decide +kernel, by decide +kernel⟩
theorem ok_value_behind (G : Gm K mg A) : FnOk P A.w K mg base CX0 1 A.a_value_behind A.d_value_behind ["step", "value", "read"] (spF K 3 (F_value_behind A.toCA)) := by
  refine fn_ok G.F_value_behind sc_value_behind rfl (fun cdv A0 outer s H E hr => ?_)
  have nd := sc_value_behind.nd
  exact (xSeq (xIf (xCmpT (op_eqD (hr.units)) f_eq (nomark _) (xIx (hu_of hr) (xVar 0) (xInt) (fun _ _ => rfl)) (xStr (y := ⟨#[112, 117, 116]⟩) (by decide +kernel))) (xOne (xRet (xIx (hu_of hr) (xVar 0) (xInt) (fun _ _ => rfl)))) xSkip) (xSeq (xIf (xCmpT (op_eqD (hr.units)) f_eq (nomark _) (xIx (hu_of hr) (xVar 0) (xInt) (fun _ _ => rfl)) (xStr (y := ⟨#[97, 100, 100]⟩) (by decide +kernel))) (xOne (xRet (xOp op_addA f_add (xVar 1) (xIx (hu_of hr) (xVar 0) (xInt) (fun _ _ => rfl))))) xSkip) (xOne (xRet (xIfE (xTru (xVar 2) (by intro _; rfl)) (xIx (hu_of hr) (xVar 2) (xUn un_neg f_neg (xInt)) (fun _ _ => rfl)) (xInt))))))
abbrev N_run_program : List Str := ["program", "values", "at_first", "now", "read", "step", "key"]
theorem sc_run_program : FnScope N_run_program ["program", "values"] (defScope s_run_program) := ⟨rfl, rfl, rfl, by decide +kernel, rfl, by decide +kernel, by decide +kernel⟩
theorem ok_run_program (G : Gm K mg A) : FnOk P A.w K mg base CX0 2 A.a_run_program A.d_run_program ["program", "values"] (spF K 2 (F_run_program A.toCA)) := by
  refine fn_ok G.F_run_program sc_run_program rfl (fun cdv A0 outer s H E hr => ?_)
  have nd := sc_run_program.nd
  exact (xSeq (xSet (hs := sw_cellD rfl) (i := 2) nd rfl (by first | exact Or.inl rfl | exact Or.inr rfl) (xDComp (hu65 hr) rfl nd (xIter (xCall (ok_keys_of G) (hr.mono (by decide)) (by rfl) G.g_keys_of G.F_keys_of.kp G.b_keys_of (xCons (xVar 0) xNil))) (blkOk_by (N := N_run_program) (sc := defScope s_run_program) (by decide +kernel)) (fun _ _ _ _ _ => pg_name (i := 6) nd rfl (Or.inl rfl)) (fun _ _ _ _ _ => xYes) (fun _ _ _ _ _ => (xVar 6)) (fun _ _ _ _ _ => (xIxN (hu65 hr) (xVar 1) (xVar 6) (fun _ _ => rfl))))) (xSeq (xIce (xSetDComp (hu65 hr) rfl nd rfl rfl (sw_trueD rfl rfl rfl (by decide +kernel)) (xIterN (xVar 2)) (blkOk_by (N := N_run_program) (sc := defScope s_run_program) (by decide +kernel)) (fun _ _ _ _ _ => pg_name (i := 6) nd rfl (Or.inl rfl)) (fun _ _ _ _ _ => xYes) (fun _ _ _ _ _ => (xVar 6)) (fun _ _ _ _ _ => (xIxN (hu65 hr) (xVar 2) (xVar 6) (fun _ _ => rfl))))) (xSeq (xSet (i := 4) nd rfl (by first | exact Or.inl rfl | exact Or.inr rfl) (xLst xNil)) (xSeq (xFor PassesOwn.never rfl (xIter (xVar 0)) (xgN nd rfl (by first | exact Or.inl rfl | exact Or.inr rfl)) (xSeq (xSet (i := 6) nd rfl (by first | exact Or.inl rfl | exact Or.inr rfl) (xIx (hu_of hr) (xVar 5) (xInt) (fun _ _ => rfl))) (xOne (xIf (xCmpT (op_eqD (hr.units)) f_eq (nomark _) (xIx (hu_of hr) (xVar 5) (xInt) (fun _ _ => rfl)) (xStr (y := ⟨#[114, 101, 97, 100]⟩) (by decide +kernel))) (xOne (xExpr (xBm PySem.F.plainAttrs_list PySem.F.slot_list_append PySem.F.type_list_append mt_append f_append (xVar 4) (xCons (xIxN (hu65 hr) (xVar 3) (xVar 6) (fun _ _ => rfl)) xNil)))) (xOne (xIf (xCmpT (op_neD (hr.units)) f_ne (nomark _) (xIx (hu_of hr) (xVar 5) (xInt) (fun _ _ => rfl)) (xStr (y := ⟨#[110, 101, 101, 100]⟩) (by decide +kernel))) (xOne (xAsg (xCall (ok_value_behind G) (hr.mono (by decide)) (by rfl) G.g_value_behind G.F_value_behind.kp G.b_value_behind (xCons (xVar 5) (xCons (xIxN (hu65 hr) (xVar 3) (xVar 6) (fun _ _ => rfl)) (xCons (xVar 4) xNil)))) (xgSubN (hu65 hr) (xVar 3) (xVar 6)))) (xOne (xIf (xCmpT op_lt f_lt (nomark _) (xIxN (hu65 hr) (xVar 3) (xVar 6) (fun _ _ => rfl)) (xIx (hu_of hr) (xVar 5) (xInt) (fun _ _ => rfl))) (xOne (xRet (xTup (xCons (xBl) (xCons (xVar 4) (xCons (xVar 2) xNil)))))) xSkip)))))))) (xOne (xRet (xTup (xCons (xBl) (xCons (xVar 4) (xCons (xVar 3) xNil))))))))))
abbrev N_replay : List Str := ["events", "programs", "outcomes", "values", "event", "word", "transaction", "program", "done", "read", "behind", "key"]
theorem sc_replay : FnScope N_replay ["events"] (defScope s_replay) := ⟨rfl, rfl, rfl, by decide +kernel, rfl, by decide +kernel, by decide +kernel⟩
theorem ok_replay (G : Gm K mg A) : FnOk P A.w K mg base CX0 3 A.a_replay A.d_replay ["events"] (spF K 1 (F_replay A.toCA)) := by
  refine fn_ok G.F_replay sc_replay rfl (fun cdv A0 outer s H E hr => ?_)
  have nd := sc_replay.nd
  exact (xSeq (xSet (i := 1) nd rfl (by first | exact Or.inl rfl | exact Or.inr rfl) (xDictN0)) (xSeq (xSet (i := 2) nd rfl (by first | exact Or.inl rfl | exact Or.inr rfl) (xDictN0)) (xSeq (xSet (i := 3) nd rfl (by first | exact Or.inl rfl | exact Or.inr rfl) (xDictN0)) (xSeq (xFor PassesOwn.never rfl (xIter (xVar 0)) (xgN nd rfl (by first | exact Or.inl rfl | exact Or.inr rfl)) (xSeq (xAsg (xSl (xVar 4) xPNo (xPSo (xInt))) (xgUnp rfl (xgCons (xgN nd rfl (by first | exact Or.inl rfl | exact Or.inr rfl)) (xgCons (xgN nd rfl (by first | exact Or.inl rfl | exact Or.inr rfl)) xgNil)))) (xOne (xIf (xCmpT (op_eqD (hr.units)) f_eq (nomark _) (xVar 5) (xStr (y := ⟨#[98, 101, 103, 97, 110]⟩) (by decide +kernel))) (xOne (xAsg (xIx (hu_of hr) (xVar 4) (xInt) (fun _ _ => rfl)) (xgSubN (hu65 hr) (xVar 1) (xVar 6)))) (xOne (xIf (PW.pt (xAnd (xCmpT (op_eqD (hr.units)) f_eq (nomark _) (xVar 5) (xStr (y := ⟨#[99, 111, 109, 109, 105, 116, 116, 101, 100]⟩) (by decide +kernel))) (xAnd (xCmpT (op_inN (hu65 hr)) f_inN rfl (xVar 6) (xVar 1)) (xAnd1 (xCmpT (op_notInN (hu65 hr)) f_inN rfl (xVar 6) (xVar 2)))))) (xSeq (xSet (i := 7) nd rfl (by first | exact Or.inl rfl | exact Or.inr rfl) (xIxN (hu65 hr) (xVar 1) (xVar 6) (fun _ _ => rfl))) (xSeq (xAsg (xCall (ok_run_program G) (hr.mono (by decide)) (by rfl) G.g_run_program G.F_run_program.kp G.b_run_program (xCons (xVar 7) (xCons (xDComp (hu65 hr) rfl nd (xIter (xCall (ok_keys_of G) (hr.mono (by decide)) (by rfl) G.g_keys_of G.F_keys_of.kp G.b_keys_of (xCons (xVar 7) xNil))) (blkOk_by (N := N_replay) (sc := defScope s_replay) (by decide +kernel)) (fun _ _ _ _ _ => pg_name (i := 11) nd rfl (Or.inl rfl)) (fun _ _ _ _ _ => xYes) (fun _ _ _ _ _ => (xVar 11)) (fun _ _ _ _ _ => (xGetN (hu65 hr) (xVar 3) (xVar 11) (xInt) ⟨by rfl, by rfl, by rfl, by rfl⟩))) xNil))) (xgUnp rfl (xgCons (xgN nd rfl (by first | exact Or.inl rfl | exact Or.inr rfl)) (xgCons (xgN nd rfl (by first | exact Or.inl rfl | exact Or.inr rfl)) (xgCons (xgN nd rfl (by first | exact Or.inl rfl | exact Or.inr rfl)) xgNil))))) (xSeq (xAsg (xTup (xCons (xVar 8) (xCons (xCT call_tuple_of f_tuple (by rfl) G.z_tuple (by decide +kernel) (xCons (xVar 9) xNil)) xNil))) (xgSubN (hu65 hr) (xVar 2) (xVar 6))) (xOne (xIce (xFor PassesOwn.never rfl (xIterN (xVar 10)) (xgN nd rfl (by first | exact Or.inl rfl | exact Or.inr rfl)) (xOne (xAsg (xIxN (hu65 hr) (xVar 10) (xVar 11) (fun _ _ => rfl)) (xgSubN (hu65 hr) (xVar 3) (xVar 11)))))))))) xSkip)))))) (xOne (xRet (xTup (xCons (xVar 2) (xCons (xVar 3) xNil)))))))))
abbrev N_law : List Str := ["script", "events", "given", "outcomes", "values", "turn", "told"]
theorem sc_law : FnScope N_law ["script"] (defScope s_law) := ⟨rfl, rfl, rfl, by decide +kernel, rfl, by decide +kernel, by decide +kernel⟩
theorem ok_law (G : Gm K mg A) : FnOk P A.w K mg base CX0 4 A.a_law A.d_law ["script"] (spF K 1 (F_law A.toCA)) := by
  refine fn_ok G.F_law sc_law rfl (fun cdv A0 outer s H E hr => ?_)
  have nd := sc_law.nd
  exact (xSeq (xSet (i := 1) nd rfl (by first | exact Or.inl rfl | exact Or.inr rfl) (xCall (ok_law_events G) (hr.mono (by decide)) (by rfl) G.g_law_events G.F_law_events.kp G.b_law_events (xCons (xVar 0) (xCons (xInt) xNil)))) (xSeq (xSet (i := 2) nd rfl (by first | exact Or.inl rfl | exact Or.inr rfl) (xCT (call_listN rfl) f_listN (by rfl) G.z_list (by decide +kernel) (xCons (xVar 1) xNil))) (xSeq (xAsg (xCall (ok_law_replay G) (hr.mono (by decide)) (by rfl) G.g_law_replay G.F_law_replay.kp G.b_law_replay (xCons (xVar 1) xNil)) (xgUnp rfl (xgCons (xgN nd rfl (by first | exact Or.inl rfl | exact Or.inr rfl)) (xgCons (xgN nd rfl (by first | exact Or.inl rfl | exact Or.inr rfl)) xgNil)))) (xSeq (xFor PassesOwn.never rfl (xRng1 (by rfl) G.z_range (xCons (xInt) xNil)) (xgN nd rfl (by first | exact Or.inl rfl | exact Or.inr rfl)) (xSeq (xSet (i := 6) nd rfl (by first | exact Or.inl rfl | exact Or.inr rfl) (xCall (ok_replay G) (hr.mono (by decide)) (by rfl) G.g_replay G.F_replay.kp G.b_replay (xCons (xVar 2) xNil))) (xSeq (xIf (PW.pt (xOr (xNot (xVal (xIsi (xVar 6) (by decide +kernel) (by rfl) G.z_tuple (by rfl) G.z_isinstance))) (xOr (xCmpT (op_neD (hr.units)) f_ne (nomark _) (xCB call_lenA f_len (by rfl) G.z_len (by decide +kernel) (xCons (xVar 6) xNil)) (xInt)) (xOr (xCmpT (op_neN (hu65 hr)) f_eqN (nomark _) (xIx (hu_of hr) (xVar 6) (xInt) (fun _ _ => rfl)) (xVar 3)) (xOr (xCmpT (op_neN (hu65 hr)) f_eqN (nomark _) (xIx (hu_of hr) (xVar 6) (xInt) (fun _ _ => rfl)) (xVar 4)) (xOr1 (xCmpT (op_neD (hr.units)) f_ne (nomark _) (xVar 2) (xVar 1)))))))) (xOne (xRet (xBl))) xSkip) (xSeq (xAsg (xInt) (xgSubX (hu65 hr) (xIx (hu_of hr) (xVar 6) (xInt) (fun _ _ => rfl)) (xStr (y := ⟨#[120]⟩) (by decide +kernel)))) (xOne (xAsg (xInt) (xgSubX (hu65 hr) (xIx (hu_of hr) (xVar 6) (xInt) (fun _ _ => rfl)) (xStr (y := ⟨#[120]⟩) (by decide +kernel))))))))) (xOne (xRet (xCmp (op_eqTE (hu70 hr)) f_eqTE (nomark _) (xCall (ok_replay G) (hr.mono (by decide)) (by rfl) G.g_replay G.F_replay.kp G.b_replay (xCons (xLst xNil) xNil)) (xTup (xCons (xDictN0) (xCons (xDictN0) xNil))))))))))
end
end Qk35

namespace Qk35
open PySem L2 RF
def nextC (c : CA) (n : Nat) (size : Int) (S : Sto) : Option Cell → R D
  | some (.lst [.int a, .int b]) => .ok (.int (dNext size (a, b)).1) (S.set n (stC (dNext size (a, b)).2))
  | _ => F_law_next c [.ref n, .int size] S
theorem fT_nextC (c : CA) {n : Nat} {s : Sd} {size : Int} {S : Sto} : nextC c n size S (some (stC s)) = .ok (.int (dNext size s).1) (S.set n (stC (dNext size s).2)) := (rfl)
theorem next_eq (c : CA) {n : Nat} {size : Int} {S : Sto} (h0 : 0 < size) (h1 : size < 1267650600228229401496703205376) :
    F_law_next c [.ref n, .int size] S = nextC c n size S S[n]? := by
  unfold nextC
  split
  · rename_i a b h
    unfold F_law_next b_law_next
    by_cases ha : 0 < a
    · simp only [ap_fVar, varK_some, ap_fC, ap_fBin, ap_binK, ap_fApp, ap_fNil, ap_fCons, ap_consK, ap_consK2, ap_fTest, ap_testK, ap_fSkip, ap_fSeq, ap_seqK_nx, ap_seqK_rt, ap_fIf, ap_ifK, ap_fRet, ap_retK, ap_fAsg, ap_asgK, ap_asgK2, ap_gN, ap_gSub, ap_subK1, ap_subK2, ap_subK3, ap_fIx, ap_ixK, isDict_ref, isDictC_lst, getL_ref, getLC_lst, retO_some, atI_0, oSet_ref, setC_lst, setLK_some, ixN_0, ap_fnF, ap_fnK_rt, o_mod, o_div, o_gt, o_int, o_getD, lookD_ref, R.bind_ok, List.map_cons, List.map_nil, List.length_cons, List.length_nil, List.cons_append, List.nil_append, Nat.zero_add, Nat.reduceAdd, Nat.reduceSub, List.replicate_succ, List.replicate_zero, List.getElem?_cons_zero, List.getElem?_cons_succ, List.set_cons_zero, List.set_cons_succ, Bool.false_eq_true, if_true, if_false, decide_true, Int.reduceLE, and_self, h, set_get h, h0, h1, ha, stC, dNext]
    · simp only [ap_fVar, varK_some, ap_fC, ap_fBin, ap_binK, ap_fApp, ap_fNil, ap_fCons, ap_consK, ap_consK2, ap_fTest, ap_testK, ap_fSkip, ap_fSeq, ap_seqK_nx, ap_fIf, ap_ifK, ap_fRet, ap_retK, ap_fAsg, ap_asgK, ap_asgK2, ap_gN, ap_gSub, ap_subK1, ap_subK2, ap_subK3, ap_fIx, ap_ixK, isDict_ref, isDictC_lst, getL_ref, getLC_lst, retO_some, atI_0, atI_1, oSet_ref, setC_lst, setLK_some, ixN_0, ixN_1, ap_fnF, ap_fnK_rt, o_add, o_mul, o_mod, o_div, o_gt, o_int, o_getD, lookD_ref, R.bind_ok, List.map_cons, List.map_nil, List.length_cons, List.length_nil, List.cons_append, List.nil_append, Nat.zero_add, Nat.reduceAdd, Nat.reduceSub, List.replicate_succ, List.replicate_zero, List.getElem?_cons_zero, List.getElem?_cons_succ, List.set_cons_zero, List.set_cons_succ, Bool.false_eq_true, if_true, if_false, decide_false, Int.reduceLT, Int.reduceLE, Int.reduceNeg, Int.reducePow, or_true, and_self, h, set_get h, h0, h1, ha, stC, dNext]
  · rfl
theorem stream_eq (c : CA) (x k : Int) (S : Sto) (hk : 0 ≤ k ∧ k < 1000) : ∃ s, F_law_stream c [.int x, .int k] S = .ok (.ref S.length) (S ++ [stC s]) := by
  unfold F_law_stream b_law_stream
  by_cases h : (1000000000000000000 : Int) ≤ x
  · refine ⟨(x, (x * 48271 + k * 69621 + 77) % 2147483647), ?_⟩
    simp only [ap_fVar, varK_some, ap_fC, ap_fBin, ap_binK, ap_fApp, ap_fNil, ap_fCons, ap_consK, ap_consK2, ap_fLst, ap_lstK, ap_fTest, ap_testK, ap_fSkip, ap_fSeq, ap_seqK_nx, ap_fIf, ap_ifK, ap_fRet, ap_retK, ap_fAsg, ap_asgK, ap_asgK2, ap_gN, ap_fnF, ap_fnK_rt, o_add, o_mul, o_mod, o_pow, o_ge, o_int, R.bind_ok, List.map_cons, List.map_nil, List.length_cons, List.length_nil, List.cons_append, List.nil_append, Nat.zero_add, Nat.reduceAdd, Nat.reduceSub, List.replicate_succ, List.replicate_zero, List.getElem?_cons_zero, List.getElem?_cons_succ, List.set_cons_zero, List.set_cons_succ, if_true, decide_true, Nat.reduceLeDiff, Int.reduceLT, Int.reduceLE, Int.reduceNeg, Int.reducePow, or_true, and_self, Int.reduceToNat, h, stC]
  · refine ⟨(0, (x * 48271 + k * 69621 + 77) % 2147483647), ?_⟩
    simp only [ap_fVar, varK_some, ap_fC, ap_fBin, ap_binK, ap_fApp, ap_fNil, ap_fCons, ap_consK, ap_consK2, ap_fLst, ap_lstK, ap_fTest, ap_testK, ap_fSkip, ap_fSeq, ap_seqK_nx, ap_fIf, ap_ifK, ap_fRet, ap_retK, ap_fAsg, ap_asgK, ap_asgK2, ap_gN, ap_fnF, ap_fnK_rt, o_add, o_mul, o_mod, o_pow, o_ge, o_int, R.bind_ok, List.map_cons, List.map_nil, List.length_cons, List.length_nil, List.cons_append, List.nil_append, Nat.zero_add, Nat.reduceAdd, Nat.reduceSub, List.replicate_succ, List.replicate_zero, List.getElem?_cons_zero, List.getElem?_cons_succ, List.set_cons_zero, List.set_cons_succ, Bool.false_eq_true, if_true, if_false, decide_false, Nat.reduceLeDiff, Int.reduceLT, Int.reduceLE, Int.reduceNeg, Int.reducePow, or_true, and_self, Int.reduceToNat, h, stC]
theorem fVs_val {vs : Vals2} {k : K2} : valK (fVs vs) k = (valK vs k).map D.int := by
  unfold valK fVs
  induction vs with
  | nil => rfl
  | cons y r ih =>
    rw [List.map_cons, List.find?_cons, List.find?_cons]
    by_cases hx : y.1 = k
    · simp [hx]
    · simp only [decide_eq_false hx]
      exact ih
theorem fVs_len {vs : Vals2} : (fVs vs).length = vs.length := List.length_map ..
theorem fVs_put {vs : Vals2} {k : K2} {z : Int} : putKD (fVs vs) k (.int z) = fVs (putKD vs k z) := by
  have ha : ((fVs vs).any fun kv => decide (kv.1 = k)) = vs.any fun kv => decide (kv.1 = k) := by unfold fVs; rw [List.any_map]; rfl
  unfold putKD
  rw [ha]
  split
  · unfold fVs
    rw [List.map_map, List.map_map]
    refine List.map_congr_left fun y _ => ?_
    show (if y.1 = k then (y.1, D.int z) else (y.1, .int y.2)) = _
    by_cases h : y.1 = k <;> simp [h]
  · unfold fVs
    rw [List.map_append]; rfl
theorem gd_eK' {n : Nat} {k : K2} (h : PyData.strOk k.2 = true) : gd (n + 1) (eK k) = true := by
  show ([D.int k.1, .str k.2].all (gd n)) = true
  cases n <;> simp [gd, h]
theorem gd_i {n : Nat} {z : Int} : gd n (.int z) = true := by cases n <;> rfl
theorem gd_b {n : Nat} {z : Bool} : gd n (.bl z) = true := by cases n <;> rfl
theorem gd_s {n : Nat} {z : Str} (h : PyData.strOk z = true) : gd n (.str z) = true := by cases n <;> exact h
theorem gd_T {n : Nat} {a : Int × Int} : gd (n + 1) (eT a) = true := by
  show ([D.int a.1, .int a.2].all (gd n)) = true
  simp [gd_i]
theorem gd_stp {n : Nat} {s : Stp} (h : PyData.strOk s.key.2 = true) : gd (n + 2) (eS s) = true := by
  have z : ∀ {xs : List D}, (∀ x ∈ xs, gd (n + 1) x = true) → gd (n + 2) (.tup xs) = true := fun {xs} hx => by
    show xs.all (gd (n + 1)) = true
    exact List.all_eq_true.mpr hx
  have hk := gd_eK' (n := n) h
  cases s <;> (apply z; intro x hx; simp only [List.mem_cons, List.mem_nil_iff, or_false] at hx; rcases hx with rfl | rfl | rfl) <;> first | exact gd_s (by decide +kernel) | exact hk | exact gd_i
theorem gd_tup {n : Nat} {xs : List D} (h : ∀ x ∈ xs, gd n x = true) : gd (n + 1) (.tup xs) = true := by
  show xs.all (gd n) = true
  exact List.all_eq_true.mpr h
theorem gd_eI {n : Nat} {xs : List Int} : gd (n + 1) (.tup (eI xs)) = true := gd_tup fun x hx => by
  obtain ⟨s, hs, rfl⟩ := List.mem_map.mp hx
  exact gd_i
theorem eS_ix1 {s : Stp} {S : Sto} : oGetL (eS s) (.int 1) S = .ok (eK s.key) S := by cases s <;> (unfold eS; rw [getL_tup, atI_1, retO_some]; rfl)
theorem eS_nd {s : Stp} {S : Sto} : isDict S (eS s) = false := by cases s <;> rfl
theorem fTr_len {ks : List K2} : (fTr ks).length = ks.length := List.length_map ..
theorem fTr_any {ks : List K2} {k : K2} : ((fTr ks).any fun kv => decide (kv.1 = k)) = decide (k ∈ ks) := by
  induction ks with
  | nil => simp [fTr]
  | cons g ks ih =>
    show (decide (g = k) || (fTr ks).any fun kv => decide (kv.1 = k)) = _
    rw [ih]
    by_cases h1 : g = k
    · subst h1; simp
    · have h3 : ¬ k = g := fun e => h1 e.symm
      simp [h1, h3]
theorem fTr_put {ks : List K2} {k : K2} : putKD (fTr ks) k (.bl true) = fTr (addK ks k) := by
  unfold putKD addK
  rw [fTr_any]
  by_cases h : k ∈ ks
  · rw [decide_eq_true h, if_pos rfl, if_pos h]
    unfold fTr
    rw [List.map_map]
    refine List.map_congr_left fun g _ => ?_
    show (if g = k then (g, D.bl true) else (g, D.bl true)) = (g, D.bl true)
    split <;> rfl
  · rw [decide_eq_false h, if_neg (by decide), if_neg h]
    unfold fTr
    rw [List.map_append]; rfl
theorem fTr_keys {ks : List K2} : (fTr ks).map (·.1) = ks := by unfold fTr; rw [List.map_map]; exact List.map_id _
theorem addKs_len {k : K2} {ks : List K2} : (addK ks k).length ≤ ks.length + 1 := by
  unfold addK
  split
  · omega
  · rw [List.length_append, List.length_singleton]; exact Nat.le_refl _
theorem fold_addK_len : ∀ {ks acc : List K2}, (ks.foldl addK acc).length ≤ acc.length + ks.length
  | [], acc => Nat.le_refl _
  | k :: ks, acc => by
    rw [List.foldl_cons, List.length_cons]
    have := fold_addK_len (ks := ks) (acc := addK acc k)
    have := addKs_len (ks := acc) (k := k)
    omega
theorem keysS_len {pg : List Stp} : (keysS pg).length ≤ pg.length := by
  have := fold_addK_len (ks := pg.map Stp.key) (acc := [])
  rw [List.length_map, List.length_nil, Nat.zero_add] at this
  exact this
theorem keysS_mem {pg : List Stp} {k : K2} : k ∈ keysS pg ↔ ∃ s ∈ pg, s.key = k := by
  unfold keysS
  rw [unl_mem]
  simp
theorem keysof_loop (c : CA) {S : Sto} {v0 : Option D} : ∀ (ss : List Stp) (acc : List K2) (e2 : Option D), acc.length + ss.length < 1000 →
    ∃ f2, loopX (gN 2) (lb_keys_of_0 c) (eSs ss) [v0, some (.ref S.length), e2] (S ++ [.dn c.w (kK.enc (fTr acc))]) = .ok (.nx [v0, some (.ref S.length), f2]) (S ++ [.dn c.w (kK.enc (fTr ((ss.map Stp.key).foldl addK acc)))])
  | [], acc, e2, _ => ⟨e2, rfl⟩
  | s :: ss, acc, e2, hl => by
    rw [List.length_cons] at hl
    have := addKs_len (ks := acc) (k := s.key)
    obtain ⟨f2, h⟩ := keysof_loop c (S := S) (v0 := v0) ss (addK acc s.key) (some (eS s)) (by omega)
    refine ⟨f2, ?_⟩
    show loopX (gN 2) (lb_keys_of_0 c) (eS s :: eSs ss) _ _ = _
    rw [List.map_cons, List.foldl_cons, ← h]
    have hz : (kK.enc (fTr acc)).length < 100000 := by rw [CodK.enc_len, fTr_len]; omega
    simp only [ap_fVar, varK_some, ap_fC, ap_fAsg, ap_asgK, ap_asgK2, ap_gN, ap_fIx, ap_ixK, loopX_cons, ap_turnK0, ap_turnK_nx, o_getD, oSetN_ref, setNC_dn, setNK_some, ap_gSubN, ap_gnK, ap_gnK2, ap_gnK3, R.bind_ok, List.getElem?_cons_zero, List.getElem?_cons_succ, List.set_cons_zero, List.set_cons_succ, Bool.false_eq_true, if_true, if_false, get_app0, set_app0, ap_lb_keys_of_0, eS_nd, eS_ix1, keyT_eK, hz, CodK.put, fTr_put]
theorem keysof_eq (c : CA) {S : Sto} {pg : List Stp} (hl : pg.length < 900) : F_keys_of c [.tup (eSs pg)] S = .ok (.ref (S.length + 1)) (S ++ [.dn c.w (kK.enc (fTr (keysS pg))), .lst (kK.es (keysS pg))]) := by
  unfold F_keys_of b_keys_of
  obtain ⟨f2, h⟩ := keysof_loop c (S := S) (v0 := some (.tup (eSs pg))) pg [] none (by simpa using (by omega : pg.length < 1000))
  have h2 : (pg.map Stp.key).foldl addK [] = keysS pg := rfl
  have h3 : kK.enc (fTr []) = [] := rfl
  have h4 : keysN (kK.enc (fTr (keysS pg))) = kK.es (keysS pg) := by rw [CodK.keys, fTr_keys]
  rw [h2, h3] at h
  simp only [ap_fVar, varK_some, ap_fApp, ap_fNil, ap_fCons, ap_consK, ap_consK2, ap_fSeq, ap_seqK_nx, ap_fRet, ap_retK, ap_fAsg, ap_asgK, ap_asgK2, ap_gN, ap_fnF, ap_fnK_rt, ap_fFor, ap_forK_fix, ap_fIter, ap_iterK_tup, ap_fDictN0, o_listN, o_listNC, R.bind_ok, List.map_cons, List.map_nil, List.length_cons, List.length_nil, List.cons_append, List.nil_append, Nat.zero_add, Nat.reduceSub, List.replicate_succ, List.replicate_zero, List.getElem?_cons_zero, List.getElem?_cons_succ, List.set_cons_zero, List.set_cons_succ, get_app0, List.append_assoc, List.length_append, h, h4]
theorem lawkeys_loop (c : CA) {S : Sto} {v0 : Option D} : ∀ (ss : List Stp) (acc : List K2) (e2 : Option D), (∀ s ∈ ss, PyData.strOk s.key.2 = true) → okKs acc → acc.length + ss.length < 1000 →
    ∃ f2, loopX (gN 2) (lb_law_keys_0 c) (eSs ss) [v0, some (.ref S.length), e2] (S ++ [.lst (kK.es acc)]) = .ok (.nx [v0, some (.ref S.length), f2]) (S ++ [.lst (kK.es ((ss.map Stp.key).foldl addK acc))])
  | [], acc, e2, _, _, _ => ⟨e2, rfl⟩
  | s :: ss, acc, e2, hs, ho, hl => by
    rw [List.length_cons] at hl
    have hk := hs s (List.mem_cons_self ..)
    have := addKs_len (ks := acc) (k := s.key)
    have ho2 : okKs (addK acc s.key) := fun k hm => (addK_mem.mp hm).elim (ho k) fun e => by rw [e]; exact hk
    obtain ⟨f2, h⟩ := lawkeys_loop c (S := S) (v0 := v0) ss (addK acc s.key) (some (eS s)) (fun x hx => hs x (List.mem_cons_of_mem _ hx)) ho2 (by omega)
    refine ⟨f2, ?_⟩
    show loopX (gN 2) (lb_law_keys_0 c) (eS s :: eSs ss) _ _ = _
    rw [List.map_cons, List.foldl_cons, ← h]
    have hg : (S ++ [Cell.lst (kK.es acc)])[S.length]? = some (.lst (kK.es acc)) := get_app0
    have hz : (kK.es acc).length < 100000 := by rw [Cod.es_len]; omega
    by_cases hm : s.key ∈ acc
    · have hin := Cod.oin (C := kK.toCod) (neg := true) hg ho hk (b := true) (by simp [hm])
      change oInL true (eK s.key) _ _ = _ at hin
      have e1 : addK acc s.key = acc := by unfold addK; rw [if_pos hm]
      rw [e1]
      simp only [ap_fVar, varK_some, ap_fC, ap_fBin, ap_binK, ap_fNil, ap_fCons, ap_consK, ap_consK2, ap_fTest, ap_testK, ap_fSkip, ap_fIf, ap_ifK, ap_fDrop, ap_gN, ap_fIx, ap_ixK, loopX_cons, ap_turnK0, ap_turnK_nx, ap_fBm, ap_bmK, tyIn_ref, tyInC_lst, o_getD, o_append, o_appC, R.bind_ok, List.getElem?_cons_zero, List.getElem?_cons_succ, List.set_cons_zero, List.set_cons_succ, Bool.false_eq_true, if_true, if_false, decide_true, Bool.not_true, get_app0, set_app0, ap_lb_law_keys_0, eS_nd, eS_ix1, hin]
    · have hin := Cod.oin (C := kK.toCod) (neg := true) hg ho hk (b := false) (by simp [hm])
      change oInL true (eK s.key) _ _ = _ at hin
      have e1 : addK acc s.key = acc ++ [s.key] := by unfold addK; rw [if_neg hm]
      have e9 : kK.es acc ++ [eK s.key] = kK.es (acc ++ [s.key]) := by unfold Cod.es; rw [List.map_append]; rfl
      rw [e1]
      simp only [ap_fVar, varK_some, ap_fC, ap_fBin, ap_binK, ap_fNil, ap_fCons, ap_consK, ap_consK2, ap_fTest, ap_testK, ap_fSkip, ap_fIf, ap_ifK, ap_fDrop, ap_dropK, ap_gN, ap_fIx, ap_ixK, loopX_cons, ap_turnK0, ap_turnK_nx, ap_fBm, ap_bmK, tyIn_ref, tyInC_lst, o_getD, o_append, o_appC, R.bind_ok, List.getElem?_cons_zero, List.getElem?_cons_succ, List.set_cons_zero, List.set_cons_succ, Bool.false_eq_true, if_true, if_false, decide_true, Bool.not_false, get_app0, set_app0, ap_lb_law_keys_0, eS_nd, eS_ix1, hin, hz, e9]
theorem lawkeys_eq (c : CA) {S : Sto} {pg : List Stp} (hs : ∀ s ∈ pg, PyData.strOk s.key.2 = true) (hl : pg.length < 900) : F_law_keys c [.tup (eSs pg)] S = .ok (.ref S.length) (S ++ [.lst (kK.es (keysS pg))]) := by
  unfold F_law_keys b_law_keys
  obtain ⟨f2, h⟩ := lawkeys_loop c (S := S) (v0 := some (.tup (eSs pg))) pg [] none hs (fun _ hm => nomatch hm) (by simpa using (by omega : pg.length < 1000))
  have h2 : (pg.map Stp.key).foldl addK [] = keysS pg := rfl
  have h3 : kK.es ([] : List K2) = [] := rfl
  rw [h2, h3] at h
  simp only [ap_fVar, varK_some, ap_fNil, ap_fLst, ap_lstK, ap_fSeq, ap_seqK_nx, ap_fRet, ap_retK, ap_fAsg, ap_asgK, ap_asgK2, ap_gN, ap_fnF, ap_fnK_rt, ap_fFor, ap_forK_fix, ap_fIter, ap_iterK_tup, R.bind_ok, List.map_cons, List.map_nil, List.length_cons, List.length_nil, List.cons_append, List.nil_append, Nat.zero_add, Nat.reduceSub, List.replicate_succ, List.replicate_zero, List.getElem?_cons_zero, List.getElem?_cons_succ, List.set_cons_zero, List.set_cons_succ, if_true, Nat.reduceLeDiff, h]
theorem qk_rd : PyData.strOk sRd = true := by decide +kernel
theorem q_rd_rd : PyData.eqv (.str sRd) (.str ⟨#[114, 101, 97, 100]⟩) = true := by simp [PyData.eqv, sRd]
theorem q_rd_st : PyData.eqv (.str sRd) (.str ⟨#[115, 116, 111, 114, 101]⟩) = false := by simp only [PyData.eqv]; decide
theorem q_rd_pu : PyData.eqv (.str sRd) (.str ⟨#[112, 117, 116]⟩) = false := by simp only [PyData.eqv]; decide
theorem q_rd_ad : PyData.eqv (.str sRd) (.str ⟨#[97, 100, 100]⟩) = false := by simp only [PyData.eqv]; decide
theorem q_rd_ne : PyData.eqv (.str sRd) (.str ⟨#[110, 101, 101, 100]⟩) = false := by simp only [PyData.eqv]; decide
theorem qk_st : PyData.strOk sSt = true := by decide +kernel
theorem q_st_rd : PyData.eqv (.str sSt) (.str ⟨#[114, 101, 97, 100]⟩) = false := by simp only [PyData.eqv]; decide
theorem q_st_st : PyData.eqv (.str sSt) (.str ⟨#[115, 116, 111, 114, 101]⟩) = true := by simp [PyData.eqv, sSt]
theorem q_st_pu : PyData.eqv (.str sSt) (.str ⟨#[112, 117, 116]⟩) = false := by simp only [PyData.eqv]; decide
theorem q_st_ad : PyData.eqv (.str sSt) (.str ⟨#[97, 100, 100]⟩) = false := by simp only [PyData.eqv]; decide
theorem q_st_ne : PyData.eqv (.str sSt) (.str ⟨#[110, 101, 101, 100]⟩) = false := by simp only [PyData.eqv]; decide
theorem qk_pu : PyData.strOk sPu = true := by decide +kernel
theorem q_pu_rd : PyData.eqv (.str sPu) (.str ⟨#[114, 101, 97, 100]⟩) = false := by simp only [PyData.eqv]; decide
theorem q_pu_st : PyData.eqv (.str sPu) (.str ⟨#[115, 116, 111, 114, 101]⟩) = false := by simp only [PyData.eqv]; decide
theorem q_pu_pu : PyData.eqv (.str sPu) (.str ⟨#[112, 117, 116]⟩) = true := by simp [PyData.eqv, sPu]
theorem q_pu_ad : PyData.eqv (.str sPu) (.str ⟨#[97, 100, 100]⟩) = false := by simp only [PyData.eqv]; decide
theorem q_pu_ne : PyData.eqv (.str sPu) (.str ⟨#[110, 101, 101, 100]⟩) = false := by simp only [PyData.eqv]; decide
theorem qk_ad : PyData.strOk sAd = true := by decide +kernel
theorem q_ad_rd : PyData.eqv (.str sAd) (.str ⟨#[114, 101, 97, 100]⟩) = false := by simp only [PyData.eqv]; decide
theorem q_ad_st : PyData.eqv (.str sAd) (.str ⟨#[115, 116, 111, 114, 101]⟩) = false := by simp only [PyData.eqv]; decide
theorem q_ad_pu : PyData.eqv (.str sAd) (.str ⟨#[112, 117, 116]⟩) = false := by simp only [PyData.eqv]; decide
theorem q_ad_ad : PyData.eqv (.str sAd) (.str ⟨#[97, 100, 100]⟩) = true := by simp [PyData.eqv, sAd]
theorem q_ad_ne : PyData.eqv (.str sAd) (.str ⟨#[110, 101, 101, 100]⟩) = false := by simp only [PyData.eqv]; decide
theorem qk_ne : PyData.strOk sNe = true := by decide +kernel
theorem q_ne_rd : PyData.eqv (.str sNe) (.str ⟨#[114, 101, 97, 100]⟩) = false := by simp only [PyData.eqv]; decide
theorem q_ne_st : PyData.eqv (.str sNe) (.str ⟨#[115, 116, 111, 114, 101]⟩) = false := by simp only [PyData.eqv]; decide
theorem q_ne_pu : PyData.eqv (.str sNe) (.str ⟨#[112, 117, 116]⟩) = false := by simp only [PyData.eqv]; decide
theorem q_ne_ad : PyData.eqv (.str sNe) (.str ⟨#[97, 100, 100]⟩) = false := by simp only [PyData.eqv]; decide
theorem q_ne_ne : PyData.eqv (.str sNe) (.str ⟨#[110, 101, 101, 100]⟩) = true := by simp [PyData.eqv, sNe]
theorem ql_rd : PyData.strOk ⟨#[114, 101, 97, 100]⟩ = true := by decide +kernel
theorem ql_st : PyData.strOk ⟨#[115, 116, 111, 114, 101]⟩ = true := by decide +kernel
theorem ql_pu : PyData.strOk ⟨#[112, 117, 116]⟩ = true := by decide +kernel
theorem ql_ad : PyData.strOk ⟨#[97, 100, 100]⟩ = true := by decide +kernel
theorem ql_ne : PyData.strOk ⟨#[110, 101, 101, 100]⟩ = true := by decide +kernel
theorem ix0_rd {k : K2} {S : Sto} : oGetL (eS (.rd k)) (.int 0) S = .ok (.str sRd) S := by unfold eS; rw [getL_tup, atI_0, retO_some]
theorem ix1_rd {k : K2} {S : Sto} : oGetL (eS (.rd k)) (.int 1) S = .ok (eK k) S := by unfold eS; rw [getL_tup, atI_1, retO_some]
theorem ix0_st {k : K2} {S : Sto} : oGetL (eS (.st k)) (.int 0) S = .ok (.str sSt) S := by unfold eS; rw [getL_tup, atI_0, retO_some]
theorem ix1_st {k : K2} {S : Sto} : oGetL (eS (.st k)) (.int 1) S = .ok (eK k) S := by unfold eS; rw [getL_tup, atI_1, retO_some]
theorem ix0_pu {k : K2} {z : Int} {S : Sto} : oGetL (eS (.put k z)) (.int 0) S = .ok (.str sPu) S := by unfold eS; rw [getL_tup, atI_0, retO_some]
theorem ix1_pu {k : K2} {z : Int} {S : Sto} : oGetL (eS (.put k z)) (.int 1) S = .ok (eK k) S := by unfold eS; rw [getL_tup, atI_1, retO_some]
theorem ix2_pu {k : K2} {z : Int} {S : Sto} : oGetL (eS (.put k z)) (.int 2) S = .ok (.int z) S := by unfold eS; rw [getL_tup, atI_2, retO_some]
theorem ix0_ad {k : K2} {z : Int} {S : Sto} : oGetL (eS (.add k z)) (.int 0) S = .ok (.str sAd) S := by unfold eS; rw [getL_tup, atI_0, retO_some]
theorem ix1_ad {k : K2} {z : Int} {S : Sto} : oGetL (eS (.add k z)) (.int 1) S = .ok (eK k) S := by unfold eS; rw [getL_tup, atI_1, retO_some]
theorem ix2_ad {k : K2} {z : Int} {S : Sto} : oGetL (eS (.add k z)) (.int 2) S = .ok (.int z) S := by unfold eS; rw [getL_tup, atI_2, retO_some]
theorem ix0_ne {k : K2} {z : Int} {S : Sto} : oGetL (eS (.need k z)) (.int 0) S = .ok (.str sNe) S := by unfold eS; rw [getL_tup, atI_0, retO_some]
theorem ix1_ne {k : K2} {z : Int} {S : Sto} : oGetL (eS (.need k z)) (.int 1) S = .ok (eK k) S := by unfold eS; rw [getL_tup, atI_1, retO_some]
theorem ix2_ne {k : K2} {z : Int} {S : Sto} : oGetL (eS (.need k z)) (.int 2) S = .ok (.int z) S := by unfold eS; rw [getL_tup, atI_2, retO_some]
theorem run_neg1 {xs : List D} {x : D} : atI (xs ++ [x]) (-1) = some x := by
  unfold atI ixN
  rw [if_neg (by decide), if_pos (by rw [List.length_append]; simp; omega)]
  have e : (-1 + ((xs ++ [x]).length : Int)).toNat = xs.length := by rw [List.length_append, List.length_singleton]; omega
  rw [e]
  simp
theorem neg1_last {rs : List Int} (h : rs ≠ []) : atI (eI rs) (-1) = some (.int (rs.getLast?.getD 0)) := by
  obtain ⟨x, xs, rfl⟩ : ∃ x xs, rs = xs ++ [x] := ⟨rs.getLast h, rs.dropLast, (List.dropLast_concat_getLast h).symm⟩
  have e : eI (xs ++ [x]) = eI xs ++ [.int x] := by unfold eI; rw [List.map_append]; rfl
  rw [e, run_neg1]
  simp
theorem eI_len {rs : List Int} : (eI rs).length = rs.length := List.length_map ..
theorem eI_snoc {rs : List Int} {z : Int} : eI rs ++ [.int z] = eI (rs ++ [z]) := by unfold eI; rw [List.map_append]; rfl
theorem tru_eI {rs : List Int} : (eI rs).isEmpty = rs.isEmpty := by cases rs <;> rfl
theorem vb_st (c : CA) {S : Sto} {k : K2} {v : Int} {rp : Nat} {rs : List Int} (h : S[rp]? = some (.lst (eI rs))) : F_value_behind c [eS (.st k), .int v, .ref rp] S = .ok (.int (rs.getLast?.getD 0)) S := by
  unfold F_value_behind b_value_behind
  cases hr : rs with
  | nil =>
    rw [hr] at h
    have e : eI ([] : List Int) = [] := rfl
    rw [e] at h
    simp only [ap_fVar, varK_some, ap_fC, ap_fBin, ap_binK, ap_fUn, ap_fTest, ap_testK, ap_fIfE, ap_ifEK, ap_fSkip, ap_fSeq, ap_seqK_nx, ap_fIf, ap_ifK, ap_fRet, ap_fIx, ap_ixK, isDict_ref, isDictC_lst, getL_ref, getLC_lst, ap_fnF, o_neg, o_eq, eqK_some, toP_str, ap_fTru, ap_truK, ap_truK2, truD_ref, truC_lst, o_getD, lookD_ref, R.bind_ok, List.map_cons, List.map_nil, List.length_cons, List.length_nil, Nat.zero_add, Nat.reduceAdd, Nat.reduceSub, List.replicate_zero, List.getElem?_cons_zero, List.getElem?_cons_succ, List.append_nil, Bool.false_eq_true, if_true, if_false, Int.reduceNeg, Bool.not_true, Bool.not_eq_eq_eq_not, eS_nd, qk_rd, q_rd_rd, q_rd_st, q_rd_pu, q_rd_ad, q_rd_ne, qk_st, q_st_rd, q_st_st, q_st_pu, q_st_ad, q_st_ne, qk_pu, q_pu_rd, q_pu_st, q_pu_pu, q_pu_ad, q_pu_ne, qk_ad, q_ad_rd, q_ad_st, q_ad_pu, q_ad_ad, q_ad_ne, qk_ne, q_ne_rd, q_ne_st, q_ne_pu, q_ne_ad, q_ne_ne, ql_rd, ql_st, ql_pu, ql_ad, ql_ne, ix0_rd, ix1_rd, ix0_st, ix1_st, ix0_pu, ix1_pu, ix2_pu, ix0_ad, ix1_ad, ix2_ad, ix0_ne, ix1_ne, ix2_ne, h, truD_ref, truC_lst]
    rfl
  | cons a r =>
    have hne : rs ≠ [] := by rw [hr]; simp
    have hl := neg1_last hne
    have hb : (eI rs).isEmpty = false := by rw [tru_eI, hr]; rfl
    rw [← hr]
    simp only [ap_fVar, varK_some, ap_fC, ap_fBin, ap_binK, ap_fUn, ap_fTest, ap_testK, ap_fIfE, ap_ifEK, ap_fSkip, ap_fSeq, ap_seqK_nx, ap_fIf, ap_ifK, ap_fRet, ap_retK, ap_fIx, ap_ixK, isDict_ref, isDictC_lst, getL_ref, getLC_lst, retO_some, ap_fnF, ap_fnK_rt, o_neg, o_eq, eqK_some, toP_str, ap_fTru, ap_truK, ap_truK2, truD_ref, truC_lst, o_getD, lookD_ref, R.bind_ok, List.map_cons, List.map_nil, List.length_cons, List.length_nil, Nat.zero_add, Nat.reduceAdd, Nat.reduceSub, List.replicate_zero, List.getElem?_cons_zero, List.getElem?_cons_succ, List.append_nil, Bool.false_eq_true, if_true, if_false, Int.reduceNeg, Bool.not_false, eS_nd, qk_rd, q_rd_rd, q_rd_st, q_rd_pu, q_rd_ad, q_rd_ne, qk_st, q_st_rd, q_st_st, q_st_pu, q_st_ad, q_st_ne, qk_pu, q_pu_rd, q_pu_st, q_pu_pu, q_pu_ad, q_pu_ne, qk_ad, q_ad_rd, q_ad_st, q_ad_pu, q_ad_ad, q_ad_ne, qk_ne, q_ne_rd, q_ne_st, q_ne_pu, q_ne_ad, q_ne_ne, ql_rd, ql_st, ql_pu, ql_ad, ql_ne, ix0_rd, ix1_rd, ix0_st, ix1_st, ix0_pu, ix1_pu, ix2_pu, ix0_ad, ix1_ad, ix2_ad, ix0_ne, ix1_ne, ix2_ne, h, hl, hb]
theorem vb_put (c : CA) {S : Sto} {k : K2} {v z : Int} {rp : Nat} : F_value_behind c [eS (.put k z), .int v, .ref rp] S = .ok (.int z) S := by
  unfold F_value_behind b_value_behind
  simp only [ap_fVar, varK_some, ap_fC, ap_fBin, ap_binK, ap_fTest, ap_testK, ap_fSkip, ap_fSeq, ap_seqK_rt, ap_fIf, ap_ifK, ap_fRet, ap_retK, ap_fIx, ap_ixK, ap_fnF, ap_fnK_rt, o_eq, eqK_some, toP_str, o_getD, R.bind_ok, List.map_cons, List.map_nil, List.length_cons, List.length_nil, Nat.zero_add, Nat.reduceAdd, Nat.reduceSub, List.replicate_zero, List.getElem?_cons_zero, List.append_nil, Bool.false_eq_true, if_true, if_false, eS_nd, qk_rd, q_rd_rd, q_rd_st, q_rd_pu, q_rd_ad, q_rd_ne, qk_st, q_st_rd, q_st_st, q_st_pu, q_st_ad, q_st_ne, qk_pu, q_pu_rd, q_pu_st, q_pu_pu, q_pu_ad, q_pu_ne, qk_ad, q_ad_rd, q_ad_st, q_ad_pu, q_ad_ad, q_ad_ne, qk_ne, q_ne_rd, q_ne_st, q_ne_pu, q_ne_ad, q_ne_ne, ql_rd, ql_st, ql_pu, ql_ad, ql_ne, ix0_rd, ix1_rd, ix0_st, ix1_st, ix0_pu, ix1_pu, ix2_pu, ix0_ad, ix1_ad, ix2_ad, ix0_ne, ix1_ne, ix2_ne]
theorem vb_add (c : CA) {S : Sto} {k : K2} {v z : Int} {rp : Nat} : F_value_behind c [eS (.add k z), .int v, .ref rp] S = .ok (.int (v + z)) S := by
  unfold F_value_behind b_value_behind
  simp only [ap_fVar, varK_some, ap_fC, ap_fBin, ap_binK, ap_fTest, ap_testK, ap_fSkip, ap_fSeq, ap_seqK_nx, ap_seqK_rt, ap_fIf, ap_ifK, ap_fRet, ap_retK, ap_fIx, ap_ixK, ap_fnF, ap_fnK_rt, o_add, o_eq, eqK_some, toP_str, o_getD, R.bind_ok, List.map_cons, List.map_nil, List.length_cons, List.length_nil, Nat.zero_add, Nat.reduceAdd, Nat.reduceSub, List.replicate_zero, List.getElem?_cons_zero, List.getElem?_cons_succ, List.append_nil, Bool.false_eq_true, if_true, if_false, eS_nd, qk_rd, q_rd_rd, q_rd_st, q_rd_pu, q_rd_ad, q_rd_ne, qk_st, q_st_rd, q_st_st, q_st_pu, q_st_ad, q_st_ne, qk_pu, q_pu_rd, q_pu_st, q_pu_pu, q_pu_ad, q_pu_ne, qk_ad, q_ad_rd, q_ad_st, q_ad_pu, q_ad_ad, q_ad_ne, qk_ne, q_ne_rd, q_ne_st, q_ne_pu, q_ne_ad, q_ne_ne, ql_rd, ql_st, ql_pu, ql_ad, ql_ne, ix0_rd, ix1_rd, ix0_st, ix1_st, ix0_pu, ix1_pu, ix2_pu, ix0_ad, ix1_ad, ix2_ad, ix0_ne, ix1_ne, ix2_ne]
section
variable {κ β : Type} [DecidableEq κ]
theorem valK_map {kvs : List (κ × β)} {x y : κ} {v : β} (h : ¬ y = x) : valK (kvs.map (fun kv => if kv.1 = x then (kv.1, v) else kv)) y = valK kvs y := by
  unfold valK
  induction kvs with
  | nil => rfl
  | cons a r ih =>
    rw [List.map_cons, List.find?_cons, List.find?_cons]
    by_cases h1 : a.1 = x
    · have h2 : ¬ a.1 = y := fun e => h (e.symm.trans h1)
      rw [if_pos h1]
      simp only [decide_eq_false h2]
      exact ih
    · rw [if_neg h1]
      by_cases h2 : a.1 = y
      · simp only [decide_eq_true h2]
      · simp only [decide_eq_false h2]
        exact ih
theorem valK_map2 {kvs : List (κ × β)} {x : κ} {v : β} (h : (kvs.any fun kv => decide (kv.1 = x)) = true) : valK (kvs.map (fun kv => if kv.1 = x then (kv.1, v) else kv)) x = some v := by
  unfold valK
  induction kvs with
  | nil => simp at h
  | cons a r ih =>
    rw [List.map_cons, List.find?_cons]
    by_cases h1 : a.1 = x
    · simp [h1]
    · rw [if_neg h1]
      simp only [decide_eq_false h1]
      refine ih ?_
      rw [List.any_cons, decide_eq_false h1] at h
      simpa using h
theorem valK_put (kvs : List (κ × β)) (x y : κ) (v : β) : valK (putKD kvs x v) y = if y = x then some v else valK kvs y := by
  unfold putKD
  by_cases h : (kvs.any fun kv => decide (kv.1 = x)) = true
  · rw [if_pos h]
    by_cases hy : y = x
    · subst hy; rw [if_pos rfl, valK_map2 h]
    · rw [if_neg hy, valK_map hy]
  · rw [if_neg h]
    have hn : valK kvs x = none := by
      unfold valK
      rw [List.find?_eq_none.mpr]
      · rfl
      · intro a ha z
        exact h (List.any_eq_true.mpr ⟨a, ha, z⟩)
    by_cases hy : y = x
    · subst hy
      rw [if_pos rfl]
      unfold valK at hn ⊢
      rw [List.find?_append, Option.map_eq_none_iff.mp hn]
      simp
    · rw [if_neg hy]
      unfold valK
      rw [List.find?_append]
      have : ¬ x = y := fun e => hy e.symm
      simp [this]
theorem put_len {kvs : List (κ × β)} {x : κ} {v : β} : (putKD kvs x v).length ≤ kvs.length + 1 := by
  unfold putKD
  split
  · rw [List.length_map]; omega
  · rw [List.length_append]; exact Nat.le_refl _
end
theorem valV_of {vs : Vals2} {k : K2} {z : Int} (h : valK vs k = some z) : vlV vs k = z := by unfold vlV; rw [h]; rfl
def hasK (ss : List Stp) (now : Vals2) : Prop := ∀ s ∈ ss, valK now s.key ≠ none
theorem hasK_put {ss : List Stp} {now : Vals2} {k : K2} {z : Int} (h : hasK ss now) : hasK ss (putKD now k z) := fun s hs => by
  rw [valK_put]
  split
  · simp
  · exact h s hs
theorem run_loop (c : CA) {fp np rp : Nat} {first : Vals2} {v0 v1 : Option D} : ∀ (ss : List Stp) (now : Vals2) (rs : List Int) (S : Sto) (e5 e6 : Option D), S[np]? = some (.dn c.w (kK.enc (fVs now))) → S[rp]? = some (.lst (eI rs)) → hasK ss now → now.length + ss.length < 1000 → rs.length + ss.length < 1000 →
    ((runS first ss now rs).1 = true → ∃ f5 f6 S1, loopX (gN 5) (lb_run_program_0 c) (eSs ss) [v0, v1, some (.ref fp), some (.ref np), some (.ref rp), e5, e6] S = .ok (.nx [v0, v1, some (.ref fp), some (.ref np), some (.ref rp), f5, f6]) S1 ∧ S1[np]? = some (.dn c.w (kK.enc (fVs (runS first ss now rs).2.2))) ∧ S1[rp]? = some (.lst (eI (runS first ss now rs).2.1)) ∧ Fr S S1 (fun i => i = np ∨ i = rp)) ∧
    ((runS first ss now rs).1 = false → (runS first ss now rs).2.2 = first ∧ ∃ S1, loopX (gN 5) (lb_run_program_0 c) (eSs ss) [v0, v1, some (.ref fp), some (.ref np), some (.ref rp), e5, e6] S = .ok (.rt (.tup [.bl false, .ref rp, .ref fp])) S1 ∧ S1[rp]? = some (.lst (eI (runS first ss now rs).2.1)) ∧ Fr S S1 (fun i => i = np ∨ i = rp))
  | [], now, rs, S, e5, e6, hn, hr, hk, l1, l2 => ⟨fun _ => ⟨e5, e6, S, rfl, hn, hr, Fr.refl _ _⟩, fun h => (by cases h)⟩
  | s :: ss, now, rs, S, e5, e6, hn, hr, hk, l1, l2 => by
    rw [List.length_cons] at l1 l2
    have hks : hasK ss now := fun x hx => hk x (List.mem_cons_of_mem _ hx)
    obtain ⟨z0, hz0⟩ := Option.ne_none_iff_exists'.mp (hk s (List.mem_cons_self ..))
    have hv0 : valK (fVs now) s.key = some (.int z0) := by rw [fVs_val, hz0]; rfl
    have hvv := valV_of hz0
    have nz : (kK.enc (fVs now)).length < 100000 := by rw [CodK.enc_len, fVs_len]; omega
    have nr : (eI rs).length < 100000 := by rw [eI_len]; omega
    have d1 : np ≠ rp := ne_of_cell hn hr (fun z => nomatch z)
    have frP : ∀ {S1 : Sto} {x : Cell}, Fr (S.set np x) S1 (fun i => i = np ∨ i = rp) → Fr S S1 (fun i => i = np ∨ i = rp) := fun h => (Fr.set (.inl rfl)).trans h
    have frR : ∀ {S1 : Sto} {x : Cell}, Fr (S.set rp x) S1 (fun i => i = np ∨ i = rp) → Fr S S1 (fun i => i = np ∨ i = rp) := fun h => (Fr.set (.inr rfl)).trans h
    have step : ∀ (z : Int) (e5 e6 : Option D), _ := fun z e5 e6 => run_loop c (fp := fp) (np := np) (rp := rp) (first := first) (v0 := v0) (v1 := v1) ss (putKD now s.key z) rs (S.set np (.dn c.w (kK.enc (fVs (putKD now s.key z))))) e5 e6 (set_get hn) (by rw [List.getElem?_set_ne d1]; exact hr) (hasK_put hks) (by have := put_len (kvs := now) (x := s.key) (v := z); omega) (by omega)
    cases s with
    | rd k =>
      have hz0 : valK now k = some z0 := hz0
      have hv0 : valK (fVs now) k = some (.int z0) := hv0
      have hvv : vlV now k = z0 := hvv
      obtain ⟨i1, i2⟩ := run_loop c (fp := fp) (np := np) (rp := rp) (first := first) (v0 := v0) (v1 := v1) ss now (rs ++ [z0]) (S.set rp (.lst (eI (rs ++ [z0])))) (some (eS (.rd k))) (some (eK k)) (by rw [List.getElem?_set_ne (fun e => d1 e.symm)]; exact hn) (set_get hr) hks (by omega) (by rw [List.length_append, List.length_singleton]; omega)
      have e1 : runS first (.rd k :: ss) now rs = runS first ss now (rs ++ [z0]) := by show runS first ss now (rs ++ [vlV now k]) = _; rw [hvv]
      have e2 : ∀ {e5 e6 : Option D}, loopX (gN 5) (lb_run_program_0 c) (eSs (.rd k :: ss)) [v0, v1, some (.ref fp), some (.ref np), some (.ref rp), e5, e6] S = loopX (gN 5) (lb_run_program_0 c) (eSs ss) [v0, v1, some (.ref fp), some (.ref np), some (.ref rp), some (eS (.rd k)), some (eK k)] (S.set rp (.lst (eI (rs ++ [z0])))) := by
        intro e5 e6
        show loopX (gN 5) (lb_run_program_0 c) (eS (.rd k) :: eSs ss) _ _ = _
        simp only [ap_fVar, varK_some, ap_fC, ap_fBin, ap_binK, ap_fNil, ap_fCons, ap_consK, ap_consK2, ap_fTest, ap_testK, ap_fSeq, ap_seqK_nx, ap_fIf, ap_ifK, ap_fDrop, ap_dropK, ap_fAsg, ap_asgK, ap_asgK2, ap_gN, ap_fIx, ap_ixK, ap_fCall, ap_callK, o_eq, o_ne, eqK_some, neK_some, toP_str, loopX_cons, ap_turnK0, ap_turnK_nx, ap_fBm, ap_bmK, tyIn_ref, tyInC_lst, o_getD, o_getDK, o_append, o_appC, lookN_ref, lookNC_dn, ap_fIxN, o_ixN, o_someMap, R.bind_ok, List.length_cons, List.length_nil, Nat.zero_add, Nat.reduceAdd, List.getElem?_cons_zero, List.getElem?_cons_succ, List.set_cons_zero, List.set_cons_succ, List.append_nil, Bool.false_eq_true, if_true, if_false, decide_true, Nat.add_zero, Bool.not_false, ap_lb_run_program_0, eS_nd, qk_rd, q_rd_rd, q_rd_st, q_rd_pu, q_rd_ad, q_rd_ne, qk_st, q_st_rd, q_st_st, q_st_pu, q_st_ad, q_st_ne, qk_pu, q_pu_rd, q_pu_st, q_pu_pu, q_pu_ad, q_pu_ne, qk_ad, q_ad_rd, q_ad_st, q_ad_pu, q_ad_ad, q_ad_ne, qk_ne, q_ne_rd, q_ne_st, q_ne_pu, q_ne_ad, q_ne_ne, ql_rd, ql_st, ql_pu, ql_ad, ql_ne, ix0_rd, ix1_rd, ix0_st, ix1_st, ix0_pu, ix1_pu, ix2_pu, ix0_ad, ix1_ad, ix2_ad, ix0_ne, ix1_ne, ix2_ne, hn, hr, keyT_eK, CodK.val, hv0, nr, eI_snoc]
      rw [e1, e2]
      exact ⟨fun h => let ⟨a, b, d, q1, q2, q3, q4⟩ := i1 h; ⟨a, b, d, q1, q2, q3, frR q4⟩, fun h => let ⟨a, b, q1, q2, q3⟩ := i2 h; ⟨a, b, q1, q2, frR q3⟩⟩
    | st k =>
      have hv0 : valK (fVs now) k = some (.int z0) := hv0
      have hvb := fun v => vb_st c (k := k) (v := v) hr
      obtain ⟨i1, i2⟩ := step (rs.getLast?.getD 0) (some (eS (.st k))) (some (eK k))
      have e2 : ∀ {e5 e6 : Option D}, loopX (gN 5) (lb_run_program_0 c) (eSs (.st k :: ss)) [v0, v1, some (.ref fp), some (.ref np), some (.ref rp), e5, e6] S = loopX (gN 5) (lb_run_program_0 c) (eSs ss) [v0, v1, some (.ref fp), some (.ref np), some (.ref rp), some (eS (.st k)), some (eK k)] (S.set np (.dn c.w (kK.enc (fVs (putKD now k (rs.getLast?.getD 0)))))) := by
        intro e5 e6
        show loopX (gN 5) (lb_run_program_0 c) (eS (.st k) :: eSs ss) _ _ = _
        simp only [ap_fVar, varK_some, ap_fC, ap_fBin, ap_binK, ap_fNil, ap_fCons, ap_consK, ap_consK2, ap_fTest, ap_testK, ap_fSeq, ap_seqK_nx, ap_fIf, ap_ifK, ap_fDrop, ap_fAsg, ap_asgK, ap_asgK2, ap_gN, ap_fIx, ap_ixK, ap_fCall, ap_callK, o_eq, o_ne, eqK_some, neK_some, toP_str, loopX_cons, ap_turnK0, ap_turnK_nx, ap_fBm, ap_bmK, tyIn_ref, tyInC_lst, o_getD, o_getDK, o_append, o_appC, lookN_ref, lookNC_dn, ap_fIxN, o_ixN, oSetN_ref, setNC_dn, setNK_some, ap_gSubN, ap_gnK, ap_gnK2, ap_gnK3, o_someMap, R.bind_ok, R.nox_ok, List.length_cons, List.length_nil, Nat.zero_add, Nat.reduceAdd, List.getElem?_cons_zero, List.getElem?_cons_succ, List.set_cons_zero, List.set_cons_succ, List.append_nil, Bool.false_eq_true, if_true, if_false, decide_true, Nat.add_zero, Bool.not_false, ap_lb_run_program_0, eS_nd, qk_rd, q_rd_rd, q_rd_st, q_rd_pu, q_rd_ad, q_rd_ne, qk_st, q_st_rd, q_st_st, q_st_pu, q_st_ad, q_st_ne, qk_pu, q_pu_rd, q_pu_st, q_pu_pu, q_pu_ad, q_pu_ne, qk_ad, q_ad_rd, q_ad_st, q_ad_pu, q_ad_ad, q_ad_ne, qk_ne, q_ne_rd, q_ne_st, q_ne_pu, q_ne_ad, q_ne_ne, ql_rd, ql_st, ql_pu, ql_ad, ql_ne, ix0_rd, ix1_rd, ix0_st, ix1_st, ix0_pu, ix1_pu, ix2_pu, ix0_ad, ix1_ad, ix2_ad, ix0_ne, ix1_ne, ix2_ne, hn, hr, keyT_eK, CodK.val, hv0, hvb, nz, CodK.put, fVs_put]
      rw [e2]
      exact ⟨fun h => let ⟨a, b, d, q1, q2, q3, q4⟩ := i1 h; ⟨a, b, d, q1, q2, q3, frP q4⟩, fun h => let ⟨a, b, q1, q2, q3⟩ := i2 h; ⟨a, b, q1, q2, frP q3⟩⟩
    | put k z =>
      have hv0 : valK (fVs now) k = some (.int z0) := hv0
      have hvb := fun v => vb_put c (S := S) (k := k) (v := v) (z := z) (rp := rp)
      obtain ⟨i1, i2⟩ := step z (some (eS (.put k z))) (some (eK k))
      have e2 : ∀ {e5 e6 : Option D}, loopX (gN 5) (lb_run_program_0 c) (eSs (.put k z :: ss)) [v0, v1, some (.ref fp), some (.ref np), some (.ref rp), e5, e6] S = loopX (gN 5) (lb_run_program_0 c) (eSs ss) [v0, v1, some (.ref fp), some (.ref np), some (.ref rp), some (eS (.put k z)), some (eK k)] (S.set np (.dn c.w (kK.enc (fVs (putKD now k z))))) := by
        intro e5 e6
        show loopX (gN 5) (lb_run_program_0 c) (eS (.put k z) :: eSs ss) _ _ = _
        simp only [ap_fVar, varK_some, ap_fC, ap_fBin, ap_binK, ap_fNil, ap_fCons, ap_consK, ap_consK2, ap_fTup, ap_tupK, ap_fTest, ap_testK, ap_fSkip, ap_fSeq, ap_seqK_nx, ap_fIf, ap_ifK, ap_fRet, ap_retK, ap_fDrop, ap_fAsg, ap_asgK, ap_asgK2, ap_gN, ap_fIx, ap_ixK, ap_fCall, ap_callK, o_lt, o_eq, o_ne, eqK_some, neK_some, toP_str, loopX_cons, ap_turnK0, ap_turnK_nx, ap_fBm, ap_bmK, tyIn_ref, tyInC_lst, o_getD, o_getDK, o_append, o_appC, lookN_ref, lookNC_dn, ap_fIxN, o_ixN, oSetN_ref, setNC_dn, setNK_some, ap_gSubN, ap_gnK, ap_gnK2, ap_gnK3, o_someMap, R.bind_ok, R.nox_ok, List.length_cons, List.length_nil, Nat.zero_add, Nat.reduceAdd, List.getElem?_cons_zero, List.getElem?_cons_succ, List.set_cons_zero, List.set_cons_succ, List.append_nil, Bool.false_eq_true, if_true, if_false, decide_eq_true_eq, decide_true, Nat.add_zero, Nat.reduceLeDiff, Bool.not_false, ap_lb_run_program_0, eS_nd, qk_rd, q_rd_rd, q_rd_st, q_rd_pu, q_rd_ad, q_rd_ne, qk_st, q_st_rd, q_st_st, q_st_pu, q_st_ad, q_st_ne, qk_pu, q_pu_rd, q_pu_st, q_pu_pu, q_pu_ad, q_pu_ne, qk_ad, q_ad_rd, q_ad_st, q_ad_pu, q_ad_ad, q_ad_ne, qk_ne, q_ne_rd, q_ne_st, q_ne_pu, q_ne_ad, q_ne_ne, ql_rd, ql_st, ql_pu, ql_ad, ql_ne, ix0_rd, ix1_rd, ix0_st, ix1_st, ix0_pu, ix1_pu, ix2_pu, ix0_ad, ix1_ad, ix2_ad, ix0_ne, ix1_ne, ix2_ne, hn, hr, keyT_eK, CodK.val, hv0, hvb, nz, CodK.put, fVs_put]
      rw [e2]
      exact ⟨fun h => let ⟨a, b, d, q1, q2, q3, q4⟩ := i1 h; ⟨a, b, d, q1, q2, q3, frP q4⟩, fun h => let ⟨a, b, q1, q2, q3⟩ := i2 h; ⟨a, b, q1, q2, frP q3⟩⟩
    | add k z =>
      have hz0 : valK now k = some z0 := hz0
      have hv0 : valK (fVs now) k = some (.int z0) := hv0
      have hvv : vlV now k = z0 := hvv
      have hvb := fun v => vb_add c (S := S) (k := k) (v := v) (z := z) (rp := rp)
      obtain ⟨i1, i2⟩ := step (z0 + z) (some (eS (.add k z))) (some (eK k))
      have e1 : runS first (.add k z :: ss) now rs = runS first ss (putKD now k (z0 + z)) rs := by show runS first ss (putKD now k (vlV now k + z)) rs = _; rw [hvv]
      have e2 : ∀ {e5 e6 : Option D}, loopX (gN 5) (lb_run_program_0 c) (eSs (.add k z :: ss)) [v0, v1, some (.ref fp), some (.ref np), some (.ref rp), e5, e6] S = loopX (gN 5) (lb_run_program_0 c) (eSs ss) [v0, v1, some (.ref fp), some (.ref np), some (.ref rp), some (eS (.add k z)), some (eK k)] (S.set np (.dn c.w (kK.enc (fVs (putKD now k (z0 + z)))))) := by
        intro e5 e6
        show loopX (gN 5) (lb_run_program_0 c) (eS (.add k z) :: eSs ss) _ _ = _
        simp only [ap_fVar, varK_some, ap_fC, ap_fBin, ap_binK, ap_fNil, ap_fCons, ap_consK, ap_consK2, ap_fTup, ap_tupK, ap_fTest, ap_testK, ap_fSkip, ap_fSeq, ap_seqK_nx, ap_fIf, ap_ifK, ap_fRet, ap_retK, ap_fDrop, ap_fAsg, ap_asgK, ap_asgK2, ap_gN, ap_fIx, ap_ixK, ap_fCall, ap_callK, o_lt, o_eq, o_ne, eqK_some, neK_some, toP_str, loopX_cons, ap_turnK0, ap_turnK_nx, ap_fBm, ap_bmK, tyIn_ref, tyInC_lst, o_getD, o_getDK, o_append, o_appC, lookN_ref, lookNC_dn, ap_fIxN, o_ixN, oSetN_ref, setNC_dn, setNK_some, ap_gSubN, ap_gnK, ap_gnK2, ap_gnK3, o_someMap, R.bind_ok, R.nox_ok, List.length_cons, List.length_nil, Nat.zero_add, Nat.reduceAdd, List.getElem?_cons_zero, List.getElem?_cons_succ, List.set_cons_zero, List.set_cons_succ, List.append_nil, Bool.false_eq_true, if_true, if_false, decide_eq_true_eq, decide_true, Nat.add_zero, Nat.reduceLeDiff, Bool.not_false, ap_lb_run_program_0, eS_nd, qk_rd, q_rd_rd, q_rd_st, q_rd_pu, q_rd_ad, q_rd_ne, qk_st, q_st_rd, q_st_st, q_st_pu, q_st_ad, q_st_ne, qk_pu, q_pu_rd, q_pu_st, q_pu_pu, q_pu_ad, q_pu_ne, qk_ad, q_ad_rd, q_ad_st, q_ad_pu, q_ad_ad, q_ad_ne, qk_ne, q_ne_rd, q_ne_st, q_ne_pu, q_ne_ad, q_ne_ne, ql_rd, ql_st, ql_pu, ql_ad, ql_ne, ix0_rd, ix1_rd, ix0_st, ix1_st, ix0_pu, ix1_pu, ix2_pu, ix0_ad, ix1_ad, ix2_ad, ix0_ne, ix1_ne, ix2_ne, hn, hr, keyT_eK, CodK.val, hv0, hvb, nz, CodK.put, fVs_put]
      rw [e1, e2]
      exact ⟨fun h => let ⟨a, b, d, q1, q2, q3, q4⟩ := i1 h; ⟨a, b, d, q1, q2, q3, frP q4⟩, fun h => let ⟨a, b, q1, q2, q3⟩ := i2 h; ⟨a, b, q1, q2, frP q3⟩⟩
    | need k z =>
      have hz0 : valK now k = some z0 := hz0
      have hv0 : valK (fVs now) k = some (.int z0) := hv0
      have hvv : vlV now k = z0 := hvv
      by_cases hlt : z0 < z
      · have e1 : runS first (.need k z :: ss) now rs = (false, rs, first) := by show (if vlV now k < z then _ else _) = _; rw [hvv, if_pos hlt]
        rw [e1]
        refine ⟨fun h => (by cases h), fun _ => ⟨rfl, S, ?_, hr, Fr.refl _ _⟩⟩
        show loopX (gN 5) (lb_run_program_0 c) (eS (.need k z) :: eSs ss) _ _ = _
        simp only [ap_fVar, varK_some, ap_fC, ap_fBin, ap_binK, ap_fNil, ap_fCons, ap_consK, ap_consK2, ap_fTup, ap_tupK, ap_fTest, ap_testK, ap_fSkip, ap_fSeq, ap_seqK_nx, ap_fIf, ap_ifK, ap_fRet, ap_retK, ap_fDrop, ap_fAsg, ap_asgK, ap_asgK2, ap_gN, ap_fIx, ap_ixK, ap_fCall, ap_callK, o_lt, o_eq, o_ne, eqK_some, neK_some, toP_str, loopX_cons, ap_turnK0, ap_turnK_rt, ap_fBm, ap_bmK, tyIn_ref, tyInC_lst, o_getD, o_getDK, o_append, o_appC, lookN_ref, lookNC_dn, ap_fIxN, o_ixN, o_someMap, R.bind_ok, List.length_cons, List.length_nil, Nat.zero_add, Nat.reduceAdd, List.getElem?_cons_zero, List.getElem?_cons_succ, List.set_cons_zero, List.set_cons_succ, List.append_nil, Bool.false_eq_true, if_true, if_false, decide_true, Nat.add_zero, Nat.reduceLeDiff, Bool.not_true, ap_lb_run_program_0, eS_nd, qk_rd, q_rd_rd, q_rd_st, q_rd_pu, q_rd_ad, q_rd_ne, qk_st, q_st_rd, q_st_st, q_st_pu, q_st_ad, q_st_ne, qk_pu, q_pu_rd, q_pu_st, q_pu_pu, q_pu_ad, q_pu_ne, qk_ad, q_ad_rd, q_ad_st, q_ad_pu, q_ad_ad, q_ad_ne, qk_ne, q_ne_rd, q_ne_st, q_ne_pu, q_ne_ad, q_ne_ne, ql_rd, ql_st, ql_pu, ql_ad, ql_ne, ix0_rd, ix1_rd, ix0_st, ix1_st, ix0_pu, ix1_pu, ix2_pu, ix0_ad, ix1_ad, ix2_ad, ix0_ne, ix1_ne, ix2_ne, hn, hr, keyT_eK, CodK.val, hv0, hlt]
      · have e1 : runS first (.need k z :: ss) now rs = runS first ss now rs := by show (if vlV now k < z then _ else _) = _; rw [hvv, if_neg hlt]
        obtain ⟨i1, i2⟩ := run_loop c (fp := fp) (np := np) (rp := rp) (first := first) (v0 := v0) (v1 := v1) ss now rs S (some (eS (.need k z))) (some (eK k)) hn hr hks (by omega) (by omega)
        have e2 : ∀ {e5 e6 : Option D}, loopX (gN 5) (lb_run_program_0 c) (eSs (.need k z :: ss)) [v0, v1, some (.ref fp), some (.ref np), some (.ref rp), e5, e6] S = loopX (gN 5) (lb_run_program_0 c) (eSs ss) [v0, v1, some (.ref fp), some (.ref np), some (.ref rp), some (eS (.need k z)), some (eK k)] S := by
          intro e5 e6
          show loopX (gN 5) (lb_run_program_0 c) (eS (.need k z) :: eSs ss) _ _ = _
          simp only [ap_fVar, varK_some, ap_fC, ap_fBin, ap_binK, ap_fNil, ap_fCons, ap_consK, ap_consK2, ap_fTup, ap_tupK, ap_fTest, ap_testK, ap_fSkip, ap_fSeq, ap_seqK_nx, ap_fIf, ap_ifK, ap_fRet, ap_retK, ap_fDrop, ap_fAsg, ap_asgK, ap_asgK2, ap_gN, ap_fIx, ap_ixK, ap_fCall, ap_callK, o_lt, o_eq, o_ne, eqK_some, neK_some, toP_str, loopX_cons, ap_turnK0, ap_turnK_nx, ap_fBm, ap_bmK, tyIn_ref, tyInC_lst, o_getD, o_getDK, o_append, o_appC, lookN_ref, lookNC_dn, ap_fIxN, o_ixN, o_someMap, R.bind_ok, List.length_cons, List.length_nil, Nat.zero_add, Nat.reduceAdd, List.getElem?_cons_zero, List.getElem?_cons_succ, List.set_cons_zero, List.set_cons_succ, List.append_nil, Bool.false_eq_true, if_true, if_false, decide_true, decide_false, Nat.add_zero, Nat.reduceLeDiff, Bool.not_true, ap_lb_run_program_0, eS_nd, qk_rd, q_rd_rd, q_rd_st, q_rd_pu, q_rd_ad, q_rd_ne, qk_st, q_st_rd, q_st_st, q_st_pu, q_st_ad, q_st_ne, qk_pu, q_pu_rd, q_pu_st, q_pu_pu, q_pu_ad, q_pu_ne, qk_ad, q_ad_rd, q_ad_st, q_ad_pu, q_ad_ad, q_ad_ne, qk_ne, q_ne_rd, q_ne_st, q_ne_pu, q_ne_ad, q_ne_ne, ql_rd, ql_st, ql_pu, ql_ad, ql_ne, ix0_rd, ix1_rd, ix0_st, ix1_st, ix0_pu, ix1_pu, ix2_pu, ix0_ad, ix1_ad, ix2_ad, ix0_ne, ix1_ne, ix2_ne, hn, hr, keyT_eK, CodK.val, hv0, hlt]
        rw [e1, e2]
        exact ⟨i1, i2⟩
def kD' : D → K2
  | .tup [.int a, .str b] => (a, b)
  | _ => (0, ⟨#[]⟩)
theorem kD_eK {k : K2} : kD' (eK k) = k := (rfl)
theorem addK_nodup {ks : List K2} {k : K2} (h : ks.Nodup) : (addK ks k).Nodup := by
  unfold addK
  split
  · exact h
  · rename_i hm
    exact List.nodup_append.mpr ⟨h, (by simp), fun a ha b hb => by rw [List.mem_singleton.mp hb]; exact fun e => hm (e ▸ ha)⟩
theorem fold_nodup : ∀ {ks acc : List K2}, acc.Nodup → (ks.foldl addK acc).Nodup
  | [], acc, h => h
  | k :: ks, acc, h => by rw [List.foldl_cons]; exact fold_nodup (addK_nodup h)
theorem keysS_nodup {pg : List Stp} : (keysS pg).Nodup := fold_nodup List.nodup_nil
theorem fold_first {g : K2 → Int} : ∀ (ks : List K2) (acc : Vals2), (kK.es ks).foldl (fun a d => putKD a (kK.kf (kD' d)) (.int (g (kD' d)))) (kK.enc (fVs acc)) = kK.enc (fVs (ks.foldl (fun a k => putKD a k (g k)) acc))
  | [], acc => rfl
  | k :: ks, acc => by
    show (kK.es ks).foldl _ (putKD (kK.enc (fVs acc)) (kK.kf k) (.int (g k))) = _
    rw [CodK.put, fVs_put, fold_first ks (putKD acc k (g k)), List.foldl_cons]
theorem fold_put_new {g : K2 → Int} : ∀ (ks : List K2) (acc : Vals2), (acc.map (·.1) ++ ks).Nodup → ks.foldl (fun a k => putKD a k (g k)) acc = acc ++ ks.map fun k => (k, g k)
  | [], acc, _ => (List.append_nil acc).symm
  | k :: ks, acc, h => by
    have hx : (acc.any fun kv => decide (kv.1 = k)) = false := by
      rw [List.any_eq_false]
      intro y hy z
      have z : y.1 = k := by simpa using z
      exact (List.nodup_append.mp h).2.2 y.1 (List.mem_map_of_mem (f := (·.1)) hy) k (by simp) z
    have e : putKD acc k (g k) = acc ++ [(k, g k)] := by unfold putKD; rw [hx]; rfl
    rw [List.foldl_cons, e, fold_put_new ks _ (by simpa using h), List.append_assoc]
    rfl
theorem first_eq {ks : List K2} {vs : Vals2} (h : ks.Nodup) : firstS ks vs = ks.map fun k => (k, vlV vs k) := by
  unfold firstS
  rw [fold_put_new ks [] (by simpa using h)]
  rfl
theorem valK_mk {ks : List K2} {f : K2 → Int} {k : K2} : valK (ks.map fun k => (k, f k)) k = if k ∈ ks then some (f k) else none := by
  unfold valK
  induction ks with
  | nil => rfl
  | cons g r ih =>
    rw [List.map_cons, List.find?_cons]
    by_cases h : g = k
    · subst h; simp
    · have h3 : ¬ k = g := fun e => h e.symm
      simp only [decide_eq_false h, ih]
      simp [h3]
theorem first_val {ks : List K2} {vs : Vals2} {k : K2} (h : ks.Nodup) (hk : k ∈ ks) : valK (firstS ks vs) k = some (vlV vs k) := by rw [first_eq h, valK_mk, if_pos hk]
theorem first_keys {ks : List K2} {vs : Vals2} (h : ks.Nodup) : (firstS ks vs).map (·.1) = ks := by
  rw [first_eq h, List.map_map]; exact List.map_id _
theorem first_len {ks : List K2} {vs : Vals2} (h : ks.Nodup) : (firstS ks vs).length = ks.length := by rw [first_eq h, List.length_map]
theorem first_first {ks : List K2} {vs : Vals2} (h : ks.Nodup) : firstS ks (firstS ks vs) = firstS ks vs := by
  rw [first_eq (vs := firstS ks vs) h, first_eq (vs := vs) h]
  refine List.map_congr_left fun k hk => ?_
  rw [valV_of (z := vlV vs k) (by rw [valK_mk, if_pos hk])]
theorem fVs_keys {vs : Vals2} : (fVs vs).map (·.1) = vs.map (·.1) := by unfold fVs; rw [List.map_map]; rfl
theorem run_keeps {first : Vals2} {k : K2} (h1 : valK first k ≠ none) : ∀ (ss : List Stp) (now : Vals2) (rs : List Int), valK now k ≠ none → valK (runS first ss now rs).2.2 k ≠ none
  | [], now, rs, h => h
  | .rd _ :: ss, now, rs, h => run_keeps h1 ss _ _ h
  | .st g :: ss, now, rs, h => run_keeps h1 ss _ _ (by rw [valK_put]; split <;> simp_all)
  | .put g z :: ss, now, rs, h => run_keeps h1 ss _ _ (by rw [valK_put]; split <;> simp_all)
  | .add g z :: ss, now, rs, h => run_keeps h1 ss _ _ (by rw [valK_put]; split <;> simp_all)
  | .need g z :: ss, now, rs, h => by
    show valK (if vlV now g < z then (false, rs, first) else runS first ss now rs).2.2 k ≠ none
    split
    · exact h1
    · exact run_keeps h1 ss _ _ h
theorem runprog_eq (c : CA) {S : Sto} {pg : List Stp} {vs : Vals2} {vl : Nat} (hv : S[vl]? = some (.dn c.w (kK.enc (fVs vs)))) (ha : ∀ k ∈ keysS pg, valK vs k ≠ none) (hl : pg.length < 400) :
    ∃ S1 rp bp, F_run_program c [.tup (eSs pg), .ref vl] S = .ok (.tup [.bl (runP pg vs).1, .ref rp, .ref bp]) S1 ∧ S1[rp]? = some (.lst (eI (runP pg vs).2.1)) ∧ S1[bp]? = some (.dn c.w (kK.enc (fVs (runP pg vs).2.2))) ∧ Fr S S1 (fun _ => False) ∧ S.length ≤ rp ∧ S.length ≤ bp := by
  have hko := keysof_eq c (S := S) (pg := pg) (by omega)
  have hkl := keysS_len (pg := pg)
  have hkn := keysS_nodup (pg := pg)
  have gv : ∀ k ∈ keysS pg, valK (fVs vs) k = some (.int (vlV vs k)) := fun k hk => by
    obtain ⟨z, hz⟩ := Option.ne_none_iff_exists'.mp (ha k hk)
    rw [fVs_val, hz, valV_of hz]; rfl
  have hvl := (List.getElem?_eq_some_iff.mp hv).1
  -- at_first
  have c1 := dcompL_map (w := c.w) (n := S.length + 1) (i := 6) (fk := ce_run_program_0 c) (fv := ce_run_program_1 c) (env := [some (.tup (eSs pg)), some (.ref vl), none, none, none, none, none]) (S := S ++ [.dn c.w (kK.enc (fTr (keysS pg))), .lst (kK.es (keysS pg))]) (ys := kK.es (keysS pg)) (f := fun d => kK.kf (kD' d)) (h := fun d => .int (vlV vs (kD' d))) (e := fun d => d) (by rw [get_app]; rfl) (fun d hd => by
    obtain ⟨k, hk, rfl⟩ := List.mem_map.mp hd
    have hg := gv k hk
    refine ⟨rfl, rfl, ?_⟩
    rw [o_kKe, kD_eK]
    simp only [ap_fVar, varK_some, ap_fBin, ap_binK, o_getDK, lookN_ref, lookNC_dn, ap_fIxN, o_ixN, o_someMap, R.bind_ok, List.getElem?_cons_zero, List.getElem?_cons_succ, List.set_cons_zero, List.set_cons_succ, ap_ce_run_program_1, app_get hv, keyT_eK, CodK.val, hg]) (kK.es (keysS pg)).length 0 (kK.es (keysS pg)) [] (by omega) rfl (by rw [Cod.es_len, List.length_nil]; omega)
  have z1 := fold_first (g := vlV vs) (keysS pg) []
  have z0 : kK.enc (fVs []) = [] := rfl
  have z2 : (keysS pg).foldl (fun a k => putKD a k (vlV vs k)) [] = firstS (keysS pg) vs := rfl
  rw [z0, z2] at z1
  rw [List.drop_zero, z1] at c1
  generalize hF : firstS (keysS pg) vs = first at c1
  have hfk : first.map (·.1) = keysS pg := by rw [← hF]; exact first_keys hkn
  have hfl : first.length = (keysS pg).length := by rw [← hF]; exact first_len hkn
  have hfv : ∀ k ∈ keysS pg, valK (fVs first) k = some (.int (vlV first k)) := fun k hk => by
    have := first_val (vs := vs) hkn hk
    rw [hF] at this
    rw [fVs_val, this, valV_of this]; rfl
  have hff : firstS (keysS pg) first = first := by rw [← hF]; exact first_first hkn
  -- now
  have hkeys : keysN (kK.enc (fVs first)) = kK.es (keysS pg) := by rw [CodK.keys, fVs_keys, hfk]
  have c2 := dcompX_map (w := c.w) (i := 6) (fk := ce_run_program_2 c) (fv := ce_run_program_3 c) (env := [some (.tup (eSs pg)), some (.ref vl), some (.ref (S.length + 2)), none, none, none, none]) (S := S ++ [.dn c.w (kK.enc (fTr (keysS pg))), .lst (kK.es (keysS pg)), .df c.w (kK.enc (fVs first))]) (xs := kK.es (keysS pg)) (acc := []) (f := fun d => kK.kf (kD' d)) (h := fun d => .int (vlV first (kD' d))) (e := fun d => d) (fun d hd => by
    obtain ⟨k, hk, rfl⟩ := List.mem_map.mp hd
    have hg := hfv k hk
    refine ⟨rfl, rfl, ?_⟩
    rw [o_kKe, kD_eK]
    simp only [ap_fVar, varK_some, ap_fBin, ap_binK, o_getDK, lookN_ref, lookNC_df, ap_fIxN, o_ixN, o_someMap, R.bind_ok, List.getElem?_cons_zero, List.getElem?_cons_succ, List.set_cons_zero, List.set_cons_succ, get_app, ap_ce_run_program_3, keyT_eK, CodK.val, hg]) (by rw [Cod.es_len, List.length_nil]; omega)
  have z3 := fold_first (g := vlV first) (keysS pg) []
  have z4 : (keysS pg).foldl (fun a k => putKD a k (vlV first k)) [] = firstS (keysS pg) first := rfl
  rw [z0, z4, hff] at z3
  rw [z3] at c2
  -- the run
  have hrun : runP pg vs = runS first pg first [] := by unfold runP; rw [hF]
  have hhas : hasK pg first := fun s hs => by
    have := first_val (vs := vs) hkn (keysS_mem.mpr ⟨s, hs, rfl⟩)
    rw [hF] at this
    rw [this]; simp
  obtain ⟨l1, l2⟩ := run_loop c (fp := S.length + 2) (np := S.length + 3) (rp := S.length + 4) (first := first) (v0 := some (.tup (eSs pg))) (v1 := some (.ref vl)) pg first [] (S ++ [.dn c.w (kK.enc (fTr (keysS pg))), .lst (kK.es (keysS pg)), .dn c.w (kK.enc (fVs first)), .dn c.w (kK.enc (fVs first)), .lst []]) none none (by rw [get_app]; rfl) (by rw [get_app]; rfl) hhas (by omega) (by rw [List.length_nil]; omega)
  simp only [List.length_append, List.length_cons, List.length_nil, Nat.reduceAdd, List.append_assoc, List.cons_append, List.nil_append] at c1 c2
  rw [hrun]
  unfold F_run_program b_run_program
  cases hd : (runS first pg first []).1 with
  | true =>
    obtain ⟨f5, f6, S1, q1, q2, q3, q4⟩ := l1 hd
    refine ⟨S1, S.length + 4, S.length + 3, ?_, q3, q2, (Fr.app S _ _).new q4 (fun i hi z => by rcases z with z | z <;> omega), by omega, by omega⟩
    simp only [ap_fVar, varK_some, ap_fC, ap_fNil, ap_fCons, ap_consK, ap_consK2, ap_fTup, ap_fLst, ap_tupK, ap_lstK, ap_fSeq, ap_seqK_nx, ap_fRet, ap_retK, ap_fAsg, ap_asgK, ap_asgK2, ap_gN, ap_fCall, ap_callK, ap_fnF, ap_fnK_rt, ap_fFor, ap_forK_fix, ap_fIter, ap_iterK_tup, ap_iterK_ref, iterC_lst, ap_fIce, ap_iceM, ap_iceC, ap_thawR, ap_thawC, ap_fIterN, ap_itNK, ap_itNC, ap_fDComp, ap_dcFK_fix, ap_dcFK_live, R.bind_ok, R.nox_ok, List.map_cons, List.map_nil, List.length_cons, List.length_nil, List.cons_append, List.nil_append, Nat.zero_add, Nat.reduceAdd, Nat.reduceSub, List.replicate_succ, List.replicate_zero, List.getElem?_cons_zero, List.getElem?_cons_succ, List.set_cons_zero, List.set_cons_succ, List.append_nil, if_true, Nat.add_zero, Nat.reduceLeDiff, get_app, set_app, List.append_assoc, List.length_append, hko, ap_fDComp, ap_dcFK_live, ap_dcFK_fix, c1, hkeys, c2, ap_fIce, ap_iceM, ap_thawR, q1]
  | false =>
    obtain ⟨q0, S1, q1, q3, q4⟩ := l2 hd
    refine ⟨S1, S.length + 4, S.length + 2, ?_, q3, ?_, (Fr.app S _ _).new q4 (fun i hi z => by rcases z with z | z <;> omega), by omega, by omega⟩
    · simp only [ap_fVar, varK_some, ap_fNil, ap_fCons, ap_consK, ap_consK2, ap_fLst, ap_lstK, ap_fSeq, ap_seqK_nx, ap_seqK_rt, ap_fAsg, ap_asgK, ap_asgK2, ap_gN, ap_fCall, ap_callK, ap_fnF, ap_fnK_rt, ap_fFor, ap_forK_fix, ap_fIter, ap_iterK_tup, ap_iterK_ref, iterC_lst, ap_fIce, ap_iceM, ap_iceC, ap_thawR, ap_thawC, ap_fIterN, ap_itNK, ap_itNC, ap_fDComp, ap_dcFK_fix, ap_dcFK_live, R.bind_ok, R.nox_ok, List.map_cons, List.map_nil, List.length_cons, List.length_nil, List.cons_append, List.nil_append, Nat.zero_add, Nat.reduceAdd, Nat.reduceSub, List.replicate_succ, List.replicate_zero, List.getElem?_cons_zero, List.getElem?_cons_succ, List.set_cons_zero, List.set_cons_succ, List.append_nil, if_true, Nat.add_zero, Nat.reduceLeDiff, get_app, set_app, List.append_assoc, List.length_append, hko, ap_fDComp, ap_dcFK_live, ap_dcFK_fix, c1, hkeys, c2, ap_fIce, ap_iceM, ap_thawR, q1]
    · rw [q0]
      exact q4.get (by rw [get_app]; rfl) (by omega)
theorem put0_loop (c : CA) {n np hl : Nat} {ks : List K2} {vs : Vals2} {v0 v2 v4 v5 v6 : Option D} (ha : ∀ k ∈ ks, valK vs k ≠ none) (hne : hl ≠ np) : ∀ (r j : Nat) (xs : List D) (acc : Vals2) (S : Sto) (f : Option D), r = ks.length - j → xs.length = r → j ≤ ks.length → S[n]? = some (.lst (kK.es ks)) → S[np]? = some (.dn c.w (kK.enc (fVs acc))) → S[hl]? = some (.dn c.w (kK.enc (fVs vs))) → acc.length + r < 1000 →
    ∃ g, loopL n (gN 3) (lb_law_run_0 c) xs j [v0, some (.ref hl), some (.ref np), f, v4, v5, v6] S = .ok (.nx [v0, some (.ref hl), some (.ref np), g, v4, v5, v6]) (S.set np (.dn c.w (kK.enc (fVs ((ks.drop j).foldl (fun a k => putKD a k (vlV vs k)) acc)))))
  | 0, j, xs, acc, S, f, hr, hx, hj, h1, h2, h3, hl' => by
    have hx : xs = [] := List.length_eq_zero_iff.mp hx
    subst hx
    refine ⟨f, ?_⟩
    rw [List.drop_eq_nil_of_le (by omega), List.foldl_nil, set_self h2]
    unfold loopL
    rw [h1]
    simp only
    rw [if_pos (by rw [Cod.es_len]; omega)]
  | r + 1, j, [], acc, S, f, hr, hx, hj, h1, h2, h3, hl' => by simp at hx
  | r + 1, j, x :: xs, acc, S, f, hr, hx, hj, h1, h2, h3, hl' => by
    have hlt : j < ks.length := by omega
    have hd : (kK.es ks)[j]? = some (eK ks[j]) := by
      show (ks.map eK)[j]? = _
      rw [List.getElem?_map, List.getElem?_eq_getElem hlt]; rfl
    obtain ⟨z, hz⟩ := Option.ne_none_iff_exists'.mp (ha ks[j] (List.getElem_mem hlt))
    have hv := valV_of hz
    have hz2 : valK (fVs vs) ks[j] = some (.int z) := by rw [fVs_val, hz]; rfl
    have hpl := put_len (kvs := acc) (x := ks[j]) (v := z)
    have hnn : n ≠ np := ne_of_cell h1 h2 (fun z => nomatch z)
    have nz : (kK.enc (fVs acc)).length < 100000 := by rw [CodK.enc_len, fVs_len]; omega
    obtain ⟨g, hg⟩ := put0_loop c (n := n) (np := np) (hl := hl) (v0 := v0) (v2 := v2) (v4 := v4) (v5 := v5) (v6 := v6) ha hne r (j + 1) xs (putKD acc ks[j] z) (S.set np (.dn c.w (kK.enc (fVs (putKD acc ks[j] z))))) (some (eK ks[j])) (by omega) (by simpa using hx) (by omega) (by rw [List.getElem?_set_ne (fun e => hnn e.symm)]; exact h1) (set_get h2) (by rw [List.getElem?_set_ne (fun e => hne e.symm)]; exact h3) (by omega)
    refine ⟨g, ?_⟩
    rw [List.set_set] at hg
    rw [List.drop_eq_getElem_cons hlt, List.foldl_cons, hv, ← hg]
    conv => lhs; unfold loopL
    rw [h1]
    simp only
    rw [hd]
    simp only
    simp only [ap_fVar, varK_some, ap_fBin, ap_binK, ap_fAsg, ap_asgK, ap_asgK2, ap_gN, o_getDK, lookN_ref, lookNC_dn, ap_fIxN, o_ixN, oSetN_ref, setNC_dn, setNK_some, ap_gSubN, ap_gnK, ap_gnK2, ap_gnK3, o_someMap, R.bind_ok, List.getElem?_cons_zero, List.getElem?_cons_succ, List.set_cons_zero, List.set_cons_succ, if_true, ap_lb_law_run_0, h2, h3, keyT_eK, CodK.val, hz2, nz, CodK.put, fVs_put]
theorem put1_loop (c : CA) {n np hl : Nat} {ks : List K2} {vs : Vals2} {v0 v2 v4 v5 v6 : Option D} (ha : ∀ k ∈ ks, valK vs k ≠ none) (hne : hl ≠ np) : ∀ (r j : Nat) (xs : List D) (acc : Vals2) (S : Sto) (f : Option D), r = ks.length - j → xs.length = r → j ≤ ks.length → S[n]? = some (.lst (kK.es ks)) → S[np]? = some (.dn c.w (kK.enc (fVs acc))) → S[hl]? = some (.dn c.w (kK.enc (fVs vs))) → acc.length + r < 1000 →
    ∃ g, loopL n (gN 3) (lb_law_run_1 c) xs j [v0, some (.ref hl), v2, f, v4, v5, some (.ref np)] S = .ok (.nx [v0, some (.ref hl), v2, g, v4, v5, some (.ref np)]) (S.set np (.dn c.w (kK.enc (fVs ((ks.drop j).foldl (fun a k => putKD a k (vlV vs k)) acc)))))
  | 0, j, xs, acc, S, f, hr, hx, hj, h1, h2, h3, hl' => by
    have hx : xs = [] := List.length_eq_zero_iff.mp hx
    subst hx
    refine ⟨f, ?_⟩
    rw [List.drop_eq_nil_of_le (by omega), List.foldl_nil, set_self h2]
    unfold loopL
    rw [h1]
    simp only
    rw [if_pos (by rw [Cod.es_len]; omega)]
  | r + 1, j, [], acc, S, f, hr, hx, hj, h1, h2, h3, hl' => by simp at hx
  | r + 1, j, x :: xs, acc, S, f, hr, hx, hj, h1, h2, h3, hl' => by
    have hlt : j < ks.length := by omega
    have hd : (kK.es ks)[j]? = some (eK ks[j]) := by
      show (ks.map eK)[j]? = _
      rw [List.getElem?_map, List.getElem?_eq_getElem hlt]; rfl
    obtain ⟨z, hz⟩ := Option.ne_none_iff_exists'.mp (ha ks[j] (List.getElem_mem hlt))
    have hv := valV_of hz
    have hz2 : valK (fVs vs) ks[j] = some (.int z) := by rw [fVs_val, hz]; rfl
    have hpl := put_len (kvs := acc) (x := ks[j]) (v := z)
    have hnn : n ≠ np := ne_of_cell h1 h2 (fun z => nomatch z)
    have nz : (kK.enc (fVs acc)).length < 100000 := by rw [CodK.enc_len, fVs_len]; omega
    obtain ⟨g, hg⟩ := put1_loop c (n := n) (np := np) (hl := hl) (v0 := v0) (v2 := v2) (v4 := v4) (v5 := v5) (v6 := v6) ha hne r (j + 1) xs (putKD acc ks[j] z) (S.set np (.dn c.w (kK.enc (fVs (putKD acc ks[j] z))))) (some (eK ks[j])) (by omega) (by simpa using hx) (by omega) (by rw [List.getElem?_set_ne (fun e => hnn e.symm)]; exact h1) (set_get h2) (by rw [List.getElem?_set_ne (fun e => hne e.symm)]; exact h3) (by omega)
    refine ⟨g, ?_⟩
    rw [List.set_set] at hg
    rw [List.drop_eq_getElem_cons hlt, List.foldl_cons, hv, ← hg]
    conv => lhs; unfold loopL
    rw [h1]
    simp only
    rw [hd]
    simp only
    simp only [ap_fVar, varK_some, ap_fBin, ap_binK, ap_fAsg, ap_asgK, ap_asgK2, ap_gN, o_getDK, lookN_ref, lookNC_dn, ap_fIxN, o_ixN, oSetN_ref, setNC_dn, setNK_some, ap_gSubN, ap_gnK, ap_gnK2, ap_gnK3, o_someMap, R.bind_ok, List.getElem?_cons_zero, List.getElem?_cons_succ, List.set_cons_zero, List.set_cons_succ, if_true, ap_lb_law_run_1, h2, h3, keyT_eK, CodK.val, hz2, nz, CodK.put, fVs_put]

theorem neg1_zero {rs : List Int} : atI (.int 0 :: eI rs) (-1) = some (.int (rs.getLast?.getD 0)) := by
  have h := neg1_last (rs := 0 :: rs) (by simp)
  have e : eI (0 :: rs) = .int 0 :: eI rs := rfl
  rw [e] at h
  rw [h]
  cases rs <;> simp
theorem run_loopM (c : CA) {np rp hl : Nat} {pg : List Stp} {vs : Vals2} (hok : ∀ s ∈ pg, PyData.strOk s.key.2 = true) (hpl : pg.length < 400) (ha : ∀ k ∈ keysS pg, valK vs k ≠ none) (hn1 : hl ≠ np) : ∀ (ss : List Stp) (now : Vals2) (rs : List Int) (S : Sto) (e3 e5 e6 : Option D), S[hl]? = some (.dn c.w (kK.enc (fVs vs))) → S[np]? = some (.dn c.w (kK.enc (fVs now))) → S[rp]? = some (.lst (eI rs)) → hasK ss now → now.length + ss.length < 1000 → rs.length + ss.length < 1000 →
    ((runS (firstS (keysS pg) vs) ss now rs).1 = true → ∃ f3 f5 f6 S1, loopX (gN 5) (lb_law_run_2 c) (eSs ss) [some (.tup (eSs pg)), some (.ref hl), some (.ref np), e3, some (.ref rp), e5, e6] S = .ok (.nx [some (.tup (eSs pg)), some (.ref hl), some (.ref np), f3, some (.ref rp), f5, f6]) S1 ∧ S1[np]? = some (.dn c.w (kK.enc (fVs (runS (firstS (keysS pg) vs) ss now rs).2.2))) ∧ S1[rp]? = some (.lst (eI (runS (firstS (keysS pg) vs) ss now rs).2.1)) ∧ Fr S S1 (fun i => i = np ∨ i = rp)) ∧
    ((runS (firstS (keysS pg) vs) ss now rs).1 = false → (runS (firstS (keysS pg) vs) ss now rs).2.2 = firstS (keysS pg) vs ∧ ∃ S1 bp, loopX (gN 5) (lb_law_run_2 c) (eSs ss) [some (.tup (eSs pg)), some (.ref hl), some (.ref np), e3, some (.ref rp), e5, e6] S = .ok (.rt (.tup [.bl false, .ref rp, .ref bp])) S1 ∧ S1[rp]? = some (.lst (eI (runS (firstS (keysS pg) vs) ss now rs).2.1)) ∧ S1[bp]? = some (.dn c.w (kK.enc (fVs (firstS (keysS pg) vs)))) ∧ Fr S S1 (fun i => i = np ∨ i = rp) ∧ S.length ≤ bp)
  | [], now, rs, S, e3, e5, e6, hh, hn, hr, hk, l1, l2 => ⟨fun _ => ⟨e3, e5, e6, S, rfl, hn, hr, Fr.refl _ _⟩, fun h => (by cases h)⟩
  | s :: ss, now, rs, S, e3, e5, e6, hh, hn, hr, hk, l1, l2 => by
    rw [List.length_cons] at l1 l2
    have hks : hasK ss now := fun x hx => hk x (List.mem_cons_of_mem _ hx)
    obtain ⟨z0, hz0⟩ := Option.ne_none_iff_exists'.mp (hk s (List.mem_cons_self ..))
    have hv0 : valK (fVs now) s.key = some (.int z0) := by rw [fVs_val, hz0]; rfl
    have hvv := valV_of hz0
    have nz : (kK.enc (fVs now)).length < 100000 := by rw [CodK.enc_len, fVs_len]; omega
    have nr : (eI rs).length < 100000 := by rw [eI_len]; omega
    have d1 : np ≠ rp := ne_of_cell hn hr (fun z => nomatch z)
    have d2 : hl ≠ rp := ne_of_cell hh hr (fun z => nomatch z)
    have frP : ∀ {S1 : Sto} {x : Cell} {T : Sto}, Fr (S.set np x ++ T) S1 (fun i => i = np ∨ i = rp) → Fr S S1 (fun i => i = np ∨ i = rp) := fun h => ((Fr.set (.inl rfl)).trans (Fr.app _ _ _)).trans h
    have frR : ∀ {S1 : Sto} {x : Cell}, Fr (S.set rp x) S1 (fun i => i = np ∨ i = rp) → Fr S S1 (fun i => i = np ∨ i = rp) := fun h => (Fr.set (.inr rfl)).trans h
    have step : ∀ (z : Int) (T : Sto) (e3 e5 e6 : Option D), _ := fun z T e3 e5 e6 => run_loopM c (np := np) (rp := rp) (hl := hl) hok hpl ha hn1 ss (putKD now s.key z) rs (S.set np (.dn c.w (kK.enc (fVs (putKD now s.key z)))) ++ T) e3 e5 e6 (app_get (by rw [List.getElem?_set_ne (fun e => hn1 e.symm)]; exact hh)) (app_get (set_get hn)) (app_get (by rw [List.getElem?_set_ne d1]; exact hr)) (hasK_put hks) (by have := put_len (kvs := now) (x := s.key) (v := z); omega) (by omega)
    cases s with
    | rd k =>
      have hz0 : valK now k = some z0 := hz0
      have hv0 : valK (fVs now) k = some (.int z0) := hv0
      have hvv : vlV now k = z0 := hvv
      obtain ⟨i1, i2⟩ := run_loopM c (np := np) (rp := rp) (hl := hl) hok hpl ha hn1 ss now (rs ++ [z0]) (S.set rp (.lst (eI (rs ++ [z0])))) e3 (some (eS (.rd k))) e6 (by rw [List.getElem?_set_ne (fun e => d2 e.symm)]; exact hh) (by rw [List.getElem?_set_ne (fun e => d1 e.symm)]; exact hn) (set_get hr) hks (by omega) (by rw [List.length_append, List.length_singleton]; omega)
      have e1 : runS (firstS (keysS pg) vs) (.rd k :: ss) now rs = runS (firstS (keysS pg) vs) ss now (rs ++ [z0]) := by show runS _ ss now (rs ++ [vlV now k]) = _; rw [hvv]
      have e2 : loopX (gN 5) (lb_law_run_2 c) (eSs (.rd k :: ss)) [some (.tup (eSs pg)), some (.ref hl), some (.ref np), e3, some (.ref rp), e5, e6] S = loopX (gN 5) (lb_law_run_2 c) (eSs ss) [some (.tup (eSs pg)), some (.ref hl), some (.ref np), e3, some (.ref rp), some (eS (.rd k)), e6] (S.set rp (.lst (eI (rs ++ [z0])))) := by
        show loopX (gN 5) (lb_law_run_2 c) (eS (.rd k) :: eSs ss) _ _ = _
        simp only [ap_fVar, varK_some, ap_fC, ap_fBin, ap_binK, ap_fNil, ap_fCons, ap_consK, ap_consK2, ap_fLst, ap_lstK, ap_fTest, ap_testK, ap_fAnd, ap_andK, ap_fSkip, ap_fSeq, ap_seqK_nx, ap_fIf, ap_ifK, ap_fDrop, ap_dropK, ap_fAsg, ap_asgK, ap_asgK2, ap_gN, ap_fIx, ap_ixK, ap_fCall, ap_callK, o_addR, o_eq, eqK_some, toP_str, ap_fFor, loopX_cons, ap_turnK0, ap_turnK_nx, ap_fIter, ap_fBm, ap_bmK, tyIn_ref, tyInC_lst, o_getD, o_getDK, o_append, o_appC, lookN_ref, lookNC_dn, ap_fIxN, o_ixN, ap_fDictN0, o_someMap, R.bind_ok, List.length_cons, List.length_nil, Nat.zero_add, List.getElem?_cons_zero, List.getElem?_cons_succ, List.set_cons_zero, List.set_cons_succ, List.append_nil, Bool.false_eq_true, if_true, if_false, decide_true, Nat.add_zero, Nat.reduceLeDiff, get_apps0, List.length_set, ap_lb_law_run_2, eS_nd, qk_rd, q_rd_rd, q_rd_st, q_rd_pu, q_rd_ad, q_rd_ne, qk_st, q_st_rd, q_st_st, q_st_pu, q_st_ad, q_st_ne, qk_pu, q_pu_rd, q_pu_st, q_pu_pu, q_pu_ad, q_pu_ne, qk_ad, q_ad_rd, q_ad_st, q_ad_pu, q_ad_ad, q_ad_ne, qk_ne, q_ne_rd, q_ne_st, q_ne_pu, q_ne_ad, q_ne_ne, ql_rd, ql_st, ql_pu, ql_ad, ql_ne, ix0_rd, ix1_rd, ix0_st, ix1_st, ix0_pu, ix1_pu, ix2_pu, ix0_ad, ix1_ad, ix2_ad, ix0_ne, ix1_ne, ix2_ne, hn, hr, keyT_eK, CodK.val, hv0, nr, eI_snoc]
      rw [e1, e2]
      exact ⟨fun h => let ⟨a, b, d, e, q1, q2, q3, q4⟩ := i1 h; ⟨a, b, d, e, q1, q2, q3, frR q4⟩, fun h => let ⟨a, b, d, q1, q2, q3, q4, q5⟩ := i2 h; ⟨a, b, d, q1, q2, q3, frR q4, Nat.le_trans (by simp) q5⟩⟩
    | st k =>
      obtain ⟨i1, i2⟩ := step (rs.getLast?.getD 0) [.lst [.int 0], .lst (.int 0 :: eI rs)] e3 (some (eS (.st k))) e6
      have hz : [D.int 0].length + (eI rs).length ≤ 100000 := by rw [eI_len]; simp; omega
      have hz2 : 1 + (eI rs).length ≤ 100000 := by rw [eI_len]; omega
      have e2 : loopX (gN 5) (lb_law_run_2 c) (eSs (.st k :: ss)) [some (.tup (eSs pg)), some (.ref hl), some (.ref np), e3, some (.ref rp), e5, e6] S = loopX (gN 5) (lb_law_run_2 c) (eSs ss) [some (.tup (eSs pg)), some (.ref hl), some (.ref np), e3, some (.ref rp), some (eS (.st k)), e6] (S.set np (.dn c.w (kK.enc (fVs (putKD now k (rs.getLast?.getD 0))))) ++ [.lst [.int 0], .lst (.int 0 :: eI rs)]) := by
        show loopX (gN 5) (lb_law_run_2 c) (eS (.st k) :: eSs ss) _ _ = _
        simp only [ap_fVar, varK_some, ap_fC, ap_fBin, ap_binK, ap_fUn, ap_fNil, ap_fCons, ap_consK, ap_consK2, ap_fLst, ap_lstK, ap_fTest, ap_testK, ap_fAnd, ap_andK, ap_fSkip, ap_fSeq, ap_seqK_nx, ap_fIf, ap_ifK, ap_fDrop, ap_fAsg, ap_asgK, ap_asgK2, ap_gN, ap_fIx, ap_ixK, isDict_ref, isDictC_lst, getL_ref, getLC_lst, retO_some, ap_fCall, ap_callK, o_addR, o_addC, o_neg, o_eq, eqK_some, toP_str, ap_fFor, loopX_cons, ap_turnK0, ap_turnK_nx, ap_fIter, ap_fBm, ap_bmK, tyIn_ref, tyInC_lst, o_getD, lookD_ref, lookN_ref, lookNC_dn, ap_fIxN, o_ixN, oSetN_ref, setNC_dn, setNK_some, ap_gSubN, ap_gnK, ap_gnK2, ap_gnK3, ap_fDictN0, o_someMap, R.bind_ok, List.length_cons, List.length_nil, List.cons_append, List.nil_append, Nat.zero_add, Nat.reduceAdd, List.getElem?_cons_zero, List.getElem?_cons_succ, List.set_cons_zero, List.set_cons_succ, List.append_nil, Bool.false_eq_true, if_true, if_false, decide_true, Nat.add_zero, Nat.reduceLeDiff, Int.reduceNeg, get_app, get_app0, List.append_assoc, List.length_set, List.length_append, ap_lb_law_run_2, eS_nd, qk_rd, q_rd_rd, q_rd_st, q_rd_pu, q_rd_ad, q_rd_ne, qk_st, q_st_rd, q_st_st, q_st_pu, q_st_ad, q_st_ne, qk_pu, q_pu_rd, q_pu_st, q_pu_pu, q_pu_ad, q_pu_ne, qk_ad, q_ad_rd, q_ad_st, q_ad_pu, q_ad_ad, q_ad_ne, qk_ne, q_ne_rd, q_ne_st, q_ne_pu, q_ne_ad, q_ne_ne, ql_rd, ql_st, ql_pu, ql_ad, ql_ne, ix0_rd, ix1_rd, ix0_st, ix1_st, ix0_pu, ix1_pu, ix2_pu, ix0_ad, ix1_ad, ix2_ad, ix0_ne, ix1_ne, ix2_ne, hn, hr, app_get hn, app_get hr, app_set hn, hz, hz2, neg1_zero, keyT_eK, CodK.val, nz, CodK.put, fVs_put]
      rw [e2]
      exact ⟨fun h => let ⟨a, b, d, e, q1, q2, q3, q4⟩ := i1 h; ⟨a, b, d, e, q1, q2, q3, frP q4⟩, fun h => let ⟨a, b, d, q1, q2, q3, q4, q5⟩ := i2 h; ⟨a, b, d, q1, q2, q3, frP q4, Nat.le_trans (by simp) q5⟩⟩
    | put k z =>
      obtain ⟨i1, i2⟩ := step z [] e3 (some (eS (.put k z))) e6
      have e2 : loopX (gN 5) (lb_law_run_2 c) (eSs (.put k z :: ss)) [some (.tup (eSs pg)), some (.ref hl), some (.ref np), e3, some (.ref rp), e5, e6] S = loopX (gN 5) (lb_law_run_2 c) (eSs ss) [some (.tup (eSs pg)), some (.ref hl), some (.ref np), e3, some (.ref rp), some (eS (.put k z)), e6] (S.set np (.dn c.w (kK.enc (fVs (putKD now k z)))) ++ []) := by
        show loopX (gN 5) (lb_law_run_2 c) (eS (.put k z) :: eSs ss) _ _ = _
        simp only [ap_fVar, varK_some, ap_fC, ap_fBin, ap_binK, ap_fNil, ap_fCons, ap_consK, ap_consK2, ap_fLst, ap_lstK, ap_fTest, ap_testK, ap_fAnd, ap_andK, ap_fSkip, ap_fSeq, ap_seqK_nx, ap_fIf, ap_ifK, ap_fDrop, ap_fAsg, ap_asgK, ap_asgK2, ap_gN, ap_fIx, ap_ixK, ap_fCall, ap_callK, o_addR, o_eq, eqK_some, toP_str, ap_fFor, loopX_cons, ap_turnK0, ap_turnK_nx, ap_fIter, ap_fBm, ap_bmK, tyIn_ref, tyInC_lst, o_getD, lookN_ref, lookNC_dn, ap_fIxN, o_ixN, oSetN_ref, setNC_dn, setNK_some, ap_gSubN, ap_gnK, ap_gnK2, ap_gnK3, ap_fDictN0, o_someMap, R.bind_ok, List.length_cons, List.length_nil, Nat.zero_add, List.getElem?_cons_zero, List.getElem?_cons_succ, List.set_cons_zero, List.set_cons_succ, List.append_nil, Bool.false_eq_true, if_true, if_false, decide_true, Nat.add_zero, Nat.reduceLeDiff, get_apps0, List.length_set, ap_lb_law_run_2, eS_nd, qk_rd, q_rd_rd, q_rd_st, q_rd_pu, q_rd_ad, q_rd_ne, qk_st, q_st_rd, q_st_st, q_st_pu, q_st_ad, q_st_ne, qk_pu, q_pu_rd, q_pu_st, q_pu_pu, q_pu_ad, q_pu_ne, qk_ad, q_ad_rd, q_ad_st, q_ad_pu, q_ad_ad, q_ad_ne, qk_ne, q_ne_rd, q_ne_st, q_ne_pu, q_ne_ad, q_ne_ne, ql_rd, ql_st, ql_pu, ql_ad, ql_ne, ix0_rd, ix1_rd, ix0_st, ix1_st, ix0_pu, ix1_pu, ix2_pu, ix0_ad, ix1_ad, ix2_ad, ix0_ne, ix1_ne, ix2_ne, hn, hr, keyT_eK, CodK.val, nz, CodK.put, fVs_put, List.append_nil]
      rw [e2]
      exact ⟨fun h => let ⟨a, b, d, e, q1, q2, q3, q4⟩ := i1 h; ⟨a, b, d, e, q1, q2, q3, frP q4⟩, fun h => let ⟨a, b, d, q1, q2, q3, q4, q5⟩ := i2 h; ⟨a, b, d, q1, q2, q3, frP q4, Nat.le_trans (by simp) q5⟩⟩
    | add k z =>
      have hz0 : valK now k = some z0 := hz0
      have hv0 : valK (fVs now) k = some (.int z0) := hv0
      have hvv : vlV now k = z0 := hvv
      obtain ⟨i1, i2⟩ := step (z0 + z) [] e3 (some (eS (.add k z))) e6
      have e1 : runS (firstS (keysS pg) vs) (.add k z :: ss) now rs = runS (firstS (keysS pg) vs) ss (putKD now k (z0 + z)) rs := by show runS _ ss (putKD now k (vlV now k + z)) rs = _; rw [hvv]
      have e2 : loopX (gN 5) (lb_law_run_2 c) (eSs (.add k z :: ss)) [some (.tup (eSs pg)), some (.ref hl), some (.ref np), e3, some (.ref rp), e5, e6] S = loopX (gN 5) (lb_law_run_2 c) (eSs ss) [some (.tup (eSs pg)), some (.ref hl), some (.ref np), e3, some (.ref rp), some (eS (.add k z)), e6] (S.set np (.dn c.w (kK.enc (fVs (putKD now k (z0 + z))))) ++ []) := by
        show loopX (gN 5) (lb_law_run_2 c) (eS (.add k z) :: eSs ss) _ _ = _
        simp only [ap_fVar, varK_some, ap_fC, ap_fBin, ap_binK, ap_fNil, ap_fCons, ap_consK, ap_consK2, ap_fLst, ap_lstK, ap_fTest, ap_testK, ap_fAnd, ap_andK, ap_fSkip, ap_fSeq, ap_seqK_nx, ap_fIf, ap_ifK, ap_fDrop, ap_fAsg, ap_asgK, ap_asgK2, ap_gN, ap_fIx, ap_ixK, ap_fCall, ap_callK, o_add, o_addR, o_eq, eqK_some, toP_str, ap_fFor, loopX_cons, ap_turnK0, ap_turnK_nx, ap_fIter, ap_fBm, ap_bmK, tyIn_ref, tyInC_lst, o_getD, o_getDK, o_append, o_appC, lookN_ref, lookNC_dn, ap_fIxN, o_ixN, oSetN_ref, setNC_dn, setNK_some, ap_gSubN, ap_gnK, ap_gnK2, ap_gnK3, ap_fDictN0, o_someMap, R.bind_ok, List.length_cons, List.length_nil, Nat.zero_add, List.getElem?_cons_zero, List.getElem?_cons_succ, List.set_cons_zero, List.set_cons_succ, List.append_nil, Bool.false_eq_true, if_true, if_false, decide_true, Nat.add_zero, Nat.reduceLeDiff, get_apps0, List.length_set, ap_lb_law_run_2, eS_nd, qk_rd, q_rd_rd, q_rd_st, q_rd_pu, q_rd_ad, q_rd_ne, qk_st, q_st_rd, q_st_st, q_st_pu, q_st_ad, q_st_ne, qk_pu, q_pu_rd, q_pu_st, q_pu_pu, q_pu_ad, q_pu_ne, qk_ad, q_ad_rd, q_ad_st, q_ad_pu, q_ad_ad, q_ad_ne, qk_ne, q_ne_rd, q_ne_st, q_ne_pu, q_ne_ad, q_ne_ne, ql_rd, ql_st, ql_pu, ql_ad, ql_ne, ix0_rd, ix1_rd, ix0_st, ix1_st, ix0_pu, ix1_pu, ix2_pu, ix0_ad, ix1_ad, ix2_ad, ix0_ne, ix1_ne, ix2_ne, hn, hr, keyT_eK, CodK.val, hv0, nz, CodK.put, fVs_put, List.append_nil]
      rw [e1, e2]
      exact ⟨fun h => let ⟨a, b, d, e, q1, q2, q3, q4⟩ := i1 h; ⟨a, b, d, e, q1, q2, q3, frP q4⟩, fun h => let ⟨a, b, d, q1, q2, q3, q4, q5⟩ := i2 h; ⟨a, b, d, q1, q2, q3, frP q4, Nat.le_trans (by simp) q5⟩⟩
    | need k z =>
      have hz0 : valK now k = some z0 := hz0
      have hv0 : valK (fVs now) k = some (.int z0) := hv0
      have hvv : vlV now k = z0 := hvv
      by_cases hlt : z0 < z
      · have e1 : runS (firstS (keysS pg) vs) (.need k z :: ss) now rs = (false, rs, firstS (keysS pg) vs) := by show (if vlV now k < z then _ else _) = _; rw [hvv, if_pos hlt]
        rw [e1]
        have hkl := keysS_len (pg := pg)
        have hlk := lawkeys_eq c (S := S ++ [.dn c.w []]) hok (by omega)
        rw [show (S ++ [Cell.dn c.w []]).length = S.length + 1 by rw [List.length_append, List.length_singleton], List.append_assoc] at hlk
        have lhh := (List.getElem?_eq_some_iff.mp hh).1
        obtain ⟨g, hg⟩ := put1_loop c (n := S.length + 1) (np := S.length) (hl := hl) (v0 := some (.tup (eSs pg))) (v2 := some (.ref np)) (v4 := some (.ref rp)) (v5 := some (eS (.need k z))) (v6 := none) ha (by omega) (keysS pg).length 0 (kK.es (keysS pg)) [] (S ++ [.dn c.w [], .lst (kK.es (keysS pg))]) e3 (by omega) Cod.es_len (by omega) (by rw [get_app]; rfl) get_app0 (app_get hh) (by simp; omega)
        rw [List.drop_zero] at hg
        have hf : (keysS pg).foldl (fun a k => putKD a k (vlV vs k)) [] = firstS (keysS pg) vs := rfl
        rw [hf] at hg
        refine ⟨fun h => (by cases h), fun _ => ⟨rfl, S ++ [.dn c.w (kK.enc (fVs (firstS (keysS pg) vs))), .lst (kK.es (keysS pg))], S.length, ?_, app_get hr, get_app0, Fr.app _ _ _, Nat.le_refl _⟩⟩
        show loopX (gN 5) (lb_law_run_2 c) (eS (.need k z) :: eSs ss) _ _ = _
        simp only [ap_fVar, varK_some, ap_fC, ap_fBin, ap_binK, ap_fNil, ap_fCons, ap_consK, ap_consK2, ap_fTup, ap_fLst, ap_tupK, ap_lstK, ap_fTest, ap_testK, ap_fAnd, ap_andK, ap_fSkip, ap_fSeq, ap_seqK_nx, ap_fIf, ap_ifK, ap_fRet, ap_retK, ap_fDrop, ap_fAsg, ap_asgK, ap_asgK2, ap_gN, ap_fIx, ap_ixK, ap_fCall, ap_callK, o_add, o_addR, o_lt, o_eq, eqK_some, toP_str, ap_fFor, ap_forK_live, loopX_cons, ap_turnK0, ap_turnK_rt, ap_fIter, ap_iterK_ref, iterC_lst, ap_fBm, ap_bmK, tyIn_ref, tyInC_lst, o_getD, o_getDK, o_append, o_appC, lookN_ref, lookNC_dn, ap_fIxN, o_ixN, oSetN_ref, setNC_dn, setNK_some, ap_gSubN, ap_gnK, ap_gnK2, ap_fDictN0, o_someMap, R.bind_ok, R.nox_ok, List.length_cons, List.length_nil, List.cons_append, List.nil_append, Nat.zero_add, Nat.reduceAdd, List.getElem?_cons_zero, List.getElem?_cons_succ, List.set_cons_zero, List.set_cons_succ, List.append_nil, Bool.false_eq_true, if_true, if_false, decide_true, Nat.add_zero, Nat.reduceLeDiff, get_app, get_app0, set_app0, ap_lb_law_run_2, eS_nd, qk_rd, q_rd_rd, q_rd_st, q_rd_pu, q_rd_ad, q_rd_ne, qk_st, q_st_rd, q_st_st, q_st_pu, q_st_ad, q_st_ne, qk_pu, q_pu_rd, q_pu_st, q_pu_pu, q_pu_ad, q_pu_ne, qk_ad, q_ad_rd, q_ad_st, q_ad_pu, q_ad_ad, q_ad_ne, qk_ne, q_ne_rd, q_ne_st, q_ne_pu, q_ne_ad, q_ne_ne, ql_rd, ql_st, ql_pu, ql_ad, ql_ne, ix0_rd, ix1_rd, ix0_st, ix1_st, ix0_pu, ix1_pu, ix2_pu, ix0_ad, ix1_ad, ix2_ad, ix0_ne, ix1_ne, ix2_ne, hn, hr, hh, keyT_eK, CodK.val, hv0, hlt, hlk, hg]
      · have e1 : runS (firstS (keysS pg) vs) (.need k z :: ss) now rs = runS (firstS (keysS pg) vs) ss now rs := by show (if vlV now k < z then _ else _) = _; rw [hvv, if_neg hlt]
        obtain ⟨i1, i2⟩ := run_loopM c (np := np) (rp := rp) (hl := hl) hok hpl ha hn1 ss now rs S e3 (some (eS (.need k z))) e6 hh hn hr hks (by omega) (by omega)
        have e2 : loopX (gN 5) (lb_law_run_2 c) (eSs (.need k z :: ss)) [some (.tup (eSs pg)), some (.ref hl), some (.ref np), e3, some (.ref rp), e5, e6] S = loopX (gN 5) (lb_law_run_2 c) (eSs ss) [some (.tup (eSs pg)), some (.ref hl), some (.ref np), e3, some (.ref rp), some (eS (.need k z)), e6] S := by
          show loopX (gN 5) (lb_law_run_2 c) (eS (.need k z) :: eSs ss) _ _ = _
          simp only [ap_fVar, varK_some, ap_fC, ap_fBin, ap_binK, ap_fNil, ap_fCons, ap_consK, ap_consK2, ap_fLst, ap_lstK, ap_fTest, ap_testK, ap_fAnd, ap_andK, ap_fSkip, ap_fSeq, ap_seqK_nx, ap_fIf, ap_ifK, ap_fDrop, ap_fAsg, ap_asgK, ap_asgK2, ap_gN, ap_fIx, ap_ixK, ap_fCall, ap_callK, o_add, o_addR, o_lt, o_eq, eqK_some, toP_str, ap_fFor, loopX_cons, ap_turnK0, ap_turnK_nx, ap_fIter, ap_fBm, ap_bmK, tyIn_ref, tyInC_lst, o_getD, o_getDK, o_append, o_appC, lookN_ref, lookNC_dn, ap_fIxN, o_ixN, oSetN_ref, setNC_dn, setNK_some, ap_gSubN, ap_gnK, ap_gnK2, ap_fDictN0, o_someMap, R.bind_ok, List.length_cons, List.length_nil, Nat.zero_add, List.getElem?_cons_zero, List.getElem?_cons_succ, List.set_cons_zero, List.set_cons_succ, List.append_nil, Bool.false_eq_true, if_true, if_false, decide_true, decide_false, Nat.add_zero, Nat.reduceLeDiff, get_app0, ap_lb_law_run_2, eS_nd, qk_rd, q_rd_rd, q_rd_st, q_rd_pu, q_rd_ad, q_rd_ne, qk_st, q_st_rd, q_st_st, q_st_pu, q_st_ad, q_st_ne, qk_pu, q_pu_rd, q_pu_st, q_pu_pu, q_pu_ad, q_pu_ne, qk_ad, q_ad_rd, q_ad_st, q_ad_pu, q_ad_ad, q_ad_ne, qk_ne, q_ne_rd, q_ne_st, q_ne_pu, q_ne_ad, q_ne_ne, ql_rd, ql_st, ql_pu, ql_ad, ql_ne, ix0_rd, ix1_rd, ix0_st, ix1_st, ix0_pu, ix1_pu, ix2_pu, ix0_ad, ix1_ad, ix2_ad, ix0_ne, ix1_ne, ix2_ne, hn, hr, keyT_eK, CodK.val, hv0, hlt]
        rw [e1, e2]
        exact ⟨i1, i2⟩
theorem lawrun_eq (c : CA) {S : Sto} {pg : List Stp} {vs : Vals2} {hl : Nat} (hv : S[hl]? = some (.dn c.w (kK.enc (fVs vs)))) (hok : ∀ s ∈ pg, PyData.strOk s.key.2 = true) (ha : ∀ k ∈ keysS pg, valK vs k ≠ none) (hpl : pg.length < 400) :
    ∃ S1 rp bp, F_law_run c [.tup (eSs pg), .ref hl] S = .ok (.tup [.bl (runP pg vs).1, .ref rp, .ref bp]) S1 ∧ S1[rp]? = some (.lst (eI (runP pg vs).2.1)) ∧ S1[bp]? = some (.dn c.w (kK.enc (fVs (runP pg vs).2.2))) ∧ Fr S S1 (fun _ => False) ∧ S.length ≤ rp ∧ S.length ≤ bp := by
  have hkl := keysS_len (pg := pg)
  have hkn := keysS_nodup (pg := pg)
  have hlk := lawkeys_eq c (S := S ++ [.dn c.w []]) hok (by omega)
  rw [show (S ++ [Cell.dn c.w []]).length = S.length + 1 by rw [List.length_append, List.length_singleton], List.append_assoc] at hlk
  have lhh := (List.getElem?_eq_some_iff.mp hv).1
  obtain ⟨g, hg⟩ := put0_loop c (n := S.length + 1) (np := S.length) (hl := hl) (v0 := some (.tup (eSs pg))) (v2 := none) (v4 := none) (v5 := none) (v6 := none) ha (by omega) (keysS pg).length 0 (kK.es (keysS pg)) [] (S ++ [.dn c.w [], .lst (kK.es (keysS pg))]) none (by omega) Cod.es_len (by omega) (by rw [get_app]; rfl) get_app0 (app_get hv) (by simp; omega)
  rw [List.drop_zero] at hg
  have hf : (keysS pg).foldl (fun a k => putKD a k (vlV vs k)) [] = firstS (keysS pg) vs := rfl
  rw [hf] at hg
  have hhas : hasK pg (firstS (keysS pg) vs) := fun s hs => by rw [first_val hkn (keysS_mem.mpr ⟨s, hs, rfl⟩)]; simp
  have hfl := first_len (vs := vs) hkn
  obtain ⟨l1, l2⟩ := run_loopM c (np := S.length) (rp := S.length + 2) (hl := hl) hok hpl ha (by omega) pg (firstS (keysS pg) vs) [] (S ++ [.dn c.w (kK.enc (fVs (firstS (keysS pg) vs))), .lst (kK.es (keysS pg)), .lst []]) g none none (app_get hv) get_app0 (by rw [get_app]; rfl) hhas (by omega) (by rw [List.length_nil]; omega)
  have hrun : runP pg vs = runS (firstS (keysS pg) vs) pg (firstS (keysS pg) vs) [] := rfl
  rw [hrun]
  unfold F_law_run b_law_run
  cases hd : (runS (firstS (keysS pg) vs) pg (firstS (keysS pg) vs) []).1 with
  | true =>
    obtain ⟨f3, f5, f6, S1, q1, q2, q3, q4⟩ := l1 hd
    refine ⟨S1, S.length + 2, S.length, ?_, q3, q2, (Fr.app S _ _).new q4 (fun i hi z => by rcases z with z | z <;> omega), by omega, by omega⟩
    simp only [ap_fVar, varK_some, ap_fC, ap_fNil, ap_fCons, ap_consK, ap_consK2, ap_fTup, ap_fLst, ap_tupK, ap_lstK, ap_fSeq, ap_seqK_nx, ap_fRet, ap_retK, ap_fAsg, ap_asgK, ap_asgK2, ap_gN, ap_fCall, ap_callK, ap_fnF, ap_fnK_rt, ap_fFor, ap_forK_fix, ap_forK_live, ap_fIter, ap_iterK_tup, ap_iterK_ref, iterC_lst, ap_fDictN0, R.bind_ok, R.nox_ok, List.map_cons, List.map_nil, List.length_cons, List.length_nil, List.cons_append, List.nil_append, Nat.zero_add, Nat.reduceAdd, Nat.reduceSub, List.replicate_succ, List.replicate_zero, List.getElem?_cons_zero, List.getElem?_cons_succ, List.set_cons_zero, List.set_cons_succ, List.append_nil, if_true, Nat.add_zero, Nat.reduceLeDiff, get_app, set_app0, List.append_assoc, List.length_append, hlk, hg, q1]
  | false =>
    obtain ⟨q0, S1, bp, q1, q2, q3, q4, q5⟩ := l2 hd
    rw [List.length_append] at q5
    refine ⟨S1, S.length + 2, bp, ?_, q2, by rw [q0]; exact q3, (Fr.app S _ _).new q4 (fun i hi z => by rcases z with z | z <;> omega), by omega, by omega⟩
    simp only [ap_fVar, varK_some, ap_fNil, ap_fCons, ap_consK, ap_consK2, ap_fLst, ap_lstK, ap_fSeq, ap_seqK_nx, ap_seqK_rt, ap_fAsg, ap_asgK, ap_asgK2, ap_gN, ap_fCall, ap_callK, ap_fnF, ap_fnK_rt, ap_fFor, ap_forK_fix, ap_forK_live, ap_fIter, ap_iterK_tup, ap_iterK_ref, iterC_lst, ap_fDictN0, R.bind_ok, R.nox_ok, List.map_cons, List.map_nil, List.length_cons, List.length_nil, List.cons_append, List.nil_append, Nat.zero_add, Nat.reduceAdd, Nat.reduceSub, List.replicate_succ, List.replicate_zero, List.getElem?_cons_zero, List.getElem?_cons_succ, List.set_cons_zero, List.set_cons_succ, List.append_nil, if_true, Nat.add_zero, Nat.reduceLeDiff, get_app, set_app0, List.append_assoc, List.length_append, hlk, hg, q1]
end Qk35

namespace Qk35
open PySem L2 RF
abbrev Tr := Int × Int
inductive Ev where
  | beg (t : Tr) (pg : List Stp) | com (t : Tr) (a : Int) (d : Bool) (rs : List Int) | gw (t : Tr) (a : Int) | en (t : Tr)
def sB : Str := ⟨#[98, 101, 103, 97, 110]⟩
def sC : Str := ⟨#[99, 111, 109, 109, 105, 116, 116, 101, 100]⟩
def sG : Str := ⟨#[103, 97, 118, 101, 32, 119, 97, 121]⟩
def sE : Str := ⟨#[101, 110, 100, 101, 100]⟩
def sTw : Str := ⟨#[116, 119, 105, 99, 101]⟩
def sUn : Str := ⟨#[117, 110, 107, 110, 111, 119, 110]⟩
def sEa : Str := ⟨#[101, 97, 114, 108, 121]⟩
def sRe : Str := ⟨#[114, 101, 97, 100]⟩
def Ev.t : Ev → Tr
  | .beg t _ | .com t _ _ _ | .gw t _ | .en t => t
def Ev.w : Ev → Str
  | .beg _ _ => sB | .com _ _ _ _ => sC | .gw _ _ => sG | .en _ => sE
def eOu (x : Bool × List Int) : D := .tup [.bl x.1, .tup (eI x.2)]
def ePg (pg : List Stp) : D := .tup (eSs pg)
def eEv : Ev → D
  | .beg t pg => .tup [.str sB, eT t, ePg pg]
  | .com t a d rs => .tup [.str sC, eT t, .int a, .bl d, .tup (eI rs)]
  | .gw t a => .tup [.str sG, eT t, .int a]
  | .en t => .tup [.str sE, eT t]
def okEv : Ev → Prop
  | .beg _ pg => (∀ s ∈ pg, PyData.strOk s.key.2 = true) ∧ pg.length ≤ 12
  | .com _ _ _ rs => rs.length ≤ 1000
  | _ => True
def okEvs (evs : List Ev) : Prop := evs.length ≤ 60 ∧ ∀ e ∈ evs, okEv e
def begP (t : Tr) : Ev → Option (List Stp)
  | .beg t' pg => if t' = t then some pg else none
  | _ => none
def lastP (pre : List Ev) (t : Tr) : Option (List Stp) := (pre.filterMap (begP t)).getLast?
abbrev Ou := Bool × List Int
abbrev Outs := List (Tr × Ou)
abbrev RSt := Outs × Vals2
def putKs (v : Vals2) (ks : List K2) (g : K2 → Int) : Vals2 := ks.foldl (fun a k => putKD a k (g k)) v
def putAll (v b : Vals2) : Vals2 := putKs v (b.map (·.1)) (vlV b)
def step (pre : List Ev) (st : RSt) : Ev → RSt
  | .com t _ _ _ => if valK st.1 t = none then (match lastP pre t with | some pg => (putKD st.1 t ((runP pg st.2).1, (runP pg st.2).2.1), putAll st.2 (runP pg st.2).2.2) | none => st) else st
  | _ => st
def rep (evs : List Ev) : Nat → RSt
  | 0 => ([], [])
  | j + 1 => match evs[j]? with
    | some e => step (evs.take j) (rep evs j) e
    | none => rep evs j
def outsOf (evs : List Ev) : Outs := (rep evs evs.length).1
theorem take_succ' {α : Type} {l : List α} {j : Nat} {e : α} (h : l[j]? = some e) : l.take (j + 1) = l.take j ++ [e] := by
  rw [List.take_succ, h]; rfl
theorem lastP_snoc {pre : List Ev} {e : Ev} {t : Tr} : lastP (pre ++ [e]) t = (begP t e).or (lastP pre t) := by
  unfold lastP
  rw [List.filterMap_append]
  cases h : begP t e with
  | none => simp [h]
  | some pg => simp [h]
theorem valK_putKs {g : K2 → Int} {k : K2} : ∀ {ks : List K2} {v : Vals2}, valK (putKs v ks g) k = if k ∈ ks then some (g k) else valK v k
  | [], v => by simp [putKs]
  | x :: ks, v => by
    show valK (putKs (putKD v x (g x)) ks g) k = _
    rw [valK_putKs, valK_put]
    by_cases h1 : k ∈ ks
    · simp [h1]
    · by_cases h2 : k = x
      · subst h2; simp
      · simp [h1, h2]
def VEq (v1 v2 : Vals2) : Prop := v1 = v2 ∧ (v1.map (·.1)).Nodup
theorem VEq.vl {v1 v2 : Vals2} (h : VEq v1 v2) (k : K2) : vlV v1 k = vlV v2 k := by rw [h.1]
theorem runP_congr {pg : List Stp} {v1 v2 : Vals2} (h : ∀ k ∈ keysS pg, vlV v1 k = vlV v2 k) : runP pg v1 = runP pg v2 := by
  have e : firstS (keysS pg) v1 = firstS (keysS pg) v2 := by
    rw [first_eq keysS_nodup, first_eq keysS_nodup]
    exact List.map_congr_left fun k hk => by rw [h k hk]
  unfold runP
  rw [e]
def vals0 (pg : List Stp) (v : Vals2) : Vals2 := (keysS pg).map fun k => (k, vlV v k)
theorem vals0_has {pg : List Stp} {v : Vals2} : ∀ k ∈ keysS pg, valK (vals0 pg v) k ≠ none := fun k hk => by
  unfold vals0
  rw [valK_mk, if_pos hk]; simp
theorem run_vals0 {pg : List Stp} {v : Vals2} : runP pg (vals0 pg v) = runP pg v := runP_congr fun k hk => by
  have : valK (vals0 pg v) k = some (vlV v k) := by unfold vals0; rw [valK_mk, if_pos hk]
  exact valV_of this
def zeroAll (v : Vals2) (ks : List K2) : Vals2 := ks.foldl (fun a k => if valK a k = none then putKD a k 0 else a) v
theorem valK_zero {k : K2} : ∀ {ks : List K2} {v : Vals2}, valK (zeroAll v ks) k = if valK v k = none ∧ k ∈ ks then some 0 else valK v k
  | [], v => by simp [zeroAll]
  | x :: ks, v => by
    show valK (zeroAll (if valK v x = none then putKD v x 0 else v) ks) k = _
    rw [valK_zero]
    by_cases hx : valK v x = none
    · rw [if_pos hx, valK_put]
      by_cases h2 : k = x
      · subst h2; simp [hx]
      · simp [h2]
    · rw [if_neg hx]
      by_cases h2 : k = x
      · subst h2; simp [hx]
      · simp [h2]
theorem zero_vl {ks : List K2} {v : Vals2} {k : K2} : vlV (zeroAll v ks) k = vlV v k := by
  unfold vlV
  rw [valK_zero]
  split
  · rename_i h; rw [h.1]; rfl
  · rfl
theorem zero_has {ks : List K2} {v : Vals2} {k : K2} (h : k ∈ ks) : valK (zeroAll v ks) k ≠ none := by
  rw [valK_zero]
  by_cases hv : valK v k = none
  · simp [hv, h]
  · simp [hv]
theorem mem_of_val {κ β : Type} [DecidableEq κ] {kvs : List (κ × β)} {k : κ} (h : valK kvs k ≠ none) : k ∈ kvs.map (·.1) := by
  unfold valK at h
  cases q : kvs.find? (fun kv => decide (kv.1 = k)) with
  | none => rw [q] at h; exact absurd rfl h
  | some y =>
    have h1 := List.mem_of_find?_eq_some q
    have h2 : y.1 = k := by simpa using List.find?_some q
    rw [← h2]
    exact List.mem_map_of_mem (f := (·.1)) h1
theorem run_has {pg : List Stp} {v : Vals2} {k : K2} (h : k ∈ keysS pg) : valK (runP pg v).2.2 k ≠ none := by
  have h1 : valK (firstS (keysS pg) v) k ≠ none := by rw [first_val keysS_nodup h]; simp
  exact run_keeps h1 _ _ _ h1
theorem run_eqL {v1 v2 : Vals2} {pg : List Stp} (h : VEq v1 v2) : runP pg (zeroAll v1 (keysS pg)) = runP pg v2 := runP_congr fun k _ => by rw [zero_vl, h.vl]
def hasW (pre : List Ev) (w : Str) (t : Tr) : Bool := pre.any fun e => decide (e.w = w ∧ e.t = t)
def wordE (pre : List Ev) (outs : Outs) : Ev → Option Str
  | .beg t _ => if hasW pre sB t = true then some sTw else none
  | .en t => if hasW pre sB t = true then (if hasW pre sC t = true then (if hasW pre sE t = true then some sTw else none) else some sEa) else some sUn
  | .com t _ d rs => if hasW pre sB t = true then (if hasW pre sC t = true then some sTw else (if valK outs t = some (d, rs) then none else some sRe)) else some sUn
  | .gw t _ => if hasW pre sB t = true then (if hasW pre sC t = true then some sTw else none) else some sUn
def fnd (evs : List Ev) (outs : Outs) : Nat → List D
  | 0 => []
  | j + 1 => match evs[j]? with
    | some e => match wordE (evs.take j) outs e with
      | some w => fnd evs outs j ++ [.tup [.str w, .int (j : Nat)]]
      | none => fnd evs outs j
    | none => fnd evs outs j
end Qk35

namespace Qk35
open PySem L2 RF
theorem qB : PyData.strOk ⟨#[98, 101, 103, 97, 110]⟩ = true := by decide +kernel
theorem qC : PyData.strOk ⟨#[99, 111, 109, 109, 105, 116, 116, 101, 100]⟩ = true := by decide +kernel
theorem qE : PyData.strOk ⟨#[101, 110, 100, 101, 100]⟩ = true := by decide +kernel
theorem qsB : PyData.strOk sB = true := qB
theorem qsC : PyData.strOk sC = true := qC
theorem qsE : PyData.strOk sE = true := qE
theorem qsG : PyData.strOk sG = true := by decide +kernel
theorem okW (e : Ev) : PyData.strOk e.w = true := by cases e <;> (simp only [Ev.w]; first | exact qsB | exact qsC | exact qsE | exact qsG)
def wq (z s : Str) : Bool := PyData.eqv (.str z) (.str s)
theorem wq_eq {z s : Str} : PyData.eqv (.str z) (.str s) = decide (z = s) := by
  simp only [PyData.eqv]
  by_cases h : z = s
  · subst h; simp
  · simp [h]
theorem lB : (⟨#[98, 101, 103, 97, 110]⟩ : Str) = sB := rfl
theorem lC : (⟨#[99, 111, 109, 109, 105, 116, 116, 101, 100]⟩ : Str) = sC := rfl
theorem dBB : decide (sB = sB) = true := by decide
theorem dCB : decide (sC = sB) = false := by decide
theorem dGB : decide (sG = sB) = false := by decide
theorem dEB : decide (sE = sB) = false := by decide
theorem ev0 (e : Ev) {S : Sto} : oGetL (eEv e) (.int 0) S = .ok (.str e.w) S := by cases e <;> (unfold eEv; rw [getL_tup, atI_0, retO_some]; rfl)
theorem ev1 (e : Ev) {S : Sto} : oGetL (eEv e) (.int 1) S = .ok (eT e.t) S := by cases e <;> (unfold eEv; rw [getL_tup, atI_1, retO_some]; rfl)
theorem ev2 {t : Tr} {pg : List Stp} {S : Sto} : oGetL (eEv (.beg t pg)) (.int 2) S = .ok (ePg pg) S := by unfold eEv; rw [getL_tup, atI_2, retO_some]
theorem ev_nd (e : Ev) {S : Sto} : isDict S (eEv e) = false := by cases e <;> rfl
def pB (t : Tr) : D → Bool
  | .tup (.str w :: .tup [.int a, .int b] :: _) => decide (w = sB) && decide ((a, b) = t)
  | _ => false
def fP : D → D
  | .tup [_, _, x] => x
  | _ => .non
theorem pB_ev (t : Tr) (e : Ev) : pB t (eEv e) = (decide (e.w = sB) && decide (e.t = t)) := by
  cases e <;> rfl
theorem filt_ev (t : Tr) : ∀ evs : List Ev, ((evs.map eEv).filter (pB t)).map fP = (evs.filterMap (begP t)).map ePg
  | [] => rfl
  | e :: evs => by
    rw [List.map_cons, List.filter_cons, List.filterMap_cons, pB_ev]
    cases e with
    | beg t' pg =>
      by_cases h : t' = t
      · simp only [Ev.w, Ev.t, dBB, h, decide_true, Bool.and_self, if_true, begP, List.map_cons]
        rw [filt_ev t evs]; rfl
      · simp only [Ev.w, Ev.t, dBB, h, decide_false, Bool.and_false, begP, if_false, Bool.false_eq_true]
        exact filt_ev t evs
    | com => simp only [Ev.w, dCB, Bool.false_and, begP, if_false, Bool.false_eq_true]; exact filt_ev t evs
    | gw => simp only [Ev.w, dGB, Bool.false_and, begP, if_false, Bool.false_eq_true]; exact filt_ev t evs
    | en => simp only [Ev.w, dEB, Bool.false_and, begP, if_false, Bool.false_eq_true]; exact filt_ev t evs
theorem progs_comp (c : CA) {n : Nat} {S : Sto} {pre : List Ev} {e : Ev} {v0 v1 v2 v3 v5 v6 v7 v8 v9 : Option D} (h : S[n]? = some (.lst (pre.map eEv))) (hl : pre.length ≤ 60) :
    compL n 10 (ct_law_replay_0 c) (ce_law_replay_0 c) [v0, v1, v2, v3, some (eEv e), v5, v6, v7, v8, v9, none] (pre.map eEv) 0 [] S = .ok (.ref S.length) (S ++ [.lst ((pre.filterMap (begP e.t)).map ePg)]) := by
  rw [comp_fm0 (p := pB e.t) (f := fP) h (fun d hd => ?_) (fun d hd hp => ?_) (by rw [List.length_map]; omega), filt_ev]
  · obtain ⟨x, hx, rfl⟩ := List.mem_map.mp hd
    rw [pB_ev]
    cases hw : decide (x.w = sB) with
    | false => simp only [ap_fVar, varK_some, ap_fC, ap_fBin, ap_binK, ap_fTest, ap_testK, ap_fAnd, ap_andK, ap_fIx, ap_ixK, o_eq, eqK_some, toP_str, o_getD, fT_eT, eqv_T, R.bind_ok, List.getElem?_cons_zero, List.getElem?_cons_succ, List.set_cons_zero, List.set_cons_succ, Bool.false_eq_true, if_true, if_false, ap_ct_law_replay_0, ev_nd, ev0, ev1, lB, okW x, qsB, wq_eq, hw, Bool.false_and]
    | true => simp only [ap_fVar, varK_some, ap_fC, ap_fBin, ap_binK, ap_fTest, ap_testK, ap_fAnd, ap_andK, ap_fIx, ap_ixK, o_eq, eqK_some, toP_str, o_getD, fT_eT, eqv_T, R.bind_ok, List.getElem?_cons_zero, List.getElem?_cons_succ, List.set_cons_zero, List.set_cons_succ, Bool.false_eq_true, if_true, if_false, ap_ct_law_replay_0, ev_nd, ev0, ev1, lB, okW x, qsB, wq_eq, hw, Bool.true_and]
  · obtain ⟨x, hx, rfl⟩ := List.mem_map.mp hd
    rw [pB_ev, Bool.and_eq_true] at hp
    cases x with
    | beg t pg => simp only [ap_fVar, varK_some, ap_fC, ap_fIx, ap_ixK, o_getD, R.bind_ok, List.getElem?_cons_zero, List.getElem?_cons_succ, List.set_cons_zero, List.set_cons_succ, Bool.false_eq_true, if_false, ap_ce_law_replay_0, ev_nd, ev2]; rfl
    | com => rw [show (Ev.com _ _ _ _).w = sC from rfl, dCB] at hp; cases hp.1
    | gw => rw [show (Ev.gw _ _).w = sG from rfl, dGB] at hp; cases hp.1
    | en => rw [show (Ev.en _).w = sE from rfl, dEB] at hp; cases hp.1
theorem zero_snoc {v : Vals2} {ks : List K2} {k : K2} : zeroAll v (ks ++ [k]) = if valK (zeroAll v ks) k = none then putKD (zeroAll v ks) k 0 else zeroAll v ks := by
  unfold zeroAll
  rw [List.foldl_append]; rfl
theorem zero_len {v : Vals2} : ∀ {ks : List K2}, (zeroAll v ks).length ≤ v.length + ks.length := by
  intro ks
  induction ks generalizing v with
  | nil => exact Nat.le_refl _
  | cons k ks ih =>
    show (zeroAll (if valK v k = none then putKD v k 0 else v) ks).length ≤ _
    rw [List.length_cons]
    split
    · have := ih (v := putKD v k 0)
      have h2 := put_len (kvs := v) (x := k) (v := (0 : Int))
      omega
    · have := ih (v := v)
      omega
theorem puts_len {g : K2 → Int} : ∀ {ks : List K2} {v : Vals2}, (putKs v ks g).length ≤ v.length + ks.length := by
  intro ks
  induction ks with
  | nil => intro v; exact Nat.le_refl _
  | cons k ks ih =>
    intro v
    show (putKs (putKD v k (g k)) ks g).length ≤ _
    rw [List.length_cons]
    have := ih (v := putKD v k (g k))
    have h2 := put_len (kvs := v) (x := k) (v := g k)
    omega
theorem puts_snoc {g : K2 → Int} {v : Vals2} {ks : List K2} {k : K2} : putKs v (ks ++ [k]) g = putKD (putKs v ks g) k (g k) := by
  unfold putKs
  rw [List.foldl_append]; rfl
theorem zero_loop (c : CA) {n vl : Nat} {ks : List K2} {v : Vals2} {S : Sto} {v0 v1 v3 v4 v5 v7 v8 v9 v10 : Option D} (f : Option D) (hn : S[n]? = some (.lst (kK.es ks))) (hv : S[vl]? = some (.dn c.w (kK.enc (fVs v)))) (hne : n ≠ vl) (hl : v.length + ks.length < 50000) :
    ∃ f', loopL n (gN 6) (lb_law_replay_0 c) (kK.es ks) 0 [v0, v1, some (.ref vl), v3, v4, v5, f, v7, v8, v9, v10] S = .ok (.nx [v0, v1, some (.ref vl), v3, v4, v5, f', v7, v8, v9, v10]) (S.set vl (.dn c.w (kK.enc (fVs (zeroAll v ks))))) := by
  let P : Nat → Lc → Sto → Prop := fun j e S1 => S1 = S.set vl (.dn c.w (kK.enc (fVs (zeroAll v (ks.take j))))) ∧ ∃ f', e = [v0, v1, some (.ref vl), v3, v4, v5, f', v7, v8, v9, v10]
  have step : ∀ j e S1 d, (kK.es ks)[j]? = some d → P j e S1 → ∃ e1 S2, Turn1 (gN 6) (lb_law_replay_0 c) d e S1 e1 S2 ∧ P (j + 1) e1 S2 := by
    rintro j e S1 d hd ⟨rfl, f', rfl⟩
    unfold Cod.es at hd
    rw [List.getElem?_map] at hd
    obtain ⟨k, hk, rfl⟩ := Option.map_eq_some_iff.mp hd
    have hj : j < ks.length := (List.getElem?_eq_some_iff.mp hk).1
    have hz := zero_len (v := v) (ks := ks.take j)
    rw [List.length_take] at hz
    have hlen : (kK.enc (fVs (zeroAll v (ks.take j)))).length < 100000 := by rw [CodK.enc_len, fVs_len]; omega
    have hsn := zero_snoc (v := v) (ks := ks.take j) (k := k)
    cases hval : valK (zeroAll v (ks.take j)) k with
    | none =>
      rw [hval, if_pos rfl] at hsn
      refine ⟨[v0, v1, some (.ref vl), v3, v4, v5, some (kK.e k), v7, v8, v9, v10], _, ?_, by rw [take_succ' hk, hsn], _, rfl⟩
      unfold Turn1
      simp only [ap_fVar, varK_some, ap_fC, ap_fBin, ap_binK, ap_fTest, ap_testK, ap_fSkip, ap_fIf, ap_ifK, ap_fAsg, ap_asgK, ap_asgK2, ap_gN, lookN_ref, lookNC_dn, o_inN, o_inNK, oSetN_ref, setNC_dn, setNK_some, ap_gSubN, ap_gnK, ap_gnK2, ap_gnK3, o_someMap, o_kKe, R.bind_ok, List.getElem?_cons_zero, List.getElem?_cons_succ, List.set_cons_zero, List.set_cons_succ, if_true, Bool.not_false, List.set_set, ap_lb_law_replay_0, set_get hv, o_kKe, keyT_eK, CodK.val, fVs_val, hval, hlen, CodK.put, fVs_put, Option.isSome_none, Option.map_none]
    | some z =>
      rw [hval, if_neg (by simp)] at hsn
      refine ⟨[v0, v1, some (.ref vl), v3, v4, v5, some (kK.e k), v7, v8, v9, v10], S.set vl (.dn c.w (kK.enc (fVs (zeroAll v (ks.take j))))), ?_, by rw [take_succ' hk, hsn], _, rfl⟩
      unfold Turn1
      simp only [ap_fVar, varK_some, ap_fC, ap_fBin, ap_binK, ap_fTest, ap_testK, ap_fSkip, ap_fIf, ap_ifK, ap_fAsg, ap_asgK, ap_asgK2, ap_gN, lookN_ref, lookNC_dn, o_inN, o_inNK, oSetN_ref, setNC_dn, setNK_some, ap_gSubN, ap_gnK, ap_gnK2, ap_gnK3, o_someMap, o_kKe, R.bind_ok, List.getElem?_cons_zero, List.getElem?_cons_succ, List.set_cons_zero, List.set_cons_succ, Bool.false_eq_true, if_true, if_false, Bool.not_true, List.set_set, ap_lb_law_replay_0, set_get hv, o_kKe, keyT_eK, CodK.val, fVs_val, hval, hlen, Option.isSome_some]
  obtain ⟨e1, S1, h, rfl, f', rfl⟩ := loopL_ok P (fun j e S1 hp => by obtain ⟨rfl, _⟩ := hp; rw [List.getElem?_set_ne (fun z => hne z.symm)]; exact hn) step (e := [v0, v1, some (.ref vl), v3, v4, v5, f, v7, v8, v9, v10]) (S := S) ⟨by rw [show zeroAll v (ks.take 0) = v from rfl, set_self hv], f, rfl⟩
  rw [Cod.es_len, List.take_length] at h
  exact ⟨f', h⟩
theorem puts_loop (c : CA) {bp vl : Nat} {b v : Vals2} {S : Sto} {v0 v1 v3 v4 v5 v7 v8 v10 : Option D} (f : Option D) (hb : S[bp]? = some (.df c.w (kK.enc (fVs b)))) (hv : S[vl]? = some (.dn c.w (kK.enc (fVs v)))) (hne : bp ≠ vl) (hl : v.length + b.length < 50000) :
    ∃ f', loopX (gN 6) (lb_law_replay_1 c) (kK.es (b.map (·.1))) [v0, v1, some (.ref vl), v3, v4, v5, f, v7, v8, some (.ref bp), v10] S = .ok (.nx [v0, v1, some (.ref vl), v3, v4, v5, f', v7, v8, some (.ref bp), v10]) (S.set vl (.dn c.w (kK.enc (fVs (putAll v b))))) := by
  let P : Nat → Lc → Sto → Prop := fun j e S1 => S1 = S.set vl (.dn c.w (kK.enc (fVs (putKs v ((b.map (·.1)).take j) (vlV b))))) ∧ ∃ f', e = [v0, v1, some (.ref vl), v3, v4, v5, f', v7, v8, some (.ref bp), v10]
  have step : ∀ j e S1 d, (kK.es (b.map (·.1)))[j]? = some d → P j e S1 → ∃ e1 S2, Turn1 (gN 6) (lb_law_replay_1 c) d e S1 e1 S2 ∧ P (j + 1) e1 S2 := by
    rintro j e S1 d hd ⟨rfl, f', rfl⟩
    unfold Cod.es at hd
    rw [List.getElem?_map] at hd
    obtain ⟨k, hk, rfl⟩ := Option.map_eq_some_iff.mp hd
    have hmem : k ∈ b.map (·.1) := List.mem_of_getElem? hk
    have hz := puts_len (v := v) (ks := (b.map (·.1)).take j) (g := vlV b)
    rw [List.length_take, List.length_map] at hz
    have hlen : (kK.enc (fVs (putKs v ((b.map (·.1)).take j) (vlV b)))).length < 100000 := by rw [CodK.enc_len, fVs_len]; omega
    have hval : valK (fVs b) k = some (.int (vlV b k)) := by
      rw [fVs_val]
      cases q : valK b k with
      | some z => unfold vlV; rw [q]; rfl
      | none =>
        exfalso
        obtain ⟨y, hy, e⟩ := List.mem_map.mp hmem
        unfold valK at q
        have := List.find?_eq_none.mp (Option.map_eq_none_iff.mp q) y hy
        simp [e] at this
    have hb' : (S.set vl (.dn c.w (kK.enc (fVs (putKs v ((b.map (·.1)).take j) (vlV b))))))[bp]? = some (.df c.w (kK.enc (fVs b))) := by rw [List.getElem?_set_ne (fun z => hne z.symm)]; exact hb
    refine ⟨[v0, v1, some (.ref vl), v3, v4, v5, some (kK.e k), v7, v8, some (.ref bp), v10], _, ?_, by rw [take_succ' hk, puts_snoc], _, rfl⟩
    unfold Turn1
    simp only [ap_fVar, varK_some, ap_fBin, ap_binK, ap_fAsg, ap_asgK, ap_asgK2, ap_gN, o_getDK, lookN_ref, lookNC_df, ap_fIxN, o_ixN, oSetN_ref, setNC_dn, setNK_some, ap_gSubN, ap_gnK, ap_gnK2, ap_gnK3, o_someMap, o_kKe, R.bind_ok, List.getElem?_cons_zero, List.getElem?_cons_succ, List.set_cons_zero, List.set_cons_succ, if_true, List.set_set, ap_lb_law_replay_1, set_get hv, hb', o_kKe, keyT_eK, CodK.val, hval, hlen, CodK.put, fVs_put]
  obtain ⟨e1, S1, h, rfl, f', rfl⟩ := loopX_ok P step (e := [v0, v1, some (.ref vl), v3, v4, v5, f, v7, v8, some (.ref bp), v10]) (S := S) ⟨by rw [show putKs v ((b.map (·.1)).take 0) (vlV b) = v from rfl, set_self hv], f, rfl⟩
  rw [Cod.es_len, List.take_length] at h
  exact ⟨f', h⟩
end Qk35

namespace Qk35
open PySem L2 RF
theorem cut_to {evs : List Ev} {j : Nat} (h : j ≤ evs.length) : cutD (evs.map eEv) none (some (0 + (j : Int))) = (evs.take j).map eEv := by
  rw [show (0 : Int) + (j : Int) = (j : Int) by omega, cut_take (by rw [List.length_map]; exact h), List.map_take]
theorem atI_ev {evs : List Ev} {j : Nat} {e : Ev} (h : evs[j]? = some e) : atI (evs.map eEv) (0 + (j : Int)) = some (eEv e) := by
  rw [atI_nn (by omega), show (0 + (j : Int)).toNat = j by omega, List.getElem?_map, h]; rfl
theorem atI_m1 {xs : List D} {x : D} (h : xs.getLast? = some x) : atI xs (-1) = some x := by
  obtain ⟨ys, rfl⟩ : ∃ ys, xs = ys ++ [x] := by
    rw [List.getLast?_eq_some_iff] at h
    exact h
  exact atI_last _ _
theorem outs_put {outs : Outs} {t : Tr} {x : Ou} : putKD (mapV eOu outs) t (.tup [.bl x.1, .tup (eI x.2)]) = mapV eOu (putKD outs t x) := mapV_put (f := eOu)
theorem run_len {pg : List Stp} {first : Vals2} : ∀ (ss : List Stp) (now : Vals2) (rs : List Int), (runS first ss now rs).2.1.length ≤ rs.length + ss.length
  | [], _, rs => Nat.le_refl _
  | .rd k :: ss, now, rs => by
    have := run_len (pg := pg) (first := first) ss now (rs ++ [vlV now k])
    rw [List.length_append, List.length_singleton] at this
    show (runS first ss now (rs ++ [vlV now k])).2.1.length ≤ _
    rw [List.length_cons]; omega
  | .st k :: ss, now, rs => by
    have := run_len (pg := pg) (first := first) ss (putKD now k (rs.getLast?.getD 0)) rs
    show (runS first ss _ rs).2.1.length ≤ _
    rw [List.length_cons]; omega
  | .put k z :: ss, now, rs => by
    have := run_len (pg := pg) (first := first) ss (putKD now k z) rs
    show (runS first ss _ rs).2.1.length ≤ _
    rw [List.length_cons]; omega
  | .add k z :: ss, now, rs => by
    have := run_len (pg := pg) (first := first) ss (putKD now k (vlV now k + z)) rs
    show (runS first ss _ rs).2.1.length ≤ _
    rw [List.length_cons]; omega
  | .need k z :: ss, now, rs => by
    show (if vlV now k < z then (false, rs, first) else runS first ss now rs).2.1.length ≤ _
    rw [List.length_cons]
    split
    · show rs.length ≤ _; omega
    · have := run_len (pg := pg) (first := first) ss now rs
      omega
theorem put_keys {vs : Vals2} {k : K2} {z : Int} (h : valK vs k ≠ none) : (putKD vs k z).map (·.1) = vs.map (·.1) := by
  unfold putKD
  have : (vs.any fun kv => decide (kv.1 = k)) = true := by
    obtain ⟨y, hy, e⟩ := List.mem_map.mp (mem_of_val h)
    rw [List.any_eq_true]
    exact ⟨y, hy, by simp [e]⟩
  rw [if_pos this, List.map_map]
  refine List.map_congr_left fun y _ => ?_
  show (if y.1 = k then (y.1, z) else y).1 = y.1
  split <;> rfl
theorem run_keysE {first : Vals2} {ks : List K2} (hf : first.map (·.1) = ks) : ∀ (ss : List Stp) (now : Vals2) (rs : List Int), (∀ s ∈ ss, valK now s.key ≠ none) → now.map (·.1) = ks → (runS first ss now rs).2.2.map (·.1) = ks
  | [], now, rs, _, h => h
  | .rd k :: ss, now, rs, hk, h => run_keysE hf ss _ _ (fun s hs => hk s (List.mem_cons_of_mem _ hs)) h
  | .st k :: ss, now, rs, hk, h => run_keysE hf ss _ _ (hasK_put fun s hs => hk s (List.mem_cons_of_mem _ hs)) (by have hk' : valK now k ≠ none := hk _ (List.mem_cons_self ..); rw [put_keys hk', h])
  | .put k z :: ss, now, rs, hk, h => run_keysE hf ss _ _ (hasK_put fun s hs => hk s (List.mem_cons_of_mem _ hs)) (by have hk' : valK now k ≠ none := hk _ (List.mem_cons_self ..); rw [put_keys hk', h])
  | .add k z :: ss, now, rs, hk, h => run_keysE hf ss _ _ (hasK_put fun s hs => hk s (List.mem_cons_of_mem _ hs)) (by have hk' : valK now k ≠ none := hk _ (List.mem_cons_self ..); rw [put_keys hk', h])
  | .need k z :: ss, now, rs, hk, h => by
    show (if vlV now k < z then (false, rs, first) else runS first ss now rs).2.2.map (·.1) = ks
    split
    · exact hf
    · exact run_keysE hf ss _ _ (fun s hs => hk s (List.mem_cons_of_mem _ hs)) h
theorem runP_keys {pg : List Stp} {v : Vals2} : (runP pg v).2.2.map (·.1) = keysS pg := by
  have h1 := first_keys (vs := v) (keysS_nodup (pg := pg))
  exact run_keysE h1 _ _ _ (fun s hs => by rw [first_val keysS_nodup (keysS_mem.mpr ⟨s, hs, rfl⟩)]; simp) h1
theorem runP_len {pg : List Stp} {v : Vals2} : (runP pg v).2.2.length ≤ pg.length := by
  have h := congrArg List.length (runP_keys (pg := pg) (v := v))
  rw [List.length_map] at h
  rw [h]
  exact keysS_len
theorem runP_reads {pg : List Stp} {v : Vals2} : (runP pg v).2.1.length ≤ pg.length := by
  have := run_len (pg := pg) (first := firstS (keysS pg) v) pg (firstS (keysS pg) v) []
  rw [List.length_nil] at this
  unfold runP
  omega
theorem puts_same {g : K2 → Int} : ∀ {ks : List K2} {v : Vals2}, (∀ k ∈ ks, valK v k ≠ none) → (putKs v ks g).length = v.length
  | [], _, _ => rfl
  | k :: ks, v, h => by
    show (putKs (putKD v k (g k)) ks g).length = _
    have h1 : valK v k ≠ none := h k (List.mem_cons_self ..)
    rw [puts_same (fun x hx => by
      rw [valK_put]
      split
      · simp
      · exact h x (List.mem_cons_of_mem _ hx))]
    have := congrArg List.length (put_keys (z := g k) h1)
    rwa [List.length_map, List.length_map] at this
theorem valK_cons {κ β : Type} [DecidableEq κ] {p : κ × β} {r : List (κ × β)} {k : κ} : valK (p :: r) k = if p.1 = k then some p.2 else valK r k := by
  unfold valK
  rw [List.find?_cons]
  by_cases h : p.1 = k
  · simp [h]
  · simp [h]
theorem assoc_ext : ∀ {l1 l2 : Vals2}, l1.map (·.1) = l2.map (·.1) → (l1.map (·.1)).Nodup → (∀ k, valK l1 k = valK l2 k) → l1 = l2
  | [], [], _, _, _ => rfl
  | [], _ :: _, h, _, _ => by simp at h
  | _ :: _, [], h, _, _ => by simp at h
  | p :: r, q :: t, h, hn, hv => by
    rw [List.map_cons, List.map_cons] at h
    injection h with h1 h2
    rw [List.map_cons, List.nodup_cons] at hn
    have e2 : p.2 = q.2 := by
      have := hv p.1
      rw [valK_cons, valK_cons, if_pos rfl, if_pos h1.symm] at this
      exact Option.some.inj this
    have none_of : ∀ {l : Vals2}, p.1 ∉ l.map (·.1) → valK l p.1 = none := fun {l} hl => by
      cases e : valK l p.1 with
      | none => rfl
      | some x => exact absurd (mem_of_val (by rw [e]; simp)) hl
    have e3 := assoc_ext h2 hn.2 fun k => by
      by_cases hk : p.1 = k
      · subst hk
        rw [none_of hn.1, none_of (by rw [← h2]; exact hn.1)]
      · have := hv k
        rw [valK_cons, valK_cons, if_neg hk, if_neg (by rw [← h1]; exact hk)] at this
        exact this
    rw [e3]
    exact congrArg (· :: t) (Prod.ext h1 e2)
theorem keys_put {v : Vals2} {k : K2} {z : Int} : (putKD v k z).map (·.1) = addK (v.map (·.1)) k := by
  by_cases h : valK v k = none
  · unfold putKD addK
    have hn : ¬ k ∈ v.map (·.1) := fun hm => by
      obtain ⟨p, hp, e⟩ := List.mem_map.mp hm
      have : valK v k ≠ none := by
        unfold valK
        intro q
        rw [Option.map_eq_none_iff, List.find?_eq_none] at q
        exact q p hp (by simpa using e)
      exact this h
    rw [if_neg (fun ha => hn (by
      obtain ⟨p, hp, e⟩ := List.any_eq_true.mp ha
      exact List.mem_map.mpr ⟨p, hp, by simpa using e⟩)), if_neg hn, List.map_append]
    rfl
  · rw [put_keys h]
    unfold addK
    rw [if_pos (mem_of_val h)]
theorem keys_puts {g : K2 → Int} : ∀ {ks : List K2} {v : Vals2}, (putKs v ks g).map (·.1) = ks.foldl addK (v.map (·.1))
  | [], _ => rfl
  | k :: ks, v => by
    show (putKs (putKD v k (g k)) ks g).map (·.1) = ks.foldl addK (addK (v.map (·.1)) k)
    rw [keys_puts, keys_put]
theorem keys_zero : ∀ {ks : List K2} {v : Vals2}, (zeroAll v ks).map (·.1) = ks.foldl addK (v.map (·.1))
  | [], _ => rfl
  | k :: ks, v => by
    show (zeroAll (if valK v k = none then putKD v k 0 else v) ks).map (·.1) = ks.foldl addK (addK (v.map (·.1)) k)
    rw [keys_zero]
    by_cases h : valK v k = none
    · rw [if_pos h, keys_put]
    · rw [if_neg h]
      unfold addK
      rw [if_pos (mem_of_val h)]
theorem fold_mem : ∀ {ks acc : List K2} {k : K2}, k ∈ ks.foldl addK acc ↔ k ∈ acc ∨ k ∈ ks
  | [], _, _ => by simp
  | x :: ks, acc, k => by
    show k ∈ ks.foldl addK (addK acc x) ↔ _
    rw [fold_mem]
    have : k ∈ addK acc x ↔ k ∈ acc ∨ k = x := by
      unfold addK
      split
      · constructor
        · exact .inl
        · rintro (h | rfl)
          · exact h
          · assumption
      · simp
    rw [this, List.mem_cons, or_assoc]
theorem fold_same : ∀ {ks acc : List K2}, (∀ k ∈ ks, k ∈ acc) → ks.foldl addK acc = acc
  | [], _, _ => rfl
  | x :: ks, acc, h => by
    show ks.foldl addK (addK acc x) = acc
    have : addK acc x = acc := by unfold addK; rw [if_pos (h x List.mem_cons_self)]
    rw [this]
    exact fold_same fun k hk => h k (List.mem_cons_of_mem _ hk)
/-- what the law's values come to -/
theorem VEq.law {v1 v2 : Vals2} {pg : List Stp} (h : VEq v1 v2) : VEq (putAll (zeroAll v1 (keysS pg)) (runP pg (zeroAll v1 (keysS pg))).2.2) (putAll v2 (runP pg v2).2.2) := by
  obtain ⟨rfl, hn⟩ := h
  have e : runP pg (zeroAll v1 (keysS pg)) = runP pg v1 := runP_congr fun k _ => by rw [zero_vl]
  rw [e]
  have k1 : (putAll (zeroAll v1 (keysS pg)) (runP pg v1).2.2).map (·.1) = (keysS pg).foldl addK (v1.map (·.1)) := by
    unfold putAll
    rw [keys_puts, runP_keys, keys_zero]
    exact fold_same fun k hk => fold_mem.mpr (.inr hk)
  have k2 : (putAll v1 (runP pg v1).2.2).map (·.1) = (keysS pg).foldl addK (v1.map (·.1)) := by
    unfold putAll
    rw [keys_puts, runP_keys]
  have kn : ((keysS pg).foldl addK (v1.map (·.1))).Nodup := fold_nodup hn
  refine ⟨assoc_ext (k1.trans k2.symm) (by rw [k1]; exact kn) fun k => ?_, by rw [k1]; exact kn⟩
  unfold putAll
  rw [valK_putKs, valK_putKs]
  by_cases hk : k ∈ (runP pg v1).2.2.map (·.1)
  · rw [if_pos hk, if_pos hk]
  · rw [if_neg hk, if_neg hk, valK_zero]
    have hm : ¬ k ∈ keysS pg := fun z => hk (mem_of_val (run_has z))
    rw [if_neg (fun z => hm z.2)]
theorem lrep_turn (c : CA) {l o v j : Nat} {evs : List Ev} {e : Ev} {S : Sto} {outs : Outs} {vv vp : Vals2} (ok : okEvs evs) (he : evs[j]? = some e) (hl : S[l]? = some (.lst (evs.map eEv))) (ho : S[o]? = some (.dn c.w (kT.enc (mapV eOu outs)))) (hv : S[v]? = some (.dn c.w (kK.enc (fVs vv)))) (hov : o ≠ v) (hq : VEq vv vp) (z1 : outs.length ≤ j) (z2 : vv.length ≤ 12 * j)
    (f4 f5 f6 f7 f8 f9 f10 : Option D) : ∃ g4 g5 g6 g7 g8 g9 g10 S1 vv', lb_law_replay_2 c [some (.ref l), some (.ref o), some (.ref v), some (.int (0 + (j : Nat))), f4, f5, f6, f7, f8, f9, f10] S = .ok (.nx [some (.ref l), some (.ref o), some (.ref v), some (.int (0 + (j : Nat))), g4, g5, g6, g7, g8, g9, g10]) S1 ∧
      S1[o]? = some (.dn c.w (kT.enc (mapV eOu (step (evs.take j) (outs, vp) e).1))) ∧ S1[v]? = some (.dn c.w (kK.enc (fVs vv'))) ∧ VEq vv' (step (evs.take j) (outs, vp) e).2 ∧ Fr S S1 (fun i => i = o ∨ i = v) ∧ (step (evs.take j) (outs, vp) e).1.length ≤ j + 1 ∧ vv'.length ≤ 12 * (j + 1) := by
  have hj : j < evs.length := (List.getElem?_eq_some_iff.mp he).1
  have hn60 := ok.1
  have hcut := cut_to (evs := evs) (j := j) (by omega)
  have hat := atI_ev he
  have hlen : (evs.map eEv).length ≤ 60 := by rw [List.length_map]; exact hn60
  have triv : ∀ S1, S1 = S → step (evs.take j) (outs, vp) e = (outs, vp) → S1[o]? = some (.dn c.w (kT.enc (mapV eOu (step (evs.take j) (outs, vp) e).1))) ∧ S1[v]? = some (.dn c.w (kK.enc (fVs vv))) ∧ VEq vv (step (evs.take j) (outs, vp) e).2 ∧ Fr S S1 (fun i => i = o ∨ i = v) ∧ (step (evs.take j) (outs, vp) e).1.length ≤ j + 1 ∧ vv.length ≤ 12 * (j + 1) := by
    rintro S1 rfl hs
    rw [hs]
    exact ⟨ho, hv, hq, Fr.refl _ _, by show outs.length ≤ _; omega, by omega⟩
  by_cases hw : e.w = sC
  · cases e with
    | beg => exact absurd hw (by simp only [Ev.w]; decide)
    | gw => exact absurd hw (by simp only [Ev.w]; decide)
    | en => exact absurd hw (by simp only [Ev.w]; decide)
    | com t a d rs =>
      have hw' : decide ((Ev.com t a d rs).w = sC) = true := decide_eq_true hw
      have htt : (Ev.com t a d rs).t = t := rfl
      cases hval : valK outs t with
      | some x =>
        refine ⟨some (eEv (.com t a d rs)), f5, f6, f7, f8, f9, f10, S, vv, ?_, triv S rfl (by simp only [step]; rw [if_neg (by rw [hval]; simp)])⟩
        simp only [ap_fVar, varK_some, ap_fC, ap_fBin, ap_binK, ap_fTest, ap_testK, ap_fAnd, ap_andK, ap_fSkip, ap_fSeq, ap_seqK_nx, ap_fIf, ap_ifK, ap_fAsg, ap_asgK, ap_asgK2, ap_gN, ap_fIx, ap_ixK, isDict_ref, isDictC_lst, getL_ref, getLC_lst, retO_some, o_eq, eqK_some, toP_str, ap_fIter, ap_iterK_ref, iterC_lst, ap_fComp, ap_compK_live, ap_fSl, ap_slK1, ap_slK2, ap_pNo, ap_pSo, ap_pSoK, o_getD, lookD_ref, lookN_ref, lookNC_dn, o_inN, o_inNK, o_someMap, oSl_ref, o_slC, R.bind_ok, List.getElem?_cons_zero, List.getElem?_cons_succ, List.set_cons_zero, List.set_cons_succ, Bool.false_eq_true, if_true, if_false, Bool.not_true, get_app0, ap_lb_law_replay_2, hl, hat, ev_nd, ev0, ev1, lC, okW, qsC, wq_eq, hw', htt, ho, keyT_eTk, CodK.val, mapV_val, hval, Option.map_some, Option.isSome_some]
      | none =>
        have hpc := progs_comp c (n := S.length) (S := S ++ [.lst ((evs.take j).map eEv)]) (pre := evs.take j) (e := .com t a d rs) (v0 := some (.ref l)) (v1 := some (.ref o)) (v2 := some (.ref v)) (v3 := some (.int (0 + (j : Nat)))) (v5 := f5) (v6 := f6) (v7 := f7) (v8 := f8) (v9 := f9) get_app0 (by rw [List.length_take]; omega)
        simp only [List.length_append, List.length_cons, List.length_nil, Nat.zero_add, List.append_assoc, List.cons_append, List.nil_append] at hpc
        rw [htt] at hpc
        have hst : lastP (evs.take j) t = ((evs.take j).filterMap (begP t)).getLast? := rfl
        generalize hps : (evs.take j).filterMap (begP t) = ps at hpc hst
        have hne1 := eqL_nil (S := S ++ [.lst ((evs.take j).map eEv), .lst (ps.map ePg), .lst []]) (n := S.length + 1) (m := S.length + 2) (xs := ps.map ePg) (by rw [get_app]; rfl) (by rw [get_app]; rfl)
        have hne2 := neL_nil (S := S ++ [.lst ((evs.take j).map eEv), .lst (ps.map ePg), .lst []]) (n := S.length + 1) (m := S.length + 2) (xs := ps.map ePg) (by rw [get_app]; rfl) (by rw [get_app]; rfl)
        cases hlp : lastP (evs.take j) t with
        | none =>
          have hpe : ps = [] := by rw [hlp] at hst; exact List.getLast?_eq_none_iff.mp hst.symm
          subst hpe
          have hstep : step (evs.take j) (outs, vp) (.com t a d rs) = (outs, vp) := by simp only [step]; rw [hval, if_pos rfl, hlp]
          have tt := triv S rfl hstep
          refine ⟨some (eEv (.com t a d rs)), some (.ref (S.length + 1)), f6, f7, f8, f9, f10, S ++ [.lst ((evs.take j).map eEv), .lst [], .lst []], vv, ?_, ?_⟩
          · simp only [List.map_nil] at hpc hne2
            simp only [ap_fVar, varK_some, ap_fC, ap_fBin, ap_binK, ap_fUn, ap_fNil, ap_fCons, ap_fLst, ap_lstK, ap_fTest, ap_testK, ap_fAnd, ap_andK, ap_fSkip, ap_fSeq, ap_seqK_nx, ap_fIf, ap_ifK, ap_fAsg, ap_asgK, ap_asgK2, ap_gN, ap_fIx, ap_ixK, isDict_ref, isDictC_lst, getL_ref, getLC_lst, retO_some, ap_fCall, o_neg, o_eq, eqK_some, toP_str, ap_fFor, ap_fIter, ap_iterK_ref, iterC_lst, ap_fComp, ap_compK_live, ap_fSl, ap_slK1, ap_slK2, ap_pNo, ap_pSo, ap_pSoK, o_getD, lookD_ref, lookN_ref, lookNC_dn, o_inN, o_inNK, o_someMap, oSl_ref, o_slC, R.bind_ok, List.length_cons, List.length_nil, List.cons_append, List.nil_append, Nat.zero_add, Nat.reduceAdd, List.getElem?_cons_zero, List.getElem?_cons_succ, List.set_cons_zero, List.set_cons_succ, Bool.false_eq_true, if_true, if_false, Nat.reduceLeDiff, Int.reduceNeg, Bool.not_true, Bool.not_false, get_app, get_app0, List.append_assoc, List.length_append, ap_lb_law_replay_2, hl, hat, ev_nd, ev0, ev1, lC, okW, qsC, wq_eq, hw', htt, ho, keyT_eTk, CodK.val, mapV_val, hval, Option.map_none, Option.isSome_none, hcut, hlen, hpc, hne2, List.isEmpty_nil]
          · rw [hstep]
            exact ⟨app_get ho, app_get hv, hq, Fr.app _ _ _, by show outs.length ≤ _; omega, by omega⟩
        | some pg =>
          have hgl : ps.getLast? = some pg := by rw [← hst, hlp]
          have hpm : pg ∈ ps := List.mem_of_getLast? hgl
          obtain ⟨e', he', hb'⟩ := List.mem_filterMap.mp (by rw [hps]; exact hpm : pg ∈ (evs.take j).filterMap (begP t))
          have hpok : (∀ s ∈ pg, PyData.strOk s.key.2 = true) ∧ pg.length ≤ 12 := by
            have := ok.2 e' (List.mem_of_mem_take he')
            cases e' with
            | beg t' pg' =>
              have hb' : (if t' = t then some pg' else none) = some pg := hb'
              split at hb'
              · cases hb'; exact this
              · cases hb'
            | _ => cases hb'
          have hix : atI (ps.map ePg) (-1) = some (.tup (eSs pg)) := atI_m1 (by rw [List.getLast?_map, hgl]; rfl)
          have hemp : (ps.map ePg).isEmpty = false := by
            cases ps with
            | nil => cases hgl
            | cons _ _ => rfl
          have hpl0 : (ps.map ePg).length < 100000 := by
            have : ps.length ≤ (evs.take j).length := by rw [← hps]; exact List.length_filterMap_le _ _
            rw [List.length_take] at this
            rw [List.length_map]; omega
          have hstep : step (evs.take j) (outs, vp) (.com t a d rs) = (putKD outs t ((runP pg vp).1, (runP pg vp).2.1), putAll vp (runP pg vp).2.2) := by simp only [step]; rw [hval, if_pos rfl, hlp]
          rw [hstep]
          have hkl := keysS_len (pg := pg)
          -- the keys
          let S3 : Sto := S ++ [.lst ((evs.take j).map eEv), .lst (ps.map ePg), .lst []]
          have hlk := lawkeys_eq c (S := S3) hpok.1 (by omega)
          have hv3 : (S3 ++ [Cell.lst (kK.es (keysS pg))])[v]? = some (.dn c.w (kK.enc (fVs vv))) := app_get (app_get hv)
          have hlt3 : v < S3.length := (List.getElem?_eq_some_iff.mp (app_get hv : S3[v]? = _)).1
          have hlo3 : o < S3.length := (List.getElem?_eq_some_iff.mp (app_get ho : S3[o]? = _)).1
          obtain ⟨f6', hz⟩ := zero_loop c (n := S3.length) (vl := v) (ks := keysS pg) (v := vv) (S := S3 ++ [Cell.lst (kK.es (keysS pg))]) (v0 := some (.ref l)) (v1 := some (.ref o)) (v3 := some (.int (0 + (j : Nat)))) (v4 := some (eEv (.com t a d rs))) (v5 := some (.ref (S.length + 1))) (v7 := f7) (v8 := f8) (v9 := f9) (v10 := f10) f6 get_app0 hv3 (by omega) (by omega)
          have hzl := zero_len (v := vv) (ks := keysS pg)
          simp only [S3, List.append_assoc, List.cons_append, List.nil_append, List.length_append, List.length_cons, List.length_nil, Nat.reduceAdd, Nat.zero_add] at hlk hz hv3 hlt3 hlo3
          generalize hS5 : List.set (S ++ [Cell.lst ((evs.take j).map eEv), .lst (ps.map ePg), .lst [], .lst (kK.es (keysS pg))]) v (.dn c.w (kK.enc (fVs (zeroAll vv (keysS pg))))) = S5 at hz
          have hv5 : S5[v]? = some (.dn c.w (kK.enc (fVs (zeroAll vv (keysS pg))))) := by rw [← hS5]; exact set_get hv3
          have ho5 : S5[o]? = some (.dn c.w (kT.enc (mapV eOu outs))) := by
            rw [← hS5, List.getElem?_set_ne (fun z => hov z.symm)]
            exact app_get ho
          have hvS : v < S.length := (List.getElem?_eq_some_iff.mp hv).1
          have hoS : o < S.length := (List.getElem?_eq_some_iff.mp ho).1
          have hp5 : S5[S.length + 1]? = some (.lst (ps.map ePg)) := by
            rw [← hS5, List.getElem?_set_ne (by omega), get_app]; rfl
          have hl5 : S5.length = S.length + 4 := by rw [← hS5, List.length_set, List.length_append]; rfl
          obtain ⟨S6, rp, bp, er, h6r, h6b, fr6, lr, lb⟩ := lawrun_eq c (S := S5) (vs := zeroAll vv (keysS pg)) hv5 hpok.1 (fun k hk => zero_has hk) (by omega)
          rw [run_eqL hq] at er h6r h6b
          have ho6 := fr6.get ho5 (fun z => z)
          have hv6 := fr6.get hv5 (fun z => z)
          have hpr : (runP pg vp).2.1.length ≤ 12 := Nat.le_trans runP_reads hpok.2
          have hcap : (eI (runP pg vp).2.1).length ≤ 100000 := by rw [eI_len]; omega
          have hol : (kT.enc (mapV eOu outs)).length < 100000 := by rw [CodK.enc_len, mapV_len]; omega
          -- the outcome
          have hop : putKD (mapV eOu outs) t (.tup [.bl (runP pg vp).1, .tup (eI (runP pg vp).2.1)]) = mapV eOu (putKD outs t ((runP pg vp).1, (runP pg vp).2.1)) := outs_put (x := ((runP pg vp).1, (runP pg vp).2.1))
          let S7 : Sto := S6.set o (.dn c.w (kT.enc (mapV eOu (putKD outs t ((runP pg vp).1, (runP pg vp).2.1)))))
          have hbo : bp ≠ o := by omega
          have hbv : bp ≠ v := by omega
          have hb7 : S7[bp]? = some (.dn c.w (kK.enc (fVs (runP pg vp).2.2))) := by show (S6.set o _)[bp]? = _; rw [List.getElem?_set_ne (fun z => hbo z.symm)]; exact h6b
          have hv7 : S7[v]? = some (.dn c.w (kK.enc (fVs (zeroAll vv (keysS pg))))) := by show (S6.set o _)[v]? = _; rw [List.getElem?_set_ne hov]; exact hv6
          have hrl := runP_len (pg := pg) (v := vp)
          obtain ⟨f6'', hpu⟩ := puts_loop c (bp := bp) (vl := v) (b := (runP pg vp).2.2) (v := zeroAll vv (keysS pg)) (S := S7.set bp (.df c.w (kK.enc (fVs (runP pg vp).2.2)))) (v0 := some (.ref l)) (v1 := some (.ref o)) (v3 := some (.int (0 + (j : Nat)))) (v4 := some (eEv (.com t a d rs))) (v5 := some (.ref (S.length + 1))) (v7 := some (.bl (runP pg vp).1)) (v8 := some (.ref rp)) (v10 := f10) f6' (set_get hb7) (by rw [List.getElem?_set_ne hbv]; exact hv7) hbv (by omega)
          have hkb : keysN (kK.enc (fVs (runP pg vp).2.2)) = kK.es ((runP pg vp).2.2.map (·.1)) := by rw [CodK.keys, fVs_keys]
          let S8 : Sto := ((S7.set bp (.df c.w (kK.enc (fVs (runP pg vp).2.2)))).set v (.dn c.w (kK.enc (fVs (putAll (zeroAll vv (keysS pg)) (runP pg vp).2.2))))).set bp (.dn c.w (kK.enc (fVs (runP pg vp).2.2)))
          have hth : ((S7.set bp (.df c.w (kK.enc (fVs (runP pg vp).2.2)))).set v (.dn c.w (kK.enc (fVs (putAll (zeroAll vv (keysS pg)) (runP pg vp).2.2)))))[bp]? = some (.df c.w (kK.enc (fVs (runP pg vp).2.2))) := by
            rw [List.getElem?_set_ne (fun z => hbv z.symm)]; exact set_get hb7
          have h8 : VEq (putAll (zeroAll vv (keysS pg)) (runP pg vp).2.2) (putAll vp (runP pg vp).2.2) := by
            have := VEq.law (pg := pg) hq
            rwa [run_eqL hq] at this
          have hvl8 : (putAll (zeroAll vv (keysS pg)) (runP pg vp).2.2).length ≤ 12 * (j + 1) := by
            have e : (putAll (zeroAll vv (keysS pg)) (runP pg vp).2.2).length = (zeroAll vv (keysS pg)).length := by
              unfold putAll
              refine puts_same fun k hk => ?_
              rw [runP_keys] at hk
              exact zero_has hk
            rw [e]; omega
          refine ⟨some (eEv (.com t a d rs)), some (.ref (S.length + 1)), f6'', some (.bl (runP pg vp).1), some (.ref rp), some (.ref bp), f10, S8, putAll (zeroAll vv (keysS pg)) (runP pg vp).2.2, ?_, ?_, ?_, h8, ?_, ?_, hvl8⟩
          · simp only [S7] at hb7 hv7 hpu hth
            simp only [ap_fVar, varK_some, ap_fC, ap_fBin, ap_binK, ap_fUn, ap_fApp, ap_fNil, ap_fCons, ap_consK, ap_consK2, ap_fTup, ap_fLst, ap_tupK, ap_lstK, ap_fTest, ap_testK, ap_fAnd, ap_andK, ap_fSkip, ap_fSeq, ap_seqK_nx, ap_fIf, ap_ifK, ap_fAsg, ap_asgK, ap_asgK2, ap_gN, ap_gNil, ap_gCons, ap_gsK, ap_gUnp, ap_unpK, ap_fIx, ap_ixK, isDict_ref, isDictC_lst, getL_ref, getLC_lst, retO_some, ap_fCall, ap_callK, o_neg, o_eq, eqK_some, toP_str, ap_fFor, ap_forK_fix, ap_forK_live, ap_fIter, ap_iterK_ref, iterC_lst, ap_fComp, ap_compK_live, ap_fSl, ap_slK1, ap_slK2, ap_pNo, ap_pSo, ap_pSoK, o_getD, lookD_ref, o_seqR, o_seqC, lookN_ref, lookNC_dn, o_inN, o_inNK, oSetN_ref, setNC_dn, setNK_some, ap_gSubN, ap_gnK, ap_gnK2, ap_gnK3, o_someMap, o_tupR, o_tupC, o_seqT, ap_fIce, ap_iceM, ap_iceC, ap_thawR, ap_thawC, ap_fIterN, ap_itNK, ap_itNC, oSl_ref, o_slC, R.bind_ok, R.nox_ok, List.length_cons, List.length_nil, List.cons_append, List.nil_append, Nat.zero_add, Nat.reduceAdd, List.getElem?_cons_zero, List.getElem?_cons_succ, List.set_cons_zero, List.set_cons_succ, List.append_nil, Bool.false_eq_true, if_true, if_false, Nat.add_zero, Nat.reduceLeDiff, Int.reduceNeg, Bool.not_false, get_app, get_app0, List.append_assoc, List.length_append, ap_lb_law_replay_2, hl, hat, ev_nd, ev0, ev1, lC, okW, qsC, wq_eq, hw', htt, ho, keyT_eTk, CodK.val, mapV_val, hval, Option.map_none, Option.isSome_none, hcut, hlen, hpc, hne2, hemp, hix, hlk, hz, hp5, er, h6r, hcap, ho6, hol, CodK.put, hop, ap_fIce, ap_iceM, hb7, ap_thawR, hpu, hth, hkb, set_get hb7, S7, S8]
          · show (List.set _ bp _)[o]? = _
            rw [List.getElem?_set_ne hbo, List.getElem?_set_ne (fun z => hov z.symm), List.getElem?_set_ne hbo]
            exact set_get ho6
          · show (List.set _ bp _)[v]? = _
            rw [List.getElem?_set_ne hbv]
            exact set_get (by rw [List.getElem?_set_ne hbv]; exact hv7)
          · have f5 : Fr S S5 (fun i => i = o ∨ i = v) := by rw [← hS5]; exact (Fr.app S _ _).trans (Fr.set (.inr rfl))
            have f6 : Fr S S6 (fun i => i = o ∨ i = v) := f5.trans (fr6.mono fun _ z => z.elim)
            have f7 : Fr S S7 (fun i => i = o ∨ i = v) := f6.trans (Fr.set (.inl rfl))
            refine f7.new (((Fr.set (P := fun i => i = bp ∨ i = v) (.inl rfl)).trans (Fr.set (.inr rfl))).trans (Fr.set (.inl rfl))) fun i hi z => ?_
            rcases z with z | z
            · omega
            · exact .inr z
          · have := put_len (kvs := outs) (x := t) (v := ((runP pg vp).1, (runP pg vp).2.1))
            show (putKD outs t ((runP pg vp).1, (runP pg vp).2.1)).length ≤ j + 1
            omega
  · have hw' : decide (e.w = sC) = false := decide_eq_false hw
    have hstep : step (evs.take j) (outs, vp) e = (outs, vp) := by
      cases e with
      | com => exact absurd rfl hw
      | _ => rfl
    refine ⟨some (eEv e), f5, f6, f7, f8, f9, f10, S, vv, ?_, triv S rfl hstep⟩
    simp only [ap_fVar, varK_some, ap_fC, ap_fBin, ap_binK, ap_fTest, ap_testK, ap_fAnd, ap_andK, ap_fSkip, ap_fSeq, ap_seqK_nx, ap_fIf, ap_ifK, ap_fAsg, ap_asgK, ap_asgK2, ap_gN, ap_fIx, ap_ixK, isDict_ref, isDictC_lst, getL_ref, getLC_lst, retO_some, o_eq, eqK_some, toP_str, ap_fIter, ap_iterK_ref, iterC_lst, ap_fComp, ap_compK_live, ap_fSl, ap_slK1, ap_slK2, ap_pNo, ap_pSo, ap_pSoK, o_getD, lookD_ref, lookN_ref, o_inN, oSl_ref, o_slC, R.bind_ok, List.getElem?_cons_zero, List.getElem?_cons_succ, List.set_cons_zero, List.set_cons_succ, Bool.false_eq_true, if_true, if_false, get_app0, ap_lb_law_replay_2, hl, hat, ev_nd, ev0, ev1, lC, okW, qsC, wq_eq, hw']
end Qk35

namespace Qk35
open PySem L2 RF
theorem rep_succ {evs : List Ev} {j : Nat} {e : Ev} (h : evs[j]? = some e) : rep evs (j + 1) = step (evs.take j) (rep evs j) e := by
  show (match evs[j]? with | some e => step (evs.take j) (rep evs j) e | none => rep evs j) = _
  rw [h]
theorem lrep_eq (c : CA) {l : Nat} {evs : List Ev} {S : Sto} (ok : okEvs evs) (hl : S[l]? = some (.lst (evs.map eEv))) :
    ∃ S1 r o v vv, F_law_replay c [.ref l] S = .ok (.ref r) S1 ∧ S1[r]? = some (.lst [.ref o, .ref v]) ∧ S1[o]? = some (.dn c.w (kT.enc (mapV eOu (outsOf evs)))) ∧ S1[v]? = some (.dn c.w (kK.enc (fVs vv))) ∧ VEq vv (rep evs evs.length).2 ∧ Fr S S1 (fun _ => False) ∧ S.length ≤ o ∧ S.length ≤ v ∧ S.length ≤ r := by
  have hlt : l < S.length := (List.getElem?_eq_some_iff.mp hl).1
  let P : Nat → Lc → Sto → Prop := fun j e S1 => ∃ vv f3 f4 f5 f6 f7 f8 f9 f10, e = [some (.ref l), some (.ref S.length), some (.ref (S.length + 1)), f3, f4, f5, f6, f7, f8, f9, f10] ∧ S1[S.length]? = some (.dn c.w (kT.enc (mapV eOu (rep evs j).1))) ∧ S1[S.length + 1]? = some (.dn c.w (kK.enc (fVs vv))) ∧ VEq vv (rep evs j).2 ∧ Fr S S1 (fun _ => False) ∧ (rep evs j).1.length ≤ j ∧ vv.length ≤ 12 * j
  have step : ∀ j e S1 d, (rngD 0 evs.length)[j]? = some d → P j e S1 → ∃ e1 S2, Turn1 (gN 3) (lb_law_replay_2 c) d e S1 e1 S2 ∧ P (j + 1) e1 S2 := by
    rintro j e S1 d hd ⟨vv, f3, f4, f5, f6, f7, f8, f9, f10, rfl, h1, h2, h3, h4, h5, h6⟩
    obtain ⟨hj, rfl⟩ := rngD_get hd
    have he : evs[j]? = some evs[j] := List.getElem?_eq_getElem hj
    obtain ⟨g4, g5, g6, g7, g8, g9, g10, S2, vv', k1, k2, k3, k4, k5, k6, k7⟩ := lrep_turn c (l := l) (o := S.length) (v := S.length + 1) ok he (h4.get hl (fun z => z)) h1 h2 (by omega) h3 h5 h6 f4 f5 f6 f7 f8 f9 f10
    refine ⟨_, S2, ?_, vv', some (.int (0 + (j : Nat))), g4, g5, g6, g7, g8, g9, g10, rfl, ?_, k3, ?_, h4.new k5 (fun i hi z => by rcases z with z | z <;> omega), ?_, k7⟩
    · unfold Turn1
      simp only [ap_gN, R.bind_ok, List.set_cons_zero, List.set_cons_succ]
      exact k1
    · rw [rep_succ he]; exact k2
    · rw [rep_succ he]; exact k4
    · rw [rep_succ he]; exact k6
  have h00 : kT.enc (mapV eOu ([] : Outs)) = [] := rfl
  have h01 : kK.enc (fVs []) = [] := rfl
  obtain ⟨e1, S1, h, vv, f3, f4, f5, f6, f7, f8, f9, f10, rfl, q1, q2, q3, q4, q5, q6⟩ := loopX_ok P step (e := [some (.ref l), some (.ref S.length), some (.ref (S.length + 1)), none, none, none, none, none, none, none, none]) (S := S ++ [.dn c.w [], .dn c.w []]) ⟨[], none, none, none, none, none, none, none, none, rfl, by rw [get_app0]; rfl, by rw [get_app]; rfl, ⟨rfl, List.nodup_nil⟩, Fr.app _ _ _, Nat.le_refl _, by simp⟩
  rw [rngD_len] at q1 q3 q5 q6
  have hle := q4.le
  have n1 : S.length < S1.length := (List.getElem?_eq_some_iff.mp q1).1
  refine ⟨S1 ++ [.lst [.ref S.length, .ref (S.length + 1)]], S1.length, S.length, S.length + 1, vv, ?_, get_app0, app_get q1, app_get q2, q3, q4.trans (Fr.app _ _ _), Nat.le_refl _, by omega, hle⟩
  have hn60 := ok.1
  have hr2 : (-4611686018427387904 : Int) ≤ ((evs.length : Nat) : Int) ∧ ((evs.length : Nat) : Int) < 4611686018427387904 := by omega
  have hcap : (evs.map eEv).length ≤ 100000 := by rw [List.length_map]; omega
  unfold F_law_replay b_law_replay
  simp only [ap_fVar, varK_some, ap_fApp, ap_fNil, ap_fCons, ap_consK, ap_consK2, ap_fLst, ap_lstK, ap_fSeq, ap_seqK_nx, ap_fRet, ap_retK, ap_fAsg, ap_asgK, ap_asgK2, ap_gN, ap_fnF, ap_fnK_rt, o_len, lenK_some, lenD_ref, lenC_lst, ap_fFor, ap_forK_fix, ap_fRng1, ap_rng1K, ap_fDictN0, R.bind_ok, List.map_cons, List.map_nil, List.length_cons, List.length_nil, List.cons_append, List.nil_append, Nat.zero_add, Nat.reduceAdd, Nat.reduceSub, List.replicate_succ, List.replicate_zero, List.getElem?_cons_zero, List.getElem?_cons_succ, List.set_cons_zero, List.set_cons_succ, if_true, Nat.reduceLeDiff, Int.reduceNeg, Int.reducePow, and_self, List.append_assoc, List.length_append, app_get hl, List.length_map, hcap, hr2, Int.toNat_natCast, h]
theorem ePg_def {pg : List Stp} : ePg pg = .tup (eSs pg) := rfl
theorem vals_comp (c : CA) {S : Sto} {pg : List Stp} {vals : Vals2} {vl n : Nat} {v0 v1 v2 v4 v5 v6 v7 v8 v9 v10 : Option D} (hn : S[n]? = some (.lst (kK.es (keysS pg)))) (hv : S[vl]? = some (.dn c.w (kK.enc (fVs vals)))) (hl : pg.length ≤ 12) :
    compLD c.w n 11 fYes (ce_replay_0 c) (ce_replay_1 c) [v0, v1, v2, some (.ref vl), v4, v5, v6, v7, v8, v9, v10, none] (kK.es (keysS pg)) 0 [] S = .ok (.ref S.length) (S ++ [.dn c.w (kK.enc (fVs (vals0 pg vals)))]) := by
  have hkl := keysS_len (pg := pg)
  have c1 := dcompL_map (w := c.w) (n := n) (i := 11) (fk := ce_replay_0 c) (fv := ce_replay_1 c) (env := [v0, v1, v2, some (.ref vl), v4, v5, v6, v7, v8, v9, v10, none]) (S := S) (ys := kK.es (keysS pg)) (f := fun d => kK.kf (kD' d)) (h := fun d => .int (vlV vals (kD' d))) (e := fun d => d) hn (fun d hd => by
    obtain ⟨k, hk, rfl⟩ := List.mem_map.mp hd
    refine ⟨rfl, rfl, ?_⟩
    rw [o_kKe, kD_eK]
    cases q : valK vals k with
    | none =>
      have : vlV vals k = 0 := by unfold vlV; rw [q]; rfl
      simp only [ap_fVar, varK_some, ap_fC, lookN_ref, lookNC_dn, o_isDn, o_isNC, ap_fGetN, ap_gtK, ap_gtK2, ap_gtK3, o_getN, o_getNK, o_someMap, R.bind_ok, List.getElem?_cons_zero, List.getElem?_cons_succ, List.set_cons_zero, List.set_cons_succ, if_true, ap_ce_replay_1, hv, keyT_eK, CodK.val, fVs_val, q, Option.map_none, this, Option.getD_none]
    | some z =>
      have : vlV vals k = z := valV_of q
      simp only [ap_fVar, varK_some, ap_fC, lookN_ref, lookNC_dn, o_isDn, o_isNC, ap_fGetN, ap_gtK, ap_gtK2, ap_gtK3, o_getN, o_getNK, o_someMap, R.bind_ok, List.getElem?_cons_zero, List.getElem?_cons_succ, List.set_cons_zero, List.set_cons_succ, if_true, ap_ce_replay_1, hv, keyT_eK, CodK.val, fVs_val, q, Option.map_some, this, Option.getD_some]) (kK.es (keysS pg)).length 0 (kK.es (keysS pg)) [] (by omega) rfl (by rw [Cod.es_len, List.length_nil]; omega)
  have z1 := fold_first (g := vlV vals) (keysS pg) []
  have z0 : kK.enc (fVs []) = [] := rfl
  have z2 : (keysS pg).foldl (fun a k => putKD a k (vlV vals k)) [] = firstS (keysS pg) vals := rfl
  have z3 : firstS (keysS pg) vals = vals0 pg vals := first_eq keysS_nodup
  rw [z0, z2, z3] at z1
  rw [List.drop_zero, z1] at c1
  exact c1
theorem puts_loopP (c : CA) {bp vl : Nat} {b v : Vals2} {S : Sto} {v0 v1 v2 v4 v5 v6 v7 v8 v9 : Option D} (f : Option D) (hb : S[bp]? = some (.df c.w (kK.enc (fVs b)))) (hv : S[vl]? = some (.dn c.w (kK.enc (fVs v)))) (hne : bp ≠ vl) (hl : v.length + b.length < 50000) :
    ∃ f', loopX (gN 11) (lb_replay_0 c) (kK.es (b.map (·.1))) [v0, v1, v2, some (.ref vl), v4, v5, v6, v7, v8, v9, some (.ref bp), f] S = .ok (.nx [v0, v1, v2, some (.ref vl), v4, v5, v6, v7, v8, v9, some (.ref bp), f']) (S.set vl (.dn c.w (kK.enc (fVs (putAll v b))))) := by
  let P : Nat → Lc → Sto → Prop := fun j e S1 => S1 = S.set vl (.dn c.w (kK.enc (fVs (putKs v ((b.map (·.1)).take j) (vlV b))))) ∧ ∃ f', e = [v0, v1, v2, some (.ref vl), v4, v5, v6, v7, v8, v9, some (.ref bp), f']
  have step : ∀ j e S1 d, (kK.es (b.map (·.1)))[j]? = some d → P j e S1 → ∃ e1 S2, Turn1 (gN 11) (lb_replay_0 c) d e S1 e1 S2 ∧ P (j + 1) e1 S2 := by
    rintro j e S1 d hd ⟨rfl, f', rfl⟩
    unfold Cod.es at hd
    rw [List.getElem?_map] at hd
    obtain ⟨k, hk, rfl⟩ := Option.map_eq_some_iff.mp hd
    have hmem : k ∈ b.map (·.1) := List.mem_of_getElem? hk
    have hz := puts_len (v := v) (ks := (b.map (·.1)).take j) (g := vlV b)
    rw [List.length_take, List.length_map] at hz
    have hlen : (kK.enc (fVs (putKs v ((b.map (·.1)).take j) (vlV b)))).length < 100000 := by rw [CodK.enc_len, fVs_len]; omega
    have hval : valK (fVs b) k = some (.int (vlV b k)) := by
      rw [fVs_val]
      cases q : valK b k with
      | some z => unfold vlV; rw [q]; rfl
      | none =>
        exfalso
        obtain ⟨y, hy, e⟩ := List.mem_map.mp hmem
        unfold valK at q
        have := List.find?_eq_none.mp (Option.map_eq_none_iff.mp q) y hy
        simp [e] at this
    have hb' : (S.set vl (.dn c.w (kK.enc (fVs (putKs v ((b.map (·.1)).take j) (vlV b))))))[bp]? = some (.df c.w (kK.enc (fVs b))) := by rw [List.getElem?_set_ne (fun z => hne z.symm)]; exact hb
    refine ⟨[v0, v1, v2, some (.ref vl), v4, v5, v6, v7, v8, v9, some (.ref bp), some (kK.e k)], _, ?_, by rw [take_succ' hk, puts_snoc], _, rfl⟩
    unfold Turn1
    simp only [ap_fVar, varK_some, ap_fBin, ap_binK, ap_fAsg, ap_asgK, ap_asgK2, ap_gN, o_getDK, lookN_ref, lookNC_df, ap_fIxN, o_ixN, oSetN_ref, setNC_dn, setNK_some, ap_gSubN, ap_gnK, ap_gnK2, ap_gnK3, o_someMap, o_kKe, R.bind_ok, List.getElem?_cons_zero, List.getElem?_cons_succ, List.set_cons_zero, List.set_cons_succ, if_true, List.set_set, ap_lb_replay_0, set_get hv, hb', o_kKe, keyT_eK, CodK.val, hval, hlen, CodK.put, fVs_put]
  obtain ⟨e1, S1, h, rfl, f', rfl⟩ := loopX_ok P step (e := [v0, v1, v2, some (.ref vl), v4, v5, v6, v7, v8, v9, some (.ref bp), f]) (S := S) ⟨by rw [show putKs v ((b.map (·.1)).take 0) (vlV b) = v from rfl, set_self hv], f, rfl⟩
  rw [Cod.es_len, List.take_length] at h
  exact ⟨f', h⟩
abbrev Prg := List (Tr × List Stp)
def PrOk (pre : List Ev) (ps : Prg) : Prop := ∀ t, valK ps t = lastP pre t
theorem cut02e {e : Ev} : ∃ xs, eEv e = .tup xs ∧ cutD xs none (some 2) = [.str e.w, eT e.t] := by
  cases e with
  | beg t pg => exact ⟨_, rfl, rfl⟩
  | com t a d rs => exact ⟨_, rfl, rfl⟩
  | gw t a => exact ⟨_, rfl, rfl⟩
  | en t => exact ⟨_, rfl, rfl⟩
theorem ev_sl {e : Ev} {S : Sto} : oSl (eEv e) none (some 2) S = .ok (.tup [.str e.w, eT e.t]) S := by
  obtain ⟨xs, h1, h2⟩ := cut02e (e := e)
  rw [h1, oSl_tup, h2]
theorem prep_turn (c : CA) {po o v j : Nat} {evs : List Ev} {e : Ev} {S : Sto} {ps : Prg} {outs : Outs} {vp : Vals2} (ok : okEvs evs) (he : evs[j]? = some e) (hp : S[po]? = some (.dn c.w (kT.enc (mapV ePg ps)))) (ho : S[o]? = some (.dn c.w (kT.enc (mapV eOu outs)))) (hv : S[v]? = some (.dn c.w (kK.enc (fVs vp)))) (hpo : po ≠ o) (hpv : po ≠ v) (hov : o ≠ v) (hps : PrOk (evs.take j) ps) (z0 : ps.length ≤ j) (z1 : outs.length ≤ j) (z2 : vp.length ≤ 12 * j)
    (v0 f5 f6 f7 f8 f9 f10 f11 : Option D) : ∃ g5 g6 g7 g8 g9 g10 g11 S1 ps', lb_replay_1 c [v0, some (.ref po), some (.ref o), some (.ref v), some (eEv e), f5, f6, f7, f8, f9, f10, f11] S = .ok (.nx [v0, some (.ref po), some (.ref o), some (.ref v), some (eEv e), g5, g6, g7, g8, g9, g10, g11]) S1 ∧
      S1[po]? = some (.dn c.w (kT.enc (mapV ePg ps'))) ∧ PrOk (evs.take (j + 1)) ps' ∧ S1[o]? = some (.dn c.w (kT.enc (mapV eOu (step (evs.take j) (outs, vp) e).1))) ∧ S1[v]? = some (.dn c.w (kK.enc (fVs (step (evs.take j) (outs, vp) e).2))) ∧ Fr S S1 (fun i => i = po ∨ i = o ∨ i = v) ∧ ps'.length ≤ j + 1 ∧ (step (evs.take j) (outs, vp) e).1.length ≤ j + 1 ∧ (step (evs.take j) (outs, vp) e).2.length ≤ 12 * (j + 1) := by
  have hj : j < evs.length := (List.getElem?_eq_some_iff.mp he).1
  have hn60 := ok.1
  have htk : ∀ t, lastP (evs.take (j + 1)) t = (begP t e).or (lastP (evs.take j) t) := fun t => by rw [take_succ' he, lastP_snoc]
  have hpl : (kT.enc (mapV ePg ps)).length < 100000 := by rw [CodK.enc_len, mapV_len]; omega
  by_cases hb : e.w = sB
  · cases e with
    | com => exact absurd hb (by simp only [Ev.w]; decide)
    | gw => exact absurd hb (by simp only [Ev.w]; decide)
    | en => exact absurd hb (by simp only [Ev.w]; decide)
    | beg t pg =>
      have hb' : decide ((Ev.beg t pg).w = sB) = true := decide_eq_true hb
      have htt : (Ev.beg t pg).t = t := rfl
      have hput : putKD (mapV ePg ps) t (ePg pg) = mapV ePg (putKD ps t pg) := mapV_put
      refine ⟨some (.str (Ev.beg t pg).w), some (eT t), f7, f8, f9, f10, f11, S.set po (.dn c.w (kT.enc (mapV ePg (putKD ps t pg)))), putKD ps t pg, ?_, set_get hp, fun t' => ?_, by rw [List.getElem?_set_ne hpo]; exact ho, by rw [List.getElem?_set_ne hpv]; exact hv, Fr.set (.inl rfl), ?_, by show outs.length ≤ _; omega, by show vp.length ≤ _; omega⟩
      · simp only [ap_fVar, varK_some, ap_fC, ap_fBin, ap_binK, ap_fTest, ap_testK, ap_fAnd, ap_fSeq, ap_seqK_nx, ap_fIf, ap_ifK, ap_fAsg, ap_asgK, ap_asgK2, ap_gN, ap_gNil, ap_gCons, ap_gsK, ap_gUnp, ap_unpK, ap_fIx, ap_ixK, o_eq, eqK_some, toP_str, ap_fSl, ap_slK1, ap_slK2, ap_pNo, ap_pSo, ap_pSoK, o_getD, oSetN_ref, setNC_dn, setNK_some, ap_gSubN, ap_gnK, ap_gnK2, ap_gnK3, o_seqT, R.bind_ok, List.length_cons, List.length_nil, Nat.zero_add, Nat.reduceAdd, List.getElem?_cons_zero, List.getElem?_cons_succ, List.set_cons_zero, List.set_cons_succ, Bool.false_eq_true, if_true, if_false, ap_lb_replay_1, ev_sl, ev_nd, ev2, lB, okW, qsB, wq_eq, hb', htt, hp, keyT_eTk, hpl, CodK.put, hput]
      · rw [htk, valK_put]
        show _ = (if t = t' then some pg else none).or _
        by_cases h : t' = t
        · subst h; simp
        · rw [if_neg h, if_neg (fun z => h z.symm)]
          exact hps t'
      · have := put_len (kvs := ps) (x := t) (v := pg)
        omega
  · have hb' : decide (e.w = sB) = false := decide_eq_false hb
    have hbe : ∀ t, begP t e = none := fun t => by
      cases e with
      | beg => exact absurd rfl hb
      | _ => rfl
    have hps' : PrOk (evs.take (j + 1)) ps := fun t => by rw [htk, hbe]; exact hps t
    have triv : step (evs.take j) (outs, vp) e = (outs, vp) → S[po]? = some (.dn c.w (kT.enc (mapV ePg ps))) ∧ PrOk (evs.take (j + 1)) ps ∧ S[o]? = some (.dn c.w (kT.enc (mapV eOu (step (evs.take j) (outs, vp) e).1))) ∧ S[v]? = some (.dn c.w (kK.enc (fVs (step (evs.take j) (outs, vp) e).2))) ∧ Fr S S (fun i => i = po ∨ i = o ∨ i = v) ∧ ps.length ≤ j + 1 ∧ (step (evs.take j) (outs, vp) e).1.length ≤ j + 1 ∧ (step (evs.take j) (outs, vp) e).2.length ≤ 12 * (j + 1) := fun hs => by
      rw [hs]
      exact ⟨hp, hps', ho, hv, Fr.refl _ _, by omega, by show outs.length ≤ _; omega, by show vp.length ≤ _; omega⟩
    by_cases hw : e.w = sC
    · cases e with
      | beg => exact absurd hw (by simp only [Ev.w]; decide)
      | gw => exact absurd hw (by simp only [Ev.w]; decide)
      | en => exact absurd hw (by simp only [Ev.w]; decide)
      | com t a d rs =>
        have hw' : decide ((Ev.com t a d rs).w = sC) = true := decide_eq_true hw
        have htt : (Ev.com t a d rs).t = t := rfl
        have hpt := hps t
        cases hlp : lastP (evs.take j) t with
        | none =>
          rw [hlp] at hpt
          have hstep : step (evs.take j) (outs, vp) (.com t a d rs) = (outs, vp) := by
            simp only [step]
            split
            · rw [hlp]
            · rfl
          refine ⟨some (.str (Ev.com t a d rs).w), some (eT t), f7, f8, f9, f10, f11, S, ps, ?_, triv hstep⟩
          simp only [ap_fVar, varK_some, ap_fC, ap_fBin, ap_binK, ap_fTest, ap_testK, ap_fAnd, ap_andK, ap_fSkip, ap_fSeq, ap_seqK_nx, ap_fIf, ap_ifK, ap_fAsg, ap_asgK, ap_asgK2, ap_gN, ap_gNil, ap_gCons, ap_gsK, ap_gUnp, ap_unpK, ap_fIx, ap_ixK, o_eq, eqK_some, toP_str, ap_fSl, ap_slK1, ap_slK2, ap_pNo, ap_pSo, ap_pSoK, o_getD, lookN_ref, lookNC_dn, o_inN, o_inNK, ap_fIxN, o_ixN, o_someMap, o_seqT, R.bind_ok, List.length_cons, List.length_nil, Nat.zero_add, Nat.reduceAdd, List.getElem?_cons_zero, List.getElem?_cons_succ, List.set_cons_zero, List.set_cons_succ, Bool.false_eq_true, if_true, if_false, Bool.not_false, ap_lb_replay_1, ev_sl, ev_nd, lB, lC, okW, qsB, qsC, wq_eq, hb', hw', htt, hp, keyT_eTk, CodK.val, mapV_val, hpt, Option.map_none, Option.isSome_none]
        | some pg =>
          rw [hlp] at hpt
          cases hval : valK outs t with
          | some x =>
            have hstep : step (evs.take j) (outs, vp) (.com t a d rs) = (outs, vp) := by simp only [step]; rw [if_neg (by rw [hval]; simp)]
            refine ⟨some (.str (Ev.com t a d rs).w), some (eT t), f7, f8, f9, f10, f11, S, ps, ?_, triv hstep⟩
            simp only [ap_fVar, varK_some, ap_fC, ap_fBin, ap_binK, ap_fNil, ap_fCons, ap_consK, ap_consK2, ap_fTest, ap_testK, ap_fAnd, ap_andK, ap_fSkip, ap_fSeq, ap_seqK_nx, ap_fIf, ap_ifK, ap_fAsg, ap_asgK, ap_asgK2, ap_gN, ap_gNil, ap_gCons, ap_gsK, ap_gUnp, ap_unpK, ap_fIx, ap_ixK, ap_fCall, ap_callK, o_eq, eqK_some, toP_str, ap_fIter, ap_fSl, ap_slK1, ap_slK2, ap_pNo, ap_pSo, ap_pSoK, o_getD, o_getDK, lookN_ref, lookNC_dn, o_inN, o_inNK, ap_fIxN, o_ixN, o_someMap, o_seqT, ap_fDComp, R.bind_ok, List.length_cons, List.length_nil, Nat.zero_add, Nat.reduceAdd, List.getElem?_cons_zero, List.getElem?_cons_succ, List.set_cons_zero, List.set_cons_succ, List.append_nil, Bool.false_eq_true, if_true, if_false, Nat.add_zero, Bool.not_true, ap_lb_replay_1, ev_sl, ev_nd, lB, lC, okW, qsB, qsC, wq_eq, hb', hw', htt, hp, ho, keyT_eTk, CodK.val, mapV_val, hpt, hval, Option.map_some, Option.isSome_some]
          | none =>
            have hpm : pg ∈ (evs.take j).filterMap (begP t) := List.mem_of_getLast? hlp
            obtain ⟨e', he', hb2⟩ := List.mem_filterMap.mp hpm
            have hpok : (∀ s ∈ pg, PyData.strOk s.key.2 = true) ∧ pg.length ≤ 12 := by
              have := ok.2 e' (List.mem_of_mem_take he')
              cases e' with
              | beg t' pg' =>
                have hb2 : (if t' = t then some pg' else none) = some pg := hb2
                split at hb2
                · cases hb2; exact this
                · cases hb2
              | _ => cases hb2
            have hstep : step (evs.take j) (outs, vp) (.com t a d rs) = (putKD outs t ((runP pg vp).1, (runP pg vp).2.1), putAll vp (runP pg vp).2.2) := by simp only [step]; rw [hval, if_pos rfl, hlp]
            rw [hstep]
            have hkl := keysS_len (pg := pg)
            have hko := keysof_eq c (S := S) (pg := pg) (by omega)
            have hvc := vals_comp c (S := S ++ [.dn c.w (kK.enc (fTr (keysS pg))), .lst (kK.es (keysS pg))]) (pg := pg) (vals := vp) (vl := v) (n := S.length + 1) (v0 := v0) (v1 := some (.ref po)) (v2 := some (.ref o)) (v4 := some (eEv (.com t a d rs))) (v5 := some (.str (Ev.com t a d rs).w)) (v6 := some (eT t)) (v7 := some (.tup (eSs pg))) (v8 := f8) (v9 := f9) (v10 := f10) (by rw [get_app]; rfl) (app_get hv) hpok.2
            simp only [List.append_assoc, List.cons_append, List.nil_append, List.length_append, List.length_cons, List.length_nil, Nat.reduceAdd, Nat.zero_add] at hvc
            generalize hS5 : S ++ [Cell.dn c.w (kK.enc (fTr (keysS pg))), .lst (kK.es (keysS pg)), .dn c.w (kK.enc (fVs (vals0 pg vp)))] = S5 at hvc
            have h5v : S5[S.length + 2]? = some (.dn c.w (kK.enc (fVs (vals0 pg vp)))) := by rw [← hS5, get_app]; rfl
            have hl5 : S5.length = S.length + 3 := by rw [← hS5, List.length_append]; rfl
            have hp5 : S5[po]? = some (.dn c.w (kT.enc (mapV ePg ps))) := by rw [← hS5]; exact app_get hp
            have ho5 : S5[o]? = some (.dn c.w (kT.enc (mapV eOu outs))) := by rw [← hS5]; exact app_get ho
            have hv5 : S5[v]? = some (.dn c.w (kK.enc (fVs vp))) := by rw [← hS5]; exact app_get hv
            have hpS : po < S.length := (List.getElem?_eq_some_iff.mp hp).1
            have hoS : o < S.length := (List.getElem?_eq_some_iff.mp ho).1
            have hvS : v < S.length := (List.getElem?_eq_some_iff.mp hv).1
            obtain ⟨S6, rp, bp, er, h6r, h6b, fr6, lr, lb⟩ := runprog_eq c (S := S5) (vs := vals0 pg vp) (vl := S.length + 2) h5v vals0_has (by omega)
            rw [run_vals0] at er h6r h6b
            have hp6 := fr6.get hp5 (fun z => z)
            have ho6 := fr6.get ho5 (fun z => z)
            have hv6 := fr6.get hv5 (fun z => z)
            have hpr : (runP pg vp).2.1.length ≤ 12 := Nat.le_trans runP_reads hpok.2
            have hcap : (eI (runP pg vp).2.1).length ≤ 100000 := by rw [eI_len]; omega
            have hol : (kT.enc (mapV eOu outs)).length < 100000 := by rw [CodK.enc_len, mapV_len]; omega
            have hop : putKD (mapV eOu outs) t (.tup [.bl (runP pg vp).1, .tup (eI (runP pg vp).2.1)]) = mapV eOu (putKD outs t ((runP pg vp).1, (runP pg vp).2.1)) := outs_put (x := ((runP pg vp).1, (runP pg vp).2.1))
            have hbo : bp ≠ o := by omega
            have hbv : bp ≠ v := by omega
            have hbp : bp ≠ po := by omega
            let S7 : Sto := S6.set o (.dn c.w (kT.enc (mapV eOu (putKD outs t ((runP pg vp).1, (runP pg vp).2.1)))))
            have hb7 : S7[bp]? = some (.dn c.w (kK.enc (fVs (runP pg vp).2.2))) := by show (S6.set o _)[bp]? = _; rw [List.getElem?_set_ne (fun z => hbo z.symm)]; exact h6b
            have hv7 : S7[v]? = some (.dn c.w (kK.enc (fVs vp))) := by show (S6.set o _)[v]? = _; rw [List.getElem?_set_ne hov]; exact hv6
            have hrl := runP_len (pg := pg) (v := vp)
            obtain ⟨f11', hpu⟩ := puts_loopP c (bp := bp) (vl := v) (b := (runP pg vp).2.2) (v := vp) (S := S7.set bp (.df c.w (kK.enc (fVs (runP pg vp).2.2)))) (v0 := v0) (v1 := some (.ref po)) (v2 := some (.ref o)) (v4 := some (eEv (.com t a d rs))) (v5 := some (.str (Ev.com t a d rs).w)) (v6 := some (eT t)) (v7 := some (.tup (eSs pg))) (v8 := some (.bl (runP pg vp).1)) (v9 := some (.ref rp)) f11 (set_get hb7) (by rw [List.getElem?_set_ne hbv]; exact hv7) hbv (by omega)
            have hkb : keysN (kK.enc (fVs (runP pg vp).2.2)) = kK.es ((runP pg vp).2.2.map (·.1)) := by rw [CodK.keys, fVs_keys]
            let S8 : Sto := ((S7.set bp (.df c.w (kK.enc (fVs (runP pg vp).2.2)))).set v (.dn c.w (kK.enc (fVs (putAll vp (runP pg vp).2.2))))).set bp (.dn c.w (kK.enc (fVs (runP pg vp).2.2)))
            have hth : ((S7.set bp (.df c.w (kK.enc (fVs (runP pg vp).2.2)))).set v (.dn c.w (kK.enc (fVs (putAll vp (runP pg vp).2.2)))))[bp]? = some (.df c.w (kK.enc (fVs (runP pg vp).2.2))) := by
              rw [List.getElem?_set_ne (fun z => hbv z.symm)]; exact set_get hb7
            have hvl8 : (putAll vp (runP pg vp).2.2).length ≤ 12 * (j + 1) := by
              have := puts_len (v := vp) (ks := (runP pg vp).2.2.map (·.1)) (g := vlV (runP pg vp).2.2)
              rw [List.length_map] at this
              show (putKs vp _ _).length ≤ _
              omega
            refine ⟨some (.str (Ev.com t a d rs).w), some (eT t), some (.tup (eSs pg)), some (.bl (runP pg vp).1), some (.ref rp), some (.ref bp), f11', S8, ps, ?_, ?_, hps', ?_, ?_, ?_, by omega, ?_, hvl8⟩
            · simp only [S7] at hb7 hv7 hpu hth
              simp only [ap_fVar, varK_some, ap_fC, ap_fBin, ap_binK, ap_fApp, ap_fNil, ap_fCons, ap_consK, ap_consK2, ap_fTup, ap_tupK, ap_fTest, ap_testK, ap_fAnd, ap_andK, ap_fSkip, ap_fSeq, ap_seqK_nx, ap_fIf, ap_ifK, ap_fAsg, ap_asgK, ap_asgK2, ap_gN, ap_gNil, ap_gCons, ap_gsK, ap_gUnp, ap_unpK, ap_fIx, ap_ixK, ap_fCall, ap_callK, o_eq, eqK_some, toP_str, ap_fFor, ap_forK_fix, ap_fIter, ap_iterK_ref, iterC_lst, ap_fSl, ap_slK1, ap_slK2, ap_pNo, ap_pSo, ap_pSoK, o_getD, o_getDK, o_seqR, o_seqC, lookN_ref, lookNC_dn, o_inN, o_inNK, ap_fIxN, o_ixN, oSetN_ref, setNC_dn, setNK_some, ap_gSubN, ap_gnK, ap_gnK2, ap_gnK3, o_someMap, o_tupR, o_tupC, o_seqT, ap_fIce, ap_iceM, ap_iceC, ap_thawR, ap_thawC, ap_fIterN, ap_itNK, ap_itNC, ap_fDComp, ap_dcFK_live, R.bind_ok, R.nox_ok, List.length_cons, List.length_nil, Nat.zero_add, Nat.reduceAdd, List.getElem?_cons_zero, List.getElem?_cons_succ, List.set_cons_zero, List.set_cons_succ, List.append_nil, Bool.false_eq_true, if_true, if_false, Nat.add_zero, Nat.reduceLeDiff, Bool.not_true, Bool.not_false, get_app, ap_lb_replay_1, ev_sl, ev_nd, lB, lC, okW, qsB, qsC, wq_eq, hb', hw', htt, hp, ho, keyT_eTk, CodK.val, mapV_val, hpt, hval, ePg_def, Option.map_none, Option.isSome_none, Option.map_some, Option.isSome_some, hko, ap_fDComp, ap_dcFK_live, hvc, er, h6r, hcap, ho6, hol, CodK.put, hop, ap_fIce, ap_iceM, hb7, ap_thawR, hpu, hth, hkb, set_get hb7, S7, S8]
            · show (List.set _ bp _)[po]? = _
              rw [List.getElem?_set_ne hbp, List.getElem?_set_ne (fun z => hpv z.symm), List.getElem?_set_ne hbp]
              show (S6.set o _)[po]? = _
              rw [List.getElem?_set_ne (fun z => hpo z.symm)]
              exact hp6
            · show (List.set _ bp _)[o]? = _
              rw [List.getElem?_set_ne hbo, List.getElem?_set_ne (fun z => hov z.symm), List.getElem?_set_ne hbo]
              exact set_get ho6
            · show (List.set _ bp _)[v]? = _
              rw [List.getElem?_set_ne hbv]
              exact set_get (by rw [List.getElem?_set_ne hbv]; exact hv7)
            · have f5 : Fr S S5 (fun i => i = po ∨ i = o ∨ i = v) := by rw [← hS5]; exact Fr.app S _ _
              have f6 : Fr S S6 (fun i => i = po ∨ i = o ∨ i = v) := f5.trans (fr6.mono fun _ z => z.elim)
              have f7 : Fr S S7 (fun i => i = po ∨ i = o ∨ i = v) := f6.trans (Fr.set (.inr (.inl rfl)))
              refine f7.new (((Fr.set (P := fun i => i = bp ∨ i = v) (.inl rfl)).trans (Fr.set (.inr rfl))).trans (Fr.set (.inl rfl))) fun i hi z => ?_
              rcases z with z | z
              · omega
              · exact .inr (.inr z)
            · have := put_len (kvs := outs) (x := t) (v := ((runP pg vp).1, (runP pg vp).2.1))
              show (putKD outs t ((runP pg vp).1, (runP pg vp).2.1)).length ≤ j + 1
              omega
    · have hw' : decide (e.w = sC) = false := decide_eq_false hw
      have hstep : step (evs.take j) (outs, vp) e = (outs, vp) := by
        cases e with
        | com => exact absurd rfl hw
        | _ => rfl
      refine ⟨some (.str e.w), some (eT e.t), f7, f8, f9, f10, f11, S, ps, ?_, triv hstep⟩
      simp only [ap_fVar, varK_some, ap_fC, ap_fBin, ap_binK, ap_fTest, ap_testK, ap_fAnd, ap_andK, ap_fSkip, ap_fSeq, ap_seqK_nx, ap_fIf, ap_ifK, ap_fAsg, ap_asgK, ap_asgK2, ap_gN, ap_gNil, ap_gCons, ap_gsK, ap_gUnp, ap_unpK, ap_fIx, ap_ixK, o_eq, eqK_some, toP_str, ap_fSl, ap_slK1, ap_slK2, ap_pNo, ap_pSo, ap_pSoK, o_getD, lookN_ref, o_inN, ap_fIxN, o_ixN, o_seqT, R.bind_ok, List.length_cons, List.length_nil, Nat.zero_add, Nat.reduceAdd, List.getElem?_cons_zero, List.getElem?_cons_succ, List.set_cons_zero, List.set_cons_succ, Bool.false_eq_true, if_true, if_false, ap_lb_replay_1, ev_sl, ev_nd, lB, lC, okW, qsB, qsC, wq_eq, hb', hw']
end Qk35

namespace Qk35
open PySem L2 RF
theorem prep_eq (c : CA) {l : Nat} {evs : List Ev} {S : Sto} (ok : okEvs evs) (hl : S[l]? = some (.lst (evs.map eEv))) :
    ∃ S1 o v, F_replay c [.ref l] S = .ok (.tup [.ref o, .ref v]) S1 ∧ S1[o]? = some (.dn c.w (kT.enc (mapV eOu (outsOf evs)))) ∧ S1[v]? = some (.dn c.w (kK.enc (fVs (rep evs evs.length).2))) ∧ Fr S S1 (fun _ => False) ∧ S.length ≤ o ∧ S.length ≤ v ∧ o ≠ v := by
  have hlt : l < S.length := (List.getElem?_eq_some_iff.mp hl).1
  have hn60 := ok.1
  let P : Nat → Lc → Sto → Prop := fun j e S1 => ∃ ps f4 f5 f6 f7 f8 f9 f10 f11, e = [some (.ref l), some (.ref S.length), some (.ref (S.length + 1)), some (.ref (S.length + 2)), f4, f5, f6, f7, f8, f9, f10, f11] ∧ S1[S.length]? = some (.dn c.w (kT.enc (mapV ePg ps))) ∧ PrOk (evs.take j) ps ∧ S1[S.length + 1]? = some (.dn c.w (kT.enc (mapV eOu (rep evs j).1))) ∧ S1[S.length + 2]? = some (.dn c.w (kK.enc (fVs (rep evs j).2))) ∧ Fr S S1 (fun _ => False) ∧ ps.length ≤ j ∧ (rep evs j).1.length ≤ j ∧ (rep evs j).2.length ≤ 12 * j
  have step : ∀ j e S1 d, (evs.map eEv)[j]? = some d → P j e S1 → ∃ e1 S2, Turn1 (gN 4) (lb_replay_1 c) d e S1 e1 S2 ∧ P (j + 1) e1 S2 := by
    rintro j e S1 d hd ⟨ps, f4, f5, f6, f7, f8, f9, f10, f11, rfl, h1, hps, h2, h3, h4, z0, h5, h6⟩
    rw [List.getElem?_map] at hd
    obtain ⟨e, he, rfl⟩ := Option.map_eq_some_iff.mp hd
    obtain ⟨g5, g6, g7, g8, g9, g10, g11, S2, ps', k1, k2, k3, k4, k5, k6, k7, k8, k9⟩ := prep_turn c (po := S.length) (o := S.length + 1) (v := S.length + 2) ok he h1 h2 h3 (by omega) (by omega) (by omega) hps z0 h5 h6 (some (.ref l)) f5 f6 f7 f8 f9 f10 f11
    refine ⟨_, S2, ?_, ps', some (eEv e), g5, g6, g7, g8, g9, g10, g11, rfl, k2, k3, ?_, ?_, h4.new k6 (fun i hi z => by rcases z with z | z | z <;> omega), k7, ?_, ?_⟩
    · unfold Turn1
      simp only [ap_gN, R.bind_ok, List.set_cons_zero, List.set_cons_succ]
      exact k1
    · rw [rep_succ he]; exact k4
    · rw [rep_succ he]; exact k5
    · rw [rep_succ he]; exact k8
    · rw [rep_succ he]; exact k9
  obtain ⟨e1, S1, h, ps, f4, f5, f6, f7, f8, f9, f10, f11, rfl, q0, _, q1, q2, q4, _⟩ := loopL_ok (n := l) P (fun j e S1 hp => by obtain ⟨_, _, _, _, _, _, _, _, _, _, _, _, _, _, h4, _⟩ := hp; exact h4.get hl (fun z => z)) step (e := [some (.ref l), some (.ref S.length), some (.ref (S.length + 1)), some (.ref (S.length + 2)), none, none, none, none, none, none, none, none]) (S := S ++ [.dn c.w [], .dn c.w [], .dn c.w []]) ⟨[], none, none, none, none, none, none, none, none, rfl, by rw [get_app0]; rfl, fun t => rfl, by rw [get_app]; rfl, by rw [get_app]; rfl, Fr.app _ _ _, Nat.le_refl _, Nat.le_refl _, by show 0 ≤ _; omega⟩
  rw [List.length_map] at q1 q2
  refine ⟨S1, S.length + 1, S.length + 2, ?_, q1, q2, q4, by omega, by omega, by omega⟩
  unfold F_replay b_replay
  simp only [ap_fVar, varK_some, ap_fNil, ap_fCons, ap_consK, ap_consK2, ap_fTup, ap_tupK, ap_fSeq, ap_seqK_nx, ap_fRet, ap_retK, ap_fAsg, ap_asgK, ap_asgK2, ap_gN, ap_fnF, ap_fnK_rt, ap_fFor, ap_forK_live, ap_fIter, ap_iterK_ref, iterC_lst, ap_fDictN0, R.bind_ok, List.map_cons, List.map_nil, List.length_cons, List.length_nil, List.cons_append, List.nil_append, Nat.zero_add, Nat.reduceAdd, Nat.reduceSub, List.replicate_succ, List.replicate_zero, List.getElem?_cons_zero, List.getElem?_cons_succ, List.set_cons_zero, List.set_cons_succ, if_true, Nat.reduceLeDiff, List.append_assoc, List.length_append, app_get hl, h]
def pW (w : Str) (t : Tr) : D → Bool
  | .tup (.str z :: .tup [.int a, .int b] :: _) => decide (z = w) && decide ((a, b) = t)
  | _ => false
end Qk35

namespace Qk35
open PySem L2 RF
def Dr (n : Nat) (S S1 : Sto) : Prop := (∃ s, S1[n]? = some (stC s)) ∧ Fr S S1 (fun i => i = n)
theorem Dr.trans {n : Nat} {S S1 S2 : Sto} (a : Dr n S S1) (b : Dr n S1 S2) : Dr n S S2 := ⟨b.1, a.2.trans b.2⟩
theorem Dr.mk1 {n : Nat} {S : Sto} {s s1 : Sd} (h : S[n]? = some (stC s)) : Dr n S (S.set n (stC s1)) := ⟨⟨_, set_get h⟩, Fr.set (P := fun i => i = n) rfl⟩
theorem Dr.app {n : Nat} {S S1 T : Sto} (h : Dr n S S1) : Dr n S (S1 ++ T) := ⟨let ⟨s, h⟩ := h.1; ⟨s, app_get h⟩, h.2.trans (Fr.app _ _ _)⟩
theorem Dr.rfl' {n : Nat} {S : Sto} (h : ∃ s, S[n]? = some (stC s)) : Dr n S S := ⟨h, Fr.refl _ _⟩
theorem nx_d (c : CA) {n : Nat} {S : Sto} {k : Int} (h0 : 0 < k) (h1 : k < 1000000) (h : ∃ s, S[n]? = some (stC s)) : ∃ (a : Int) (S1 : Sto), F_law_next c [.ref n, .int k] S = .ok (.int a) S1 ∧ Dr n S S1 ∧ 0 ≤ a ∧ a < k := by
  obtain ⟨s, h⟩ := h
  have e := next_eq c (n := n) (S := S) h0 (by omega : k < 1267650600228229401496703205376)
  rw [h, fT_nextC] at e
  exact ⟨_, _, e, Dr.mk1 h, dNext_lo h0 s, dNext_hi h0 s⟩
theorem atI_mem {α : Type} {l : List α} {x : Int} (h0 : 0 ≤ x) (h1 : x < l.length) : ∃ d, atI l x = some d ∧ d ∈ l := by
  rw [atI_nn h0]
  have h : x.toNat < l.length := by omega
  exact ⟨l[x.toNat], List.getElem?_eq_getElem h, List.getElem_mem h⟩
theorem prog_turn (c : CA) {n l : Nat} {S : Sto} {acc : List D} {v3 : Option D} (e4 e5 e6 : Option D) (h : ∃ s, S[n]? = some (stC s)) (hln : l ≠ n) (hacc : S[l]? = some (.lst acc)) (hl : acc.length < 1000) :
    ∃ d f4 f5 f6 S1, lb_law_program_0 c [some (.ref n), some (.int 2), some (.ref l), v3, e4, e5, e6] S = .ok (.nx [some (.ref n), some (.int 2), some (.ref l), v3, f4, f5, f6]) S1 ∧ S1[l]? = some (.lst (acc ++ [eS d])) ∧ (∃ s, S1[n]? = some (stC s)) ∧ Fr S S1 (fun i => i = n ∨ i = l) ∧ PyData.strOk d.key.2 = true := by
  obtain ⟨a, S1, q1, d1, _, _⟩ := nx_d c (k := 2) (by decide) (by decide) h
  obtain ⟨b, S2, q2, d2, b0, b1⟩ := nx_d c (k := 3) (by decide) (by decide) d1.1
  obtain ⟨kd, S3, q3, d3, k0, k1⟩ := nx_d c (k := 8) (by decide) (by decide) d2.1
  have hz : acc.length < 100000 := by omega
  have D3 := (d1.trans d2).trans d3
  have g3 := D3.2.get hacc hln
  obtain ⟨w, hw, hwm⟩ := atI_mem (l := [D.str ⟨#[97]⟩, .str ⟨#[98]⟩, .str ⟨#[99]⟩]) b0 b1
  have hws : ∃ z, w = .str z ∧ PyData.strOk z = true := by
    simp only [List.mem_cons, List.not_mem_nil, or_false] at hwm
    rcases hwm with rfl | rfl | rfl <;> exact ⟨_, rfl, by decide +kernel⟩
  obtain ⟨z, rfl, hzs⟩ := hws
  have e9 : eK (a, z) = D.tup [.int a, .str z] := rfl
  have fin : ∀ {S4 : Sto} {x : D}, Dr n S3 S4 → (S4.set l (.lst (acc ++ [x])))[l]? = some (.lst (acc ++ [x])) ∧ (∃ s, (S4.set l (.lst (acc ++ [x])))[n]? = some (stC s)) ∧ Fr S (S4.set l (.lst (acc ++ [x]))) (fun i => i = n ∨ i = l) := fun {S4 x} d4 => by
    have g4 := d4.2.get g3 hln
    refine ⟨set_get g4, ?_, (((D3.trans d4).2.mono fun i z => .inl z)).trans (Fr.set (.inr rfl))⟩
    obtain ⟨s, hs⟩ := d4.1
    exact ⟨s, by rw [List.getElem?_set_ne hln]; exact hs⟩
  by_cases p1 : kd < 3
  · have e8' : eS (.rd (a, z)) = .tup [.str ⟨#[114, 101, 97, 100]⟩, .tup [.int a, .str z]] := rfl
    obtain ⟨r1, r2, r3⟩ := fin (x := eS (.rd (a, z))) (Dr.rfl' d3.1)
    refine ⟨.rd (a, z), some (.tup [.int a, .str z]), some (.int kd), e6, _, ?_, r1, r2, r3, hzs⟩
    rw [e8']
    simp only [ap_fVar, varK_some, ap_fC, ap_fBin, ap_binK, ap_fNil, ap_fCons, ap_consK, ap_consK2, ap_fTup, ap_tupK, ap_fTest, ap_testK, ap_fSeq, ap_seqK_nx, ap_fIf, ap_ifK, ap_fDrop, ap_dropK, ap_fAsg, ap_asgK, ap_asgK2, ap_gN, ap_fIx, ap_ixK, isDict_tup, getL_tup, retO_some, ap_fCall, ap_callK, o_sub, o_lt, o_eq, eqK_some, eqv_int, toP_int, ap_fBm, ap_bmK, tyIn_ref, tyInC_lst, o_getD, o_append, o_appC, R.bind_ok, R.nox_ok, List.length_cons, List.length_nil, Nat.zero_add, Nat.reduceAdd, List.getElem?_cons_zero, List.getElem?_cons_succ, List.set_cons_zero, List.set_cons_succ, List.append_nil, Bool.false_eq_true, if_true, if_false, decide_true, Nat.add_zero, Nat.reduceLeDiff, beq_iff_eq, ap_lb_law_program_0, q1, q2, hw, q3, p1, g3, hz]
  · by_cases p2 : kd = 3
    · have e8' : eS (.st (a, z)) = .tup [.str ⟨#[115, 116, 111, 114, 101]⟩, .tup [.int a, .str z]] := rfl
      obtain ⟨r1, r2, r3⟩ := fin (x := eS (.st (a, z))) (Dr.rfl' d3.1)
      refine ⟨.st (a, z), some (.tup [.int a, .str z]), some (.int kd), e6, _, ?_, r1, r2, r3, hzs⟩
      rw [e8']
      subst p2
      simp only [ap_fVar, varK_some, ap_fC, ap_fBin, ap_binK, ap_fNil, ap_fCons, ap_consK, ap_consK2, ap_fTup, ap_tupK, ap_fTest, ap_testK, ap_fSeq, ap_seqK_nx, ap_fIf, ap_ifK, ap_fDrop, ap_dropK, ap_fAsg, ap_asgK, ap_asgK2, ap_gN, ap_fIx, ap_ixK, isDict_tup, getL_tup, retO_some, ap_fCall, ap_callK, o_sub, o_lt, o_eq, eqK_some, eqv_int, toP_int, ap_fBm, ap_bmK, tyIn_ref, tyInC_lst, o_getD, o_append, o_appC, R.bind_ok, R.nox_ok, List.length_cons, List.length_nil, Nat.zero_add, Nat.reduceAdd, List.getElem?_cons_zero, List.getElem?_cons_succ, List.set_cons_zero, List.set_cons_succ, List.append_nil, Bool.false_eq_true, if_true, if_false, decide_true, decide_false, Nat.add_zero, Nat.reduceLeDiff, Int.reduceLT, Int.reduceNeg, Int.reduceSub, beq_iff_eq, ap_lb_law_program_0, q1, q2, hw, q3, g3, hz]
    · obtain ⟨m, S4, q4, d4, _, _⟩ := nx_d c (k := 25) (by decide) (by decide) d3.1
      have g4 := d4.2.get g3 hln
      have hstep : ∃ w d, atI [D.str ⟨#[112, 117, 116]⟩, .str ⟨#[97, 100, 100]⟩, .str ⟨#[97, 100, 100]⟩, .str ⟨#[110, 101, 101, 100]⟩] (kd - 4) = some w ∧ eS d = .tup [w, .tup [.int a, .str z], .int (m - 12)] ∧ d.key = (a, z) := by
        have : kd = 4 ∨ kd = 5 ∨ kd = 6 ∨ kd = 7 := by omega
        rcases this with rfl | rfl | rfl | rfl
        · exact ⟨_, .put (a, z) (m - 12), atI_0, rfl, rfl⟩
        · exact ⟨_, .add (a, z) (m - 12), atI_1, rfl, rfl⟩
        · exact ⟨_, .add (a, z) (m - 12), atI_2, rfl, rfl⟩
        · exact ⟨_, .need (a, z) (m - 12), atI_3, rfl, rfl⟩
      obtain ⟨w, d, hw2, hd, hkey⟩ := hstep
      obtain ⟨r1, r2, r3⟩ := fin (x := eS d) d4
      refine ⟨d, some (.tup [.int a, .str z]), some (.int kd), some w, _, ?_, r1, r2, r3, by rw [hkey]; exact hzs⟩
      rw [hd]
      simp only [ap_fVar, varK_some, ap_fC, ap_fBin, ap_binK, ap_fNil, ap_fCons, ap_consK, ap_consK2, ap_fTup, ap_tupK, ap_fTest, ap_testK, ap_fSeq, ap_seqK_nx, ap_fIf, ap_ifK, ap_fDrop, ap_dropK, ap_fAsg, ap_asgK, ap_asgK2, ap_gN, ap_fIx, ap_ixK, isDict_tup, getL_tup, retO_some, ap_fCall, ap_callK, o_sub, o_lt, o_eq, eqK_some, eqv_int, toP_int, ap_fBm, ap_bmK, tyIn_ref, tyInC_lst, o_getD, o_append, o_appC, R.bind_ok, R.nox_ok, List.length_cons, List.length_nil, Nat.zero_add, Nat.reduceAdd, List.getElem?_cons_zero, List.getElem?_cons_succ, List.set_cons_zero, List.set_cons_succ, List.append_nil, Bool.false_eq_true, if_true, if_false, decide_true, decide_false, Nat.add_zero, Nat.reduceLeDiff, beq_iff_eq, ap_lb_law_program_0, q1, q2, hw, q3, p1, p2, q4, hw2, g3, g4, hz]
theorem program_d (c : CA) {n : Nat} {S : Sto} (h : ∃ s, S[n]? = some (stC s)) : ∃ pg S1, F_law_program c [.ref n, .int 2] S = .ok (ePg pg) S1 ∧ Dr n S S1 ∧ (∀ s ∈ pg, PyData.strOk s.key.2 = true) ∧ pg.length ≤ 12 := by
  have hn : n < S.length := by obtain ⟨s, h⟩ := h; exact (List.getElem?_eq_some_iff.mp h).1
  obtain ⟨m, S1, q1, d1, m0, m1⟩ := nx_d c (k := 12) (by decide) (by decide) ((Dr.rfl' h).app (T := [.lst []])).1
  have g1 : S1[S.length]? = some (.lst (eSs [])) := d1.2.get (by rw [get_app0]; rfl) (by omega)
  generalize hM : (1 + m).toNat = M
  let P : Nat → Lc → Sto → Prop := fun j e S2 => ∃ pg f3 f4 f5 f6, e = [some (.ref n), some (.int 2), some (.ref S.length), f3, f4, f5, f6] ∧ S2[S.length]? = some (.lst (eSs pg)) ∧ (∃ s, S2[n]? = some (stC s)) ∧ Fr S S2 (fun i => i = n) ∧ (∀ s ∈ pg, PyData.strOk s.key.2 = true) ∧ pg.length = j
  have step : ∀ j e S2 d, (rngD 0 M)[j]? = some d → P j e S2 → ∃ e1 S3, Turn1 (gN 3) (lb_law_program_0 c) d e S2 e1 S3 ∧ P (j + 1) e1 S3 := by
    rintro j e S2 d hd ⟨pg, f3, f4, f5, f6, rfl, k1, k2, k3, k4, k5⟩
    obtain ⟨hj, rfl⟩ := rngD_get hd
    obtain ⟨st, g4, g5, g6, S3, r1, r2, r3, r4, r5⟩ := prog_turn c (n := n) (l := S.length) (v3 := some (.int (0 + (j : Nat)))) f4 f5 f6 k2 (by omega) k1 (by unfold eSs; rw [List.length_map]; omega)
    refine ⟨_, S3, ?_, pg ++ [st], some (.int (0 + (j : Nat))), g4, g5, g6, rfl, by rw [r2]; unfold eSs; rw [List.map_append]; rfl, r3, k3.new r4 (fun i hi z => by rcases z with z | z <;> omega), ?_, by rw [List.length_append, List.length_singleton, k5]⟩
    · unfold Turn1
      simp only [ap_gN, R.bind_ok, List.set_cons_zero, List.set_cons_succ]
      exact r1
    · intro s hs
      rcases List.mem_append.mp hs with hs | hs
      · exact k4 s hs
      · rw [List.mem_singleton.mp hs]; exact r5
  obtain ⟨e1, S2, h2, pg, f3, f4, f5, f6, rfl, k1, k2, k3, k4, k5⟩ := loopX_ok P step (e := [some (.ref n), some (.int 2), some (.ref S.length), none, none, none, none]) (S := S1) ⟨[], none, none, none, none, rfl, g1, d1.1, (Fr.app S _ _).trans d1.2, fun s hs => (by cases hs), rfl⟩
  rw [rngD_len] at k5
  have hr : -4611686018427387904 ≤ 1 + m ∧ 1 + m < 4611686018427387904 := by omega
  have hcap : (eSs pg).length ≤ 100000 := by unfold eSs; rw [List.length_map]; omega
  refine ⟨pg, S2, ?_, ⟨k2, k3⟩, k4, by omega⟩
  unfold F_law_program b_law_program
  simp only [ap_fVar, varK_some, ap_fC, ap_fBin, ap_binK, ap_fApp, ap_fNil, ap_fCons, ap_consK, ap_consK2, ap_fLst, ap_lstK, ap_fSeq, ap_seqK_nx, ap_fRet, ap_retK, ap_fAsg, ap_asgK, ap_asgK2, ap_gN, ap_fCall, ap_callK, ap_fnF, ap_fnK_rt, o_add, ap_fFor, ap_forK_fix, ap_fRng1, ap_rng1K, o_seqR, o_seqC, o_tupR, o_tupC, R.bind_ok, R.nox_ok, List.map_cons, List.map_nil, List.length_cons, List.length_nil, List.cons_append, List.nil_append, Nat.zero_add, Nat.reduceAdd, Nat.reduceSub, List.replicate_succ, List.replicate_zero, List.getElem?_cons_zero, List.getElem?_cons_succ, List.set_cons_zero, List.set_cons_succ, List.append_nil, if_true, Nat.add_zero, Nat.reduceLeDiff, Int.reduceNeg, Int.reducePow, and_self, q1, hr, hM, h2, k1, hcap, ePg_def]
theorem reads_comp (c : CA) {n : Nat} {v0 v1 v2 v3 v4 v6 v7 v8 : Option D} (xs : List D) : ∀ (S : Sto) (acc : List Int), (∃ s, S[n]? = some (stC s)) → acc.length + xs.length ≤ 1000 →
    ∃ rs S1 p, compX 9 fYes (ce_law_events_0 c) [v0, v1, v2, v3, v4, some (.ref n), v6, v7, v8, none] xs (eI acc) S = .ok (.ref p) S1 ∧ S1[p]? = some (.lst (eI rs)) ∧ Dr n S S1 ∧ rs.length = acc.length + xs.length := by
  induction xs with
  | nil =>
    intro S acc h hl
    exact ⟨acc, S ++ [.lst (eI acc)], S.length, rfl, get_app0, (Dr.rfl' h).app, by simp⟩
  | cons d xs ih =>
    intro S acc h hl
    rw [List.length_cons] at hl
    obtain ⟨a, S1, q1, d1, _, _⟩ := nx_d c (k := 7) (by decide) (by decide) h
    obtain ⟨rs, S2, p, e2, g2, d2, l2⟩ := ih S1 (acc ++ [a - 3]) d1.1 (by rw [List.length_append, List.length_singleton]; omega)
    refine ⟨rs, S2, p, ?_, g2, d1.trans d2, by rw [l2, List.length_append, List.length_singleton, List.length_cons]; omega⟩
    have hz : (eI acc).length < 100000 := by rw [eI_len]; omega
    simp only [ap_fVar, varK_some, ap_fC, ap_fBin, ap_binK, ap_fNil, ap_fCons, ap_consK, ap_consK2, ap_fCall, ap_callK, o_sub, compX_cons, ap_compTK, ap_compEK, ap_fYes, R.bind_ok, R.nox_ok, List.length_cons, List.length_nil, Nat.zero_add, Nat.reduceAdd, List.getElem?_cons_zero, List.getElem?_cons_succ, List.set_cons_zero, List.set_cons_succ, List.append_nil, if_true, Nat.add_zero, ap_ce_law_events_0, q1, hz, eI_snoc]
    exact e2
noncomputable def ifE (c : CA) : SF := fIf (fAnd (fTest (fBin oNeL (fVar 3) (fLst fNil))) (fTest (fBin oGt (fCall (F_law_next c) 2 [] (fCons (fVar 5) (fCons (fC (.int 3)) fNil))) (fC (.int 0))))) (fAsg (fIx (fVar 3) (fCall (F_law_next c) 2 [] (fCons (fVar 5) (fCons (fApp oLen (fCons (fVar 3) fNil)) fNil)))) (gN 6)) fSkip
noncomputable def rsE (c : CA) : SF := fSeq (fAsg (fCall (F_law_next c) 2 [] (fCons (fVar 5) (fCons (fC (.int 10)) fNil))) (gN 7)) (fIf (fOr (fTest (fBin oLt (fVar 7) (fC (.int 3)))) (fTest (fBin oEqL (fVar 3) (fLst fNil)))) (fSeq (fDrop (fBm "list" mAppend (fVar 3) (fCons (fVar 6) fNil))) (fDrop (fBm "list" mAppend (fVar 2) (fCons (fTup (fCons (fC (.str ⟨#[98, 101, 103, 97, 110]⟩)) (fCons (fVar 6) (fCons (fCall (F_law_program c) 2 [] (fCons (fVar 5) (fCons (fC (.int 2)) fNil))) fNil)))) fNil)))) (fIf (fTest (fBin oLt (fVar 7) (fC (.int 8)))) (fSeq (fAsg (fApp oTuple (fCons (fComp (fRng1 (fCons (fCall (F_law_next c) 2 [] (fCons (fVar 5) (fCons (fC (.int 4)) fNil))) fNil)) 9 fYes (ce_law_events_0 c)) fNil)) (gN 8)) (fDrop (fBm "list" mAppend (fVar 2) (fCons (fTup (fCons (fC (.str ⟨#[99, 111, 109, 109, 105, 116, 116, 101, 100]⟩)) (fCons (fVar 6) (fCons (fBin oAdd (fC (.int 1)) (fCall (F_law_next c) 2 [] (fCons (fVar 5) (fCons (fC (.int 3)) fNil)))) (fCons (fBin oGt (fCall (F_law_next c) 2 [] (fCons (fVar 5) (fCons (fC (.int 3)) fNil))) (fC (.int 0))) (fCons (fVar 8) fNil)))))) fNil)))) (fIf (fTest (fBin oEq (fVar 7) (fC (.int 8)))) (fDrop (fBm "list" mAppend (fVar 2) (fCons (fTup (fCons (fC (.str ⟨#[103, 97, 118, 101, 32, 119, 97, 121]⟩)) (fCons (fVar 6) (fCons (fBin oAdd (fC (.int 1)) (fCall (F_law_next c) 2 [] (fCons (fVar 5) (fCons (fC (.int 3)) fNil)))) fNil)))) fNil))) (fDrop (fBm "list" mAppend (fVar 2) (fCons (fTup (fCons (fC (.str ⟨#[101, 110, 100, 101, 100]⟩)) (fCons (fVar 6) fNil))) fNil))))))
theorem lbE (c : CA) (env : Lc) (S : Sto) : lb_law_events_0 c env S = (fSeq (fAsg (fCall (F_law_stream c) 2 [] (fCons (fIx (fVar 0) (fVar 4)) (fCons (fVar 4) fNil))) (gN 5)) (fSeq (fAsg (fTup (fCons (fBin oAdd (fC (.int 1)) (fCall (F_law_next c) 2 [] (fCons (fVar 5) (fCons (fC (.int 4)) fNil)))) (fCons (fCall (F_law_next c) 2 [] (fCons (fVar 5) (fCons (fC (.int 2)) fNil))) fNil))) (gN 6)) (fSeq (ifE c) (rsE c)))) env S := (rfl)
theorem ap_ifE (c : CA) (env : Lc) (S : Sto) : ifE c env S = (fIf (fAnd (fTest (fBin oNeL (fVar 3) (fLst fNil))) (fTest (fBin oGt (fCall (F_law_next c) 2 [] (fCons (fVar 5) (fCons (fC (.int 3)) fNil))) (fC (.int 0))))) (fAsg (fIx (fVar 3) (fCall (F_law_next c) 2 [] (fCons (fVar 5) (fCons (fApp oLen (fCons (fVar 3) fNil)) fNil)))) (gN 6)) fSkip) env S := (rfl)
theorem ap_rsE (c : CA) (env : Lc) (S : Sto) : rsE c env S = (fSeq (fAsg (fCall (F_law_next c) 2 [] (fCons (fVar 5) (fCons (fC (.int 10)) fNil))) (gN 7)) (fIf (fOr (fTest (fBin oLt (fVar 7) (fC (.int 3)))) (fTest (fBin oEqL (fVar 3) (fLst fNil)))) (fSeq (fDrop (fBm "list" mAppend (fVar 3) (fCons (fVar 6) fNil))) (fDrop (fBm "list" mAppend (fVar 2) (fCons (fTup (fCons (fC (.str ⟨#[98, 101, 103, 97, 110]⟩)) (fCons (fVar 6) (fCons (fCall (F_law_program c) 2 [] (fCons (fVar 5) (fCons (fC (.int 2)) fNil))) fNil)))) fNil)))) (fIf (fTest (fBin oLt (fVar 7) (fC (.int 8)))) (fSeq (fAsg (fApp oTuple (fCons (fComp (fRng1 (fCons (fCall (F_law_next c) 2 [] (fCons (fVar 5) (fCons (fC (.int 4)) fNil))) fNil)) 9 fYes (ce_law_events_0 c)) fNil)) (gN 8)) (fDrop (fBm "list" mAppend (fVar 2) (fCons (fTup (fCons (fC (.str ⟨#[99, 111, 109, 109, 105, 116, 116, 101, 100]⟩)) (fCons (fVar 6) (fCons (fBin oAdd (fC (.int 1)) (fCall (F_law_next c) 2 [] (fCons (fVar 5) (fCons (fC (.int 3)) fNil)))) (fCons (fBin oGt (fCall (F_law_next c) 2 [] (fCons (fVar 5) (fCons (fC (.int 3)) fNil))) (fC (.int 0))) (fCons (fVar 8) fNil)))))) fNil)))) (fIf (fTest (fBin oEq (fVar 7) (fC (.int 8)))) (fDrop (fBm "list" mAppend (fVar 2) (fCons (fTup (fCons (fC (.str ⟨#[103, 97, 118, 101, 32, 119, 97, 121]⟩)) (fCons (fVar 6) (fCons (fBin oAdd (fC (.int 1)) (fCall (F_law_next c) 2 [] (fCons (fVar 5) (fCons (fC (.int 3)) fNil)))) fNil)))) fNil))) (fDrop (fBm "list" mAppend (fVar 2) (fCons (fTup (fCons (fC (.str ⟨#[101, 110, 100, 101, 100]⟩)) (fCons (fVar 6) fNil))) fNil))))))) env S := (rfl)
structure EvS (el nl : Nat) (evs : List Ev) (ts : List Tr) (m : Nat) (S : Sto) : Prop where
  e : S[el]? = some (.lst (evs.map eEv))
  n : S[nl]? = some (.lst (ts.map eT))
  ok : ∀ e ∈ evs, okEv e
  le : evs.length ≤ m
  ln : ts.length ≤ m
theorem ev_turn (c : CA) {el nl k : Nat} {x : Int} {ns : List Int} {evs : List Ev} {ts : List Tr} {m : Nat} {S : Sto} (hx : atI (ns.map D.int) (k : Int) = some (.int x)) (hk : k < 900) (hne : el ≠ nl) (hS : EvS el nl evs ts m S) (hm : m < 60) (v1 f5 f6 f7 f8 f9 : Option D) :
    ∃ g5 g6 g7 g8 g9 S1 evs' ts', lb_law_events_0 c [some (.rl (ns.map D.int)), v1, some (.ref el), some (.ref nl), some (.int (k : Nat)), f5, f6, f7, f8, f9] S = .ok (.nx [some (.rl (ns.map D.int)), v1, some (.ref el), some (.ref nl), some (.int (k : Nat)), g5, g6, g7, g8, g9]) S1 ∧ EvS el nl evs' ts' (m + 1) S1 ∧ Fr S S1 (fun i => i = el ∨ i = nl) := by
  obtain ⟨s, hs⟩ := stream_eq c x (k : Nat) S (by omega)
  have lel : el < S.length := (List.getElem?_eq_some_iff.mp hS.e).1
  have lnl : nl < S.length := (List.getElem?_eq_some_iff.mp hS.n).1
  have g0 : ∃ s', (S ++ [stC s])[S.length]? = some (stC s') := ⟨s, by rw [get_app0]; rfl⟩
  obtain ⟨a, S1, q1, d1, _, _⟩ := nx_d c (k := 4) (by decide) (by decide) g0
  obtain ⟨b, S2, q2, d2, _, _⟩ := nx_d c (k := 2) (by decide) (by decide) d1.1
  have F2 : Fr S S2 (fun _ => False) := (Fr.app S [stC s] _).new (d1.trans d2).2 (fun i hi z => by omega)
  have hst2 := d2.1
  have e2 : S2[nl]? = some (.lst (ts.map eT)) := F2.get hS.n (fun z => z)
  have hnl3 := neL_nil (S := S2 ++ [.lst []]) (n := nl) (m := S2.length) (app_get e2) get_app0
  -- the name
  have name : ∃ t S3 f6' , Fr S S3 (fun _ => False) ∧ (∃ s, S3[S.length]? = some (stC s)) ∧
      (ifE c [some (.rl (ns.map D.int)), v1, some (.ref el), some (.ref nl), some (.int (k : Nat)), some (.ref S.length), some (eT (1 + a, b)), f7, f8, f9] S2 = .ok (.nx [some (.rl (ns.map D.int)), v1, some (.ref el), some (.ref nl), some (.int (k : Nat)), some (.ref S.length), some f6', f7, f8, f9]) S3) ∧ f6' = eT t := by
    cases hem : ts.map eT with
    | nil =>
      rw [hem] at hnl3
      refine ⟨(1 + a, b), S2 ++ [.lst []], eT (1 + a, b), F2.trans (Fr.app _ _ _), let ⟨s, h⟩ := hst2; ⟨s, app_get h⟩, ?_, rfl⟩
      simp only [ap_fVar, varK_some, ap_fC, ap_fBin, ap_binK, ap_fApp, ap_fNil, ap_fCons, ap_consK, ap_consK2, ap_fLst, ap_lstK, ap_fTest, ap_testK, ap_fAnd, ap_andK, ap_fSkip, ap_fIf, ap_ifK, ap_fAsg, ap_fIx, ap_ixK, isDict_ref, ap_fCall, ap_callK, o_len, lenD_ref, R.bind_ok, List.length_cons, List.length_nil, Nat.zero_add, Nat.reduceAdd, List.getElem?_cons_zero, List.getElem?_cons_succ, List.append_nil, Bool.false_eq_true, if_true, if_false, Nat.add_zero, Nat.reduceLeDiff, Bool.not_true, ap_ifE, hnl3, List.isEmpty_nil]
    | cons y ys =>
      have hem' : (ts.map eT).isEmpty = false := by rw [hem]; rfl
      rw [hem'] at hnl3
      obtain ⟨u, S3, q3, d3, u0, u1⟩ := nx_d c (k := 3) (by decide) (by decide) (show ∃ s, (S2 ++ [Cell.lst []])[S.length]? = some (stC s) from let ⟨s, h⟩ := hst2; ⟨s, app_get h⟩)
      have F3 : Fr S S3 (fun _ => False) := (F2.trans (Fr.app S2 [Cell.lst []] _)).new d3.2 (fun i hi z => by omega)
      have e3 := F3.get hS.n (fun z => z)
      by_cases hu : 0 < u
      · have hpos : (0 : Int) < ((ts.map eT).length : Nat) := by rw [hem, List.length_cons]; omega
        have hsm : (((ts.map eT).length : Nat) : Int) < 1000000 := by rw [List.length_map]; have := hS.ln; omega
        obtain ⟨i, S4, q4, d4, i0, i1⟩ := nx_d c hpos hsm d3.1
        obtain ⟨w, hw, hwm⟩ := atI_mem (l := ts.map eT) i0 i1
        obtain ⟨t, ht, rfl⟩ := List.mem_map.mp hwm
        have F4 : Fr S S4 (fun _ => False) := F3.new d4.2 (fun i hi z => by omega)
        have e4 := F4.get hS.n (fun z => z)
        have hcap : (ts.map eT).length ≤ 100000 := by rw [List.length_map]; have := hS.ln; omega
        refine ⟨t, S4, eT t, F4, d4.1, ?_, rfl⟩
        rw [← hem] at *
        simp only [ap_fVar, varK_some, ap_fC, ap_fBin, ap_binK, ap_fApp, ap_fNil, ap_fCons, ap_consK, ap_consK2, ap_fLst, ap_lstK, ap_fTest, ap_testK, ap_fAnd, ap_andK, ap_fSkip, ap_fIf, ap_ifK, ap_fAsg, ap_asgK, ap_asgK2, ap_gN, ap_fIx, ap_ixK, isDict_ref, isDictC_lst, getL_ref, getLC_lst, retO_some, ap_fCall, ap_callK, o_gt, o_len, lenK_some, lenD_ref, lenC_lst, o_getD, lookD_ref, R.bind_ok, R.nox_ok, List.length_cons, List.length_nil, Nat.zero_add, Nat.reduceAdd, List.getElem?_cons_zero, List.getElem?_cons_succ, List.set_cons_zero, List.set_cons_succ, List.append_nil, Bool.false_eq_true, if_true, if_false, decide_true, Nat.add_zero, Nat.reduceLeDiff, Bool.not_false, ap_ifE, hnl3, q3, hu, e3, hcap, q4, e4, hw]
      · refine ⟨(1 + a, b), S3, eT (1 + a, b), F3, d3.1, ?_, rfl⟩
        simp only [ap_fVar, varK_some, ap_fC, ap_fBin, ap_binK, ap_fApp, ap_fNil, ap_fCons, ap_consK, ap_consK2, ap_fLst, ap_lstK, ap_fTest, ap_testK, ap_fAnd, ap_andK, ap_fSkip, ap_fIf, ap_ifK, ap_fAsg, ap_fIx, ap_ixK, isDict_ref, ap_fCall, ap_callK, o_gt, o_len, lenD_ref, R.bind_ok, R.nox_ok, List.length_cons, List.length_nil, Nat.zero_add, Nat.reduceAdd, List.getElem?_cons_zero, List.getElem?_cons_succ, List.append_nil, Bool.false_eq_true, if_true, if_false, decide_false, Nat.add_zero, Nat.reduceLeDiff, Bool.not_false, ap_ifE, hnl3, q3, hu]
  obtain ⟨t, S3, f6', F3, hst3, nm, rfl⟩ := name
  obtain ⟨kd, S4, q4, d4, k0, k1⟩ := nx_d c (k := 10) (by decide) (by decide) hst3
  have F4 : Fr S S4 (fun _ => False) := F3.new d4.2 (fun i hi z => by omega)
  have hT : D.tup [.int (1 + a), .int b] = eT (1 + a, b) := rfl
  have hcapE : (evs.map eEv).length < 100000 := by rw [List.length_map]; have := hS.le; omega
  have hcapN : (ts.map eT).length < 100000 := by rw [List.length_map]; have := hS.ln; omega
  have fin : ∀ {S5 : Sto} {e : Ev}, Fr S S5 (fun _ => False) → okEv e → EvS el nl (evs ++ [e]) ts (m + 1) (S5.set el (.lst (evs.map eEv ++ [eEv e]))) ∧ Fr S (S5.set el (.lst (evs.map eEv ++ [eEv e]))) (fun i => i = el ∨ i = nl) := fun {S5 e} F5 he => by
    have g := F5.get hS.e (fun z => z)
    refine ⟨⟨by rw [set_get g, List.map_append]; rfl, by rw [List.getElem?_set_ne hne]; exact F5.get hS.n (fun z => z), ?_, by rw [List.length_append, List.length_singleton]; have := hS.le; omega, by have := hS.ln; omega⟩, (F5.mono fun _ z => z.elim).trans (Fr.set (.inl rfl))⟩
    intro x hx
    rcases List.mem_append.mp hx with hx | hx
    · exact hS.ok x hx
    · rw [List.mem_singleton.mp hx]; exact he
  have e4 := F4.get hS.n (fun z => z)
  have ee4 := F4.get hS.e (fun z => z)
  have hnl4 := eqL_nil (S := S4 ++ [.lst []]) (n := nl) (m := S4.length) (app_get e4) get_app0
  -- the event
  have rest : ∃ g7 g8 g9 S1 evs' ts', rsE c [some (.rl (ns.map D.int)), v1, some (.ref el), some (.ref nl), some (.int (k : Nat)), some (.ref S.length), some (eT t), f7, f8, f9] S3 = .ok (.nx [some (.rl (ns.map D.int)), v1, some (.ref el), some (.ref nl), some (.int (k : Nat)), some (.ref S.length), some (eT t), g7, g8, g9]) S1 ∧ EvS el nl evs' ts' (m + 1) S1 ∧ Fr S S1 (fun i => i = el ∨ i = nl) := by
    have begin_ : ∀ S5 : Sto, Fr S S5 (fun _ => False) → (∃ s, S5[S.length]? = some (stC s)) → ∃ pg S6, F_law_program c [.ref S.length, .int 2] (S5.set nl (.lst (ts.map eT ++ [eT t]))) = .ok (ePg pg) S6 ∧ (S5.set nl (.lst (ts.map eT ++ [eT t])))[el]? = some (.lst (evs.map eEv)) ∧ S6[el]? = some (.lst (evs.map eEv)) ∧ EvS el nl (evs ++ [.beg t pg]) (ts ++ [t]) (m + 1) (S6.set el (.lst (evs.map eEv ++ [eEv (.beg t pg)]))) ∧ Fr S (S6.set el (.lst (evs.map eEv ++ [eEv (.beg t pg)]))) (fun i => i = el ∨ i = nl) := by
      intro S5 F5 h5
      have g5 := F5.get hS.n (fun z => z)
      have h5' : ∃ s, (S5.set nl (.lst (ts.map eT ++ [eT t])))[S.length]? = some (stC s) := by
        obtain ⟨s, h⟩ := h5
        exact ⟨s, by rw [List.getElem?_set_ne (by omega)]; exact h⟩
      obtain ⟨pg, S6, p1, p2, p3, p4⟩ := program_d c h5'
      have hel : S6[el]? = some (.lst (evs.map eEv)) := p2.2.get (by rw [List.getElem?_set_ne (fun z => hne z.symm)]; exact F5.get hS.e (fun z => z)) (by omega)
      have hnl : S6[nl]? = some (.lst (ts.map eT ++ [eT t])) := p2.2.get (set_get g5) (by omega)
      refine ⟨pg, S6, p1, by rw [List.getElem?_set_ne (fun z => hne z.symm)]; exact F5.get hS.e (fun z => z), hel, ⟨by rw [set_get hel, List.map_append]; rfl, by rw [List.getElem?_set_ne hne, hnl, List.map_append]; rfl, ?_, by rw [List.length_append, List.length_singleton]; have := hS.le; omega, by rw [List.length_append, List.length_singleton]; have := hS.ln; omega⟩, ?_⟩
      · intro x hx
        rcases List.mem_append.mp hx with hx | hx
        · exact hS.ok x hx
        · rw [List.mem_singleton.mp hx]; exact ⟨p3, p4⟩
      · have f1 : Fr S (S5.set nl (.lst (ts.map eT ++ [eT t]))) (fun i => i = el ∨ i = nl) := (F5.mono fun _ z => z.elim).trans (Fr.set (.inr rfl))
        exact (f1.new p2.2 (fun i hi z => by omega)).trans (Fr.set (.inl rfl))
    by_cases c1 : kd < 3
    · obtain ⟨pg, S6, p1, p0, p2, p3, p4⟩ := begin_ S4 F4 d4.1
      refine ⟨some (.int kd), f8, f9, _, _, _, ?_, p3, p4⟩
      have hv : eEv (.beg t pg) = .tup [.str ⟨#[98, 101, 103, 97, 110]⟩, eT t, ePg pg] := rfl
      rw [hv]
      simp only [ap_fVar, varK_some, ap_fC, ap_fBin, ap_binK, ap_fApp, ap_fNil, ap_fCons, ap_consK, ap_consK2, ap_fTup, ap_fLst, ap_tupK, ap_lstK, ap_fTest, ap_testK, ap_fOr, ap_orK, ap_fSeq, ap_seqK_nx, ap_fIf, ap_ifK, ap_fDrop, ap_dropK, ap_fAsg, ap_asgK, ap_asgK2, ap_gN, ap_fCall, ap_callK, o_lt, o_eq, eqK_some, eqv_int, toP_int, ap_fRng1, ap_fComp, ap_fBm, ap_bmK, tyIn_ref, tyInC_lst, o_append, o_appC, R.bind_ok, R.nox_ok, List.length_cons, List.length_nil, Nat.zero_add, Nat.reduceAdd, List.getElem?_cons_zero, List.getElem?_cons_succ, List.set_cons_zero, List.set_cons_succ, List.append_nil, if_true, decide_eq_true_eq, decide_true, Nat.add_zero, Nat.reduceLeDiff, beq_iff_eq, ap_rsE, q4, c1, e4, hcapN, p1, p0, p2, hcapE]
    · have F5 : Fr S (S4 ++ [Cell.lst []]) (fun _ => False) := F4.trans (Fr.app _ _ _)
      have h5 : ∃ s, (S4 ++ [Cell.lst []])[S.length]? = some (stC s) := let ⟨s, h⟩ := d4.1; ⟨s, app_get h⟩
      have e5 := F5.get hS.n (fun z => z)
      have ee5 := F5.get hS.e (fun z => z)
      cases hem : (ts.map eT).isEmpty with
      | true =>
        rw [hem] at hnl4
        obtain ⟨pg, S6, p1, p0, p2, p3, p4⟩ := begin_ _ F5 h5
        refine ⟨some (.int kd), f8, f9, _, _, _, ?_, p3, p4⟩
        have hv : eEv (.beg t pg) = .tup [.str ⟨#[98, 101, 103, 97, 110]⟩, eT t, ePg pg] := rfl
        rw [hv]
        generalize hS5 : S4 ++ [Cell.lst []] = S5 at *
        simp only [ap_fVar, varK_some, ap_fC, ap_fBin, ap_binK, ap_fApp, ap_fNil, ap_fCons, ap_consK, ap_consK2, ap_fTup, ap_fLst, ap_tupK, ap_lstK, ap_fTest, ap_testK, ap_fOr, ap_orK, ap_fSeq, ap_seqK_nx, ap_fIf, ap_ifK, ap_fDrop, ap_dropK, ap_fAsg, ap_asgK, ap_asgK2, ap_gN, ap_fCall, ap_callK, o_lt, o_eq, eqK_some, eqv_int, toP_int, ap_fRng1, ap_fComp, ap_fBm, ap_bmK, tyIn_ref, tyInC_lst, o_append, o_appC, R.bind_ok, R.nox_ok, List.length_cons, List.length_nil, Nat.zero_add, Nat.reduceAdd, List.getElem?_cons_zero, List.getElem?_cons_succ, List.set_cons_zero, List.set_cons_succ, List.append_nil, Bool.false_eq_true, if_true, if_false, decide_eq_true_eq, decide_true, decide_false, Nat.add_zero, Nat.reduceLeDiff, beq_iff_eq, ap_rsE, q4, c1, hS5, hnl4, e5, hcapN, p1, p0, p2, hcapE]
      | false =>
        rw [hem] at hnl4
        generalize hS5 : S4 ++ [Cell.lst []] = S5 at *
        by_cases c2 : kd < 8
        · obtain ⟨r, S6, q6, d6, r0, r1⟩ := nx_d c (k := 4) (by decide) (by decide) h5
          obtain ⟨rs, S7, p, q7, g7, d7, l7⟩ := reads_comp c (n := S.length) (v0 := some (.rl (ns.map D.int))) (v1 := v1) (v2 := some (.ref el)) (v3 := some (.ref nl)) (v4 := some (.int (k : Nat))) (v6 := some (eT t)) (v7 := some (.int kd)) (v8 := f8) (rngD 0 r.toNat) S6 [] d6.1 (by rw [List.length_nil, rngD_len]; omega)
          obtain ⟨a8, S8, q8, d8, _, _⟩ := nx_d c (k := 3) (by decide) (by decide) d7.1
          obtain ⟨b8, S9, q9, d9, _, _⟩ := nx_d c (k := 3) (by decide) (by decide) d8.1
          have F9 : Fr S S9 (fun _ => False) := F5.new (((d6.2.trans d7.2).trans d8.2).trans d9.2) (fun i hi z => by omega)
          have ee9 := F9.get hS.e (fun z => z)
          have F7 : Fr S S7 (fun _ => False) := F5.new (d6.2.trans d7.2) (fun i hi z => by omega)
          have ee7 := F7.get hS.e (fun z => z)
          have hcr : (eI rs).length ≤ 100000 := by rw [eI_len, l7, rngD_len, List.length_nil]; omega
          have hrr : -4611686018427387904 ≤ r ∧ r < 4611686018427387904 := by omega
          obtain ⟨p3, p4⟩ := fin (e := .com t (1 + a8) (decide (0 < b8)) rs) F9 (by show rs.length ≤ 1000; rw [l7, rngD_len, List.length_nil]; omega)
          refine ⟨some (.int kd), some (.tup (eI rs)), f9, _, _, _, ?_, p3, p4⟩
          have hv : eEv (.com t (1 + a8) (decide (0 < b8)) rs) = .tup [.str ⟨#[99, 111, 109, 109, 105, 116, 116, 101, 100]⟩, eT t, .int (1 + a8), .bl (decide (0 < b8)), .tup (eI rs)] := rfl
          rw [hv]
          have q7' : compX 9 fYes (ce_law_events_0 c) [some (.rl (ns.map D.int)), v1, some (.ref el), some (.ref nl), some (.int (k : Nat)), some (.ref S.length), some (eT t), some (.int kd), f8, none] (rngD 0 r.toNat) [] S6 = .ok (.ref p) S7 := q7
          simp only [ap_fVar, varK_some, ap_fC, ap_fBin, ap_binK, ap_fApp, ap_fNil, ap_fCons, ap_consK, ap_consK2, ap_fTup, ap_fLst, ap_tupK, ap_lstK, ap_fTest, ap_testK, ap_fOr, ap_orK, ap_fSeq, ap_seqK_nx, ap_fIf, ap_ifK, ap_fDrop, ap_dropK, ap_fAsg, ap_asgK, ap_asgK2, ap_gN, ap_fCall, ap_callK, o_add, o_lt, o_gt, o_eq, eqK_some, eqv_int, toP_int, ap_fRng1, ap_rng1K, ap_fComp, ap_compK_fix, ap_fBm, ap_bmK, tyIn_ref, tyInC_lst, o_append, o_appC, o_seqR, o_seqC, o_tupR, o_tupC, R.bind_ok, R.nox_ok, List.length_cons, List.length_nil, Nat.zero_add, Nat.reduceAdd, List.getElem?_cons_zero, List.getElem?_cons_succ, List.set_cons_zero, List.set_cons_succ, List.append_nil, Bool.false_eq_true, if_true, if_false, decide_true, decide_false, Nat.add_zero, Nat.reduceLeDiff, Int.reduceNeg, Int.reducePow, and_self, beq_iff_eq, ap_rsE, q4, c1, c2, hS5, hnl4, q6, hrr, q7', g7, hcr, q8, q9, ee7, ee9, hcapE]
        · by_cases c3 : kd = 8
          · obtain ⟨a8, S8, q8, d8, _, _⟩ := nx_d c (k := 3) (by decide) (by decide) h5
            have F8 : Fr S S8 (fun _ => False) := F5.new d8.2 (fun i hi z => by omega)
            have ee8 := F8.get hS.e (fun z => z)
            obtain ⟨p3, p4⟩ := fin (e := .gw t (1 + a8)) F8 trivial
            refine ⟨some (.int kd), f8, f9, _, _, _, ?_, p3, p4⟩
            have hv : eEv (.gw t (1 + a8)) = .tup [.str ⟨#[103, 97, 118, 101, 32, 119, 97, 121]⟩, eT t, .int (1 + a8)] := rfl
            rw [hv]
            subst c3
            simp only [ap_fVar, varK_some, ap_fC, ap_fBin, ap_binK, ap_fApp, ap_fNil, ap_fCons, ap_consK, ap_consK2, ap_fTup, ap_fLst, ap_tupK, ap_lstK, ap_fTest, ap_testK, ap_fOr, ap_orK, ap_fSeq, ap_seqK_nx, ap_fIf, ap_ifK, ap_fDrop, ap_dropK, ap_fAsg, ap_asgK, ap_asgK2, ap_gN, ap_fCall, ap_callK, o_add, o_lt, o_eq, eqK_some, eqv_int, toP_int, ap_fRng1, ap_fComp, ap_fBm, ap_bmK, tyIn_ref, tyInC_lst, o_append, o_appC, R.bind_ok, R.nox_ok, List.length_cons, List.length_nil, Nat.zero_add, Nat.reduceAdd, List.getElem?_cons_zero, List.getElem?_cons_succ, List.set_cons_zero, List.set_cons_succ, List.append_nil, Bool.false_eq_true, if_true, if_false, decide_true, decide_false, Nat.add_zero, Nat.reduceLeDiff, beq_iff_eq, ap_rsE, q4, c1, c2, hS5, hnl4, q8, ee5, ee8, hcapE]
          · obtain ⟨p3, p4⟩ := fin (e := .en t) F5 trivial
            refine ⟨some (.int kd), f8, f9, _, _, _, ?_, p3, p4⟩
            have hv : eEv (.en t) = .tup [.str ⟨#[101, 110, 100, 101, 100]⟩, eT t] := rfl
            rw [hv]
            simp only [ap_fVar, varK_some, ap_fC, ap_fBin, ap_binK, ap_fApp, ap_fNil, ap_fCons, ap_consK, ap_consK2, ap_fTup, ap_fLst, ap_tupK, ap_lstK, ap_fTest, ap_testK, ap_fOr, ap_orK, ap_fSeq, ap_seqK_nx, ap_fIf, ap_ifK, ap_fDrop, ap_dropK, ap_fAsg, ap_asgK, ap_asgK2, ap_gN, ap_fCall, ap_callK, o_lt, o_eq, eqK_some, eqv_int, toP_int, ap_fRng1, ap_fComp, ap_fBm, ap_bmK, tyIn_ref, tyInC_lst, o_append, o_appC, R.bind_ok, R.nox_ok, List.length_cons, List.length_nil, Nat.zero_add, Nat.reduceAdd, List.getElem?_cons_zero, List.getElem?_cons_succ, List.set_cons_zero, List.set_cons_succ, List.append_nil, Bool.false_eq_true, if_true, if_false, decide_true, decide_false, Nat.add_zero, Nat.reduceLeDiff, beq_iff_eq, ap_rsE, q4, c1, c2, c3, hS5, hnl4, ee5, hcapE]
  obtain ⟨g7, g8, g9, S5, evs', ts', h1, h2, h3⟩ := rest
  refine ⟨some (.ref S.length), some (eT t), g7, g8, g9, S5, evs', ts', ?_, h2, h3⟩
  rw [lbE]
  simp only [ap_fVar, varK_some, ap_fC, ap_fBin, ap_binK, ap_fNil, ap_fCons, ap_consK, ap_consK2, ap_fTup, ap_tupK, ap_fSeq, ap_seqK_nx, ap_fAsg, ap_asgK, ap_asgK2, ap_gN, ap_fIx, ap_ixK, isDict_rl, getL_rl, retO_some, ap_fCall, ap_callK, o_add, o_getD, R.bind_ok, R.nox_ok, List.length_cons, List.length_nil, Nat.zero_add, Nat.reduceAdd, List.getElem?_cons_zero, List.getElem?_cons_succ, List.set_cons_zero, List.set_cons_succ, List.append_nil, Bool.false_eq_true, if_true, if_false, Nat.add_zero, Nat.reduceLeDiff, hx, hs, q1, q2, hT, nm, h1]
end Qk35

namespace Qk35
open PySem L2 RF
theorem n0j {j : Nat} : (0 : Int) + (j : Int) = (j : Int) := Int.zero_add _
theorem events_eq (c : CA) {ns : List Int} {S : Sto} (hn : ns.length ≤ 63) : ∃ evs S1 el, F_law_events c [.rl (ns.map D.int), .int 0] S = .ok (.ref el) S1 ∧ S1[el]? = some (.lst (evs.map eEv)) ∧ okEvs evs ∧ S.length ≤ el := by
  obtain ⟨M, hM, hM2⟩ : ∃ M : Nat, (if (51 : Int) < (ns.length : Int) then 51 else (ns.length : Int)) = (M : Int) ∧ M ≤ ns.length ∧ M ≤ 51 := by
    split
    · exact ⟨51, rfl, by omega, by omega⟩
    · exact ⟨ns.length, rfl, by omega, by omega⟩
  generalize hR : (M : Int).toNat = RN
  have hR2 : RN ≤ 51 ∧ RN ≤ ns.length := by omega
  have hR3 : ((M : Int) - 0).toNat = RN := by omega
  let P : Nat → Lc → Sto → Prop := fun j e S1 => ∃ evs ts f4 f5 f6 f7 f8 f9, e = [some (.rl (ns.map D.int)), some (.int 0), some (.ref S.length), some (.ref (S.length + 1)), f4, f5, f6, f7, f8, f9] ∧ EvS S.length (S.length + 1) evs ts j S1
  have step : ∀ j e S1 d, (rngD 0 RN)[j]? = some d → P j e S1 → ∃ e1 S2, Turn1 (gN 4) (lb_law_events_0 c) d e S1 e1 S2 ∧ P (j + 1) e1 S2 := by
    rintro j e S1 d hd ⟨evs, ts, f4, f5, f6, f7, f8, f9, rfl, h1⟩
    obtain ⟨hj, rfl⟩ := rngD_get hd
    have hlt : j < ns.length := by omega
    have hx : atI (ns.map D.int) ((j : Nat) : Int) = some (.int (ns[j]'hlt)) := by
      rw [atI_nn (by omega), List.getElem?_map, show (((j : Nat) : Int)).toNat = j by omega, List.getElem?_eq_getElem hlt]; rfl
    obtain ⟨g5, g6, g7, g8, g9, S2, evs', ts', k1, k2, _⟩ := ev_turn c hx (by omega) (by omega) h1 (by omega) (some (.int 0)) f5 f6 f7 f8 f9
    refine ⟨_, S2, ?_, evs', ts', some (.int ((j : Nat) : Int)), g5, g6, g7, g8, g9, rfl, k2⟩
    unfold Turn1
    simp only [ap_gN, R.bind_ok, List.set_cons_zero, List.set_cons_succ, n0j]
    exact k1
  obtain ⟨e1, S1, h, evs, ts, f4, f5, f6, f7, f8, f9, rfl, q⟩ := loopX_ok P step (e := [some (.rl (ns.map D.int)), some (.int 0), some (.ref S.length), some (.ref (S.length + 1)), none, none, none, none, none, none]) (S := S ++ [.lst [], .lst []]) ⟨[], [], none, none, none, none, none, none, rfl, ⟨by rw [get_app0]; rfl, by rw [get_app]; rfl, fun e h => (by cases h), Nat.le_refl _, Nat.le_refl _⟩⟩
  have hle := q.le
  rw [rngD_len] at hle
  refine ⟨evs, S1, S.length, ?_, q.e, ⟨by omega, q.ok⟩, Nat.le_refl _⟩
  have hcap : (ns.map D.int).length ≤ 100000 := by rw [List.length_map]; omega
  have hr : (-4611686018427387904 : Int) ≤ (M : Int) ∧ (M : Int) < 4611686018427387904 := by omega
  unfold F_law_events b_law_events
  simp only [ap_fVar, varK_some, ap_fC, ap_fApp, ap_fNil, ap_fCons, ap_consK, ap_consK2, ap_fLst, ap_lstK, ap_fSeq, ap_seqK_nx, ap_fRet, ap_retK, ap_fAsg, ap_asgK, ap_asgK2, ap_gN, ap_fnF, ap_fnK_rt, o_min2, o_len, lenK_some, lenD_rl, ap_fFor, ap_forK_fix, ap_fRng2, ap_rng2K, R.bind_ok, List.map_cons, List.map_nil, List.length_cons, List.length_nil, List.cons_append, List.nil_append, Nat.zero_add, Nat.reduceAdd, Nat.reduceSub, List.replicate_succ, List.replicate_zero, List.getElem?_cons_zero, List.getElem?_cons_succ, List.set_cons_zero, List.set_cons_succ, if_true, Nat.reduceLeDiff, Int.reduceLT, Int.reduceLE, Int.reduceNeg, Int.reducePow, and_self, List.append_assoc, List.length_append, List.length_map, hM, hr, hR, hR3, Int.sub_zero, h]
theorem prog_of {evs : List Ev} (ok : okEvs evs) {j : Nat} {t : Tr} {pg : List Stp} (h : lastP (evs.take j) t = some pg) : (∀ s ∈ pg, PyData.strOk s.key.2 = true) ∧ pg.length ≤ 12 := by
  have hpm : pg ∈ (evs.take j).filterMap (begP t) := List.mem_of_getLast? h
  obtain ⟨e', he', hb2⟩ := List.mem_filterMap.mp hpm
  have := ok.2 e' (List.mem_of_mem_take he')
  cases e' with
  | beg t' pg' =>
    have hb2 : (if t' = t then some pg' else none) = some pg := hb2
    split at hb2
    · cases hb2; exact this
    · cases hb2
  | _ => cases hb2
theorem ev_gd {e : Ev} (h : okEv e) : gd 15 (eEv e) = true := by
  cases e with
  | beg t pg =>
    refine gd_tup (n := 14) fun x hx => ?_
    simp only [List.mem_cons, List.not_mem_nil, or_false] at hx
    rcases hx with rfl | rfl | rfl
    · exact gd_s qsB
    · exact gd_T
    · refine gd_tup (n := 13) fun y hy => ?_
      obtain ⟨s, hs, rfl⟩ := List.mem_map.mp hy
      exact gd_stp (h.1 s hs)
  | com t a d rs =>
    refine gd_tup (n := 14) fun x hx => ?_
    simp only [List.mem_cons, List.not_mem_nil, or_false] at hx
    rcases hx with rfl | rfl | rfl | rfl | rfl
    · exact gd_s qsC
    · exact gd_T
    · exact gd_i
    · exact gd_b
    · exact gd_eI
  | gw t a =>
    refine gd_tup (n := 14) fun x hx => ?_
    simp only [List.mem_cons, List.not_mem_nil, or_false] at hx
    rcases hx with rfl | rfl | rfl
    · exact gd_s qsG
    · exact gd_T
    · exact gd_i
  | en t =>
    refine gd_tup (n := 14) fun x hx => ?_
    simp only [List.mem_cons, List.not_mem_nil, or_false] at hx
    rcases hx with rfl | rfl
    · exact gd_s qsE
    · exact gd_T
end Qk35

namespace Qk35
open PySem L2 RF
theorem n22 : (((2 : Nat) : Int) == 2) = true := by decide
theorem listT_lst {S : Sto} {n : Nat} {xs : List D} : listTC S n (some (.lst xs)) = oList [.ref n] S := (rfl)
theorem kv_gd {S : Sto} {kvs : List (NestedKey × D)} (h : ∀ p ∈ kvs, gd 15 p.2 = true) : eqKV S kvs kvs = true := eqKV_gd fun p hp => by
  obtain ⟨d, h1, h2⟩ := gd_toP 15 p.2 (h p hp)
  exact ⟨d, h1 S 20 (by omega), h2⟩
theorem outs_kv {S : Sto} {outs : Outs} : eqKV S (kT.enc (mapV eOu outs)) (kT.enc (mapV eOu outs)) = true := kv_gd fun p hp => by
  unfold CodK.enc mapV at hp
  rw [List.map_map] at hp
  obtain ⟨q, _, rfl⟩ := List.mem_map.mp hp
  exact gd_tup (n := 14) fun x hx => by
    simp only [List.mem_cons, List.not_mem_nil, or_false] at hx
    rcases hx with rfl | rfl
    · exact gd_b
    · exact gd_eI
theorem vals_kv {S : Sto} {vs : Vals2} : eqKV S (kK.enc (fVs vs)) (kK.enc (fVs vs)) = true := kv_gd fun p hp => by
  unfold CodK.enc fVs at hp
  rw [List.map_map] at hp
  obtain ⟨q, _, rfl⟩ := List.mem_map.mp hp
  exact gd_i
theorem rep_lens {evs : List Ev} (ok : okEvs evs) : ∀ j, (rep evs j).1.length ≤ j ∧ (rep evs j).2.length ≤ 12 * j
  | 0 => ⟨Nat.le_refl _, Nat.le_refl _⟩
  | j + 1 => by
    have ih := rep_lens ok j
    cases he : evs[j]? with
    | none =>
      have : rep evs (j + 1) = rep evs j := by
        show (match evs[j]? with | some e => step (evs.take j) (rep evs j) e | none => rep evs j) = _
        rw [he]
      rw [this]
      omega
    | some e =>
      rw [rep_succ he]
      cases e with
      | com t a d rs =>
        simp only [step]
        split
        · split
          · rename_i pg hlp
            have h1 := put_len (kvs := (rep evs j).1) (x := t) (v := ((runP pg (rep evs j).2).1, (runP pg (rep evs j).2).2.1))
            have h2 := puts_len (g := vlV (runP pg (rep evs j).2).2.2) (ks := (runP pg (rep evs j).2).2.2.map (·.1)) (v := (rep evs j).2)
            have h3 := runP_len (pg := pg) (v := (rep evs j).2)
            have h4 := (prog_of ok hlp).2
            rw [List.length_map] at h2
            unfold putAll
            constructor
            · show (putKD (rep evs j).1 t _).length ≤ j + 1
              omega
            · show (putKs _ _ _).length ≤ _
              omega
          · omega
        · omega
      | _ => simp only [step]; omega
/-- what is asked twice -/
theorem told_turn (c : CA) {l g o v : Nat} {evs : List Ev} {S : Sto} (ok : okEvs evs) (hl : S[l]? = some (.lst (evs.map eEv))) (hg : S[g]? = some (.lst (evs.map eEv))) (ho : S[o]? = some (.dn c.w (kT.enc (mapV eOu (outsOf evs))))) (hv : S[v]? = some (.dn c.w (kK.enc (fVs (rep evs evs.length).2)))) (v0 v5 v6 : Option D) :
    ∃ f6 S1, lb_law_0 c [v0, some (.ref l), some (.ref g), some (.ref o), some (.ref v), v5, v6] S = .ok (.nx [v0, some (.ref l), some (.ref g), some (.ref o), some (.ref v), v5, f6]) S1 ∧ Fr S S1 (fun _ => False) := by
  obtain ⟨S1, a, b, h1, h2, h3, fr, la, lb, hab⟩ := prep_eq c ok hg
  have hl1 := fr.get hl (fun z => z)
  have hg1 := fr.get hg (fun z => z)
  have ho1 := fr.get ho (fun z => z)
  have hv1 := fr.get hv (fun z => z)
  have hn60 := ok.1
  have hls := rep_lens ok evs.length
  have e1 := o_eqN (neg := true) h2 ho1 outs_kv
  have e2 := o_eqN (neg := true) h3 hv1 vals_kv
  obtain ⟨qs, q4, q5, q6⟩ := gds (xs := evs.map eEv) (fun x hx => by obtain ⟨e, he, rfl⟩ := List.mem_map.mp hx; exact ev_gd (ok.2 e he))
  have x1 := o_setX (x := ⟨#[120]⟩) h2 (by rw [CodK.enc_len, mapV_len]; unfold outsOf; omega)
  have h3' : (S1.set a Cell.jk)[b]? = some (.dn c.w (kK.enc (fVs (rep evs evs.length).2))) := by rw [List.getElem?_set_ne hab]; exact h3
  have x2 := o_setX (x := ⟨#[120]⟩) h3' (by rw [CodK.enc_len, fVs_len]; omega)
  refine ⟨some (.tup [.ref a, .ref b]), (S1.set a .jk).set b .jk, ?_, ?_⟩
  · simp only [Bool.not_true] at e1 e2
    simp only [ap_fVar, varK_some, ap_fC, ap_fBin, ap_binK, ap_fApp, ap_fNil, ap_fCons, ap_consK, ap_consK2, ap_fTest, ap_testK, ap_fOr, ap_fNot, ap_orK, ap_notK, ap_fSkip, ap_fSeq, ap_seqK_nx, ap_fIf, ap_ifK, ap_fRet, ap_retK, ap_fAsg, ap_asgK, ap_asgK2, ap_gN, ap_fIx, ap_ixK, isDict_tup, getL_tup, retO_some, atI_0, atI_1, ap_fCall, ap_callK, o_ne, neK_some, eqv_int, toP_int, toP_ref, toPC_lst, o_len, lenK_some, lenD_tup, ap_fIsi, ap_isiK0, ap_isiK, ap_isiK2, o_getD, o_someMap, o_tyT, ap_gSubX, ap_subX1, ap_subX2, ap_subX3, R.bind_ok, R.nox_ok, List.length_cons, List.length_nil, Nat.zero_add, Nat.reduceAdd, List.getElem?_cons_zero, List.getElem?_cons_succ, List.set_cons_zero, List.set_cons_succ, List.append_nil, Bool.false_eq_true, if_true, if_false, decide_true, decide_false, Nat.add_zero, or_true, or_false, Bool.not_true, String.reduceEq, ap_lb_law_0, n22, h1, isiD, tyC, e1, e2, hl1, hg1, q4, q6, Option.map_some, x1, x2]
  · exact (fr.new (Fr.set (P := fun i => i = a) rfl) (fun i hi z => by omega)).new (Fr.set (P := fun i => i = b) rfl) (fun i hi z => by omega)
theorem main_law (c : CA) (ns : List Int) (h1 : ns.length ≤ 63) (h2 : ∀ z ∈ ns, Builtin.Int.intBits z ≤ 1048576) : isTrue1 (F_law c [.rl (ns.map D.int)] []) := by
  obtain ⟨evs, S1, el, a1, b1, ok, _⟩ := events_eq c (S := []) h1
  have hL : oList [.ref el] S1 = .ok (.ref S1.length) (S1 ++ [.lst (evs.map eEv)]) := by unfold oList; simp only [seqD, b1]
  obtain ⟨S2, r2, o2, v2, vv, a2, b2, d2, g2, ⟨rfl, _⟩, fr2, _, _, _⟩ := lrep_eq c (S := S1 ++ [.lst (evs.map eEv)]) ok (app_get b1)
  have hl2 := fr2.get (app_get b1) (fun z => z)
  have hg2 := fr2.get (get_app0 : (S1 ++ [Cell.lst (evs.map eEv)])[S1.length]? = _) (fun z => z)
  obtain ⟨g8, S8, a8, fr8⟩ := told_turn c ok hl2 hg2 d2 g2 (some (.rl (ns.map D.int))) (some (.int 0)) none
  obtain ⟨g9, S9, a9, fr9⟩ := told_turn c ok (fr8.get hl2 (fun z => z)) (fr8.get hg2 (fun z => z)) (fr8.get d2 (fun z => z)) (fr8.get g2 (fun z => z)) (some (.rl (ns.map D.int))) (some (.int 1)) g8
  obtain ⟨S10, o, v, a10, b10, d10, _, _, _, hov⟩ := prep_eq c (evs := []) (l := S9.length) (S := S9 ++ [.lst []]) ⟨by decide, fun e h => (by cases h)⟩ get_app0
  have lo : o < S10.length := (List.getElem?_eq_some_iff.mp b10).1
  have lv : v < S10.length := (List.getElem?_eq_some_iff.mp d10).1
  have heq := o_eqTE (w := c.w) (a := o) (b := v) (c := S10.length) (d := S10.length + 1) (S := S10 ++ [.dn c.w [], .dn c.w []]) (by omega) (by omega) (app_get b10) (app_get d10) get_app0 (by rw [get_app]; rfl)
  have hrg : rngD 0 2 = [.int 0, .int 1] := rfl
  unfold F_law b_law
  simp only [ap_fVar, varK_some, ap_fC, ap_fBin, ap_binK, ap_fApp, ap_fNil, ap_fCons, ap_consK, ap_consK2, ap_fTup, ap_fLst, ap_tupK, ap_lstK, ap_fSeq, ap_seqK_nx, ap_fRet, ap_retK, ap_fAsg, ap_asgK, ap_asgK2, ap_gN, ap_gNil, ap_gCons, ap_gsK, ap_gUnp, ap_unpK, ap_fCall, ap_callK, ap_fnF, ap_fnK_rt, ap_fFor, ap_forK_fix, loopX_nil, loopX_cons, ap_turnK0, ap_turnK_nx, ap_fRng1, ap_rng1K, o_seqR, o_seqC, o_listT, ap_fDictN0, o_listN, o_listNL, R.bind_ok, R.nox_ok, List.map_cons, List.map_nil, List.length_cons, List.length_nil, List.cons_append, List.nil_append, Nat.zero_add, Nat.reduceAdd, Nat.reduceSub, List.replicate_succ, List.replicate_zero, List.getElem?_cons_zero, List.getElem?_cons_succ, List.set_cons_zero, List.set_cons_succ, List.append_nil, if_true, Nat.add_zero, Nat.reduceLeDiff, Int.reduceLT, Int.reduceLE, Int.reduceNeg, Int.reducePow, and_self, Int.reduceToNat, List.append_assoc, List.length_append, a1, b1, hL, listT_lst, a2, b2, hrg, a8, a9, a10, heq, isTrue1]
end Qk35

namespace Qk35
open PySem L2 RF
theorem all_mk {l : PySem.W.OpenLaw} {w : World} {K : PySem.W.Frag} {h : Heap} {mg : Str → Option Value} {fa  : Addr} (X : K.In h) (G : h.Ns mainGlobals mg) (hfa : mg "law" = some (.ref fa))
    {f0 : Addr} {od0 an0 : Option Addr} {sl0 : Array (Option Value)} {oc0 kV0 dc0 pm0 cd0 ct0 : Value}
    {f1 : Addr} {od1 an1 : Option Addr} {sl1 : Array (Option Value)} {oc1 kV1 dc1 pm1 cd1 ct1 : Value}
    {f2 : Addr} {od2 an2 : Option Addr} {sl2 : Array (Option Value)} {oc2 kV2 dc2 pm2 cd2 ct2 : Value}
    {f3 : Addr} {od3 an3 : Option Addr} {sl3 : Array (Option Value)} {oc3 kV3 dc3 pm3 cd3 ct3 : Value}
    {f4 : Addr} {od4 an4 : Option Addr} {sl4 : Array (Option Value)} {oc4 kV4 dc4 pm4 cd4 ct4 : Value}
    {f5 : Addr} {od5 an5 : Option Addr} {sl5 : Array (Option Value)} {oc5 kV5 dc5 pm5 cd5 ct5 : Value}
    {f6 : Addr} {od6 an6 : Option Addr} {sl6 : Array (Option Value)} {oc6 kV6 dc6 pm6 cd6 ct6 : Value}
    {f7 : Addr} {od7 an7 : Option Addr} {sl7 : Array (Option Value)} {oc7 kV7 dc7 pm7 cd7 ct7 : Value}
    {f8 : Addr} {od8 an8 : Option Addr} {sl8 : Array (Option Value)} {oc8 kV8 dc8 pm8 cd8 ct8 : Value}
    {f9 : Addr} {od9 an9 : Option Addr} {sl9 : Array (Option Value)} {oc9 kV9 dc9 pm9 cd9 ct9 : Value}
    {f10 : Addr} {od10 an10 : Option Addr} {sl10 : Array (Option Value)} {oc10 kV10 dc10 pm10 cd10 ct10 : Value}
    {f11 : Addr} {od11 an11 : Option Addr} {sl11 : Array (Option Value)} {oc11 kV11 dc11 pm11 cd11 ct11 : Value}
    (main : ∀ (c : CA) (ns : List Int), ns.length ≤ 63 → (∀ z ∈ ns, Builtin.Int.intBits z ≤ 1048576) → isTrue1 (F_law c [.rl (ns.map D.int)] []))
    (a0 : PySem.W.nsIn K mainGlobals "_law_stream" = some (some (.ref f0)))
    (l0 : K.lookup f0 = some ⟨oc0, od0, .func (PySem.W.fnOf "_law_stream" "_law_stream" (defArgs s_law_stream) (defBody s_law_stream) (defScope s_law_stream) .none kV0 dc0 pm0 an0 cd0 ct0), sl0⟩)
    (c0 : PySem.W.codeIn K cd0 "_law_stream" = true)
    (k0 : PySem.W.keepIn K (.ref f0) = true)
    (a1 : PySem.W.nsIn K mainGlobals "_law_next" = some (some (.ref f1)))
    (l1 : K.lookup f1 = some ⟨oc1, od1, .func (PySem.W.fnOf "_law_next" "_law_next" (defArgs s_law_next) (defBody s_law_next) (defScope s_law_next) .none kV1 dc1 pm1 an1 cd1 ct1), sl1⟩)
    (c1 : PySem.W.codeIn K cd1 "_law_next" = true)
    (k1 : PySem.W.keepIn K (.ref f1) = true)
    (a2 : PySem.W.nsIn K mainGlobals "_law_program" = some (some (.ref f2)))
    (l2 : K.lookup f2 = some ⟨oc2, od2, .func (PySem.W.fnOf "_law_program" "_law_program" (defArgs s_law_program) (defBody s_law_program) (defScope s_law_program) .none kV2 dc2 pm2 an2 cd2 ct2), sl2⟩)
    (c2 : PySem.W.codeIn K cd2 "_law_program" = true)
    (k2 : PySem.W.keepIn K (.ref f2) = true)
    (a3 : PySem.W.nsIn K mainGlobals "_law_events" = some (some (.ref f3)))
    (l3 : K.lookup f3 = some ⟨oc3, od3, .func (PySem.W.fnOf "_law_events" "_law_events" (defArgs s_law_events) (defBody s_law_events) (defScope s_law_events) .none kV3 dc3 pm3 an3 cd3 ct3), sl3⟩)
    (c3 : PySem.W.codeIn K cd3 "_law_events" = true)
    (k3 : PySem.W.keepIn K (.ref f3) = true)
    (a4 : PySem.W.nsIn K mainGlobals "_law_keys" = some (some (.ref f4)))
    (l4 : K.lookup f4 = some ⟨oc4, od4, .func (PySem.W.fnOf "_law_keys" "_law_keys" (defArgs s_law_keys) (defBody s_law_keys) (defScope s_law_keys) .none kV4 dc4 pm4 an4 cd4 ct4), sl4⟩)
    (c4 : PySem.W.codeIn K cd4 "_law_keys" = true)
    (k4 : PySem.W.keepIn K (.ref f4) = true)
    (a5 : PySem.W.nsIn K mainGlobals "_law_run" = some (some (.ref f5)))
    (l5 : K.lookup f5 = some ⟨oc5, od5, .func (PySem.W.fnOf "_law_run" "_law_run" (defArgs s_law_run) (defBody s_law_run) (defScope s_law_run) .none kV5 dc5 pm5 an5 cd5 ct5), sl5⟩)
    (c5 : PySem.W.codeIn K cd5 "_law_run" = true)
    (k5 : PySem.W.keepIn K (.ref f5) = true)
    (a6 : PySem.W.nsIn K mainGlobals "_law_replay" = some (some (.ref f6)))
    (l6 : K.lookup f6 = some ⟨oc6, od6, .func (PySem.W.fnOf "_law_replay" "_law_replay" (defArgs s_law_replay) (defBody s_law_replay) (defScope s_law_replay) .none kV6 dc6 pm6 an6 cd6 ct6), sl6⟩)
    (c6 : PySem.W.codeIn K cd6 "_law_replay" = true)
    (k6 : PySem.W.keepIn K (.ref f6) = true)
    (a7 : PySem.W.nsIn K mainGlobals "keys_of" = some (some (.ref f7)))
    (l7 : K.lookup f7 = some ⟨oc7, od7, .func (PySem.W.fnOf "keys_of" "keys_of" (defArgs s_keys_of) (defBody s_keys_of) (defScope s_keys_of) .none kV7 dc7 pm7 an7 cd7 ct7), sl7⟩)
    (c7 : PySem.W.codeIn K cd7 "keys_of" = true)
    (k7 : PySem.W.keepIn K (.ref f7) = true)
    (a8 : PySem.W.nsIn K mainGlobals "_value_behind" = some (some (.ref f8)))
    (l8 : K.lookup f8 = some ⟨oc8, od8, .func (PySem.W.fnOf "_value_behind" "_value_behind" (defArgs s_value_behind) (defBody s_value_behind) (defScope s_value_behind) .none kV8 dc8 pm8 an8 cd8 ct8), sl8⟩)
    (c8 : PySem.W.codeIn K cd8 "_value_behind" = true)
    (k8 : PySem.W.keepIn K (.ref f8) = true)
    (a9 : PySem.W.nsIn K mainGlobals "run_program" = some (some (.ref f9)))
    (l9 : K.lookup f9 = some ⟨oc9, od9, .func (PySem.W.fnOf "run_program" "run_program" (defArgs s_run_program) (defBody s_run_program) (defScope s_run_program) .none kV9 dc9 pm9 an9 cd9 ct9), sl9⟩)
    (c9 : PySem.W.codeIn K cd9 "run_program" = true)
    (k9 : PySem.W.keepIn K (.ref f9) = true)
    (a10 : PySem.W.nsIn K mainGlobals "replay" = some (some (.ref f10)))
    (l10 : K.lookup f10 = some ⟨oc10, od10, .func (PySem.W.fnOf "replay" "replay" (defArgs s_replay) (defBody s_replay) (defScope s_replay) .none kV10 dc10 pm10 an10 cd10 ct10), sl10⟩)
    (c10 : PySem.W.codeIn K cd10 "replay" = true)
    (k10 : PySem.W.keepIn K (.ref f10) = true)
    (a11 : PySem.W.nsIn K mainGlobals "law" = some (some (.ref f11)))
    (l11 : K.lookup f11 = some ⟨oc11, od11, .func (PySem.W.fnOf "law" "law" (defArgs s_law) (defBody s_law) (defScope s_law) .none kV11 dc11 pm11 an11 cd11 ct11), sl11⟩)
    (c11 : PySem.W.codeIn K cd11 "law" = true)
    (k11 : PySem.W.keepIn K (.ref f11) = true)
    (z_int : PySem.W.nsIn K mainGlobals "int" = some none)
    (z_isinstance : PySem.W.nsIn K mainGlobals "isinstance" = some none)
    (z_len : PySem.W.nsIn K mainGlobals "len" = some none)
    (z_list : PySem.W.nsIn K mainGlobals "list" = some none)
    (z_min : PySem.W.nsIn K mainGlobals "min" = some none)
    (z_range : PySem.W.nsIn K mainGlobals "range" = some none)
    (z_tuple : PySem.W.nsIn K mainGlobals "tuple" = some none) :
    ∃ fd : FuncData, (∀ (s : Shared) (v : Value), BindsTo s fd ⟨[v], []⟩ [("script", v)]) ∧ ∀ base : Heap, K.In base → base.Ns mainGlobals mg → FnOk l.prog w K mg base CX0 4 fa fd ["script"] (spLaw K) := by
  have e := hfa.symm.trans (PySem.W.mg_of X G a11)
  cases e
  have GG : Gm K mg { w := w, a_law_stream := f0, d_law_stream := PySem.W.fnOf "_law_stream" "_law_stream" (defArgs s_law_stream) (defBody s_law_stream) (defScope s_law_stream) .none kV0 dc0 pm0 an0 cd0 ct0, a_law_next := f1, d_law_next := PySem.W.fnOf "_law_next" "_law_next" (defArgs s_law_next) (defBody s_law_next) (defScope s_law_next) .none kV1 dc1 pm1 an1 cd1 ct1, a_law_program := f2, d_law_program := PySem.W.fnOf "_law_program" "_law_program" (defArgs s_law_program) (defBody s_law_program) (defScope s_law_program) .none kV2 dc2 pm2 an2 cd2 ct2, a_law_events := f3, d_law_events := PySem.W.fnOf "_law_events" "_law_events" (defArgs s_law_events) (defBody s_law_events) (defScope s_law_events) .none kV3 dc3 pm3 an3 cd3 ct3, a_law_keys := f4, d_law_keys := PySem.W.fnOf "_law_keys" "_law_keys" (defArgs s_law_keys) (defBody s_law_keys) (defScope s_law_keys) .none kV4 dc4 pm4 an4 cd4 ct4, a_law_run := f5, d_law_run := PySem.W.fnOf "_law_run" "_law_run" (defArgs s_law_run) (defBody s_law_run) (defScope s_law_run) .none kV5 dc5 pm5 an5 cd5 ct5, a_law_replay := f6, d_law_replay := PySem.W.fnOf "_law_replay" "_law_replay" (defArgs s_law_replay) (defBody s_law_replay) (defScope s_law_replay) .none kV6 dc6 pm6 an6 cd6 ct6, a_keys_of := f7, d_keys_of := PySem.W.fnOf "keys_of" "keys_of" (defArgs s_keys_of) (defBody s_keys_of) (defScope s_keys_of) .none kV7 dc7 pm7 an7 cd7 ct7, a_value_behind := f8, d_value_behind := PySem.W.fnOf "_value_behind" "_value_behind" (defArgs s_value_behind) (defBody s_value_behind) (defScope s_value_behind) .none kV8 dc8 pm8 an8 cd8 ct8, a_run_program := f9, d_run_program := PySem.W.fnOf "run_program" "run_program" (defArgs s_run_program) (defBody s_run_program) (defScope s_run_program) .none kV9 dc9 pm9 an9 cd9 ct9, a_replay := f10, d_replay := PySem.W.fnOf "replay" "replay" (defArgs s_replay) (defBody s_replay) (defScope s_replay) .none kV10 dc10 pm10 an10 cd10 ct10, a_law := fa, d_law := PySem.W.fnOf "law" "law" (defArgs s_law) (defBody s_law) (defScope s_law) .none kV11 dc11 pm11 an11 cd11 ct11 } := { z_int := PySem.W.mg_none_of X G z_int, z_isinstance := PySem.W.mg_none_of X G z_isinstance, z_len := PySem.W.mg_none_of X G z_len, z_list := PySem.W.mg_none_of X G z_list, z_min := PySem.W.mg_none_of X G z_min, z_range := PySem.W.mg_none_of X G z_range, z_tuple := PySem.W.mg_none_of X G z_tuple, F_law_stream := fun_mk (st := s_law_stream) l0 c0 k0, b_law_stream := (fun_mk (st := s_law_stream) l0 c0 k0).binds (ps := ["cell", "k"]) fun _ _ _ _ _ _ us hl => match us, hl with | [_, _], _ => rfl, g_law_stream := PySem.W.mg_of X G a0, F_law_next := fun_mk (st := s_law_next) l1 c1 k1, b_law_next := (fun_mk (st := s_law_next) l1 c1 k1).binds (ps := ["stream", "size"]) fun _ _ _ _ _ _ us hl => match us, hl with | [_, _], _ => rfl, g_law_next := PySem.W.mg_of X G a1, F_law_program := fun_mk (st := s_law_program) l2 c2 k2, b_law_program := (fun_mk (st := s_law_program) l2 c2 k2).binds (ps := ["stream", "houses"]) fun _ _ _ _ _ _ us hl => match us, hl with | [_, _], _ => rfl, g_law_program := PySem.W.mg_of X G a2, F_law_events := fun_mk (st := s_law_events) l3 c3 k3, b_law_events := (fun_mk (st := s_law_events) l3 c3 k3).binds (ps := ["script", "least"]) fun _ _ _ _ _ _ us hl => match us, hl with | [_, _], _ => rfl, g_law_events := PySem.W.mg_of X G a3, F_law_keys := fun_mk (st := s_law_keys) l4 c4 k4, b_law_keys := (fun_mk (st := s_law_keys) l4 c4 k4).binds (ps := ["program"]) fun _ _ _ _ _ _ us hl => match us, hl with | [_], _ => rfl, g_law_keys := PySem.W.mg_of X G a4, F_law_run := fun_mk (st := s_law_run) l5 c5 k5, b_law_run := (fun_mk (st := s_law_run) l5 c5 k5).binds (ps := ["program", "values"]) fun _ _ _ _ _ _ us hl => match us, hl with | [_, _], _ => rfl, g_law_run := PySem.W.mg_of X G a5, F_law_replay := fun_mk (st := s_law_replay) l6 c6 k6, b_law_replay := (fun_mk (st := s_law_replay) l6 c6 k6).binds (ps := ["events"]) fun _ _ _ _ _ _ us hl => match us, hl with | [_], _ => rfl, g_law_replay := PySem.W.mg_of X G a6, F_keys_of := fun_mk (st := s_keys_of) l7 c7 k7, b_keys_of := (fun_mk (st := s_keys_of) l7 c7 k7).binds (ps := ["program"]) fun _ _ _ _ _ _ us hl => match us, hl with | [_], _ => rfl, g_keys_of := PySem.W.mg_of X G a7, F_value_behind := fun_mk (st := s_value_behind) l8 c8 k8, b_value_behind := (fun_mk (st := s_value_behind) l8 c8 k8).binds (ps := ["step", "value", "read"]) fun _ _ _ _ _ _ us hl => match us, hl with | [_, _, _], _ => rfl, g_value_behind := PySem.W.mg_of X G a8, F_run_program := fun_mk (st := s_run_program) l9 c9 k9, b_run_program := (fun_mk (st := s_run_program) l9 c9 k9).binds (ps := ["program", "values"]) fun _ _ _ _ _ _ us hl => match us, hl with | [_, _], _ => rfl, g_run_program := PySem.W.mg_of X G a9, F_replay := fun_mk (st := s_replay) l10 c10 k10, b_replay := (fun_mk (st := s_replay) l10 c10 k10).binds (ps := ["events"]) fun _ _ _ _ _ _ us hl => match us, hl with | [_], _ => rfl, g_replay := PySem.W.mg_of X G a10, F_law := fun_mk (st := s_law) l11 c11 k11, b_law := (fun_mk (st := s_law) l11 c11 k11).binds (ps := ["script"]) fun _ _ _ _ _ _ us hl => match us, hl with | [_], _ => rfl, g_law := PySem.W.mg_of X G a11 }
  exact ⟨PySem.W.fnOf "law" "law" (defArgs s_law) (defBody s_law) (defScope s_law) .none kV11 dc11 pm11 an11 cd11 ct11, fun s v => .of_eq rfl, fun base _ _ => law_sp (ok_law GG) (main _)⟩
theorem walk {l : PySem.W.OpenLaw} {q : Program} {loose : List Str} {XP : (Str → Option Value) → Heap → Prop} {YP : World → Heap → Prop} {d : DefRec} {K : Params → PySem.W.Frag} (hn : l.most = some 63) (hdf : d.params.defaults = [])
    (hY : ∀ (w : World) (h : Heap), YP w h → (K w.params).In h)
    (F : ∀ (w : World) (mg : Str → Option Value) (fa : Addr) (h : Heap), (K w.params).In h → h.Ns mainGlobals mg → mg d.name = some (.ref fa) →
      ∃ fd : FuncData, (∀ (s : Shared) (u : Value), BindsTo s fd ⟨[u], []⟩ [("script", u)]) ∧ ∀ base : Heap, (K w.params).In base → base.Ns mainGlobals mg → FnOk l.prog w (K w.params) mg base CX0 4 fa fd ["script"] (spLaw (K w.params))) :
    PySem.W.WalkO q loose XP YP l.row.toRowW d [] (fun f vs => PySem.call f vs) :=
  L2.walk_ofB (n := 63) (k := 4) (x := "script") (CX := fun _ => CX0) (sp := fun w => spLaw (K w.params)) hn (by rw [sizeLine_eq]; decide) hdf ⟨rfl, by decide, by decide⟩ hY F (fun _ _ a ns hl hb hO hS => ⟨a, ns, rfl, hO, hS, hl, hb, fun _ => rfl⟩) fun _ _ _ _ _ z => z
end Qk35
open PySem PySem.W PyProof.Rows in
set_option maxRecDepth 100000 in
set_option maxHeartbeats 0 in
theorem PySem.Challenge.cw_ringloosed_k35_replays_of_events_holds : PySem.Challenge.rw_ringloosed_k35_replays_of_events.Holds := by
  w_on; o_law; k_head; (case hw => w_witness2)
  k_fill
  refine Qk35.walk (l := PySem.Challenge.rw_ringloosed_k35_replays_of_events) rfl rfl (fun w h Y => PySem.W.kIn_of Y) ?F
  case F =>
    intro w mg fa h KX G hmg
    refine' Qk35.all_mk KX G hmg Qk35.main_law ?a0 ?l0 ?c0 ?k0 ?a1 ?l1 ?c1 ?k1 ?a2 ?l2 ?c2 ?k2 ?a3 ?l3 ?c3 ?k3 ?a4 ?l4 ?c4 ?k4 ?a5 ?l5 ?c5 ?k5 ?a6 ?l6 ?c6 ?k6 ?a7 ?l7 ?c7 ?k7 ?a8 ?l8 ?c8 ?k8 ?a9 ?l9 ?c9 ?k9 ?a10 ?l10 ?c10 ?k10 ?a11 ?l11 ?c11 ?k11 ?z_int ?z_isinstance ?z_len ?z_list ?z_min ?z_range ?z_tuple
    (case a0 => k_is)
    (case l0 => k_is)
    (case c0 => k_is)
    (case k0 => k_is)
    (case a1 => k_is)
    (case l1 => k_is)
    (case c1 => k_is)
    (case k1 => k_is)
    (case a2 => k_is)
    (case l2 => k_is)
    (case c2 => k_is)
    (case k2 => k_is)
    (case a3 => k_is)
    (case l3 => k_is)
    (case c3 => k_is)
    (case k3 => k_is)
    (case a4 => k_is)
    (case l4 => k_is)
    (case c4 => k_is)
    (case k4 => k_is)
    (case a5 => k_is)
    (case l5 => k_is)
    (case c5 => k_is)
    (case k5 => k_is)
    (case a6 => k_is)
    (case l6 => k_is)
    (case c6 => k_is)
    (case k6 => k_is)
    (case a7 => k_is)
    (case l7 => k_is)
    (case c7 => k_is)
    (case k7 => k_is)
    (case a8 => k_is)
    (case l8 => k_is)
    (case c8 => k_is)
    (case k8 => k_is)
    (case a9 => k_is)
    (case l9 => k_is)
    (case c9 => k_is)
    (case k9 => k_is)
    (case a10 => k_is)
    (case l10 => k_is)
    (case c10 => k_is)
    (case k10 => k_is)
    (case a11 => k_is)
    (case l11 => k_is)
    (case c11 => k_is)
    (case k11 => k_is)
    (case z_int => k_is)
    (case z_isinstance => k_is)
    (case z_len => k_is)
    (case z_list => k_is)
    (case z_min => k_is)
    (case z_range => k_is)
    (case z_tuple => k_is)
