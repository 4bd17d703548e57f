import PyProof.Rows.All
import Wide.All
import OpenK.AllK
import Wide.FinOn
import HandS.ForMost
import KE.KeyNested
import KE.KDictKeyed
import HandS.Wide
import HandS.Flow
import HandS.NoneIn
import HandS.IsInst
import HandS.More
import HandS.Deep
import HandS.Text
import HandS.TupAny
import HandS.TupLen
import HandS.TupLe
import HandS.EndBits
import KE.SortData
import KE.DataMinMax
import KE.DataFind
import HandS.SetFor
import HandS.Defaults
import HandS.MakeKw
import HandS.MakeKwOnly
import HandS.Conv
import HandS.Property
import KE.DataCmp
import KE.KDictSum
import KE.KDictList
import HandS.TupMul
import HandS.Iter
import HandS.DictComp
import KE.KDictPairs
import HandS.List
import HandS.Zip
import KE.KEqNest
import HandS.Exc
import HandS.ExcOwn
import HandS.ExcIs
import HandS.CallSlots
import HandS.WordsExc
import KE.KDictCopyH
import PyProof.TupleOfStr
import PySem.Challenge.RW_ringloosed_k34_rings_of_waits
set_option Elab.async false
set_option linter.all false
set_option maxRecDepth 100000
set_option maxHeartbeats 4000000
/-! RF: a functional layer over the hand layer: a piece of Python is simulated by a Lean function over data and a store -/
namespace RF
open PySem L2

/-- data: tuples by value, lists, dicts and instances by their place in the store -/
inductive D where
  | non | bl (b : Bool) | int (i : Int) | str (x : Str) | ref (n : Nat) | rl (xs : List D) | tup (xs : List D)
  | kt (xs : List D) | exc (a : Addr)
inductive Cell where
  | lst (xs : List D) | dk (kvs : List (Key × D)) | dt (kvs : List (List Key × D)) | ins (C : Addr) (fs : List (Str × D))
  | dn (w : World) (kvs : List (NestedKey × D))
  | df (w : World) (kvs : List (NestedKey × D))
  | tp (xs : List D) | jk
abbrev Sto := List Cell
abbrev Lc := List (Option D)
/-- an outcome: a value and the store; an own exception of the class at c; anything else -/
inductive R (α : Type) where
  | ok (a : α) (S : Sto) | ex (c : Addr) (S : Sto) | bad
def R.bind {α β : Type} (x : R α) (k : α → Sto → R β) : R β := match x with
  | .ok a S => k a S
  | .ex c S => .ex c S
  | .bad => .bad
@[simp] theorem R.bind_ok {α β : Type} (a : α) (S : Sto) (k : α → Sto → R β) : (R.ok a S).bind k = k a S := (rfl)
@[simp] theorem R.bind_ex {α β : Type} (c : Addr) (S : Sto) (k : α → Sto → R β) : (R.ex c S : R α).bind k = .ex c S := (rfl)
@[simp] theorem R.bind_bad {α β : Type} (k : α → Sto → R β) : (R.bad : R α).bind k = .bad := (rfl)

/-! ### what stands for what -/
mutual
inductive RD (K : PySem.W.Frag) (L : List Addr) (H : Hp) : V → D → Prop
  | non : RD K L H .non .non
  | bl (b : Bool) : RD K L H (.bl b) (.bl b)
  | int (i : Int) : RD K L H (.int i) (.int i)
  | str (x : Str) : RD K L H (.str x) (.str x)
  | ref {a : Addr} {n : Nat} : L[n]? = some a → RD K L H (.ref a) (.ref n)
  | rl {a : Addr} {vs : List V} {ds : List D} : (∀ H1 : Hp, (∀ o xs, H a = some (.frz o (.lst xs)) → H1 a = some (.frz o (.lst xs))) → SqL K H1 a vs) → RDs K L H vs ds → RD K L H (.ref a) (.rl ds)
  | tup {a : Addr} {vs : List V} {ds : List D} : H a = some (.tup vs) → RDs K L H vs ds → RD K L H (.ref a) (.tup ds)
  | kt {a : Addr} {vs : List V} {ds : List D} : (∀ H1 : Hp, SqT K H1 a vs) → RDs K L H vs ds → RD K L H (.ref a) (.kt ds)
  | exc (a : Addr) : RD K L H (.ref a) (.exc a)
inductive RDs (K : PySem.W.Frag) (L : List Addr) (H : Hp) : List V → List D → Prop
  | nil : RDs K L H [] []
  | cons {v : V} {vs : List V} {d : D} {ds : List D} : RD K L H v d → RDs K L H vs ds → RDs K L H (v :: vs) (d :: ds)
end
/-- the store and what is tracked may have grown or changed within the store -/
structure Gr (L : List Addr) (H : Hp) (L1 : List Addr) (H1 : Hp) : Prop where
  px : ∀ (n : Nat) a, L[n]? = some a → L1[n]? = some a
  tp : ∀ a xs, H a = some (.tup xs) → H1 a = some (.tup xs)
  fz : ∀ a o xs, H a = some (.frz o (.lst xs)) → H1 a = some (.frz o (.lst xs))
structure Ex (L : List Addr) (H : Hp) (L1 : List Addr) (H1 : Hp) : Prop where
  px : ∀ (n : Nat) a, L[n]? = some a → L1[n]? = some a
  nw : ∀ a ∈ L1, a ∈ L ∨ H a = none
  fr : ∀ a o, a ∉ L → H a = some o → H1 a = some o
  tp : ∀ a xs, H a = some (.tup xs) → H1 a = some (.tup xs)
  fz : ∀ a o u, H a = some (.frz o u) → H1 a = some (.frz o u)
theorem Ex.gr {L L1 : List Addr} {H H1 : Hp} (e : Ex L H L1 H1) : Gr L H L1 H1 := ⟨e.px, e.tp, fun a o _ => e.fz a o _⟩
theorem Ex.refl (L : List Addr) (H : Hp) : Ex L H L H := ⟨fun _ _ h => h, fun _ h => .inl h, fun _ _ _ h => h, fun _ _ h => h, fun _ _ _ h => h⟩
theorem Ex.trans {L L1 L2 : List Addr} {H H1 H2 : Hp} (a : Ex L H L1 H1) (b : Ex L1 H1 L2 H2) : Ex L H L2 H2 where
  px := fun n x h => b.px n x (a.px n x h)
  nw := fun x h => by
    rcases b.nw x h with h | h
    · exact a.nw x h
    · by_cases hx : x ∈ L
      · exact .inl hx
      · refine .inr ?_
        cases q : H x with
        | none => rfl
        | some o => rw [a.fr x o hx q] at h; cases h
  fr := fun x o hx h => by
    refine b.fr x o (fun z => ?_) (a.fr x o hx h)
    rcases a.nw x z with z | z
    · exact hx z
    · rw [h] at z; cases z
  tp := fun x xs h => b.tp x xs (a.tp x xs h)
  fz := fun x o u h => b.fz x o u (a.fz x o u h)
mutual
theorem RD.grow {K : PySem.W.Frag} {L L1 : List Addr} {H H1 : Hp} (e : Gr L H L1 H1) : ∀ {v : V} {d : D}, RD K L H v d → RD K L1 H1 v d
  | _, _, .non => .non
  | _, _, .bl b => .bl b
  | _, _, .int i => .int i
  | _, _, .str x => .str x
  | _, _, .ref h => .ref (e.px _ _ h)
  | _, _, .rl h r => .rl (fun H2 k => h H2 fun o xs q => k o xs (e.fz _ o xs q)) (RDs.grow e r)
  | _, _, .tup h r => .tup (e.tp _ _ h) (RDs.grow e r)
  | _, _, .kt h r => .kt h (RDs.grow e r)
  | _, _, .exc a => .exc a
theorem RDs.grow {K : PySem.W.Frag} {L L1 : List Addr} {H H1 : Hp} (e : Gr L H L1 H1) : ∀ {v : List V} {d : List D}, RDs K L H v d → RDs K L1 H1 v d
  | _, _, .nil => .nil
  | _, _, .cons a b => .cons (RD.grow e a) (RDs.grow e b)
end
theorem RD.mono {K : PySem.W.Frag} {L L1 : List Addr} {H H1 : Hp} (e : Ex L H L1 H1) {v : V} {d : D} (h : RD K L H v d) : RD K L1 H1 v d := RD.grow e.gr h
theorem RDs.mono {K : PySem.W.Frag} {L L1 : List Addr} {H H1 : Hp} (e : Ex L H L1 H1) {v : List V} {d : List D} (h : RDs K L H v d) : RDs K L1 H1 v d := RDs.grow e.gr h
theorem RDs.length {K : PySem.W.Frag} {L : List Addr} {H : Hp} : ∀ {vs : List V} {ds : List D}, RDs K L H vs ds → vs.length = ds.length
  | _, _, .nil => rfl
  | _, _, .cons _ b => by rw [List.length_cons, List.length_cons, b.length]
theorem RDs.get {K : PySem.W.Frag} {L : List Addr} {H : Hp} : ∀ {vs : List V} {ds : List D} {i : Nat} {d : D}, RDs K L H vs ds → ds[i]? = some d → ∃ v, vs[i]? = some v ∧ RD K L H v d
  | _, _, _, _, .nil, h => by simp at h
  | _, _, 0, _, .cons a b, h => by simp at h; subst h; exact ⟨_, rfl, a⟩
  | _, _, i + 1, _, .cons a b, h => by
    obtain ⟨v, h1, h2⟩ := RDs.get (i := i) b (by simpa using h)
    exact ⟨v, by simpa using h1, h2⟩
theorem RDs.append {K : PySem.W.Frag} {L : List Addr} {H : Hp} : ∀ {vs ws : List V} {ds es : List D}, RDs K L H vs ds → RDs K L H ws es → RDs K L H (vs ++ ws) (ds ++ es)
  | _, _, _, _, .nil, h => h
  | _, _, _, _, .cons a b, h => .cons a (RDs.append b h)
theorem RDs.set {K : PySem.W.Frag} {L : List Addr} {H : Hp} {v : V} {d : D} (r : RD K L H v d) : ∀ {vs : List V} {ds : List D} (i : Nat), RDs K L H vs ds → RDs K L H (vs.set i v) (ds.set i d)
  | _, _, _, .nil => .nil
  | _, _, 0, .cons _ b => .cons r b
  | _, _, i + 1, .cons a b => .cons a (RDs.set r i b)
theorem RDs.take {K : PySem.W.Frag} {L : List Addr} {H : Hp} : ∀ {vs : List V} {ds : List D} (n : Nat), RDs K L H vs ds → RDs K L H (vs.take n) (ds.take n)
  | _, _, 0, _ => .nil
  | _, _, _ + 1, .nil => .nil
  | _, _, n + 1, .cons a b => .cons a (RDs.take n b)
theorem RDs.drop {K : PySem.W.Frag} {L : List Addr} {H : Hp} : ∀ {vs : List V} {ds : List D} (n : Nat), RDs K L H vs ds → RDs K L H (vs.drop n) (ds.drop n)
  | _, _, 0, h => h
  | _, _, _ + 1, .nil => .nil
  | _, _, n + 1, .cons _ b => RDs.drop n b
theorem RDs.eraseIdx {K : PySem.W.Frag} {L : List Addr} {H : Hp} : ∀ {vs : List V} {ds : List D} (n : Nat), RDs K L H vs ds → RDs K L H (vs.eraseIdx n) (ds.eraseIdx n)
  | _, _, _, .nil => .nil
  | _, _, 0, .cons _ b => b
  | _, _, n + 1, .cons a b => .cons a (RDs.eraseIdx n b)
/-- named parts -/
def RK {κ : Type} (K : PySem.W.Frag) (L : List Addr) (H : Hp) : List (κ × V) → List (κ × D) → Prop
  | [], [] => True
  | p :: ps, q :: qs => p.1 = q.1 ∧ RD K L H p.2 q.2 ∧ RK K L H ps qs
  | _, _ => False
theorem RK.grow {κ : Type} {K : PySem.W.Frag} {L L1 : List Addr} {H H1 : Hp} (e : Gr L H L1 H1) : ∀ {ps : List (κ × V)} {qs : List (κ × D)}, RK K L H ps qs → RK K L1 H1 ps qs
  | [], [], _ => trivial
  | p :: ps, q :: qs, ⟨a, b, c⟩ => ⟨a, b.grow e, RK.grow e c⟩
  | [], _ :: _, h => h.elim
  | _ :: _, [], h => h.elim
theorem RK.mono {κ : Type} {K : PySem.W.Frag} {L L1 : List Addr} {H H1 : Hp} (e : Ex L H L1 H1) {ps : List (κ × V)} {qs : List (κ × D)} (h : RK K L H ps qs) : RK K L1 H1 ps qs := RK.grow e.gr h
theorem RK.length {κ : Type} {K : PySem.W.Frag} {L : List Addr} {H : Hp} : ∀ {ps : List (κ × V)} {qs : List (κ × D)}, RK K L H ps qs → ps.length = qs.length
  | [], [], _ => rfl
  | p :: ps, q :: qs, ⟨_, _, c⟩ => by rw [List.length_cons, List.length_cons, RK.length c]
  | [], _ :: _, h => h.elim
  | _ :: _, [], h => h.elim
theorem RK.lookup {κ : Type} [BEq κ] [LawfulBEq κ] {K : PySem.W.Frag} {L : List Addr} {H : Hp} (k : κ) : ∀ {ps : List (κ × V)} {qs : List (κ × D)}, RK K L H ps qs → (qs.lookup k = none ∧ ps.lookup k = none) ∨ ∃ v d, qs.lookup k = some d ∧ ps.lookup k = some v ∧ RD K L H v d
  | [], [], _ => .inl ⟨rfl, rfl⟩
  | (a, v) :: ps, (b, d) :: qs, ⟨e, r, c⟩ => by
    have e : a = b := e
    subst e
    rw [List.lookup_cons, List.lookup_cons]
    cases q : k == a with
    | true => exact .inr ⟨v, d, rfl, rfl, r⟩
    | false => exact RK.lookup k c
  | [], _ :: _, h => h.elim
  | _ :: _, [], h => h.elim

/-! ### dicts whose keys are tuples, nested -/
mutual
/-- the value is the key, by what is tracked -/
inductive NK (H : Hp) : NestedKey → V → Prop
  | none : NK H .none .non
  | num (i : Int) : NK H (.num i) (.int i)
  | text (x : Str) : NK H (.text x) (.str x)
  | tup {a : Addr} {vs : List V} {ks : List NestedKey} : H a = some (.tup vs) → NKs H ks vs → NK H (.tup ks) (.ref a)
inductive NKs (H : Hp) : List NestedKey → List V → Prop
  | nil : NKs H [] []
  | cons {k : NestedKey} {v : V} {ks : List NestedKey} {vs : List V} : NK H k v → NKs H ks vs → NKs H (k :: ks) (v :: vs)
end
mutual
theorem NK.grow {H H1 : Hp} (e : ∀ a xs, H a = some (.tup xs) → H1 a = some (.tup xs)) : ∀ {k : NestedKey} {v : V}, NK H k v → NK H1 k v
  | _, _, .none => .none
  | _, _, .num i => .num i
  | _, _, .text x => .text x
  | _, _, .tup h r => .tup (e _ _ h) (NKs.grow e r)
theorem NKs.grow {H H1 : Hp} (e : ∀ a xs, H a = some (.tup xs) → H1 a = some (.tup xs)) : ∀ {ks : List NestedKey} {vs : List V}, NKs H ks vs → NKs H1 ks vs
  | _, _, .nil => .nil
  | _, _, .cons a b => .cons (NK.grow e a) (NKs.grow e b)
end
abbrev ZN := NestedKey × Addr × V
def ZX (p : ZN) (q : NestedKey × Addr × Value) : Prop := p.1 = q.1 ∧ p.2.1 = q.2.1 ∧ RelV p.2.2 q.2.2
/-- a dict with such keys, by its one object -/
def dnO (w : World) (a : Addr) (zs : List ZN) : HO := .ext fun h => (a == sysModules) = false ∧ zs.length ≤ sizeLine ∧ ∃ xs : List (NestedKey × Addr × Value), Paired ZX zs xs ∧
  ∃ o es ep, h.get? a = some o ∧ o.ExactDict ∧ o.data = .dict es ep ∧ es.toList = xs.map (fun x => (⟨x.1.hash w, .ref x.2.1, x.2.2⟩ : DictEntry)) ∧ (xs.map (·.1)).Nodup
/-- a tuple of which the whole object is known -/
def tpO (a : Addr) (vs : List V) : HO := .ext fun h => vs.length ≤ sizeLine ∧ ∃ its : List Value, Vals vs its ∧ h.get? a = some { cls := .type "tuple", data := .seq its.toArray }
/-- an object of which nothing is known -/
def jkO : HO := .ext fun _ => True
/-- its entries -/
def RN (K : PySem.W.Frag) (L : List Addr) (H : Hp) : List ZN → List (NestedKey × D) → Prop
  | [], [] => True
  | p :: ps, q :: qs => p.1 = q.1 ∧ (NK H p.1 (.ref p.2.1) ∧ p.1.depth ≤ 8) ∧ RD K L H p.2.2 q.2 ∧ RN K L H ps qs
  | _, _ => False
theorem RN.grow {K : PySem.W.Frag} {L L1 : List Addr} {H H1 : Hp} (e : Gr L H L1 H1) : ∀ {ps : List ZN} {qs : List (NestedKey × D)}, RN K L H ps qs → RN K L1 H1 ps qs
  | [], [], _ => trivial
  | p :: ps, q :: qs, ⟨a, b, c, d⟩ => ⟨a, ⟨b.1.grow e.tp, b.2⟩, c.grow e, RN.grow e d⟩
  | [], _ :: _, h => h.elim
  | _ :: _, [], h => h.elim

/-- what stands at the address of a cell -/
def RC (K : PySem.W.Frag) (L : List Addr) (H : Hp) (a : Addr) : Cell → Prop
  | .lst ds => ∃ vs, H a = some (.lst vs) ∧ RDs K L H vs ds
  | .dk kvs => ∃ ws, H a = some (.dK ws) ∧ RK K L H ws kvs
  | .dt kvs => ∃ ws, H a = some (.dT ws) ∧ RK K L H ws kvs
  | .ins C fs => ∃ dx ws, H a = some (.ins C dx ws) ∧ RK K L H ws fs
  | .dn w kvs => ∃ zs, H a = some (dnO w a zs) ∧ RN K L H zs kvs
  | .df w kvs => ∃ od zs, H a = some (.frz od (dnO w a zs)) ∧ RN K L H zs kvs
  | .tp ds => ∃ vs, H a = some (tpO a vs) ∧ RDs K L H vs ds
  | .jk => H a = some jkO
structure Rep (K : PySem.W.Frag) (L : List Addr) (H : Hp) (S : Sto) : Prop where
  len : L.length = S.length
  nd : L.Nodup
  cel : ∀ (n : Nat) a c, L[n]? = some a → S[n]? = some c → RC K L H a c
section
variable {K : PySem.W.Frag} {L L1 : List Addr} {H H1 : Hp} {S S1 : Sto} {a p : Addr} {o : HO} {c : Cell} {n : Nat} {E : XK}
theorem RC.some (r : RC K L H a c) : ∃ o, H a = some o ∧ ∀ xs, o ≠ .tup xs := by
  cases c with
  | lst _ => obtain ⟨_, h, _⟩ := r; exact ⟨_, h, fun _ z => nomatch z⟩
  | dk _ => obtain ⟨_, h, _⟩ := r; exact ⟨_, h, fun _ z => nomatch z⟩
  | dt _ => obtain ⟨_, h, _⟩ := r; exact ⟨_, h, fun _ z => nomatch z⟩
  | ins _ _ => obtain ⟨_, _, h, _⟩ := r; exact ⟨_, h, fun _ z => nomatch z⟩
  | dn _ _ => obtain ⟨_, h, _⟩ := r; exact ⟨_, h, fun _ z => nomatch z⟩
  | df _ _ => obtain ⟨_, _, h, _⟩ := r; exact ⟨_, h, fun _ z => nomatch z⟩
  | tp _ => obtain ⟨_, h, _⟩ := r; exact ⟨_, h, fun _ z => nomatch z⟩
  | jk => exact ⟨_, r, fun _ z => nomatch z⟩
/-- what may be written -/
def Wr (H : Hp) (a : Addr) : Prop := ∃ u, H a = some u ∧ Mut (some u)
theorem RC.grow (r : RC K L H a c) (e : Gr L H L1 H1) (h : H1 a = H a) : RC K L1 H1 a c := by
  cases c with
  | lst _ => obtain ⟨vs, q, t⟩ := r; exact ⟨vs, h.trans q, t.grow e⟩
  | dk _ => obtain ⟨vs, q, t⟩ := r; exact ⟨vs, h.trans q, t.grow e⟩
  | dt _ => obtain ⟨vs, q, t⟩ := r; exact ⟨vs, h.trans q, t.grow e⟩
  | ins _ _ => obtain ⟨dx, vs, q, t⟩ := r; exact ⟨dx, vs, h.trans q, t.grow e⟩
  | dn _ _ => obtain ⟨vs, q, t⟩ := r; exact ⟨vs, h.trans q, t.grow e⟩
  | df _ _ => obtain ⟨od, vs, q, t⟩ := r; exact ⟨od, vs, h.trans q, t.grow e⟩
  | tp _ => obtain ⟨vs, q, t⟩ := r; exact ⟨vs, h.trans q, t.grow e⟩
  | jk => exact h.trans r
theorem RC.mono (r : RC K L H a c) (e : Ex L H L1 H1) (h : H1 a = H a) : RC K L1 H1 a c := r.grow e.gr h
theorem Rep.adr (r : Rep K L H S) (h : L[n]? = some a) : ∃ c, S[n]? = some c ∧ RC K L H a c := by
  have hn : n < S.length := by rw [← r.len]; exact (List.getElem?_eq_some_iff.mp h).1
  exact ⟨S[n], List.getElem?_eq_getElem hn, r.cel n a _ h (List.getElem?_eq_getElem hn)⟩
theorem Rep.at (r : Rep K L H S) (h : S[n]? = some c) : ∃ a, L[n]? = some a ∧ RC K L H a c := by
  have hn : n < L.length := by rw [r.len]; exact (List.getElem?_eq_some_iff.mp h).1
  exact ⟨L[n], List.getElem?_eq_getElem hn, r.cel n _ c (List.getElem?_eq_getElem hn) h⟩
theorem Rep.there (r : Rep K L H S) (h : a ∈ L) : ∃ o, H a = some o ∧ ∀ xs, o ≠ .tup xs := by
  obtain ⟨n, hn, rfl⟩ := List.mem_iff_getElem.mp h
  obtain ⟨c, _, q⟩ := r.adr (List.getElem?_eq_getElem hn)
  exact q.some
theorem Rep.fresh (r : Rep K L H S) (h : H p = none) : p ∉ L := fun z => by
  obtain ⟨o, q, _⟩ := r.there z
  rw [h] at q; cases q
theorem Wr.of {u : HO} (h : H a = some u) (m : Mut (some u)) : Wr H a := ⟨u, h, m⟩
theorem Wr.notup (h : Wr H a) : (∀ xs, H a ≠ some (.tup xs)) ∧ ∀ o u, H a ≠ some (.frz o u) := by
  obtain ⟨o, q, m⟩ := h
  refine ⟨fun xs z => ?_, fun o' u z => ?_⟩
  · rw [q] at z; cases z; exact m
  · rw [q] at z; cases z; exact m
/-- a new object that is no cell -/
theorem Ex.new (h : H p = none) : Ex L H L (upd H p o) :=
  ⟨fun _ _ h => h, fun _ h => .inl h, fun b u _ q => (upd_ne (ne_of_none q h)).trans q, fun b xs q => (upd_ne (ne_of_none q h)).trans q, fun b ob u q => (upd_ne (ne_of_none q h)).trans q⟩
theorem Ex.newc (h : H p = none) : Ex L H (L ++ [p]) (upd H p o) where
  px := fun n b q => by
    have hn := (List.getElem?_eq_some_iff.mp q).1
    rw [List.getElem?_append_left hn]; exact q
  nw := fun b q => by
    rcases List.mem_append.mp q with q | q
    · exact .inl q
    · rw [List.mem_singleton.mp q]; exact .inr h
  fr := fun b u _ q => (upd_ne (ne_of_none q h)).trans q
  tp := fun b xs q => (upd_ne (ne_of_none q h)).trans q
  fz := fun b ob u q => (upd_ne (ne_of_none q h)).trans q
theorem Ex.wr (r : Wr H a) (h : a ∈ L) : Ex L H L (upd H a o) where
  px := fun _ _ q => q
  nw := fun _ q => .inl q
  fr := fun b u hb q => (upd_ne (fun z => hb (by rw [z]; exact h))).trans q
  tp := fun b xs q => (upd_ne (fun z => r.notup.1 xs (by rw [← z]; exact q))).trans q
  fz := fun b ob u q => (upd_ne (fun z => r.notup.2 ob u (by rw [← z]; exact q))).trans q
theorem Rep.new (r : Rep K L H S) (h : H p = none) : Rep K L (upd H p o) S :=
  ⟨r.len, r.nd, fun n b c h1 h2 => (r.cel n b c h1 h2).mono (Ex.new h) (upd_ne fun z => r.fresh h (z ▸ List.mem_of_getElem? h1))⟩
theorem Rep.newc (r : Rep K L H S) (h : H p = none) (hc : RC K (L ++ [p]) (upd H p o) p c) : Rep K (L ++ [p]) (upd H p o) (S ++ [c]) where
  len := by rw [List.length_append, List.length_append, r.len]; rfl
  nd := by
    rw [List.nodup_append]
    refine ⟨r.nd, by simp, fun b hb d hd e => ?_⟩
    rw [List.mem_singleton] at hd
    subst hd; subst e
    exact r.fresh h hb
  cel := fun n b c' h1 h2 => by
    by_cases hn : n < L.length
    · rw [List.getElem?_append_left hn] at h1
      rw [List.getElem?_append_left (by rw [← r.len]; exact hn)] at h2
      exact (r.cel n b c' h1 h2).mono (Ex.newc h) (upd_ne fun z => r.fresh h (z ▸ List.mem_of_getElem? h1))
    · rw [List.getElem?_append_right (Nat.le_of_not_lt hn)] at h1
      rw [List.getElem?_append_right (by rw [← r.len]; exact Nat.le_of_not_lt hn)] at h2
      rw [← r.len] at h2
      have e : n - L.length = 0 := by
        have := (List.getElem?_eq_some_iff.mp h1).1
        simp at this; omega
      rw [e] at h1 h2
      simp at h1 h2
      subst h1; subst h2
      exact hc
theorem Rep.wr (r : Rep K L H S) (hmw : Wr H a) (h : L[n]? = some a) (hc : RC K L (upd H a o) a c) : Rep K L (upd H a o) (S.set n c) where
  len := by rw [List.length_set, r.len]
  nd := r.nd
  cel := fun m b c' h1 h2 => by
    by_cases hm : n = m
    · subst hm
      rw [h] at h1; cases h1
      have hn : n < S.length := by rw [← r.len]; exact (List.getElem?_eq_some_iff.mp h).1
      rw [List.getElem?_set_self hn] at h2
      cases h2
      exact hc
    · rw [List.getElem?_set_ne hm] at h2
      refine (r.cel m b c' h1 h2).mono (Ex.wr hmw (List.mem_of_getElem? h)) (upd_ne fun z => hm ?_)
      obtain ⟨l1, e1⟩ := List.getElem?_eq_some_iff.mp h
      obtain ⟨l2, e2⟩ := List.getElem?_eq_some_iff.mp h1
      exact (List.getElem_inj r.nd).mp (e1.trans (z.symm.trans e2.symm))

/-! ### outcomes -/
def End {α : Type} (K : PySem.W.Frag) (E : XK) (L : List Addr) (H : Hp) (Q : α → Sto → List Addr → Hp → Prop) : R α → Prop
  | .ok a S => ∀ L1 H1, Ex L H L1 H1 → Rep K L1 H1 S → Q a S L1 H1
  | .ex c S => ∀ L1 H1, Ex L H L1 H1 → Rep K L1 H1 S → E (.ref c) none H1
  | .bad => False
variable {α β : Type} {Q Q' : α → Sto → List Addr → Hp → Prop} {x : R α}
theorem End.later (h : End K E L H Q x) (e : Ex L H L1 H1) : End K E L1 H1 Q x := by
  cases x with
  | ok b T => exact fun L2 H2 e2 r => h L2 H2 (e.trans e2) r
  | ex b T => exact fun L2 H2 e2 r => h L2 H2 (e.trans e2) r
  | bad => exact h
theorem End.imp (h : End K E L H Q x) (k : ∀ a S1 L1 H1, Ex L H L1 H1 → Rep K L1 H1 S1 → Q a S1 L1 H1 → Q' a S1 L1 H1) : End K E L H Q' x := by
  cases x with
  | ok b T => exact fun L2 H2 e2 r => k _ _ _ _ e2 r (h L2 H2 e2 r)
  | ex b T => exact h
  | bad => exact h
theorem End.imp' (h : End K E L H Q x) (k : ∀ a S1 L1 H1, x = .ok a S1 → Ex L H L1 H1 → Rep K L1 H1 S1 → Q a S1 L1 H1 → Q' a S1 L1 H1) : End K E L H Q' x := by
  cases x with
  | ok b T => exact fun L2 H2 e2 r => k _ _ _ _ rfl e2 r (h L2 H2 e2 r)
  | ex b T => exact h
  | bad => exact h
theorem End.bind {Q : β → Sto → List Addr → Hp → Prop} {k : α → Sto → R β} (h : End K E L H Q (x.bind k)) : End K E L H (fun a S1 L1 H1 => End K E L1 H1 Q (k a S1)) x := by
  cases x with
  | ok b T => exact fun L2 H2 e2 r => End.later h e2
  | ex b T => exact h
  | bad => exact h
/-- a value comes back -/
abbrev EndV (K : PySem.W.Frag) (E : XK) (L : List Addr) (H : Hp) (Q : VK) (x : R D) : Prop := End K E L H (fun d _ L1 H1 => ∀ v, RD K L1 H1 v d → Q v H1) x
theorem EndV.val {Q : VK} {d : D} {v : V} (h : EndV K E L H Q (.ok d S)) (r : Rep K L H S) (rv : RD K L H v d) : Q v H := h L H (Ex.refl L H) r v rv
end

/-- the names' values -/
structure RE (K : PySem.W.Frag) (L : List Addr) (H : Hp) (σ : St) (env : Lc) : Prop where
  len : σ.length = env.length
  val : ∀ (i : Nat) d, env[i]? = some (some d) → ∃ v, σ[i]? = some (some v) ∧ RD K L H v d
section
variable {K : PySem.W.Frag} {L L1 : List Addr} {H H1 : Hp} {σ : St} {env : Lc}
theorem RE.mono (r : RE K L H σ env) (e : Ex L H L1 H1) : RE K L1 H1 σ env := ⟨r.len, fun i d h => let ⟨v, h1, h2⟩ := r.val i d h; ⟨v, h1, h2.mono e⟩⟩
theorem RE.set {i : Nat} {v : V} {d : D} (r : RE K L H σ env) (rv : RD K L H v d) : RE K L H (σ.set i (some v)) (env.set i (some d)) := by
  refine ⟨by rw [List.length_set, List.length_set, r.len], fun j e h => ?_⟩
  by_cases hj : i = j
  · subst hj
    by_cases hi : i < env.length
    · rw [List.getElem?_set_self hi] at h
      cases h
      exact ⟨v, List.getElem?_set_self (by rw [r.len]; exact hi), rv⟩
    · rw [List.getElem?_eq_none (by rw [List.length_set]; exact Nat.le_of_not_lt hi)] at h
      cases h
  · rw [List.getElem?_set_ne hj] at h ⊢
    exact r.val j e h
end
end RF

namespace RF
open PySem L2

abbrev EF := Lc → Sto → R D
abbrev BF := Lc → Sto → R Bool
abbrev AF := Lc → Sto → R (List D)
inductive Fl where
  | nx (e : Lc) | rt (d : D) | bk (e : Lc) | ct (e : Lc)
abbrev SF := Lc → Sto → R Fl

def tE (K : PySem.W.Frag) (E : XK) (f : EF) : TE := fun σ H Q => ∃ L env S, Rep K L H S ∧ RE K L H σ env ∧ EndV K E L H Q (f env S)
def tT (K : PySem.W.Frag) (E : XK) (f : BF) : TT := fun σ H Q => ∃ L env S, Rep K L H S ∧ RE K L H σ env ∧ End K E L H (fun b _ _ H1 => Q b H1) (f env S)
def tA (K : PySem.W.Frag) (E : XK) (f : AF) : TA := fun σ H Q => ∃ L env S, Rep K L H S ∧ RE K L H σ env ∧ End K E L H (fun ds _ L1 H1 => ∀ vs, RDs K L1 H1 vs ds → Q vs H1) (f env S)
def FlQ (K : PySem.W.Frag) (D : Ends) (L : List Addr) (H : Hp) : Fl → Prop
  | .nx env => ∀ σ, RE K L H σ env → D.nx σ H
  | .rt d => ∀ v, RD K L H v d → D.rt v H
  | .bk env => ∀ σ, RE K L H σ env → D.bk σ H
  | .ct env => ∀ σ, RE K L H σ env → D.ct σ H
def tS (K : PySem.W.Frag) (E : XK) (f : SF) : TS := fun D σ H => ∃ L env S, Rep K L H S ∧ RE K L H σ env ∧ End K E L H (fun fl _ L1 H1 => FlQ K D L1 H1 fl) (f env S)

section
variable {X : Cx} {e : Expr} {st : Stmt} {sts : List Stmt} {es : List Expr}
theorem monoE {t t' : TE} (h : PE X e t) (k : ∀ σ H Q, t' σ H Q → t σ H Q) : PE X e t' := ⟨fun pins s σ H Q I q => h.run pins s σ H Q I (k σ H Q q)⟩
theorem monoT {t t' : TT} (h : PT X e t) (k : ∀ σ H Q, t' σ H Q → t σ H Q) : PT X e t' := ⟨fun pins s σ H Q I q => h.run pins s σ H Q I (k σ H Q q)⟩
theorem monoW {t t' : TT} (h : PW X e t) (k : ∀ σ H Q, t' σ H Q → t σ H Q) : PW X e t' := ⟨fun w pins s σ H Q I q => h.run w pins s σ H Q I (k σ H Q q)⟩
theorem monoA {t t' : TA} (h : PA X es t) (k : ∀ σ H Q, t' σ H Q → t σ H Q) : PA X es t' := ⟨fun pos pins s σ H Q I q => h.run pos pins s σ H Q I (k σ H Q q)⟩
theorem monoS {t t' : TS} (h : PS X st t) (k : ∀ D σ H, t' D σ H → t D σ H) : PS X st t' := ⟨fun pins s σ H D I q => h.run pins s σ H D I (k D σ H q)⟩
theorem monoSs {t t' : TS} (h : PSs X sts t) (k : ∀ D σ H, t' D σ H → t D σ H) : PSs X sts t' := ⟨fun pins s σ H D I q => h.run pins s σ H D I (k D σ H q)⟩
end

/-! ### expressions -/
def fVar (i : Nat) : EF := fun env S => match env[i]? with | some (some d) => .ok d S | _ => .bad
def fC (d : D) : EF := fun _ S => .ok d S
abbrev Op2 := D → D → Sto → R D
abbrev Op1 := D → Sto → R D
abbrev OpN := List D → Sto → R D
def fBin (o : Op2) (fa fb : EF) : EF := fun env S => (fa env S).bind fun x S1 => (fb env S1).bind fun y S2 => o x y S2
def fUn (o : Op1) (fa : EF) : EF := fun env S => (fa env S).bind fun x S1 => o x S1
def fApp (o : OpN) (fs : AF) : EF := fun env S => (fs env S).bind fun xs S1 => o xs S1
def fNil : AF := fun _ S => .ok [] S
def fCons (fa : EF) (fs : AF) : AF := fun env S => (fa env S).bind fun x S1 => (fs env S1).bind fun xs S2 => .ok (x :: xs) S2
def fTup (fs : AF) : EF := fun env S => (fs env S).bind fun xs S1 => if xs.length ≤ 100000 then .ok (.tup xs) S1 else .bad
def fLst (fs : AF) : EF := fun env S => (fs env S).bind fun xs S1 => if xs.length ≤ 100000 then .ok (.ref S1.length) (S1 ++ [.lst xs]) else .bad
def fTest (fa : EF) : BF := fun env S => (fa env S).bind fun x S1 => match x with | .bl b => .ok b S1 | _ => .bad
def fVal (ft : BF) : EF := fun env S => (ft env S).bind fun b S1 => .ok (.bl b) S1
def fAnd (f g : BF) : BF := fun env S => (f env S).bind fun b S1 => if b = true then g env S1 else .ok false S1
def fOr (f g : BF) : BF := fun env S => (f env S).bind fun b S1 => if b = true then .ok true S1 else g env S1
def fNot (f : BF) : BF := fun env S => (f env S).bind fun b S1 => .ok (!b) S1
def fAndV (f g : EF) : EF := fun env S => (f env S).bind fun x S1 => match x with | .bl b => (if b = true then g env S1 else .ok (.bl false) S1) | _ => .bad
def fOrV (f g : EF) : EF := fun env S => (f env S).bind fun x S1 => match x with | .bl b => (if b = true then .ok (.bl true) S1 else g env S1) | _ => .bad
def fNotV (f : EF) : EF := fun env S => (f env S).bind fun x S1 => match x with | .bl b => .ok (.bl (!b)) S1 | _ => .bad
def fIfE (c : BF) (f g : EF) : EF := fun env S => (c env S).bind fun b S1 => if b = true then f env S1 else g env S1
def fChain (o o' : Op2) (fa fb fc : EF) : EF := fun env S => (fa env S).bind fun x S1 => (fb env S1).bind fun y S2 => (o x y S2).bind fun z S3 => match z with
  | .bl b => if b = true then (fc env S3).bind fun w S4 => o' y w S4 else .ok (.bl false) S3
  | _ => .bad

/-- an operator by values, simulated -/
def OpF (K : PySem.W.Frag) (E : XK) (r : R2) (o : Op2) : Prop := ∀ L H S x y d1 d2 Q, Rep K L H S → RD K L H x d1 → RD K L H y d2 → EndV K E L H Q (o d1 d2 S) → r x y H Q
def UnF (K : PySem.W.Frag) (E : XK) (r : V → Hp → VK → Prop) (o : Op1) : Prop := ∀ L H S x d1 Q, Rep K L H S → RD K L H x d1 → EndV K E L H Q (o d1 S) → r x H Q
def CaF (K : PySem.W.Frag) (E : XK) (r : List V → Hp → VK → Prop) (o : OpN) : Prop := ∀ L H S xs ds Q, Rep K L H S → RDs K L H xs ds → EndV K E L H Q (o ds S) → r xs H Q
/-- a built-in method by values -/
def MtF (K : PySem.W.Frag) (E : XK) (r : V → List V → Hp → VK → Prop) (o : D → List D → Sto → R D) : Prop := ∀ L H S x xs d ds Q, Rep K L H S → RD K L H x d → RDs K L H xs ds → EndV K E L H Q (o d ds S) → r x xs H Q

theorem sz5 {n : Nat} (h : n ≤ 100000) : n ≤ sizeLine := Nat.le_trans h (by rw [sizeLine_eq]; decide)
theorem sz5l {n : Nat} (h : n < 100000) : n < sizeLine := Nat.lt_of_lt_of_le h (by rw [sizeLine_eq]; decide)

section
variable {X : Cx} {E : XK} {a b c e : Expr} {es : List Expr} {pos : Pos} {fa fb fc : EF} {fs : AF} {ft fu : BF}

theorem xVar (i : Nat) {x : Str} (hN : X.N[i]? = some x := by rfl) (hv : Vis X.env.scope x := by first | exact Or.inl rfl | exact Or.inr (Or.inl rfl) | exact Or.inr (Or.inr rfl)) (hd : (x == ("__debug__" : Str)) = false := by decide)
    (hcd : (x == ("__classdict__" : Str)) = false := by decide) : PE X (.Name x pos) (tE X.K E (fVar i)) :=
  monoE (pe_var (i := i) hN hv hd hcd) fun σ H Q h => by
    obtain ⟨L, env, S, rep, re, h⟩ := h
    unfold fVar at h
    cases q : env[i]? with
    | none => rw [q] at h; exact h.elim
    | some o =>
      cases o with
      | none => rw [q] at h; exact h.elim
      | some d =>
        rw [q] at h
        obtain ⟨v, h1, h2⟩ := re.val i d q
        exact ⟨v, h1, EndV.val h rep h2⟩
theorem xConst {v : V} {d : D} (he : PE X e (tC v)) (h : ∀ L H, RD X.K L H v d) : PE X e (tE X.K E (fC d)) :=
  monoE he fun σ H Q ⟨L, env, S, rep, re, q⟩ => EndV.val q rep (h L H)
theorem xInt {i : Int} {j : Nat} : PE X (.Constant (.int i) j pos) (tE X.K E (fC (.int i))) := xConst pe_int fun _ _ => .int i
theorem xBl {i : Bool} {j : Nat} : PE X (.Constant (.bool i) j pos) (tE X.K E (fC (.bl i))) := xConst pe_bl fun _ _ => .bl i
theorem xNon {j : Nat} : PE X (.Constant .none j pos) (tE X.K E (fC .non)) := xConst pe_non fun _ _ => .non
theorem bin_of {K : PySem.W.Frag} {r : R2} {o : Op2} (hf : OpF K E r o) {σ : St} {H : Hp} {Q : VK} (h : tE K E (fBin o fa fb) σ H Q) : tOp r (tE K E fa) (tE K E fb) σ H Q := by
  obtain ⟨L, env, S, rep, re, h⟩ := h
  refine ⟨L, env, S, rep, re, (End.bind h).imp fun x S1 L1 H1 e1 rep1 h1 v rv => ?_⟩
  refine ⟨L1, env, S1, rep1, re.mono e1, (End.bind h1).imp fun y S2 L2 H2 e2 rep2 h2 w rw => ?_⟩
  exact hf L2 H2 S2 _ _ _ _ _ rep2 (rv.mono e2) rw h2
theorem xOp {op : Operator} {r : R2} {o : Op2} (ho : OpR X (binaryOp op) r) (hf : OpF X.K E r o) (ha : PE X a (tE X.K E fa)) (hb : PE X b (tE X.K E fb)) : PE X (.BinOp a op b pos) (tE X.K E (fBin o fa fb)) :=
  monoE (pe_op ho ha hb) fun _ _ _ h => bin_of hf h
theorem xCmp {op : CmpOp} {r : R2} {o : Op2} (ho : OpR X (compareOp op) r) (hf : OpF X.K E r o) (hm : behindInMarks op b = false) (ha : PE X a (tE X.K E fa)) (hb : PE X b (tE X.K E fb)) : PE X (.Compare a [op] [b] pos) (tE X.K E (fBin o fa fb)) :=
  monoE (pe_cmpR ho ha hb hm) fun _ _ _ h => bin_of hf h
theorem test_of {K : PySem.W.Frag} {σ : St} {H : Hp} {Q : Bool → Hp → Prop} (h : tT K E (fTest fa) σ H Q) : tE K E fa σ H fun x H1 => ∃ c, x = .bl c ∧ Q c H1 := by
  obtain ⟨L, env, S, rep, re, h⟩ := h
  refine ⟨L, env, S, rep, re, (End.bind h).imp fun x S1 L1 H1 e1 rep1 h1 v rv => ?_⟩
  cases x with
  | bl c => cases rv; exact ⟨c, rfl, h1 L1 H1 (Ex.refl _ _) rep1⟩
  | _ => exact h1.elim
theorem xCmpT {op : CmpOp} {r : R2} {o : Op2} (ho : OpR X (compareOp op) r) (hf : OpF X.K E r o) (hm : behindInMarks op b = false) (ha : PE X a (tE X.K E fa)) (hb : PE X b (tE X.K E fb)) : PT X (.Compare a [op] [b] pos) (tT X.K E (fTest (fBin o fa fb))) :=
  monoT (pt_cmpR ho ha hb hm) fun _ _ _ h => bin_of hf (test_of h)
theorem xUn {op : UnaryOp} {r : V → Hp → VK → Prop} {o : Op1} (ho : UnR X (unaryOp op) r) (hf : UnF X.K E r o) (ha : PE X a (tE X.K E fa)) : PE X (.UnaryOp op a pos) (tE X.K E (fUn o fa)) :=
  monoE (pe_un ho ha) fun σ H Q h => by
    obtain ⟨L, env, S, rep, re, h⟩ := h
    exact ⟨L, env, S, rep, re, (End.bind h).imp fun x S1 L1 H1 e1 rep1 h1 v rv => hf L1 H1 S1 _ _ _ rep1 rv h1⟩
theorem xVal (he : PE X e (tE X.K E fa)) (hp : ∀ whole, isTrue e X.env whole = (do let v ← whole; standAt e.pos; holding [v] (truthy v)) := by intro _; rfl) : PT X e (tT X.K E (fTest fa)) :=
  monoT (pt_val he hp) fun _ _ _ h => test_of h
theorem xAnd1 (ha : PT X a (tT X.K E ft)) : PW X (.BoolOp .And [a] pos) (tT X.K E ft) := pw_and1 ha
theorem xOr1 (ha : PT X a (tT X.K E ft)) : PW X (.BoolOp .Or [a] pos) (tT X.K E ft) := pw_or1 ha
theorem xAnd (ha : PT X a (tT X.K E ft)) (hb : PW X (.BoolOp .And (b :: es) pos) (tT X.K E fu)) : PW X (.BoolOp .And (a :: b :: es) pos) (tT X.K E (fAnd ft fu)) :=
  monoW (pw_and ha hb) fun σ H Q h => by
    obtain ⟨L, env, S, rep, re, h⟩ := h
    refine ⟨L, env, S, rep, re, (End.bind h).imp fun x S1 L1 H1 e1 rep1 h1 => ?_⟩
    cases x with
    | true => exact iteT ⟨L1, env, S1, rep1, re.mono e1, h1⟩
    | false => exact iteF (h1 L1 H1 (Ex.refl _ _) rep1)
theorem xOr (ha : PT X a (tT X.K E ft)) (hb : PW X (.BoolOp .Or (b :: es) pos) (tT X.K E fu)) : PW X (.BoolOp .Or (a :: b :: es) pos) (tT X.K E (fOr ft fu)) :=
  monoW (pw_or ha hb) fun σ H Q h => by
    obtain ⟨L, env, S, rep, re, h⟩ := h
    refine ⟨L, env, S, rep, re, (End.bind h).imp fun x S1 L1 H1 e1 rep1 h1 => ?_⟩
    cases x with
    | true => exact iteT (h1 L1 H1 (Ex.refl _ _) rep1)
    | false => exact iteF ⟨L1, env, S1, rep1, re.mono e1, h1⟩
theorem xNot (ha : PT X a (tT X.K E ft)) : PT X (.UnaryOp .Not a pos) (tT X.K E (fNot ft)) :=
  monoT (pt_not ha) fun σ H Q h => by
    obtain ⟨L, env, S, rep, re, h⟩ := h
    exact ⟨L, env, S, rep, re, (End.bind h).imp fun x S1 L1 H1 e1 rep1 h1 => h1 L1 H1 (Ex.refl _ _) rep1⟩
/-! ### lists of expressions -/
theorem xNil : PA X [] (tA X.K E fNil) := monoA pa_nil fun σ H Q ⟨L, env, S, rep, re, h⟩ => h L H (Ex.refl _ _) rep [] .nil
theorem xCons (ha : PE X e (tE X.K E fa)) (hr : PA X es (tA X.K E fs)) (hs : starEach (e :: es) X.env = (false, eval e X.env) :: starEach es X.env := by rfl) : PA X (e :: es) (tA X.K E (fCons fa fs)) :=
  monoA (pa_cons ha hr hs) fun σ H Q h => by
    obtain ⟨L, env, S, rep, re, h⟩ := h
    refine ⟨L, env, S, rep, re, (End.bind h).imp fun x S1 L1 H1 e1 rep1 h1 v rv => ?_⟩
    refine ⟨L1, env, S1, rep1, re.mono e1, (End.bind h1).imp fun xs S2 L2 H2 e2 rep2 h2 vs rvs => ?_⟩
    exact h2 L2 H2 (Ex.refl _ _) rep2 _ (.cons (rv.mono e2) rvs)
theorem xTup {x1} (h : PA X es (tA X.K E fs)) : PE X (.Tuple es x1 pos) (tE X.K E (fTup fs)) :=
  monoE (pe_tup h) fun σ H Q h => by
    obtain ⟨L, env, S, rep, re, h⟩ := h
    refine ⟨L, env, S, rep, re, (End.bind h).imp fun xs S1 L1 H1 e1 rep1 h1 vs rvs => ?_⟩
    by_cases hl : xs.length ≤ 100000
    · rw [if_pos hl] at h1
      refine ⟨by rw [rvs.length]; exact sz5 hl, fun p hp => ?_⟩
      exact EndV.val (h1.later (Ex.new hp)) (rep1.new hp) (.tup upd_same (rvs.mono (Ex.new hp)))
    · rw [if_neg hl] at h1; exact h1.elim
theorem newList {K : PySem.W.Frag} {L : List Addr} {H : Hp} {S : Sto} {Q : VK} {vs : List V} {ds : List D} (h : EndV K E L H Q (.ok (.ref S.length) (S ++ [.lst ds]))) (rep : Rep K L H S) (r : RDs K L H vs ds) (p : Addr) (hp : H p = none) : Q (.ref p) (upd H p (.lst vs)) := by
  have ex := Ex.newc (L := L) (o := .lst vs) hp
  refine EndV.val (h.later ex) (rep.newc hp ⟨vs, upd_same, r.mono ex⟩) (.ref ?_)
  rw [← rep.len, List.getElem?_append_right (Nat.le_refl _)]
  simp
theorem xLst (h : PA X es (tA X.K E fs)) : PE X (.List es pos) (tE X.K E (fLst fs)) :=
  monoE (pe_lst h) fun σ H Q h => by
    obtain ⟨L, env, S, rep, re, h⟩ := h
    refine ⟨L, env, S, rep, re, (End.bind h).imp fun xs S1 L1 H1 e1 rep1 h1 vs rvs => ?_⟩
    by_cases hl : xs.length ≤ 100000
    · rw [if_pos hl] at h1
      exact ⟨by rw [rvs.length]; exact sz5 hl, fun p hp => newList h1 rep1 rvs p hp⟩
    · rw [if_neg hl] at h1; exact h1.elim
theorem app_of {K : PySem.W.Frag} {r : List V → Hp → VK → Prop} {o : OpN} (hf : CaF K E r o) {σ : St} {H : Hp} {Q : VK} (h : tE K E (fApp o fs) σ H Q) : tCB r (tA K E fs) σ H Q := by
  obtain ⟨L, env, S, rep, re, h⟩ := h
  exact ⟨L, env, S, rep, re, (End.bind h).imp fun xs S1 L1 H1 e1 rep1 h1 vs rvs => hf L1 H1 S1 _ _ _ rep1 rvs h1⟩
theorem xCB {x : Str} {id : String} {r : List V → Hp → VK → Prop} {o : OpN} {p : Pos} (hc : CallR X (.builtin id) r) (hf : CaF X.K E r o) (hg : Gl X x) (hm : X.mg x = none) (hv : bootBuiltins x = some (.builtin id)) (ha : PA X (e :: es) (tA X.K E fs)) (hn : x ≠ "__name__" := by decide) (hdb : (x == ("__debug__" : Str)) = false := by decide)
    (he : starEach (e :: es) X.env = (false, eval e X.env) :: starEach es X.env := by rfl) (hpl : (backTo pos (starEach es X.env)).any (·.1) = false := by rfl) : PE X (.Call (.Name x p) (e :: es) [] pos) (tE X.K E (fApp o fs)) :=
  monoE (pe_callB hc hg hm hv ha hn hdb he hpl) fun _ _ _ h => app_of hf h
theorem xCT {x : Str} {T : String} {r : List V → Hp → VK → Prop} {o : OpN} {p : Pos} (hc : CallR X (.type T) r) (hf : CaF X.K E r o) (hg : Gl X x) (hm : X.mg x = none) (hv : bootBuiltins x = some (.type T)) (ha : PA X (e :: es) (tA X.K E fs)) (hn : x ≠ "__name__" := by decide) (hdb : (x == ("__debug__" : Str)) = false := by decide)
    (he : starEach (e :: es) X.env = (false, eval e X.env) :: starEach es X.env := by rfl) (hpl : (backTo pos (starEach es X.env)).any (·.1) = false := by rfl) : PE X (.Call (.Name x p) (e :: es) [] pos) (tE X.K E (fApp o fs)) :=
  monoE (pe_callTy hc hg hm hv ha hn hdb he hpl) fun _ _ _ h => app_of hf h
end

/-! ### statements -/
def fSkip : SF := fun env S => .ok (.nx env) S
def fSeq (f g : SF) : SF := fun env S => (f env S).bind fun fl S1 => match fl with | .nx e => g e S1 | .rt d => .ok (.rt d) S1 | .bk e => .ok (.bk e) S1 | .ct e => .ok (.ct e) S1
def fIf (c : BF) (f g : SF) : SF := fun env S => (c env S).bind fun b S1 => if b = true then f env S1 else g env S1
def fRet (f : EF) : SF := fun env S => (f env S).bind fun d S1 => .ok (.rt d) S1
def fRetN : SF := fun _ S => .ok (.rt .non) S
def fDrop (f : EF) : SF := fun env S => (f env S).bind fun _ S1 => .ok (.nx env) S1
abbrev GF := D → Lc → Sto → R Lc
def gN (i : Nat) : GF := fun d env S => .ok (env.set i (some d)) S
def fAsg (f : EF) (g : GF) : SF := fun env S => (f env S).bind fun d S1 => (g d env S1).bind fun env1 S2 => .ok (.nx env1) S2
def fBrk : SF := fun env S => .ok (.bk env) S
def fCnt : SF := fun env S => .ok (.ct env) S
abbrev GsF := List D → Lc → Sto → R Lc
def gNil' : GsF := fun ds env S => match ds with | [] => .ok env S | _ => .bad
def gCons' (g : GF) (gs : GsF) : GsF := fun ds env S => match ds with | d :: r => (g d env S).bind fun env1 S1 => gs r env1 S1 | [] => .bad
def gTup' (n : Nat) (gs : GsF) : GF := fun d env S => match d with | .tup ds => if ds.length = n then gs ds env S else .bad | _ => .bad
/-- a, b = a list of that length -/
def tG (K : PySem.W.Frag) (E : XK) (g : GF) : TG := fun v σ H Q => ∃ L env S d, Rep K L H S ∧ RE K L H σ env ∧ RD K L H v d ∧ End K E L H (fun env1 _ L1 H1 => ∀ σ1, RE K L1 H1 σ1 env1 → Q σ1 H1) (g d env S)
def tGs (K : PySem.W.Frag) (E : XK) (g : GsF) : TGs := fun vs σ H Q => ∃ L env S ds, Rep K L H S ∧ RE K L H σ env ∧ RDs K L H vs ds ∧ End K E L H (fun env1 _ L1 H1 => ∀ σ1, RE K L1 H1 σ1 env1 → Q σ1 H1) (g ds env S)

section
variable {X : Cx} {E : XK} {a b c e : Expr} {es : List Expr} {pos : Pos} {fa fb fc : EF} {fs : AF} {ft fu : BF} {st : Stmt} {rest : List Stmt} {f g : SF}
theorem xSkip : PSs X [] (tS X.K E fSkip) := monoSs pss_nil fun D σ H ⟨L, env, S, rep, re, h⟩ => h L H (Ex.refl _ _) rep σ re
theorem xOne (h : PS X st (tS X.K E f)) : PSs X [st] (tS X.K E f) := pss_one h
theorem xSeq (h1 : PS X st (tS X.K E f)) (h2 : PSs X rest (tS X.K E g)) : PSs X (st :: rest) (tS X.K E (fSeq f g)) :=
  monoSs (pss_cons h1 h2) fun D σ H h => by
    obtain ⟨L, env, S, rep, re, h⟩ := h
    refine ⟨L, env, S, rep, re, (End.bind h).imp fun fl S1 L1 H1 e1 rep1 h1 => ?_⟩
    cases fl with
    | nx env1 => exact fun σ1 r1 => ⟨L1, env1, S1, rep1, r1, h1⟩
    | rt d => exact h1 L1 H1 (Ex.refl _ _) rep1
    | bk d => exact h1 L1 H1 (Ex.refl _ _) rep1
    | ct d => exact h1 L1 H1 (Ex.refl _ _) rep1
theorem xIf {sa sb : List Stmt} (hc : PT X c (tT X.K E ft)) (ha : PSs X sa (tS X.K E f)) (hb : PSs X sb (tS X.K E g)) : PS X (.If c sa sb pos) (tS X.K E (fIf ft f g)) :=
  monoS (ps_if hc ha hb) fun D σ H h => by
    obtain ⟨L, env, S, rep, re, h⟩ := h
    refine ⟨L, env, S, rep, re, (End.bind h).imp fun b S1 L1 H1 e1 rep1 h1 => ?_⟩
    cases b with
    | true => exact iteT ⟨L1, env, S1, rep1, re.mono e1, h1⟩
    | false => exact iteF ⟨L1, env, S1, rep1, re.mono e1, h1⟩
theorem xRet (he : PE X e (tE X.K E fa)) : PS X (.Return (some e) pos) (tS X.K E (fRet fa)) :=
  monoS (ps_ret he) fun D σ H h => by
    obtain ⟨L, env, S, rep, re, h⟩ := h
    exact ⟨L, env, S, rep, re, (End.bind h).imp fun d S1 L1 H1 e1 rep1 h1 v rv => h1 L1 H1 (Ex.refl _ _) rep1 v rv⟩
theorem xExpr (he : PE X e (tE X.K E fa)) (hs : swapsWith e none pos.line X.env = pure false := by rfl) : PS X (.Expr e pos) (tS X.K E (fDrop fa)) :=
  monoS (ps_expr he hs) fun D σ H h => by
    obtain ⟨L, env, S, rep, re, h⟩ := h
    exact ⟨L, env, S, rep, re, (End.bind h).imp fun d S1 L1 H1 e1 rep1 h1 v rv => h1 L1 H1 (Ex.refl _ _) rep1 σ (re.mono e1)⟩
theorem xgN {i : Nat} {x : Str} (hN : X.N.Nodup) (hi : X.N[i]? = some x) (hx : Loc X.env.scope x) (hf : X.fn x = true ∨ X.env.scope.names.lookup x = some .local := by first | exact .inl rfl | exact .inr rfl | assumption) : PG X (.Name x pos) (tG X.K E (gN i)) := by
  have h := pg_name (pos := pos) hN hi hx hf
  refine ⟨fun pins s σ H v u Q I r q => h.run pins s σ H v u Q I r ?_⟩
  obtain ⟨L, env, S, d, rep, re, rd, q⟩ := q
  exact q L H (Ex.refl _ _) rep _ (re.set rd)
theorem xAsg {tg : Expr} {gf : GF} (he : PE X e (tE X.K E fa)) (hg : PG X tg (tG X.K E gf)) (hs : swapsWithSole [tg] e pos.line X.env = pure false := by rfl) (hw : swappedStores [tg] e X.env = pure none := by rfl) (h1 : (assignEach [tg] X.env).map (·.2) = [assign tg X.env] := by rfl) : PS X (.Assign [tg] e pos) (tS X.K E (fAsg fa gf)) :=
  monoS (ps_asg he hg hs hw h1) fun D σ H h => by
    obtain ⟨L, env, S, rep, re, h⟩ := h
    refine ⟨L, env, S, rep, re, (End.bind h).imp fun d S1 L1 H1 e1 rep1 h1 v rv => ?_⟩
    exact ⟨L1, env, S1, d, rep1, re.mono e1, rv, (End.bind h1).imp fun env1 S2 L2 H2 e2 rep2 h2 σ1 r1 => h2 L2 H2 (Ex.refl _ _) rep2 σ1 r1⟩
theorem xSet {i : Nat} {x : Str} {pos' : Pos} (hN : X.N.Nodup) (hi : X.N[i]? = some x) (hx : Loc X.env.scope x) (he : PE X e (tE X.K E fa)) (hs : swapsWith e (some (.Name x pos')) pos.line X.env = pure false := by rfl) (hf : X.fn x = true ∨ X.env.scope.names.lookup x = some .local := by first | exact .inl rfl | exact .inr rfl | assumption) :
    PS X (.Assign [.Name x pos'] e pos) (tS X.K E (fAsg fa (gN i))) :=
  monoS (ps_set hN hi hx he hs hf) fun D σ H h => by
    obtain ⟨L, env, S, rep, re, h⟩ := h
    refine ⟨L, env, S, rep, re, (End.bind h).imp fun d S1 L1 H1 e1 rep1 h1 v rv => ?_⟩
    exact h1 L1 H1 (Ex.refl _ _) rep1 _ ((re.mono e1).set rv)
theorem xgNil : PGs X [] (tGs X.K E gNil') := by
  refine ⟨fun pins s σ H vs us Q I r q => pgs_nil.run pins s σ H vs us Q I r ?_⟩
  obtain ⟨L, env, S, ds, rep, re, rd, q⟩ := q
  cases rd with
  | nil => exact ⟨rfl, q L H (Ex.refl _ _) rep σ re⟩
  | cons _ _ => exact q.elim
theorem xgCons {g : GF} {gs : GsF} (h1 : PG X e (tG X.K E g)) (h2 : PGs X es (tGs X.K E gs)) (hs : (assignEach (e :: es) X.env).map (·.2) = assign e X.env :: (assignEach es X.env).map (·.2) := by rfl) : PGs X (e :: es) (tGs X.K E (gCons' g gs)) := by
  refine ⟨fun pins s σ H vs us Q I r q => (pgs_cons h1 h2 hs).run pins s σ H vs us Q I r ?_⟩
  obtain ⟨L, env, S, ds, rep, re, rd, q⟩ := q
  cases rd with
  | nil => exact q.elim
  | cons r1 r2 =>
    refine ⟨_, _, rfl, L, env, S, _, rep, re, r1, (End.bind q).imp fun env1 S1 L1 H1 e1 rep1 h1 σ1 rσ => ?_⟩
    exact ⟨L1, env1, S1, _, rep1, rσ, r2.mono e1, h1⟩
end
end RF

namespace RF
open PySem L2

/-- what a loop goes over: fixed items, or the list at a place as it stands at each turn -/
inductive It' where
  | fix (xs : List D) | live (n : Nat) (xs : List D)
def ItOk (K : PySem.W.Frag) (L : List Addr) (H : Hp) (J : It) : It' → Prop
  | .fix xs => ∀ (i : Nat) L1 H1 S1, Ex L H L1 H1 → Rep K L1 H1 S1 → (∀ d, xs[i]? = some d → J.go i H1 ∧ ∀ x H2, J.yld i H1 x H2 → Ex L1 H1 L1 H2 ∧ Rep K L1 H2 S1 ∧ RD K L1 H2 x d) ∧ (xs.length ≤ i → J.stop i H1)
  | .live n _ => ∀ (i : Nat) L1 H1 S1 ys, Ex L H L1 H1 → Rep K L1 H1 S1 → S1[n]? = some (.lst ys) → (∀ d, ys[i]? = some d → J.go i H1 ∧ ∀ x H2, J.yld i H1 x H2 → Ex L1 H1 L1 H2 ∧ Rep K L1 H2 S1 ∧ RD K L1 H2 x d) ∧ (ys.length ≤ i → J.stop i H1)
abbrev IF := Lc → Sto → R It'
def tI (K : PySem.W.Frag) (E : XK) (f : IF) : TI := fun σ H R => ∃ L env S, Rep K L H S ∧ RE K L H σ env ∧ End K E L H (fun it _ L1 H1 => ∀ J, ItOk K L1 H1 J it → R J H1) (f env S)

def fIter (fa : EF) : IF := fun env S => (fa env S).bind fun d S1 => match d with
  | .rl xs => .ok (.fix xs) S1
  | .tup xs => .ok (.fix xs) S1
  | .kt xs => .ok (.fix xs) S1
  | .ref n => match S1[n]? with
    | some (.lst xs) => .ok (.live n xs) S1
    | _ => .bad
  | _ => .bad
def rngD (lo : Int) (n : Nat) : List D := (List.range n).map fun k => .int (lo + (k : Nat))
def fRng1 (fs : AF) : IF := fun env S => (fs env S).bind fun ds S1 => match ds with
  | [.int j] => if -(2 ^ 62) ≤ j ∧ j < 2 ^ 62 then .ok (.fix (rngD 0 j.toNat)) S1 else .bad
  | _ => .bad
def fRng2 (fs : AF) : IF := fun env S => (fs env S).bind fun ds S1 => match ds with
  | [.int i, .int j] => if -(2 ^ 62) ≤ i ∧ i < 2 ^ 62 ∧ -(2 ^ 62) ≤ j ∧ j < 2 ^ 62 then .ok (.fix (rngD i (j - i).toNat)) S1 else .bad
  | _ => .bad
def loopX (g : GF) (body : SF) : List D → Lc → Sto → R Fl
  | [], env, S => .ok (.nx env) S
  | d :: xs, env, S => (g d env S).bind fun env1 S1 => (body env1 S1).bind fun fl S2 => match fl with
    | .nx e => loopX g body xs e S2
    | .ct e => loopX g body xs e S2
    | .bk e => .ok (.nx e) S2
    | .rt d => .ok (.rt d) S2
def loopL (n : Nat) (g : GF) (body : SF) : List D → Nat → Lc → Sto → R Fl
  | [], i, env, S => match S[n]? with
    | some (.lst ys) => if ys.length ≤ i then .ok (.nx env) S else .bad
    | _ => .bad
  | _ :: xs, i, env, S => match S[n]? with
    | some (.lst ys) => match ys[i]? with
      | none => .ok (.nx env) S
      | some d => (g d env S).bind fun env1 S1 => (body env1 S1).bind fun fl S2 => match fl with
        | .nx e => loopL n g body xs (i + 1) e S2
        | .ct e => loopL n g body xs (i + 1) e S2
        | .bk e => .ok (.nx e) S2
        | .rt d => .ok (.rt d) S2
    | _ => .bad
def fFor (fi : IF) (g : GF) (body : SF) : SF := fun env S => (fi env S).bind fun it S1 => match it with
  | .fix xs => loopX g body xs env S1
  | .live n xs => loopL n g body xs 0 env S1

section
variable {X : Cx} {E : XK} {tg l iter a b : Expr} {fa fb : EF} {fs : AF} {pos : Pos}
theorem xIter (h : PE X l (tE X.K E fa)) : PI X tg l (tI X.K E (fIter fa)) := by
  have h1 := pi_list (tg := tg) h
  have h2 := pi_tup (tg := tg) h
  refine ⟨fun pins s σ H R I q => ?_⟩
  obtain ⟨L, env, S, rep, re, q⟩ := q
  have key : iList X.K (tE X.K E fa) σ H R ∨ iTup X.K (tE X.K E fa) σ H R := by
    have q' := End.bind q
    cases e : fa env S with
    | bad => rw [e] at q'; exact q'.elim
    | ex c S1 =>
      rw [e] at q'
      refine .inl ⟨L, env, S, rep, re, ?_⟩
      rw [e]; exact q'
    | ok d S1 =>
      rw [e] at q'
      have step : ∀ {Q : VK}, (∀ L1 H1, Ex L H L1 H1 → Rep X.K L1 H1 S1 → ∀ v, RD X.K L1 H1 v d → Q v H1) → tE X.K E fa σ H Q := fun k => ⟨L, env, S, rep, re, by rw [e]; exact k⟩
      cases d with
      | tup xs =>
        refine .inr (step fun L1 H1 e1 rep1 v rv => ?_)
        have q1 := (q' L1 H1 e1 rep1) L1 H1 (Ex.refl _ _) rep1
        cases rv with
        | @tup a vs _ hs rs =>
          refine ⟨a, rfl, ⟨vs, .of hs⟩, q1 _ fun i L2 H2 S2 e2 rep2 => ?_⟩
          have t2 : SqT X.K H2 a vs := .of (e2.tp _ _ hs)
          have r2 := rs.mono e2
          refine ⟨fun d hd => ?_, fun hl => ⟨vs, t2, by rw [rs.length]; exact hl⟩⟩
          obtain ⟨x, hx, rx⟩ := r2.get hd
          refine ⟨⟨vs, x, t2, hx⟩, fun y H3 hy => ?_⟩
          obtain ⟨rfl, hy⟩ := hy
          have := hy vs t2
          rw [hx] at this; cases this
          exact ⟨Ex.refl _ _, rep2, rx⟩
      | kt xs =>
        refine .inr (step fun L1 H1 e1 rep1 v rv => ?_)
        have q1 := (q' L1 H1 e1 rep1) L1 H1 (Ex.refl _ _) rep1
        cases rv with
        | @kt a vs _ hs rs =>
          refine ⟨a, rfl, ⟨vs, hs _⟩, q1 _ fun i L2 H2 S2 e2 rep2 => ?_⟩
          have t2 : SqT X.K H2 a vs := hs _
          have r2 := rs.mono e2
          refine ⟨fun d hd => ?_, fun hl => ⟨vs, t2, by rw [rs.length]; exact hl⟩⟩
          obtain ⟨x, hx, rx⟩ := r2.get hd
          refine ⟨⟨vs, x, t2, hx⟩, fun y H3 hy => ?_⟩
          obtain ⟨rfl, hy⟩ := hy
          have := hy vs t2
          rw [hx] at this; cases this
          exact ⟨Ex.refl _ _, rep2, rx⟩
      | rl xs =>
        refine .inl (step fun L1 H1 e1 rep1 v rv => ?_)
        have q1 := (q' L1 H1 e1 rep1) L1 H1 (Ex.refl _ _) rep1
        cases rv with
        | @rl a vs _ hs rs =>
          refine ⟨a, rfl, ⟨vs, hs _ fun _ _ z => z⟩, q1 _ fun i L2 H2 S2 e2 rep2 => ?_⟩
          have t2 : SqL X.K H2 a vs := hs _ fun o _ => e2.fz _ o _
          have r2 := rs.mono e2
          refine ⟨fun d hd => ?_, fun hl => ⟨vs, t2, by rw [rs.length]; exact hl⟩⟩
          obtain ⟨x, hx, rx⟩ := r2.get hd
          refine ⟨⟨vs, x, t2, hx⟩, fun y H3 hy => ?_⟩
          obtain ⟨rfl, hy⟩ := hy
          have := hy vs t2
          rw [hx] at this; cases this
          exact ⟨Ex.refl _ _, rep2, rx⟩
      | ref n =>
        refine .inl (step fun L1 H1 e1 rep1 v rv => ?_)
        have q0 := q' L1 H1 e1 rep1
        cases rv with
        | @ref a _ ha =>
          obtain ⟨c, hc, rc⟩ := rep1.adr ha
          simp only [hc] at q0
          cases c with
          | lst xs =>
            have q1 := q0 L1 H1 (Ex.refl _ _) rep1
            obtain ⟨vs, hv, rvs⟩ := rc
            refine ⟨a, rfl, ⟨vs, .of hv⟩, q1 _ fun i L2 H2 S2 ys e2 rep2 hy => ?_⟩
            obtain ⟨a', ha', vs2, hv2, rvs2⟩ := rep2.at hy
            rw [e2.px _ _ ha] at ha'; cases ha'
            refine ⟨fun d hd => ?_, fun hl => ⟨vs2, .of hv2, by rw [rvs2.length]; exact hl⟩⟩
            obtain ⟨x, hx, rx⟩ := rvs2.get hd
            refine ⟨⟨vs2, x, .of hv2, hx⟩, fun y H3 hy => ?_⟩
            obtain ⟨rfl, hy⟩ := hy
            have := hy vs2 (.of hv2)
            rw [hx] at this; cases this
            exact ⟨Ex.refl _ _, rep2, rx⟩
          | _ => exact q0.elim
      | _ => exact .inl (step fun L1 H1 e1 rep1 v rv => False.elim (q' L1 H1 e1 rep1))
  rcases key with k | k
  · exact h1.run pins s σ H R I k
  · exact h2.run pins s σ H R I k
theorem rngD_get {lo : Int} {n i : Nat} {d : D} (h : (rngD lo n)[i]? = some d) : i < n ∧ d = .int (lo + (i : Nat)) := by
  unfold rngD at h
  rw [List.getElem?_map] at h
  by_cases hi : i < n
  · rw [List.getElem?_eq_getElem (by rw [List.length_range]; exact hi)] at h
    simp at h
    exact ⟨hi, h.symm⟩
  · rw [List.getElem?_eq_none (by rw [List.length_range]; omega)] at h
    simp at h
theorem rngD_len {lo : Int} {n : Nat} : (rngD lo n).length = n := by unfold rngD; rw [List.length_map, List.length_range]
theorem itr_ok {K : PySem.W.Frag} {L : List Addr} {H : Hp} (lo : Int) (n : Nat) : ItOk K L H (Itr lo n) (.fix (rngD lo n)) := fun i L1 H1 S1 e1 rep1 => by
  refine ⟨fun d hd => ?_, fun hl => by rw [rngD_len] at hl; exact hl⟩
  obtain ⟨h1, rfl⟩ := rngD_get hd
  refine ⟨h1, fun x H2 y => ?_⟩
  obtain ⟨rfl, rfl⟩ := y
  exact ⟨Ex.refl _ _, rep1, .int _⟩
theorem xRng1 {p : Pos} (hg : Gl X "range") (hm : X.mg "range" = none) (ha : PA X [a] (tA X.K E fs)) (hs : starEach [a] X.env = [(false, eval a X.env)] := by rfl) : PI X tg (.Call (.Name "range" p) [a] [] pos) (tI X.K E (fRng1 fs)) := by
  refine ⟨fun pins s σ H R I q => (pi_range1 hg hm ha hs).run pins s σ H R I ?_⟩
  obtain ⟨L, env, S, rep, re, q⟩ := q
  refine ⟨L, env, S, rep, re, (End.bind q).imp fun ds S1 L1 H1 e1 rep1 h1 vs rvs => ?_⟩
  cases rvs with
  | nil => exact h1.elim
  | cons r1 r2 =>
    cases r1 with
    | int j =>
      cases r2 with
      | cons _ _ => exact h1.elim
      | nil =>
        have h1 : End X.K E L1 H1 (fun it _ L1 H1 => ∀ J, ItOk X.K L1 H1 J it → R J H1) (if -(2 ^ 62) ≤ j ∧ j < 2 ^ 62 then .ok (.fix (rngD 0 j.toNat)) S1 else .bad) := h1
        by_cases hj : -(2 ^ 62) ≤ j ∧ j < 2 ^ 62
        · rw [if_pos hj] at h1
          exact ⟨j, rfl, hj.1, hj.2, h1 L1 H1 (Ex.refl _ _) rep1 _ (itr_ok 0 _)⟩
        · rw [if_neg hj] at h1; exact h1.elim
    | _ => exact h1.elim
/-- behind a turn -/
theorem turn_of {K : PySem.W.Frag} {D : Ends} {L : List Addr} {H : Hp} {nxt : Lc → Sto → R Fl} {N : St → Hp → Prop} {fl : Fl} {S : Sto} (rep : Rep K L H S) (hN : ∀ env σ, RE K L H σ env → End K E L H (fun fl _ L1 H1 => FlQ K D L1 H1 fl) (nxt env S) → N σ H)
    (h : End K E L H (fun fl _ L1 H1 => FlQ K D L1 H1 fl) (match fl with
      | .nx e => nxt e S
      | .ct e => nxt e S
      | .bk e => .ok (.nx e) S
      | .rt d => .ok (.rt d) S)) : FlQ K { D with nx := N, ct := N, bk := D.nx } L H fl := by
  cases fl with
  | nx e => exact fun σ r => hN e σ r h
  | ct e => exact fun σ r => hN e σ r h
  | bk e => exact fun σ r => h L H (Ex.refl _ _) rep σ r
  | rt d => exact fun v r => h L H (Ex.refl _ _) rep v r
theorem xFor {body : List Stmt} {fi : IF} {g : GF} {fb : SF} (hp : PassesOwn (model X.prog X.w) X.A X.env X.xe) (hc : X.calm = true) (hi : PI X tg iter (tI X.K E fi)) (hg : PG X tg (tG X.K E g)) (hb : PSs X body (tS X.K E fb))
    (hs : ∀ x, foldedSetIterable iter X.env x = pure x := by intro _; rfl) : PS X (.For tg iter body [] pos) (tS X.K E (fFor fi g fb)) :=
  monoS (ps_for hp hc hi hg hb hs) fun D σ H h => by
    obtain ⟨L, env, S, rep, re, h⟩ := h
    refine ⟨L, env, S, rep, re, (End.bind h).imp fun it S1 L1 H1 e1 rep1 h1 J hJ => ?_⟩
    cases it with
    | fix xs =>
      refine ⟨fun i m σ H => m = xs.length - i ∧ i ≤ xs.length ∧ ∃ L2 env S, Ex L1 H1 L2 H ∧ Rep X.K L2 H S ∧ RE X.K L2 H σ env ∧ End X.K E L2 H (fun fl _ L1 H1 => FlQ X.K D L1 H1 fl) (loopX g fb (xs.drop i) env S),
        ⟨xs.length, by simp, Nat.zero_le _, L1, env, S1, Ex.refl _ _, rep1, re.mono e1, h1⟩, ?_⟩
      rintro i m σ2 H2 ⟨rfl, hi, L2, env2, S2, e2, rep2, re2, h2⟩
      have ok := hJ i L2 H2 S2 e2 rep2
      by_cases hlt : i < xs.length
      · have hd : xs[i]? = some xs[i] := List.getElem?_eq_getElem hlt
        obtain ⟨hgo, hy⟩ := ok.1 _ hd
        rw [List.drop_eq_getElem_cons hlt] at h2
        refine .inr ⟨hgo, fun σ3 H3 => ∃ L2 env S, Ex L1 H1 L2 H3 ∧ Rep X.K L2 H3 S ∧ RE X.K L2 H3 σ3 env ∧ End X.K E L2 H3 (fun fl _ L1 H1 => FlQ X.K D L1 H1 fl) (loopX g fb (xs.drop (i + 1)) env S),
          fun σ3 H3 q => ⟨_, by omega, rfl, hlt, q⟩, fun x H3 y => ?_⟩
        obtain ⟨e3, rep3, rx⟩ := hy x H3 y
        refine ⟨L2, env2, S2, _, rep3, re2.mono e3, rx, (End.bind (h2.later e3)).imp fun env4 S4 L4 H4 e4 rep4 h4 σ4 r4 => ?_⟩
        refine ⟨L4, env4, S4, rep4, r4, (End.bind h4).imp fun fl S5 L5 H5 e5 rep5 h5 => ?_⟩
        exact turn_of (nxt := fun e S => loopX g fb (xs.drop (i + 1)) e S) rep5 (fun env6 σ6 r6 h6 => ⟨L5, env6, S5, ((e2.trans e3).trans e4).trans e5, rep5, r6, h6⟩) h5
      · have e : i = xs.length := by omega
        refine .inl ⟨ok.2 (by omega), ?_⟩
        rw [List.drop_eq_nil_of_le (by omega)] at h2
        exact h2 L2 H2 (Ex.refl _ _) rep2 σ2 re2
    | live n xs =>
      refine ⟨fun i m σ H => ∃ rest L2 env S, m = List.length rest ∧ Ex L1 H1 L2 H ∧ Rep X.K L2 H S ∧ RE X.K L2 H σ env ∧ End X.K E L2 H (fun fl _ L1 H1 => FlQ X.K D L1 H1 fl) (loopL n g fb rest i env S),
        ⟨xs.length, xs, L1, env, S1, rfl, Ex.refl _ _, rep1, re.mono e1, h1⟩, ?_⟩
      rintro i m σ2 H2 ⟨rest, L2, env2, S2, rfl, e2, rep2, re2, h2⟩
      have fin : ∀ ys, S2[n]? = some (.lst ys) → ys.length ≤ i → End X.K E L2 H2 (fun fl _ L1 H1 => FlQ X.K D L1 H1 fl) (.ok (.nx env2) S2) → (J.stop i H2 ∧ D.nx σ2 H2) := fun ys q hl h =>
        ⟨(hJ i L2 H2 S2 ys e2 rep2 q).2 hl, h L2 H2 (Ex.refl _ _) rep2 σ2 re2⟩
      cases rest with
      | nil =>
        unfold loopL at h2
        cases q : S2[n]? with
        | none => rw [q] at h2; exact h2.elim
        | some c =>
          cases c with
          | lst ys =>
            rw [q] at h2
            simp only at h2
            by_cases hl : ys.length ≤ i
            · rw [if_pos hl] at h2
              exact .inl (fin ys q hl h2)
            · rw [if_neg hl] at h2; exact h2.elim
          | _ => rw [q] at h2; exact h2.elim
      | cons r0 rest =>
        unfold loopL at h2
        cases q : S2[n]? with
        | none => rw [q] at h2; exact h2.elim
        | some c =>
          cases c with
          | lst ys =>
            rw [q] at h2
            simp only at h2
            cases hd : ys[i]? with
            | none =>
              rw [hd] at h2
              exact .inl (fin ys q (List.getElem?_eq_none_iff.mp hd) h2)
            | some d =>
              rw [hd] at h2
              simp only at h2
              obtain ⟨hgo, hy⟩ := (hJ i L2 H2 S2 ys e2 rep2 q).1 _ hd
              refine .inr ⟨hgo, fun σ3 H3 => ∃ L2 env S, Ex L1 H1 L2 H3 ∧ Rep X.K L2 H3 S ∧ RE X.K L2 H3 σ3 env ∧ End X.K E L2 H3 (fun fl _ L1 H1 => FlQ X.K D L1 H1 fl) (loopL n g fb rest (i + 1) env S),
                fun σ3 H3 ⟨L5, env5, S5, q1, q2, q3, q4⟩ => ⟨_, by simp, rest, L5, env5, S5, rfl, q1, q2, q3, q4⟩, fun x H3 y => ?_⟩
              obtain ⟨e3, rep3, rx⟩ := hy x H3 y
              refine ⟨L2, env2, S2, _, rep3, re2.mono e3, rx, (End.bind (h2.later e3)).imp fun env4 S4 L4 H4 e4 rep4 h4 σ4 r4 => ?_⟩
              refine ⟨L4, env4, S4, rep4, r4, (End.bind h4).imp fun fl S5 L5 H5 e5 rep5 h5 => ?_⟩
              exact turn_of (nxt := fun e S => loopL n g fb rest (i + 1) e S) rep5 (fun env6 σ6 r6 h6 => ⟨L5, env6, S5, ((e2.trans e3).trans e4).trans e5, rep5, r6, h6⟩) h5
          | _ => rw [q] at h2; exact h2.elim
end
end RF

namespace RF
open PySem L2

/-! ### list comprehensions: one name as the target -/
def R.nox {α : Type} : R α → R α
  | .ok a S => .ok a S
  | _ => .bad
@[simp] theorem R.nox_ok {α : Type} (a : α) (S : Sto) : (R.ok a S).nox = .ok a S := (rfl)
abbrev D' := D
abbrev E0' : XK := fun _ _ _ => False
def compX (i : Nat) (ft : BF) (fe : EF) (env : Lc) : List D → List D → Sto → R D
  | [], acc, S => .ok (.ref S.length) (S ++ [.lst acc])
  | d :: xs, acc, S => (ft (env.set i (some d)) S).nox.bind fun b S1 => if b = true then ((fe (env.set i (some d)) S1).nox.bind fun y S2 => if acc.length < 100000 then compX i ft fe env xs (acc ++ [y]) S2 else .bad) else compX i ft fe env xs acc S1
def compL (n i : Nat) (ft : BF) (fe : EF) (env : Lc) : List D → Nat → List D → Sto → R D
  | [], j, acc, S => match S[n]? with
    | some (.lst ys) => if ys.length ≤ j then .ok (.ref S.length) (S ++ [.lst acc]) else .bad
    | _ => .bad
  | _ :: xs, j, acc, S => match S[n]? with
    | some (.lst ys) => match ys[j]? with
      | none => .ok (.ref S.length) (S ++ [.lst acc])
      | some d => (ft (env.set i (some d)) S).nox.bind fun b S1 => if b = true then ((fe (env.set i (some d)) S1).nox.bind fun y S2 => if acc.length < 100000 then compL n i ft fe env xs (j + 1) (acc ++ [y]) S2 else .bad) else compL n i ft fe env xs (j + 1) acc S1
    | _ => .bad
def fComp (fi : IF) (i : Nat) (ft : BF) (fe : EF) : EF := fun env S => (fi env S).bind fun it S1 => match it with
  | .fix xs => compX i ft fe (env.set i none) xs [] S1
  | .live n xs => compL n i ft fe (env.set i none) xs 0 [] S1
def fYes : BF := fun _ S => .ok true S

section
variable {K : PySem.W.Frag} {L L1 : List Addr} {H H1 : Hp} {S S1 : Sto} {E : XK} {α β : Type}
theorem End.keep {Q : β → Sto → List Addr → Hp → Prop} {x : R α} {k : α → Sto → R β} (h : End K E L H Q (x.nox.bind k)) : End K E0' L1 H1 (fun a S2 _ _ => End K E L H Q (k a S2)) x := by
  cases x with
  | ok a S => exact fun _ _ _ _ => h
  | ex c S => exact h.elim
  | bad => exact h.elim
/-- what stands outside of the store stays so -/
theorem Ex.outside {D : Addr} {o : HO} (e : Ex L H L1 H1) (hn : D ∉ L) (h : H D = some o) : D ∉ L1 ∧ H1 D = some o := by
  refine ⟨fun z => ?_, e.fr D o hn h⟩
  rcases e.nw D z with z | z
  · exact hn z
  · rw [h] at z; cases z
/-- an object outside of the store changes -/
theorem Gr.out {D : Addr} {o u : HO} (h : H D = some u) (h1 : ∀ xs, u ≠ .tup xs) (h2 : ∀ o w, u ≠ .frz o w) : Gr L H L (upd H D o) :=
  ⟨fun _ _ q => q, fun b xs q => by rw [upd_ne (fun z => by rw [z, h] at q; exact h1 xs (Option.some.inj q))]; exact q, fun b o' w q => by rw [upd_ne (fun z => by rw [z, h] at q; exact h2 o' (.lst w) (Option.some.inj q))]; exact q⟩
theorem Rep.out {D : Addr} {o u : HO} (r : Rep K L H S) (hn : D ∉ L) (h : H D = some u) (h1 : ∀ xs, u ≠ .tup xs) (h2 : ∀ o w, u ≠ .frz o w) : Rep K L (upd H D o) S :=
  ⟨r.len, r.nd, fun n b c q1 q2 => (r.cel n b c q1 q2).grow (Gr.out h h1 h2) (upd_ne fun z => hn (z ▸ List.mem_of_getElem? q1))⟩
theorem Ex.out {D : Addr} {o u : HO} {L0 : List Addr} {H0 : Hp} (e : Ex L0 H0 L H) (hf : H0 D = none) (h : H D = some u) : Ex L0 H0 L (upd H D o) :=
  have ne : ∀ {b : Addr} {w : HO}, H0 b = some w → b ≠ D := fun q z => by rw [z, hf] at q; cases q
  ⟨e.px, e.nw, fun b w hb q => (upd_ne (ne q)).trans (e.fr b w hb q), fun b xs q => (upd_ne (ne q)).trans (e.tp b xs q), fun b o' w q => (upd_ne (ne q)).trans (e.fz b o' w q)⟩
end
theorem RE.wipe {K : PySem.W.Frag} {L : List Addr} {H : Hp} {σ : St} {env : Lc} (r : RE K L H σ env) (i : Nat) : RE K L H (wipe σ [i]) (env.set i none) := by
  refine ⟨by rw [wipe_length, List.length_set, r.len], fun j d h => ?_⟩
  by_cases hj : i = j
  · subst hj
    by_cases hi : i < env.length
    · rw [List.getElem?_set_self hi] at h; cases h
    · rw [List.getElem?_eq_none (by rw [List.length_set]; exact Nat.le_of_not_lt hi)] at h; cases h
  · rw [List.getElem?_set_ne hj] at h
    show ∃ v, (σ.set i none)[j]? = _ ∧ _
    rw [List.getElem?_set_ne hj]
    exact r.val j d h
section
variable {X : Cx} {E : XK} {tg l iter elt : Expr} {fa fe : EF} {ft : BF} {fi : IF} {pos : Pos}
end
end RF

namespace RF
open PySem L2

/-! ### subscripts -/
def keyD : D → Option Key
  | .int i => some (.inl i)
  | .str x => some (.inr x)
  | _ => none
def keysD : D → Option (List Key)
  | .tup ds => ds.mapM keyD
  | _ => none
def valK {κ β : Type} [DecidableEq κ] (kvs : List (κ × β)) (k : κ) : Option β := (kvs.find? fun kv => decide (kv.1 = k)).map (·.2)
def putKD {κ β : Type} [DecidableEq κ] (kvs : List (κ × β)) (k : κ) (v : β) : List (κ × β) :=
  if (kvs.any fun kv => decide (kv.1 = k)) = true then kvs.map (fun kv => if kv.1 = k then (kv.1, v) else kv) else kvs ++ [(k, v)]
def dropKD {κ β : Type} [DecidableEq κ] (kvs : List (κ × β)) (k : κ) : List (κ × β) := kvs.filter fun kv => decide (kv.1 ≠ k)
def isDict (S : Sto) : D → Bool
  | .ref n => match S[n]? with
    | some (.dk _) => true
    | some (.dt _) => true
    | _ => false
  | _ => false
def retO (S : Sto) : Option D → R D
  | some d => .ok d S
  | none => .bad
def oGetL (x y : D) (S : Sto) : R D := match x, y with
  | .tup xs, .int i => retO S (atI xs i)
  | .rl xs, .int i => retO S (atI xs i)
  | .str z, .int i => if z.length ≤ 100000 then retO S ((atI z.cps.toList i).map fun c => .str ⟨#[c]⟩) else .bad
  | .ref n, .int i => match S[n]? with
    | some (.lst xs) => retO S (atI xs i)
    | _ => .bad
  | _, _ => .bad
/-- what a dict holds: none if it is no dict or no key -/
def lookD (S : Sto) (x y : D) : Option (Option D) := match x with
  | .ref n => match S[n]? with
    | some (.dk kvs) => (keyD y).map fun k => valK kvs k
    | some (.dt kvs) => (keysD y).map fun k => valK kvs k
    | _ => none
  | _ => none
def oGetD (x y : D) (S : Sto) : R D := match lookD S x y with
  | some (some d) => .ok d S
  | _ => .bad
def fIx (fa fb : EF) : EF := fun env S => (fa env S).bind fun x S1 => if isDict S1 x = true then (fb env S1).bind fun y S2 => oGetD x y S2 else (fb env S1).bind fun y S2 => oGetL x y S2
def oSet (x y d : D) (S : Sto) : R Unit := match x with
  | .ref n => match S[n]? with
    | some (.lst xs) => match y with
      | .int i => match ixN xs.length i with
        | some j => .ok () (S.set n (.lst (xs.set j d)))
        | none => .bad
      | _ => .bad
    | some (.dk kvs) => match keyD y with
      | some k => if kvs.length < 100000 then .ok () (S.set n (.dk (putKD kvs k d))) else .bad
      | none => .bad
    | some (.dt kvs) => match keysD y with
      | some k => if kvs.length < 100000 then .ok () (S.set n (.dt (putKD kvs k d))) else .bad
      | none => .bad
    | _ => .bad
  | _ => .bad
def gSub' (fo fi : EF) : GF := fun d env S => (fo env S).bind fun x S1 => (fi env S1).bind fun y S2 => (oSet x y d S2).bind fun _ S3 => .ok env S3

section
variable {K : PySem.W.Frag} {L : List Addr} {H : Hp} {S : Sto}
theorem RD.key {v : V} {d : D} {k : Key} (r : RD K L H v d) (h : keyD d = some k) : v = kV k := by
  cases r with
  | int i => cases h; rfl
  | str i => cases h; rfl
  | _ => cases h
theorem RDs.keys : ∀ {vs : List V} {ds : List D} {ks : List Key}, RDs K L H vs ds → ds.mapM keyD = some ks → vs = ks.map kV
  | _, _, _, .nil, h => by
    simp at h
    subst h; rfl
  | _, _, ks, .cons (d := d) a b, h => by
    rw [List.mapM_cons] at h
    cases q : keyD d with
    | none => rw [q] at h; cases h
    | some k =>
      rw [q] at h
      cases q2 : (List.mapM keyD _ : Option (List Key)) with
      | none => rw [q2] at h; cases h
      | some ks' =>
        rw [q2] at h
        cases h
        rw [List.map_cons, ← a.key q, ← RDs.keys b q2]
theorem RD.keys {v : V} {d : D} {ks : List Key} (r : RD K L H v d) (h : keysD d = some ks) : ∃ b, v = .ref b ∧ H b = some (.tup (ks.map kV)) := by
  cases r with
  | tup hs rs => exact ⟨_, rfl, by rw [hs, rs.keys h]⟩
  | _ => cases h
theorem RK.valK {κ : Type} [DecidableEq κ] (k : κ) : ∀ {ps : List (κ × V)} {qs : List (κ × D)}, RK K L H ps qs → (RF.valK qs k = none ∧ valV ps k = none) ∨ ∃ v d, RF.valK qs k = some d ∧ valV ps k = some v ∧ RD K L H v d
  | [], [], _ => .inl ⟨rfl, rfl⟩
  | (a, v) :: ps, (b, d) :: qs, ⟨e, r, c⟩ => by
    have e : a = b := e
    subst e
    unfold RF.valK valV
    rw [List.find?_cons, List.find?_cons]
    cases q : decide (a = k) with
    | true => exact .inr ⟨v, d, rfl, rfl, r⟩
    | false => exact RK.valK k c
  | [], _ :: _, h => h.elim
  | _ :: _, [], h => h.elim
theorem RK.any {κ : Type} (p : κ → Bool) : ∀ {ps : List (κ × V)} {qs : List (κ × D)}, RK K L H ps qs → (ps.any fun kv => p kv.1) = qs.any fun kv => p kv.1
  | [], [], _ => rfl
  | (a, v) :: ps, (b, d) :: qs, ⟨e, r, c⟩ => by
    have e : a = b := e
    subst e
    rw [List.any_cons, List.any_cons, RK.any p c]
  | [], _ :: _, h => h.elim
  | _ :: _, [], h => h.elim
theorem RK.mapput {κ : Type} [DecidableEq κ] {k : κ} {v : V} {d : D} (rv : RD K L H v d) : ∀ {ps : List (κ × V)} {qs : List (κ × D)}, RK K L H ps qs → RK K L H (ps.map fun kv => if kv.1 = k then (kv.1, v) else kv) (qs.map fun kv => if kv.1 = k then (kv.1, d) else kv)
  | [], [], _ => trivial
  | (a, w) :: ps, (b, x) :: qs, ⟨e, r, c⟩ => by
    have e : a = b := e
    subst e
    rw [List.map_cons, List.map_cons]
    by_cases h : a = k
    · simp only [if_pos h]
      exact ⟨rfl, rv, RK.mapput rv c⟩
    · simp only [if_neg h]
      exact ⟨rfl, r, RK.mapput rv c⟩
  | [], _ :: _, h => h.elim
  | _ :: _, [], h => h.elim
theorem RK.append {κ : Type} {ps2 : List (κ × V)} {qs2 : List (κ × D)} (h2 : RK K L H ps2 qs2) : ∀ {ps : List (κ × V)} {qs : List (κ × D)}, RK K L H ps qs → RK K L H (ps ++ ps2) (qs ++ qs2)
  | [], [], _ => h2
  | (a, w) :: ps, (b, x) :: qs, ⟨e, r, c⟩ => ⟨e, r, RK.append h2 c⟩
  | [], _ :: _, h => h.elim
  | _ :: _, [], h => h.elim
theorem RK.put {κ : Type} [DecidableEq κ] {k : κ} {v : V} {d : D} (rv : RD K L H v d) {ps : List (κ × V)} {qs : List (κ × D)} (h : RK K L H ps qs) : RK K L H (putK ps k v) (putKD qs k d) := by
  unfold putK putKD
  rw [RK.any (fun x => decide (x = k)) h]
  split
  · exact RK.mapput rv h
  · exact RK.append (ps2 := [(k, v)]) (qs2 := [(k, d)]) ⟨rfl, rv, trivial⟩ h
theorem RK.drop {κ : Type} [DecidableEq κ] {k : κ} : ∀ {ps : List (κ × V)} {qs : List (κ × D)}, RK K L H ps qs → RK K L H (dropK ps k) (dropKD qs k)
  | [], [], _ => trivial
  | (a, w) :: ps, (b, x) :: qs, ⟨e, r, c⟩ => by
    have e : a = b := e
    subst e
    unfold dropK dropKD
    rw [List.filter_cons, List.filter_cons]
    by_cases h : a = k
    · simp only [h, ne_eq, not_true_eq_false, decide_false, Bool.false_eq_true, if_false]
      exact RK.drop c
    · have e : decide (¬ a = k) = true := decide_eq_true h
      simp only [ne_eq, e, if_true]
      exact ⟨rfl, r, RK.drop c⟩
  | [], _ :: _, h => h.elim
  | _ :: _, [], h => h.elim
theorem RDs.atI {vs : List V} {ds : List D} {i : Int} {d : D} (r : RDs K L H vs ds) (h : L2.atI ds i = some d) : ∃ v, L2.atI vs i = some v ∧ RD K L H v d := by
  unfold L2.atI at h ⊢
  rw [r.length]
  cases q : ixN ds.length i with
  | none => rw [q] at h; cases h
  | some j =>
    rw [q] at h
    exact r.get h
theorem lookD_of {x y : D} {v w : V} {o : Option D} (rep : Rep K L H S) (rx : RD K L H v x) (ry : RD K L H w y) (h : lookD S x y = some o) : ∃ a, v = .ref a ∧ ((o = none ∧ DGet H a w none) ∨ ∃ d u, o = some d ∧ DGet H a w (some u) ∧ RD K L H u d) := by
  unfold lookD at h
  cases rx with
  | @ref a n ha =>
    obtain ⟨c, hc, rc⟩ := rep.adr ha
    simp only [hc] at h
    refine ⟨a, rfl, ?_⟩
    cases c with
    | dk kvs =>
      simp only at h
      cases q : keyD y with
      | none => rw [q] at h; cases h
      | some k =>
        rw [q] at h
        obtain ⟨ws, hw, rk⟩ := rc
        obtain rfl := ry.key q
        have h : RF.valK kvs k = o := Option.some.inj h
        rcases rk.valK k with ⟨h1, h2⟩ | ⟨u, d, h1, h2, r⟩
        · exact .inl ⟨h.symm.trans h1, by rw [← h2]; exact DGet.k hw⟩
        · exact .inr ⟨d, u, h.symm.trans h1, by rw [← h2]; exact DGet.k hw, r⟩
    | dt kvs =>
      simp only at h
      cases q : keysD y with
      | none => rw [q] at h; cases h
      | some k =>
        rw [q] at h
        obtain ⟨ws, hw, rk⟩ := rc
        obtain ⟨b, rfl, hb⟩ := ry.keys q
        have h : RF.valK kvs k = o := Option.some.inj h
        rcases rk.valK k with ⟨h1, h2⟩ | ⟨u, d, h1, h2, r⟩
        · exact .inl ⟨h.symm.trans h1, by rw [← h2]; exact DGet.t hw hb⟩
        · exact .inr ⟨d, u, h.symm.trans h1, by rw [← h2]; exact DGet.t hw hb, r⟩
    | _ => cases h
  | _ => cases h
variable {E : XK}
theorem retO_of {Q : VK} {o : Option D} (rep : Rep K L H S) (h : EndV K E L H Q (retO S o)) : ∃ d, o = some d ∧ ∀ v, RD K L H v d → Q v H := by
  cases o with
  | none => exact h.elim
  | some d => exact ⟨d, rfl, fun v rv => EndV.val h rep rv⟩
theorem opF_getL : OpF K E (rIx K) oGetL := by
  intro L H S x y d1 d2 Q rep r1 r2 h
  cases r1 with
  | tup hs rs =>
    cases r2 with
    | int i =>
      obtain ⟨d, e, k⟩ := retO_of rep h
      obtain ⟨v, hv, rv⟩ := rs.atI e
      exact .inr (.inl ⟨_, _, i, v, rfl, rfl, .of hs, hv, k v rv⟩)
    | _ => exact h.elim
  | rl hs rs =>
    cases r2 with
    | int i =>
      obtain ⟨d, e, k⟩ := retO_of rep h
      obtain ⟨v, hv, rv⟩ := rs.atI e
      exact .inl ⟨_, _, i, v, rfl, rfl, hs H fun _ _ z => z, hv, k v rv⟩
    | _ => exact h.elim
  | str z =>
    cases r2 with
    | int i =>
      have h : EndV K E L H Q (if z.length ≤ 100000 then retO S ((atI z.cps.toList i).map fun c => .str ⟨#[c]⟩) else .bad) := h
      by_cases hl : z.length ≤ 100000
      · rw [if_pos hl] at h
        obtain ⟨d, e, k⟩ := retO_of rep h
        obtain ⟨c, hc, rfl⟩ := Option.map_eq_some_iff.mp e
        exact .inr (.inr ⟨z, i, c, rfl, rfl, sz5 hl, hc, k _ (.str _)⟩)
      · rw [if_neg hl] at h; exact h.elim
    | _ => exact h.elim
  | ref ha =>
    cases r2 with
    | int i =>
      obtain ⟨c, hc, rc⟩ := rep.adr ha
      unfold oGetL at h
      simp only [hc] at h
      cases c with
      | lst xs =>
        obtain ⟨d, e, k⟩ := retO_of rep h
        obtain ⟨vs, hv, rvs⟩ := rc
        obtain ⟨v, hv2, rv⟩ := rvs.atI e
        exact .inl ⟨_, _, i, v, rfl, rfl, .of hv, hv2, k v rv⟩
      | _ => exact h.elim
    | _ => exact h.elim
  | _ => exact h.elim
/-- a cell is written -/
theorem Rep.write {n : Nat} {a : Addr} {c : Cell} {o : HO} (rep : Rep K L H S) (ha : L[n]? = some a) (hc : RC K L (upd H a o) a c) (hm : Wr H a := by (apply Wr.of; assumption; trivial)) : Ex L H L (upd H a o) ∧ Rep K L (upd H a o) (S.set n c) := ⟨Ex.wr hm (List.mem_of_getElem? ha), rep.wr hm ha hc⟩
theorem Gr.wr {n : Nat} {a : Addr} {o : HO} (rep : Rep K L H S) (ha : L[n]? = some a) (hm : Wr H a := by (apply Wr.of; assumption; trivial)) : Gr L H L (upd H a o) := (Ex.wr hm (List.mem_of_getElem? ha)).gr
theorem setF {Q : Hp → Prop} {x y d : D} {v w u : V} (rep : Rep K L H S) (rx : RD K L H v x) (ry : RD K L H w y) (rd : RD K L H u d) (h : End K E L H (fun _ _ _ H1 => Q H1) (oSet x y d S)) : rSetL v w u H Q ∨ ∃ a H1, v = .ref a ∧ DPut H a w u H1 ∧ Q H1 := by
  unfold oSet at h
  cases rx with
  | @ref a n ha =>
    obtain ⟨c, hc, rc⟩ := rep.adr ha
    simp only [hc] at h
    cases c with
    | lst xs =>
      simp only at h
      cases ry with
      | int i =>
        simp only at h
        cases q : ixN xs.length i with
        | none => rw [q] at h; exact h.elim
        | some j =>
          rw [q] at h
          obtain ⟨vs, hv, rvs⟩ := rc
          have gr : Gr L H L (upd H a (.lst (vs.set j u))) := Gr.wr rep ha
          obtain ⟨ex, rep2⟩ := rep.write (o := .lst (vs.set j u)) (c := .lst (xs.set j d)) ha ⟨_, upd_same, (rvs.set rd j).grow gr⟩
          exact .inl ⟨a, vs, i, j, rfl, rfl, hv, by rw [rvs.length]; exact q, h _ _ ex rep2⟩
      | _ => exact h.elim
    | dk kvs =>
      simp only at h
      cases q : keyD y with
      | none => rw [q] at h; exact h.elim
      | some k =>
        rw [q] at h
        obtain ⟨ws, hw, rk⟩ := rc
        obtain rfl := ry.key q
        by_cases hl : kvs.length < 100000
        · simp only [if_pos hl] at h
          have gr : Gr L H L (upd H a (.dK (putK ws k u))) := Gr.wr rep ha
          obtain ⟨ex, rep2⟩ := rep.write (o := .dK (putK ws k u)) (c := .dk (putKD kvs k d)) ha ⟨_, upd_same, (rk.put rd).grow gr⟩
          exact .inr ⟨a, _, rfl, DPut.k hw (by rw [rk.length]; exact sz5l hl), h _ _ ex rep2⟩
        · simp only [if_neg hl] at h; exact h.elim
    | dt kvs =>
      simp only at h
      cases q : keysD y with
      | none => rw [q] at h; exact h.elim
      | some k =>
        rw [q] at h
        obtain ⟨ws, hw, rk⟩ := rc
        obtain ⟨b, rfl, hb⟩ := ry.keys q
        by_cases hl : kvs.length < 100000
        · simp only [if_pos hl] at h
          have gr : Gr L H L (upd H a (.dT (putK ws k u))) := Gr.wr rep ha
          obtain ⟨ex, rep2⟩ := rep.write (o := .dT (putK ws k u)) (c := .dt (putKD kvs k d)) ha ⟨_, upd_same, (rk.put rd).grow gr⟩
          exact .inr ⟨a, _, rfl, DPut.t hw hb (by rw [rk.length]; exact sz5l hl), h _ _ ex rep2⟩
        · simp only [if_neg hl] at h; exact h.elim
    | _ => exact h.elim
  | _ => exact h.elim
end
section
variable {X : Cx} {E : XK} {a b o i : Expr} {fa fb fo fi : EF} {pos : Pos}
theorem xIx (hu : X.A.units + 1 < cLine) (ha : PE X a (tE X.K E fa)) (hb : PE X b (tE X.K E fb)) (hs : PlainIx b) : PE X (.Subscript a b pos) (tE X.K E (fIx fa fb)) := by
  have h1 := pe_ix (pos := pos) ix_seq ha hb hs
  have h2 := pe_dget (pos := pos) hu ha hb hs
  refine ⟨fun pins s σ H Q I q => ?_⟩
  have key : tOp (rIx X.K) (tE X.K E fa) (tE X.K E fb) σ H Q ∨ tDGet (tE X.K E fa) (tE X.K E fb) σ H Q := by
    obtain ⟨L, env, S, rep, re, q⟩ := q
    have q' := End.bind q
    by_cases hd : ∃ x S1, fa env S = .ok x S1 ∧ isDict S1 x = true
    · refine .inr ⟨L, env, S, rep, re, q'.imp' fun x S1 L1 H1 e0 e1 rep1 h1 v rv => ?_⟩
      have hx : isDict S1 x = true := by
        obtain ⟨x', S1', e, hx'⟩ := hd
        rw [e0] at e; cases e; exact hx'
      rw [if_pos hx] at h1
      refine ⟨L1, env, S1, rep1, re.mono e1, (End.bind h1).imp fun y S2 L2 H2 e2 rep2 h2 w rw' => ?_⟩
      unfold oGetD at h2
      cases q2 : lookD S2 x y with
      | none => rw [q2] at h2; exact h2.elim
      | some r =>
        rw [q2] at h2
        cases r with
        | none => exact h2.elim
        | some d =>
          obtain ⟨a, rfl, k⟩ := lookD_of rep2 (rv.mono e2) rw' q2
          rcases k with ⟨k, _⟩ | ⟨d', u, k1, k2, k3⟩
          · cases k
          · cases k1
            exact ⟨a, u, rfl, k2, EndV.val h2 rep2 k3⟩
    · refine .inl ⟨L, env, S, rep, re, q'.imp' fun x S1 L1 H1 e0 e1 rep1 h1 v rv => ?_⟩
      have hx : ¬ isDict S1 x = true := fun z => hd ⟨x, S1, e0, z⟩
      rw [if_neg hx] at h1
      refine ⟨L1, env, S1, rep1, re.mono e1, (End.bind h1).imp fun y S2 L2 H2 e2 rep2 h2 w rw' => ?_⟩
      exact opF_getL L2 H2 S2 _ _ _ _ _ rep2 (rv.mono e2) rw' h2
  rcases key with k | k
  · exact h1.run pins s σ H Q I k
  · exact h2.run pins s σ H Q I k
theorem pset_dict (hu : X.A.units + 1 < cLine) : PSet X (fun o i v H Q => ∃ a H1, o = .ref a ∧ DPut H a i v H1 ∧ Q H1) := by
  intro pins s σ H o i v ov iv r Q I ro ri rv h
  obtain ⟨a, H1, rfl, g, q⟩ := h
  obtain rfl : ov = Value.ref a := ro
  exact d_setItem hu I g ri rv fun s1 I1 => ⟨H1, I1, q⟩
theorem pset_both (hu : X.A.units + 1 < cLine) : PSet X (fun o i v H Q => rSetL o i v H Q ∨ ∃ a H1, o = .ref a ∧ DPut H a i v H1 ∧ Q H1) := by
  intro pins s σ H o i v ov iv r Q I ro ri rv h
  rcases h with h | h
  · exact set_list pins s σ H o i v ov iv r Q I ro ri rv h
  · exact pset_dict hu pins s σ H o i v ov iv r Q I ro ri rv h
theorem xgSub (hu : X.A.units + 1 < cLine) (ho : PE X o (tE X.K E fo)) (hi : PE X i (tE X.K E fi)) (ha : ∀ v, assign (.Subscript o i pos) X.env v = (do
      let ov ← holding [v] (eval o X.env)
      let iv ← holding [v, ov] (eval i X.env)
      standAt pos
      holding [v, ov, iv] (setItem ov iv v)
      release [v, ov, iv] []) := by intro _; rfl) : PG X (.Subscript o i pos) (tG X.K E (gSub' fo fi)) := by
  refine ⟨fun pins s σ H v u Q I r q => (pg_sub ho hi (pset_both hu) ha).run pins s σ H v u Q I r ?_⟩
  obtain ⟨L, env, S, d, rep, re, rd, q⟩ := q
  refine ⟨L, env, S, rep, re, (End.bind q).imp fun x S1 L1 H1 e1 rep1 h1 v rv => ?_⟩
  refine ⟨L1, env, S1, rep1, re.mono e1, (End.bind h1).imp fun y S2 L2 H2 e2 rep2 h2 w rw' => ?_⟩
  refine setF rep2 (rv.mono e2) rw' ((rd.mono e1).mono e2) ((End.bind h2).imp fun _ S3 L3 H3 e3 rep3 h3 => ?_)
  exact h3 L3 H3 (Ex.refl _ _) rep3 σ (((re.mono e1).mono e2).mono e3)

/-! ### instances -/
def putD (f : Str) (v : D) : List (Str × D) → List (Str × D)
  | [] => [(f, v)]
  | (g, x) :: r => if g = f then (g, v) :: r else (g, x) :: putD f v r
def fldsOf (C : Addr) (S : Sto) : D → Option (Nat × List (Str × D))
  | .ref n => match S[n]? with
    | some (.ins C' fs) => if C' = C then some (n, fs) else none
    | _ => none
  | _ => none
def fFld (C : Addr) (f : Str) (fo : EF) : EF := fun env S => (fo env S).bind fun x S1 => match fldsOf C S1 x with
  | some (_, fs) => retO S1 (fs.lookup f)
  | none => .bad
def oPut (C : Addr) (f : Str) (x d : D) (S : Sto) : R Unit := match fldsOf C S x with
  | some (n, fs) => if fs.length < 900 then .ok () (S.set n (.ins C (putD f d fs))) else .bad
  | none => .bad
def fSetFld (C : Addr) (f : Str) (fo fv : EF) : SF := fun env S => (fv env S).bind fun d S1 => (fo env S1).bind fun x S2 => (oPut C f x d S2).bind fun _ S3 => .ok (.nx env) S3
end
section
variable {K : PySem.W.Frag} {L : List Addr} {H : Hp} {S : Sto} {E : XK} {C : Addr}
end
section
variable {X : Cx} {E : XK} {o e : Expr} {fo fv : EF} {pos pos' : Pos} {C : Addr} {f : Str}
end

/-! ### calls -/
abbrev FF := List D → Sto → R D
def spF (K : PySem.W.Frag) (n : Nat) (F : FF) : Sp := fun vs H Q _ => vs.length = n ∧ ∃ L ds S, Rep K L H S ∧ RDs K L H vs ds ∧ EndV K E0' L H Q (F ds S)
def fCall (F : FF) (n : Nat) (dds : List D) (fs : AF) : EF := fun env S => (fs env S).bind fun ds S1 => if ds.length + dds.length = n then (F (ds ++ dds) S1).nox else .bad
def fMeth (C : Addr) (m : Str) (F : FF) (n : Nat) (dds : List D) (fo : EF) (fs : AF) : EF := fun env S => (fo env S).bind fun x S1 => match fldsOf C S1 x with
  | some (_, fl) => if (fl.lookup m).isNone = true then (fs env S1).bind fun ds S2 => if ds.length + 1 + dds.length = n then (F (x :: (ds ++ dds)) S2).nox else .bad else .bad
  | none => .bad
def fMake (C : Addr) (F : FF) (n : Nat) (dds : List D) (fs : AF) : EF := fun env S => (fs env S).bind fun ds S1 => if ds.length + 1 + dds.length = n then (F (.ref S1.length :: (ds ++ dds)) (S1 ++ [.ins C []])).nox.bind fun r S2 => match r with
  | .non => .ok (.ref S1.length) S2
  | _ => .bad
  else .bad
def fProp (C : Addr) (F : FF) (n : Nat) (fo : EF) : EF := fun env S => (fo env S).bind fun x S1 => match fldsOf C S1 x with
  | some _ => if 1 = n then (F [x] S1).nox else .bad
  | none => .bad
def fnF (m : Nat) (fb : SF) : FF := fun ds S => (fb (ds.map some ++ List.replicate (m - ds.length) none) S).bind fun fl S1 => match fl with
  | .nx _ => .ok .non S1
  | .rt d => .ok d S1
  | _ => .bad
section
variable {K : PySem.W.Frag} {L : List Addr} {H : Hp} {S : Sto} {E : XK}
theorem EndV.nox {Q : VK} {x : R D} (h : EndV K E L H Q x.nox) : EndV K E0' L H Q x := by
  cases x with
  | ok a S => exact h
  | ex c S => exact h.elim
  | bad => exact h.elim
theorem RE.start : ∀ {vs : List V} {ds : List D} (N : List Str), RDs K L H vs ds → RE K L H (L2.start N vs) (ds.map some ++ List.replicate (N.length - ds.length) none) := by
  intro vs ds N r
  refine ⟨by show (vs.map some ++ List.replicate (N.length - vs.length) none).length = _; simp [r.length], fun i d h => ?_⟩
  by_cases hi : i < ds.length
  · rw [List.getElem?_append_left (by simpa using hi), List.getElem?_map] at h
    cases q : ds[i]? with
    | none => rw [q] at h; cases h
    | some d' =>
      rw [q] at h
      have e : d' = d := by simpa using h
      subst e
      obtain ⟨v, h1, h2⟩ := r.get q
      refine ⟨v, ?_, h2⟩
      show (vs.map some ++ List.replicate (N.length - vs.length) none)[i]? = some (some v)
      rw [List.getElem?_append_left (by rw [List.length_map, r.length]; exact hi), List.getElem?_map, h1]
      rfl
  · rw [List.getElem?_append_right (by simpa using hi)] at h
    by_cases hj : i - (ds.map some).length < N.length - ds.length
    · rw [List.getElem?_replicate_of_lt hj] at h; cases h
    · rw [List.getElem?_eq_none (by rw [List.length_replicate]; omega)] at h; cases h
end
section
variable {P : Program} {w : World} {K : PySem.W.Frag} {mg : Str → Option Value} {base : Heap}
/-- a def, from its body -/
theorem fn_ok {x qual : Str} {st : Stmt} {f : Addr} {fd : FuncData} {N ps : List Str} {k m : Nat} {fb : SF} (F : Fun K x qual st f fd) (Sc : FnScope N ps (defScope st)) (hm : N.length = m)
    (hb : ∀ (cdv : Value) (A : Around) (outer : List PySem.Env) (s : Shared) (H : Hp) (E : XK), Room k (A.deeper (PyProof.Rows.envOfC qual (defScope st) s.heap.objs.size f cdv)) →
      PSs (cxOf CX0 P w K mg base N qual (defScope st) f cdv A outer s H E).nox (defBody st) (tS K E0' fb)) : FnOk P w K mg base CX0 (k + 1) f fd ps (spF K ps.length (fnF m fb)) := by
  subst hm
  refine F.ok Sc (fun vs H Q E h => h.1) (fun cdv A outer s H vs Q E hr h => ⟨_, hb cdv A outer s H E hr, ?_⟩)
  obtain ⟨hl, L, ds, S, rep, rd, h⟩ := h
  refine ⟨L, _, S, rep, RE.start N rd, (End.bind h).imp fun fl S1 L1 H1 e1 rep1 h1 => ?_⟩
  cases fl with
  | nx e => exact fun σ _ => EndV.val h1 rep1 .non
  | rt d => exact fun v rv => EndV.val h1 rep1 rv
  | bk e => exact h1.elim
  | ct e => exact h1.elim
end
section
variable {X : Cx} {E : XK} {k n : Nat} {f C : Addr} {fd : FuncData} {ps : List Str} {F : FF} {dvs : List V} {ds : List Value} {dds : List D} {x m : Str} {p pos apos : Pos} {e o : Expr} {es : List Expr} {fo : EF} {fs : AF}
theorem call_of {K : PySem.W.Frag} {σ : St} {H : Hp} {Q : VK} (hdd : ∀ L H, RDs K L H dvs dds) (h : tE K E (fCall F n dds fs) σ H Q) : tCall (spF K n F) dvs E0 (tA K E fs) σ H Q := by
  obtain ⟨L, env, S, rep, re, h⟩ := h
  refine ⟨L, env, S, rep, re, (End.bind h).imp fun xs S1 L1 H1 e1 rep1 h1 vs rvs => ?_⟩
  by_cases hl : xs.length + dds.length = n
  · rw [if_pos hl] at h1
    exact ⟨by rw [List.length_append, rvs.length, (hdd L1 H1).length]; exact hl, L1, xs ++ dds, S1, rep1, rvs.append (hdd L1 H1), EndV.nox h1⟩
  · rw [if_neg hl] at h1; exact h1.elim
theorem xCallD (Fo : FnOk X.prog X.w X.K X.mg X.base CX0 k f fd ps (spF X.K n F)) (hr : Room k X.A) (hg : Gl X x) (hm : X.mg x = some (.ref f)) (hk : PySem.W.keepIn X.K (.ref f) = true) (hb : Binds X.K fd ps ds) (hd : Vals dvs ds) (hdd : ∀ L H, RDs X.K L H dvs dds)
    (ha : PA X (e :: es) (tA X.K E fs)) (hdb : (x == ("__debug__" : Str)) = false := by decide) (he : starEach (e :: es) X.env = (false, eval e X.env) :: starEach es X.env := by rfl) (hpl : (backTo pos (starEach es X.env)).any (·.1) = false := by rfl) :
    PE X (.Call (.Name x p) (e :: es) [] pos) (tE X.K E (fCall F n dds fs)) := monoE (pe_call Fo hr hg hm hk hb hd pass0 ha hdb he hpl) fun _ _ _ h => call_of hdd h
theorem xCall (Fo : FnOk X.prog X.w X.K X.mg X.base CX0 k f fd ps (spF X.K n F)) (hr : Room k X.A) (hg : Gl X x) (hm : X.mg x = some (.ref f)) (hk : PySem.W.keepIn X.K (.ref f) = true) (hb : Binds X.K fd ps [])
    (ha : PA X (e :: es) (tA X.K E fs)) (hdb : (x == ("__debug__" : Str)) = false := by decide) (he : starEach (e :: es) X.env = (false, eval e X.env) :: starEach es X.env := by rfl) (hpl : (backTo pos (starEach es X.env)).any (·.1) = false := by rfl) :
    PE X (.Call (.Name x p) (e :: es) [] pos) (tE X.K E (fCall F n [] fs)) := xCallD Fo hr hg hm hk hb .nil (fun _ _ => .nil) ha hdb he hpl
end
end RF

namespace RF
open PySem L2

/-! ### whole numbers -/
def oI (C : Int → Int → Bool) (g : Int → Int → Int) : Op2 := fun x y S => match x, y with
  | .int i, .int j => if C i j = true then .ok (.int (g i j)) S else .bad
  | _, _ => .bad
def oC (g : Int → Int → Bool) : Op2 := fun x y S => match x, y with
  | .int i, .int j => .ok (.bl (g i j)) S
  | _, _ => .bad
section
variable {K : PySem.W.Frag} {L : List Addr} {H : Hp} {S : Sto} {E : XK}
theorem opF_I {C : Int → Int → Bool} {P : Int → Int → Prop} {g : Int → Int → Int} (h : ∀ i j, C i j = true → P i j) : OpF K E (rI P fun i j => .int (g i j)) (oI C g) := by
  intro L H S x y d1 d2 Q rep r1 r2 q
  cases r1 with
  | int i =>
    cases r2 with
    | int j =>
      have q : EndV K E L H Q (if C i j = true then .ok (.int (g i j)) S else .bad) := q
      by_cases hc : C i j = true
      · rw [if_pos hc] at q
        exact ⟨i, j, rfl, rfl, h i j hc, EndV.val q rep (.int _)⟩
      · rw [if_neg hc] at q; exact q.elim
    | _ => exact q.elim
  | _ => exact q.elim
theorem opF_C {g : Int → Int → Bool} : OpF K E (rI0 fun i j => .bl (g i j)) (oC g) := by
  intro L H S x y d1 d2 Q rep r1 r2 q
  cases r1 with
  | int i =>
    cases r2 with
    | int j => exact ⟨i, j, rfl, rfl, EndV.val (d := .bl (g i j)) q rep (.bl _)⟩
    | _ => exact q.elim
  | _ => exact q.elim
end
def oSub : Op2 := oI (fun _ _ => true) fun i j => i - j
def cMul (i j : Int) : Bool := decide ((-(2 ^ 64) < i ∧ i < 2 ^ 64) ∨ (-(2 ^ 64) < j ∧ j < 2 ^ 64))
def oMul : Op2 := oI cMul fun i j => i * j
def oMod : Op2 := oI (fun _ j => decide (0 < j)) fun i j => i % j
def cDiv (_ j : Int) : Bool := decide (0 < j ∧ j < 2 ^ 100)
def oDiv : Op2 := oI cDiv fun i j => i / j
def cPow (i j : Int) : Bool := decide (0 ≤ j ∧ j ≤ 1000 ∧ i.natAbs < 2 ^ 64)
def oPow : Op2 := oI cPow fun i j => i ^ j.toNat
def oLt : Op2 := oC fun i j => decide (i < j)
def oLe : Op2 := oC fun i j => decide (i ≤ j)
def oGt : Op2 := oC fun i j => decide (j < i)
def oGe : Op2 := oC fun i j => decide (j ≤ i)
def oNeg : Op1 := fun x S => match x with | .int i => .ok (.int (-i)) S | _ => .bad
section
variable {X : Cx} {K : PySem.W.Frag} {E : XK}
theorem f_mul : OpF K E (rI CMul fun i j => .int (i * j)) oMul := opF_I fun i j h => by
  have h : (-(2 ^ 64) < i ∧ i < 2 ^ 64) ∨ (-(2 ^ 64) < j ∧ j < 2 ^ 64) := of_decide_eq_true h
  exact h
theorem f_mod : OpF K E (rI (fun _ j => 0 < j) fun i j => .int (i % j)) oMod := opF_I fun _ _ h => of_decide_eq_true h
theorem f_div : OpF K E (rI CDivW fun i j => .int (i / j)) oDiv := opF_I fun i j h => by
  have h : 0 < j ∧ j < 2 ^ 100 := of_decide_eq_true h
  exact wide_div (b := 100) h.1 (by omega) (by decide) (by decide)
theorem f_pow : OpF K E (rI CPow fun i j => .int (i ^ j.toNat)) oPow := opF_I fun i j h => by
  have h : 0 ≤ j ∧ j ≤ 1000 ∧ i.natAbs < 2 ^ 64 := of_decide_eq_true h
  exact ⟨h.1, by omega, h.2.2⟩
theorem f_gt : OpF K E (rI0 fun i j => .bl (decide (j < i))) oGt := opF_C
theorem f_ge : OpF K E (rI0 fun i j => .bl (decide (j ≤ i))) oGe := opF_C
theorem f_neg : UnF K E (rU fun i => .int (-i)) oNeg := by
  intro L H S x d Q rep r q
  cases r with
  | int i => exact ⟨i, rfl, EndV.val (d := .int (-i)) q rep (.int _)⟩
  | _ => exact q.elim
end

/-! ### sums of whole numbers, texts, tuples, lists -/
def oAdd : Op2 := fun x y S => match x, y with
  | .int i, .int j => .ok (.int (i + j)) S
  | .str i, .str j => if i.length + j.length ≤ 100000 then .ok (.str (i ++ j)) S else .bad
  | .tup xs, .tup ys => if xs.length + ys.length ≤ 100000 then .ok (.tup (xs ++ ys)) S else .bad
  | .ref n, .ref m => match S[n]?, S[m]? with
    | some (.lst xs), some (.lst ys) => if xs.length + ys.length ≤ 100000 then .ok (.ref S.length) (S ++ [.lst (xs ++ ys)]) else .bad
    | _, _ => .bad
  | _, _ => .bad
def rAddS : R2 := fun x y H Q => ∃ i j, x = .str i ∧ y = .str j ∧ i.length + j.length ≤ sizeLine ∧ Q (.str (i ++ j)) H
def rAddA (K : PySem.W.Frag) : R2 := fun x y H Q => (rI0 (fun i j => .int (i + j)) x y H Q ∨ rAddS x y H Q) ∨ (rCatA K x y H Q ∨ rCat x y H Q)
theorem op_addA {X : Cx} : OpR X (binaryOp .Add) (rAddA X.K) := (op_add.or op_add_str).or (op_catA.or op_cat)
theorem f_add {K : PySem.W.Frag} {E : XK} : OpF K E (rAddA K) oAdd := by
  intro L H S x y d1 d2 Q rep r1 r2 q
  cases r1 with
  | int i =>
    cases r2 with
    | int j => exact .inl (.inl ⟨i, j, rfl, rfl, EndV.val (d := .int (i + j)) q rep (.int _)⟩)
    | _ => exact q.elim
  | str i =>
    cases r2 with
    | str j =>
      have q : EndV K E L H Q (if i.length + j.length ≤ 100000 then .ok (.str (i ++ j)) S else .bad) := q
      by_cases hl : i.length + j.length ≤ 100000
      · rw [if_pos hl] at q
        exact .inl (.inr ⟨i, j, rfl, rfl, sz5 hl, EndV.val q rep (.str _)⟩)
      · rw [if_neg hl] at q; exact q.elim
    | _ => exact q.elim
  | @tup a vs xs hs rs =>
    cases r2 with
    | @tup b ws ys hs2 rs2 =>
      have q : EndV K E L H Q (if xs.length + ys.length ≤ 100000 then .ok (.tup (xs ++ ys)) S else .bad) := q
      by_cases hl : xs.length + ys.length ≤ 100000
      · rw [if_pos hl] at q
        refine .inr (.inl ⟨a, b, vs, ws, rfl, rfl, .of hs, .of hs2, by rw [rs.length, rs2.length]; exact sz5 hl, ?_, ?_, ?_⟩)
        · intro z
          subst z
          cases rs
          exact EndV.val q rep (.tup hs2 rs2)
        · intro _ z
          subst z
          cases rs2
          rw [List.append_nil] at q
          exact EndV.val q rep (.tup hs rs)
        · intro _ _ p hp
          exact EndV.val (q.later (Ex.new hp)) (rep.new hp) (.tup upd_same ((rs.append rs2).mono (Ex.new hp)))
      · rw [if_neg hl] at q; exact q.elim
    | _ => exact q.elim
  | @ref a n ha =>
    cases r2 with
    | @ref b m hb =>
      obtain ⟨c, hc, rc⟩ := rep.adr ha
      obtain ⟨c2, hc2, rc2⟩ := rep.adr hb
      unfold oAdd at q
      simp only [hc, hc2] at q
      cases c with
      | lst xs =>
        cases c2 with
        | lst ys =>
          simp only at q
          obtain ⟨vs, hv, rv⟩ := rc
          obtain ⟨ws, hw, rw'⟩ := rc2
          by_cases hl : xs.length + ys.length ≤ 100000
          · rw [if_pos hl] at q
            exact .inr (.inr ⟨a, b, vs, ws, rfl, rfl, hv, hw, by rw [rv.length, rw'.length]; exact sz5 hl, fun p hp => newList q rep (rv.append rw') p hp⟩)
          · rw [if_neg hl] at q; exact q.elim
        | _ => exact q.elim
      | _ => exact q.elim
    | _ => exact q.elim
  | _ => exact q.elim

/-! ### == of data -/
def leafP : D → Option PyData
  | .non => some .none
  | .bl b => some (.bool b)
  | .int i => some (.int i)
  | .str x => if PyData.strOk x = true then some (.str x) else none
  | _ => none
def toP (S : Sto) : Nat → D → Option PyData
  | 0, d => leafP d
  | k + 1, d => match d with
    | .tup xs => (xs.mapM (toP S k)).map .tuple
    | .rl xs => (xs.mapM (toP S k)).map .list
    | .ref n => match S[n]? with
      | some (.lst xs) => (xs.mapM (toP S k)).map .list
      | _ => none
    | d => leafP d
def P1 (k : Nat) (p : PyData) : Prop := p.canLay0 = true ∧ p.depth ≤ k
section
variable {K : PySem.W.Frag} {L : List Addr} {H : Hp} {S : Sto} {E : XK}
theorem leafP_of {v : V} {d : D} {p : PyData} (k : Nat) (r : RD K L H v d) (h : leafP d = some p) : Dp K H v p ∧ P1 k p := by
  cases r with
  | non => cases h; exact ⟨.non, by simp [P1, PyData.canLay0, PyData.depth]⟩
  | bl b => cases h; exact ⟨.bl b, by simp [P1, PyData.canLay0, PyData.depth]⟩
  | int b => cases h; exact ⟨.int b, by simp [P1, PyData.canLay0, PyData.depth]⟩
  | str b =>
    have h : (if PyData.strOk b = true then some (PyData.str b) else none) = some p := h
    by_cases hb : PyData.strOk b = true
    · rw [if_pos hb] at h
      cases h
      exact ⟨.str b, by simp [P1, PyData.canLay0, PyData.depth, hb]⟩
    · rw [if_neg hb] at h; cases h
  | _ => cases h
theorem mapM_cons_some {α β : Type} {f : α → Option β} {a : α} {as : List α} {bs : List β} (h : (a :: as).mapM f = some bs) : ∃ b bs', f a = some b ∧ as.mapM f = some bs' ∧ bs = b :: bs' := by
  rw [List.mapM_cons] at h
  cases q : f a with
  | none => rw [q] at h; cases h
  | some b =>
    rw [q] at h
    cases q2 : as.mapM f with
    | none => rw [q2] at h; cases h
    | some bs' =>
      rw [q2] at h
      exact ⟨b, bs', rfl, rfl, (Option.some.inj h).symm⟩
def PA1 (k : Nat) (ps : List PyData) : Prop := PyData.canLayAll0 ps = true ∧ PyData.depthAll ps ≤ k
theorem toPs_of (k : Nat) (ih : ∀ v d p, RD K L H v d → toP S k d = some p → Dp K H v p ∧ P1 k p) : ∀ {vs : List V} {ds : List D} {ps : List PyData}, RDs K L H vs ds → ds.mapM (toP S k) = some ps → DpAll K H vs ps ∧ PA1 k ps
  | _, _, _, .nil, h => by
    simp at h
    subst h
    exact ⟨.nil, by simp [PA1, PyData.canLayAll0, PyData.depthAll]⟩
  | _, _, _, .cons a b, h => by
    obtain ⟨p, ps, h1, h2, rfl⟩ := mapM_cons_some h
    obtain ⟨x1, x2, x3⟩ := ih _ _ _ a h1
    obtain ⟨y1, y2, y3⟩ := toPs_of k ih b h2
    exact ⟨.cons x1 y1, by simp [PyData.canLayAll0, x2, y2], by simp only [PyData.depthAll]; omega⟩
theorem toP_of (rep : Rep K L H S) : ∀ (k : Nat) (v : V) (d : D) (p : PyData), RD K L H v d → toP S k d = some p → Dp K H v p ∧ P1 k p
  | 0, _, _, _, r, h => leafP_of 0 r h
  | k + 1, _, _, _, r, h => by
    have many : ∀ {vs : List V} {ds : List D} {ps : List PyData}, RDs K L H vs ds → ds.mapM (toP S k) = some ps → DpAll K H vs ps ∧ PA1 k ps := toPs_of k fun v d p r h => toP_of rep k v d p r h
    cases r with
    | @tup a vs ds hs rs =>
      obtain ⟨ps, h1, rfl⟩ := Option.map_eq_some_iff.mp (show (ds.mapM (toP S k)).map PyData.tuple = some _ from h)
      obtain ⟨x1, x2, x3⟩ := many rs h1
      exact ⟨.tup (.of hs) x1, by simp only [PyData.canLay0]; exact x2, by simp only [PyData.depth]; omega⟩
    | @rl a vs ds hs rs =>
      obtain ⟨ps, h1, rfl⟩ := Option.map_eq_some_iff.mp (show (ds.mapM (toP S k)).map PyData.list = some _ from h)
      obtain ⟨x1, x2, x3⟩ := many rs h1
      exact ⟨.lst (hs H fun _ _ z => z) x1, by simp only [PyData.canLay0]; exact x2, by simp only [PyData.depth]; omega⟩
    | @ref a n ha =>
      obtain ⟨c, hc, rc⟩ := rep.adr ha
      unfold toP at h
      simp only [hc] at h
      cases c with
      | lst xs =>
        obtain ⟨ps, h1, rfl⟩ := Option.map_eq_some_iff.mp h
        obtain ⟨vs, hv, rv⟩ := rc
        obtain ⟨x1, x2, x3⟩ := many rv h1
        exact ⟨.lst (.of hv) x1, by simp only [PyData.canLay0]; exact x2, by simp only [PyData.depth]; omega⟩
      | _ => cases h
    | kt hs rs => exact nomatch (show (none : Option PyData) = some _ from h)
    | exc a => exact nomatch (show (none : Option PyData) = some _ from h)
    | non => exact leafP_of (L := L) (k + 1) .non h
    | bl b => exact leafP_of (L := L) (k + 1) (.bl b) h
    | int b => exact leafP_of (L := L) (k + 1) (.int b) h
    | str b => exact leafP_of (L := L) (k + 1) (.str b) h
theorem P1.shaped {k : Nat} {p : PyData} (h : P1 k p) (hk : k ≤ 64) : SeqAt.shaped p = true := by
  unfold SeqAt.shaped
  rw [h.1, decide_eq_true (Nat.le_trans h.2 hk)]
  rfl
end
def oEq : Op2 := fun x y S => match toP S 20 x, toP S 20 y with
  | some p, some q => .ok (.bl (PyData.eqv p q)) S
  | _, _ => .bad
def oNe : Op2 := fun x y S => match toP S 20 x, toP S 20 y with
  | some p, some q => .ok (.bl (!PyData.eqv p q)) S
  | _, _ => .bad
def oInL (neg : Bool) : Op2 := fun x y S => match toP S 20 x, toP S 20 y with
  | some p, some (.list qs) => .ok (.bl (if neg = true then !(qs.any fun z => PyData.eqv z p) else qs.any fun z => PyData.eqv z p)) S
  | _, _ => .bad
def isNonD : D → Bool
  | .non => true
  | _ => false
def oIsN : Op2 := fun x y S => match y with
  | .non => .ok (.bl (isNonD x)) S
  | _ => .bad
def oNotN : Op2 := fun x y S => match y with
  | .non => .ok (.bl (!isNonD x)) S
  | _ => .bad
def oIsB : Op2 := fun x y S => match x, y with
  | .bl a, .bl b => .ok (.bl (decide (a = b))) S
  | _, _ => .bad
/-- one sign in a text -/
def oInS (neg : Bool) : Op2 := fun x y S => match x, y with
  | .str ⟨⟨[c]⟩⟩, .str z => .ok (.bl (if neg = true then !decide (c ∈ z.cps.toList) else decide (c ∈ z.cps.toList))) S
  | _, _ => .bad
def oLeS : Op2 := fun x y S => match x, y with
  | .str i, .str j => .ok (.bl (!decide (j.cps.toList < i.cps.toList))) S
  | _, _ => .bad
section
variable {X : Cx} {K : PySem.W.Frag} {E : XK}
theorem f_eq : OpF K E (rEqD K) oEq := by
  intro L H S x y d1 d2 Q rep r1 r2 q
  unfold oEq at q
  cases h1 : toP S 20 d1 with
  | none => rw [h1] at q; exact q.elim
  | some p1 =>
    cases h2 : toP S 20 d2 with
    | none => rw [h1, h2] at q; exact q.elim
    | some p2 =>
      rw [h1, h2] at q
      obtain ⟨a1, a2⟩ := toP_of rep 20 _ _ _ r1 h1
      obtain ⟨b1, b2⟩ := toP_of rep 20 _ _ _ r2 h2
      exact ⟨p1, p2, a1, b1, a2.shaped (by decide), b2.shaped (by decide), EndV.val q rep (.bl _)⟩
theorem f_ne : OpF K E (rNeD K) oNe := by
  intro L H S x y d1 d2 Q rep r1 r2 q
  unfold oNe at q
  cases h1 : toP S 20 d1 with
  | none => rw [h1] at q; exact q.elim
  | some p1 =>
    cases h2 : toP S 20 d2 with
    | none => rw [h1, h2] at q; exact q.elim
    | some p2 =>
      rw [h1, h2] at q
      obtain ⟨a1, a2⟩ := toP_of rep 20 _ _ _ r1 h1
      obtain ⟨b1, b2⟩ := toP_of rep 20 _ _ _ r2 h2
      exact ⟨p1, p2, a1, b1, a2.shaped (by decide), b2.shaped (by decide), EndV.val q rep (.bl _)⟩
theorem f_notInL : OpF K E (rNotInD K) (oInL true) := by
  intro L H S x y d1 d2 Q rep r1 r2 q
  unfold oInL at q
  cases h1 : toP S 20 d1 with
  | none => rw [h1] at q; exact q.elim
  | some p1 =>
    cases h2 : toP S 20 d2 with
    | none => rw [h1, h2] at q; exact q.elim
    | some p2 =>
      rw [h1, h2] at q
      obtain ⟨a1, a2⟩ := toP_of rep 20 _ _ _ r1 h1
      obtain ⟨b1, b2⟩ := toP_of rep 20 _ _ _ r2 h2
      cases p2 with
      | list ps => exact ⟨p1, ps, a1, b1, a2.shaped (by decide), b2.shaped (by decide), EndV.val q rep (.bl _)⟩
      | _ => exact q.elim
theorem RD.isN {K : PySem.W.Frag} {L : List Addr} {H : Hp} {v : V} {d : D} (r : RD K L H v d) : decide (v = .non) = isNonD d := by
  cases r <;> rfl
theorem f_isN : OpF K E (fun x y H Q => y = .non ∧ Q (.bl (decide (x = .non))) H) oIsN := by
  intro L H S x y d1 d2 Q rep r1 r2 q
  cases r2 with
  | non => exact ⟨rfl, EndV.val (d := .bl _) q rep (by rw [r1.isN]; exact .bl _)⟩
  | _ => exact q.elim
end
end RF

namespace RF
open PySem L2

/-! ### built-in functions -/
def lenD (S : Sto) : D → Option Nat
  | .tup xs => some xs.length
  | .rl xs => some xs.length
  | .str z => if z.length ≤ 100000 then some z.length else none
  | .ref n => match S[n]? with
    | some (.lst xs) => some xs.length
    | some (.dk kvs) => some kvs.length
    | some (.dt kvs) => some kvs.length
    | _ => none
  | _ => none
def oLen : OpN := fun ds S => match ds with
  | [x] => match lenD S x with
    | some n => .ok (.int (n : Nat)) S
    | none => .bad
  | _ => .bad
def oMin2 : OpN := fun ds S => match ds with
  | [.int i, .int j] => .ok (.int (if j < i then j else i)) S
  | _ => .bad
def oMax2 : OpN := fun ds S => match ds with
  | [.int i, .int j] => .ok (.int (if j > i then j else i)) S
  | _ => .bad
def oInt : OpN := fun ds S => match ds with
  | [.int i] => .ok (.int i) S
  | [.bl k] => .ok (.int (if k = true then 1 else 0)) S
  | _ => .bad
def seqD (S : Sto) : D → Option (List D)
  | .tup xs => some xs
  | .rl xs => some xs
  | .ref n => match S[n]? with
    | some (.lst xs) => some xs
    | _ => none
  | _ => none
def oList : OpN := fun ds S => match ds with
  | [x] => match seqD S x with
    | some xs => .ok (.ref S.length) (S ++ [.lst xs])
    | none => .bad
  | _ => .bad
def oTuple : OpN := fun ds S => match ds with
  | [x] => match seqD S x with
    | some xs => .ok (.tup xs) S
    | none => .bad
  | _ => .bad
def blsD : List D → Option (List Bool)
  | [] => some []
  | .bl b :: ds => (blsD ds).map (b :: ·)
  | _ => none
def lstD (S : Sto) : D → Option (List D)
  | .rl xs => some xs
  | .ref n => match S[n]? with
    | some (.lst xs) => some xs
    | _ => none
  | _ => none
def oAll : OpN := fun ds S => match ds with
  | [x] => match lstD S x with
    | some xs => match blsD xs with
      | some bs => .ok (.bl (bs.all id)) S
      | none => .bad
    | none => .bad
  | _ => .bad
def oAny : OpN := fun ds S => match ds with
  | [x] => match lstD S x with
    | some xs => match blsD xs with
      | some bs => .ok (.bl (bs.any id)) S
      | none => .bad
    | none => .bad
  | _ => .bad
def rLenA (K : PySem.W.Frag) : List V → Hp → VK → Prop := fun xs H Q => (∃ x n, xs = [x] ∧ LenV K x H n ∧ Q (.int n) H) ∨ ((∃ a kvs, xs = [V.ref a] ∧ H a = some (.dK kvs) ∧ Q (.int kvs.length) H) ∨ rLenT xs H Q)
theorem call_lenA {X : Cx} : CallR X (.builtin "len") (rLenA X.K) := call_len.or (call_lenD.or call_len_dT)
section
variable {X : Cx} {K : PySem.W.Frag} {E : XK} {L : List Addr} {H : Hp} {S : Sto}
theorem RDs.one {xs : List V} {d : D} (r : RDs K L H xs [d]) : ∃ x, xs = [x] ∧ RD K L H x d := by
  cases r with
  | cons a b => cases b; exact ⟨_, rfl, a⟩
theorem RDs.two {xs : List V} {d e : D} (r : RDs K L H xs [d, e]) : ∃ x y, xs = [x, y] ∧ RD K L H x d ∧ RD K L H y e := by
  cases r with
  | cons a b =>
    obtain ⟨y, rfl, r2⟩ := b.one
    exact ⟨_, _, rfl, a, r2⟩
theorem f_len : CaF K E (rLenA K) oLen := by
  intro L H S xs ds Q rep rs q
  match ds, rs, q with
  | [], _, q => exact q.elim
  | _ :: _ :: _, _, q => exact q.elim
  | [d], rs, q =>
    obtain ⟨x, rfl, r⟩ := rs.one
    unfold oLen at q
    simp only at q
    cases h : lenD S d with
    | none => rw [h] at q; exact q.elim
    | some n =>
      rw [h] at q
      have fin : Q (.int (n : Nat)) H := EndV.val q rep (.int _)
      cases r with
      | tup hs rs2 => cases h; exact .inl ⟨_, _, rfl, .inr ⟨_, .of hs, rfl⟩, by rw [rs2.length]; exact fin⟩
      | rl hs rs2 => cases h; exact .inl ⟨_, _, rfl, .inl ⟨_, hs H fun _ _ z => z, rfl⟩, by rw [rs2.length]; exact fin⟩
      | str z =>
        have h : (if z.length ≤ 100000 then some z.length else none) = some n := h
        by_cases hz : z.length ≤ 100000
        · rw [if_pos hz] at h
          cases h
          exact .inl ⟨_, _, rfl, ⟨sz5 hz, rfl⟩, fin⟩
        · rw [if_neg hz] at h; cases h
      | @ref a m ha =>
        obtain ⟨c, hc, rc⟩ := rep.adr ha
        unfold lenD at h
        simp only [hc] at h
        cases c with
        | lst ys =>
          cases h
          obtain ⟨vs, hv, rv⟩ := rc
          exact .inl ⟨_, _, rfl, .inl ⟨_, .of hv, rfl⟩, by rw [rv.length]; exact fin⟩
        | dk kvs =>
          cases h
          obtain ⟨ws, hw, rk⟩ := rc
          exact .inr (.inl ⟨_, _, rfl, hw, by rw [rk.length]; exact fin⟩)
        | dt kvs =>
          cases h
          obtain ⟨ws, hw, rk⟩ := rc
          exact .inr (.inr ⟨_, _, rfl, hw, by rw [rk.length]; exact fin⟩)
        | _ => cases h
      | _ => cases h
theorem int2 {xs : List V} {i j : Int} (r : RDs K L H xs [.int i, .int j]) : xs = [.int i, .int j] := by
  obtain ⟨x, y, rfl, r1, r2⟩ := r.two
  cases r1; cases r2; rfl
theorem f_min2 : CaF K E (fun xs H Q => ∃ i j, xs = [.int i, .int j] ∧ Q (.int (if j < i then j else i)) H) oMin2 := by
  intro L H S xs ds Q rep rs q
  unfold oMin2 at q
  split at q
  · exact ⟨_, _, int2 rs, EndV.val q rep (.int _)⟩
  · exact q.elim
theorem f_int : CaF K E (fun xs H Q => (∃ i, xs = [.int i] ∧ Q (.int i) H) ∨ ∃ k, xs = [.bl k] ∧ Q (.int (if k then 1 else 0)) H) oInt := by
  intro L H S xs ds Q rep rs q
  unfold oInt at q
  split at q
  · obtain ⟨x, rfl, r⟩ := rs.one
    cases r
    exact .inl ⟨_, rfl, EndV.val q rep (.int _)⟩
  · obtain ⟨x, rfl, r⟩ := rs.one
    cases r
    exact .inr ⟨_, rfl, EndV.val q rep (.int _)⟩
  · exact q.elim
theorem seqD_of {v : V} {d : D} {xs : List D} (rep : Rep K L H S) (r : RD K L H v d) (h : seqD S d = some xs) : ∃ a vs, v = .ref a ∧ RDs K L H vs xs ∧ ((SqL K H a vs ∧ d ≠ .tup xs) ∨ (H a = some (.tup vs) ∧ d = .tup xs)) := by
  cases r with
  | tup hs rs => cases h; exact ⟨_, _, rfl, rs, .inr ⟨hs, rfl⟩⟩
  | rl hs rs => cases h; exact ⟨_, _, rfl, rs, .inl ⟨hs H fun _ _ z => z, fun z => nomatch z⟩⟩
  | @ref a m ha =>
    obtain ⟨c, hc, rc⟩ := rep.adr ha
    unfold seqD at h
    simp only [hc] at h
    cases c with
    | lst ys =>
      cases h
      obtain ⟨vs, hv, rv⟩ := rc
      exact ⟨_, _, rfl, rv, .inl ⟨.of hv, fun z => nomatch z⟩⟩
    | _ => cases h
  | _ => cases h
theorem f_tuple : CaF K E (fun xs H Q => ∃ p ys, xs = [.ref p] ∧ ((SqL K H p ys ∧ ∀ l, H l = none → Q (.ref l) (upd H l (.tup ys))) ∨ (SqT K H p ys ∧ Q (.ref p) H))) oTuple := by
  intro L H S xs ds Q rep rs q
  match ds, rs, q with
  | [], _, q => exact q.elim
  | _ :: _ :: _, _, q => exact q.elim
  | [d], rs, q =>
    obtain ⟨x, rfl, r⟩ := rs.one
    unfold oTuple at q
    simp only at q
    cases h : seqD S d with
    | none => rw [h] at q; exact q.elim
    | some ys =>
      rw [h] at q
      obtain ⟨a, vs, rfl, rv, k⟩ := seqD_of rep r h
      refine ⟨a, vs, rfl, ?_⟩
      rcases k with ⟨k, _⟩ | ⟨k, _⟩
      · exact .inl ⟨k, fun p hp => EndV.val (q.later (Ex.new hp)) (rep.new hp) (.tup upd_same (rv.mono (Ex.new hp)))⟩
      · exact .inr ⟨.of k, EndV.val q rep (.tup k rv)⟩
theorem lstD_of {v : V} {d : D} {xs : List D} (rep : Rep K L H S) (r : RD K L H v d) (h : lstD S d = some xs) : ∃ a vs, v = .ref a ∧ RDs K L H vs xs ∧ SqL K H a vs := by
  cases r with
  | rl hs rs => cases h; exact ⟨_, _, rfl, rs, hs H fun _ _ z => z⟩
  | @ref a m ha =>
    obtain ⟨c, hc, rc⟩ := rep.adr ha
    unfold lstD at h
    simp only [hc] at h
    cases c with
    | lst ys =>
      cases h
      obtain ⟨vs, hv, rv⟩ := rc
      exact ⟨_, _, rfl, rv, .of hv⟩
    | _ => cases h
  | _ => cases h
end

/-! ### types -/
/-- the built-in type of a value -/
def tyD (S : Sto) : D → Option String
  | .non => some "NoneType"
  | .bl _ => some "bool"
  | .int _ => some "int"
  | .str _ => some "str"
  | .tup _ => some "tuple"
  | .rl _ => some "list"
  | .kt _ => none
  | .exc _ => none
  | .ref n => match S[n]? with
    | some (.lst _) => some "list"
    | some (.dk _) => some "dict"
    | some (.dt _) => some "dict"
    | _ => none
/-- isinstance of one of the types by which we ask -/
def isiD (t T : String) : Option Bool :=
  if T = "int" then some (decide (t = "int" ∨ t = "bool")) else if T = "bool" ∨ T = "str" ∨ T = "tuple" ∨ T = "list" ∨ T = "dict" then some (decide (t = T)) else none
def fIsi (T : String) (fa : EF) : EF := fun env S => (fa env S).bind fun x S1 => match tyD S1 x with
  | some t => match isiD t T with
    | some b => .ok (.bl b) S1
    | none => .bad
  | none => .bad
def fTyIs (T : String) (neg : Bool) (fa : EF) : EF := fun env S => (fa env S).bind fun x S1 => match tyD S1 x with
  | some t => .ok (.bl (if neg = true then !decide (t = T) else decide (t = T))) S1
  | none => .bad
section
variable {X : Cx} {K : PySem.W.Frag} {E : XK} {L : List Addr} {H : Hp} {S : Sto}
theorem tyD_of {v : V} {d : D} {t : String} (rep : Rep K L H S) (r : RD K L H v d) (h : tyD S d = some t) : TyX K H v (.type t) := by
  cases r with
  | kt hs rs => exact nomatch (show (none : Option String) = some _ from h)
  | exc a => exact nomatch (show (none : Option String) = some _ from h)
  | non => cases h; exact .base .non
  | bl b => cases h; exact .base (.bl b)
  | int b => cases h; exact .base (.int b)
  | str b => cases h; exact .base (.str b)
  | tup hs rs => cases h; exact .base (.tup hs)
  | rl hs rs =>
    cases h
    rcases hs H fun _ _ z => z with (z | ⟨o, z⟩) | ⟨o, its, n, z1, z2, _⟩
    · exact .base (.lst z)
    · exact .base (.frz z)
    · exact .kList z1 z2
  | @ref a n ha =>
    obtain ⟨c, hc, rc⟩ := rep.adr ha
    unfold tyD at h
    simp only [hc] at h
    cases c with
    | lst ys =>
      cases h
      obtain ⟨vs, hv, rv⟩ := rc
      exact .base (.lst hv)
    | dk ys =>
      cases h
      obtain ⟨vs, hv, rv⟩ := rc
      exact .base (.dK hv)
    | dt ys =>
      cases h
      obtain ⟨vs, hv, rv⟩ := rc
      exact .base (.dT hv)
    | _ => cases h
theorem tyD_mem {d : D} {t : String} (h : tyD S d = some t) : t = "NoneType" ∨ t = "bool" ∨ t = "int" ∨ t = "str" ∨ t = "tuple" ∨ t = "list" ∨ t = "dict" := by
  cases d with
  | ref n =>
    unfold tyD at h
    simp only at h
    split at h <;> cases h <;> simp
  | kt xs => exact nomatch (show (none : Option String) = some _ from h)
  | exc a => exact nomatch (show (none : Option String) = some _ from h)
  | _ => cases h; simp
theorem isi_all : ∀ t ∈ ["NoneType", "bool", "int", "str", "tuple", "list", "dict"], ∀ T ∈ ["int", "bool", "str", "tuple", "list", "dict"], kitB t T = isiD t T := by decide +kernel
theorem isi_kit {t T : String} {b : Bool} (ht : t = "NoneType" ∨ t = "bool" ∨ t = "int" ∨ t = "str" ∨ t = "tuple" ∨ t = "list" ∨ t = "dict") (h : isiD t T = some b) : PySem.W.kitOne K (.type t) (.type T) = some b := by
  refine kit_ty ?_
  have hT : T ∈ ["int", "bool", "str", "tuple", "list", "dict"] := by
    unfold isiD at h
    by_cases h1 : T = "int"
    · rw [h1]; simp
    · rw [if_neg h1] at h
      by_cases h2 : T = "bool" ∨ T = "str" ∨ T = "tuple" ∨ T = "list" ∨ T = "dict"
      · simp only [List.mem_cons, List.not_mem_nil, or_false]
        exact .inr h2
      · rw [if_neg h2] at h; cases h
  rw [isi_all t (by simpa using ht) T hT]
  exact h
theorem xIsi {e : Expr} {fa : EF} {T : String} {x : Str} {p q pos : Pos} (he : PE X e (tE X.K E fa)) (hT : bootBuiltins x = some (.type T)) (hgT : Gl X x) (hmT : X.mg x = none) (hg : Gl X "isinstance") (hm : X.mg "isinstance" = none)
    (hn : x ≠ "__name__" := by decide) (hd : (x == ("__debug__" : Str)) = false := by decide)
    (s1 : starEach [e, .Name x q] X.env = (false, eval e X.env) :: starEach [.Name x q] X.env := by rfl) (s2 : starEach [.Name x q] X.env = (false, eval (.Name x q) X.env) :: starEach [] X.env := by rfl) (hpl : (backTo pos (starEach [.Name x q] X.env)).any (·.1) = false := by rfl) :
    PE X (.Call (.Name "isinstance" p) [e, .Name x q] [] pos) (tE X.K E (fIsi T fa)) :=
  monoE (pe_callB call_isi hg hm (by decide +kernel) (pa_cons he (pa_cons (pe_bltn (v := .ty T) hgT hmT hT rfl hn hd) pa_nil s2) s1) (he := s1) (hpl := hpl)) fun σ H Q h => by
    obtain ⟨L, env, S, rep, re, h⟩ := h
    refine ⟨L, env, S, rep, re, (End.bind h).imp fun x S1 L1 H1 e1 rep1 h1 v rv => ?_⟩
    cases h2 : tyD S1 x with
    | none => rw [h2] at h1; exact h1.elim
    | some t =>
      rw [h2] at h1
      simp only at h1
      cases h3 : isiD t T with
      | none => rw [h3] at h1; exact h1.elim
      | some b =>
        rw [h3] at h1
        exact ⟨v, .ty T, _, _, b, rfl, .ty T, tyD_of rep1 rv h2, isi_kit (tyD_mem h2) h3, EndV.val h1 rep1 (.bl b)⟩
def rTyX (K : PySem.W.Frag) : List V → Hp → VK → Prop := fun xs H Q => (rTyp K xs H Q) ∨ ∃ a kvs, xs = [.ref a] ∧ H a = some (.dT kvs) ∧ Q (.ty "dict") H
end

/-! ### slices -/
abbrev PF := Lc → Sto → R (Option Int)
def pNo : PF := fun _ S => .ok none S
def pSo (fa : EF) : PF := fun env S => (fa env S).bind fun x S1 => match x with
  | .int i => .ok (some i) S1
  | _ => .bad
def cutD {α : Type} (xs : List α) (lo hi : Option Int) : List α := (xs.drop (HT.sIx xs.length 0 lo)).take (HT.sIx xs.length xs.length hi - HT.sIx xs.length 0 lo)
def oSl (x : D) (lo hi : Option Int) (S : Sto) : R D := match x with
  | .tup xs => .ok (.tup (cutD xs lo hi)) S
  | .str z => if z.length ≤ 100000 then .ok (.str ⟨(cutD z.cps.toList lo hi).toArray⟩) S else .bad
  | .rl xs => .ok (.ref S.length) (S ++ [.lst (cutD xs lo hi)])
  | .ref n => match S[n]? with
    | some (.lst xs) => .ok (.ref S.length) (S ++ [.lst (cutD xs lo hi)])
    | _ => .bad
  | _ => .bad
def fSl (fa : EF) (pl ph : PF) : EF := fun env S => (fa env S).bind fun x S1 => (pl env S1).bind fun l S2 => (ph env S2).bind fun h S3 => oSl x l h S3
def tP (K : PySem.W.Frag) (E : XK) (f : PF) : TO := fun σ H Q => ∃ L env S, Rep K L H S ∧ RE K L H σ env ∧ End K E L H (fun o _ _ H1 => Q o H1) (f env S)
def rSlA' (K : PySem.W.Frag) : V → Option Int → Option Int → Hp → VK → Prop := fun x lo hi H Q => (rSlA K x lo hi H Q ∨ rSlS x lo hi H Q) ∨ rSlL K x lo hi H Q
section
variable {X : Cx} {K : PySem.W.Frag} {E : XK} {L : List Addr} {H : Hp} {S : Sto}
end

/-! ### methods of lists, texts, dicts -/
def tyIn (T : String) (S : Sto) : D → Bool
  | .str _ => decide (T = "str")
  | .rl _ => decide (T = "list")
  | .ref n => match S[n]? with
    | some (.lst _) => decide (T = "list")
    | some (.dk _) => decide (T = "dict")
    | some (.dt _) => decide (T = "dict")
    | _ => false
  | _ => false
abbrev OpM := D → List D → Sto → R D
def fBm (T : String) (o : OpM) (fo : EF) (fs : AF) : EF := fun env S => (fo env S).bind fun x S1 => if tyIn T S1 x = true then (fs env S1).bind fun ds S2 => o x ds S2 else .bad
def fBm0 (T : String) (o : OpM) (fo : EF) : EF := fun env S => (fo env S).bind fun x S1 => if tyIn T S1 x = true then o x [] S1 else .bad
section
variable {X : Cx} {K : PySem.W.Frag} {E : XK} {L : List Addr} {H : Hp} {S : Sto} {T : String}
theorem tyIn_of {v : V} {d : D} (rep : Rep K L H S) (r : RD K L H v d) (h : tyIn T S d = true) : tyV K T v H := by
  cases r with
  | str z =>
    have h : decide (T = "str") = true := h
    show T = "str"
    exact of_decide_eq_true h
  | rl hs rs => exact .inl ⟨of_decide_eq_true h, _, hs H fun _ _ z => z⟩
  | @ref a n ha =>
    obtain ⟨c, hc, rc⟩ := rep.adr ha
    unfold tyIn at h
    simp only [hc] at h
    cases c with
    | lst ys =>
      obtain ⟨vs, hv, rv⟩ := rc
      exact .inl ⟨of_decide_eq_true h, vs, .of hv⟩
    | dk ys =>
      obtain ⟨vs, hv, rv⟩ := rc
      exact .inr (.inr (.inl ⟨of_decide_eq_true h, .inl ⟨_, hv⟩⟩))
    | dt ys =>
      obtain ⟨vs, hv, rv⟩ := rc
      exact .inr (.inr (.inl ⟨of_decide_eq_true h, .inr ⟨_, hv⟩⟩))
    | _ => cases h
  | _ => cases h
theorem xBm {o e : Expr} {es : List Expr} {name : Str} {id : String} {r : V → List V → Hp → VK → Prop} {om : OpM} {fo : EF} {fs : AF} {apos cpos : Pos} (pa : PlainAttrs T) (slot : Slot T name id) (hty : typeOf (.builtin id) = pure (.type "method_descriptor")) (hm : MtR X id r) (hf : MtF X.K E r om)
    (ho : PE X o (tE X.K E fo)) (ha : PA X (e :: es) (tA X.K E fs))
    (hbase : attributeBase o name X.env (eval o X.env) = eval o X.env := by rfl)
    (hfew : ((backTo cpos (starEach (e :: es) X.env)).all (fun x => !x.1) && (backToKw cpos (keywordEach [] X.env)).all (fun x => x.1.isSome)
      && decide ((e :: es).length + ([] : List Keyword).length + (if ([] : List Keyword).isEmpty then 0 else 1) < 30)) = true := by rfl)
    (hline : (apos.endLine == cpos.line) = true := by rfl) (hs : starEach (e :: es) X.env = (false, eval e X.env) :: starEach es X.env := by rfl) (hplain : (backTo cpos (starEach es X.env)).any (·.1) = false := by rfl) :
    PE X (.Call (.Attribute o name apos) (e :: es) [] cpos) (tE X.K E (fBm T om fo fs)) :=
  monoE (pe_bm pa slot hty hm ho ha hbase hfew hline hs hplain) fun σ H Q h => by
    obtain ⟨L, env, S, rep, re, h⟩ := h
    refine ⟨L, env, S, rep, re, (End.bind h).imp fun x S1 L1 H1 e1 rep1 h1 v rv => ?_⟩
    by_cases ht : tyIn T S1 x = true
    · rw [if_pos ht] at h1
      exact ⟨tyIn_of rep1 rv ht, L1, env, S1, rep1, re.mono e1, (End.bind h1).imp fun xs S2 L2 H2 e2 rep2 h2 vs rvs => hf L2 H2 S2 _ _ _ _ _ rep2 (rv.mono e2) rvs h2⟩
    · rw [if_neg ht] at h1; exact h1.elim
def mAppend : OpM := fun x ds S => match x, ds with
  | .ref n, [d] => match S[n]? with
    | some (.lst xs) => if xs.length < 100000 then .ok .non (S.set n (.lst (xs ++ [d]))) else .bad
    | _ => .bad
  | _, _ => .bad
theorem f_append : MtF K E rAppend mAppend := by
  intro L H S x xs d ds Q rep r rs q
  unfold mAppend at q
  split at q
  · rename_i n y
    cases r with
    | @ref a _ ha =>
      obtain ⟨w, rfl, rw'⟩ := rs.one
      obtain ⟨c, hc, rc⟩ := rep.adr ha
      simp only [hc] at q
      cases c with
      | lst ys =>
        simp only at q
        obtain ⟨vs, hv, rv⟩ := rc
        by_cases hl : ys.length < 100000
        · rw [if_pos hl] at q
          have gr : Gr L H L (upd H a (.lst (vs ++ [w]))) := Gr.wr rep ha
          obtain ⟨ex, rep2⟩ := rep.write (o := .lst (vs ++ [w])) (c := .lst (ys ++ [y])) ha ⟨_, upd_same, (rv.append (.cons rw' .nil)).grow gr⟩
          exact ⟨a, vs, w, rfl, rfl, hv, by rw [rv.length]; exact sz5l hl, q L _ ex rep2 _ .non⟩
        · rw [if_neg hl] at q; exact q.elim
      | _ => exact q.elim
  · exact q.elim
def strsD : List D → Option (List Str)
  | [] => some []
  | .str b :: ds => (strsD ds).map (b :: ·)
  | _ => none
def mJoin : OpM := fun x ds S => match x, ds with
  | .str a, [y] => match seqD S y with
    | some xs => match strsD xs with
      | some ys => if (ys.map (·.length)).sum + ys.length * a.length ≤ 100000 then .ok (.str (Txt.join a ys)) S else .bad
      | none => .bad
    | none => .bad
  | _, _ => .bad
end
/-- a text, sign by sign -/
def sgnD (z : Str) : List D := z.cps.toList.map fun c => .str ⟨#[c]⟩
def fIterS (fa : EF) : IF := fun env S => (fa env S).bind fun x S1 => match x with
  | .str z => .ok (.fix (sgnD z)) S1
  | _ => .bad
end RF

namespace RF
open PySem L2
theorem hu65 {A : Around} {k : Nat} (hr : Room k A) : A.units + 65 < cLine := by have := hr.un; omega
section
variable {X : Cx} {E : XK} {o e : Expr} {fo fv fa : EF} {pos pos' : Pos} {C : Addr} {f g : Str}
end
/-- a, b = a tuple or a list of that length -/
def gUnp (n : Nat) (gs : GsF) : GF := fun d env S => match seqD S d with
  | some ds => if ds.length = n then gs ds env S else .bad
  | none => .bad
theorem xgUnp {X : Cx} {E : XK} {es : List Expr} {pos : Pos} {k n : Nat} {gs : GsF} (hc : X.calm = true) (h : PGs X es (tGs X.K E gs)) (hn : (assignEach es X.env).length = n := by rfl) (hst : (assignEach es X.env).findIdx? (·.1) = none := by rfl) : PG X (.Tuple es k pos) (tG X.K E (gUnp n gs)) := by
  refine ⟨fun pins s σ H v u Q I r q => ?_⟩
  obtain ⟨L, env, S, d, rep, re, rd, q⟩ := q
  unfold gUnp at q
  cases h1 : seqD S d with
  | none => rw [h1] at q; exact q.elim
  | some ds =>
    rw [h1] at q
    simp only at q
    by_cases hl : ds.length = n
    · rw [if_pos hl] at q
      obtain ⟨a, vs, rfl, rs, k1⟩ := seqD_of rep rd h1
      rcases k1 with ⟨k1, _⟩ | ⟨k1, _⟩
      · exact (pg_unl hc h hn hst).run pins s σ H _ u Q I r ⟨a, vs, rfl, k1, by rw [rs.length]; exact hl, L, env, S, ds, rep, re, rs, q⟩
      · exact (pg_tup hc h hn hst).run pins s σ H _ u Q I r ⟨a, vs, rfl, .of k1, by rw [rs.length]; exact hl, L, env, S, ds, rep, re, rs, q⟩
    · rw [if_neg hl] at q; exact q.elim
/-- {} -/
def fDict0 : EF := fun _ S => .ok (.ref S.length) (S ++ [.dk []])
def fDictT0 : EF := fun _ S => .ok (.ref S.length) (S ++ [.dt []])
/-- the law's promise -/
def spLaw (K : PySem.W.Frag) : Sp := fun vs H Q _ => ∃ (a : Addr) (ns : List Int), vs = [.ref a] ∧ Only H ∧ SqL K H a (ns.map V.int) ∧ ns.length ≤ 63 ∧ (∀ z ∈ ns, Builtin.Int.intBits z ≤ 1048576) ∧ ∀ H1, Q (.bl true) H1
def isTrue1 : R D → Prop
  | .ok d _ => d = .bl true
  | _ => False
theorem ints_rd {K : PySem.W.Frag} {L : List Addr} {H : Hp} : ∀ ns : List Int, RDs K L H (ns.map V.int) (ns.map D.int)
  | [] => .nil
  | n :: ns => .cons (.int n) (ints_rd ns)
theorem law_sp {P : Program} {w : World} {K : PySem.W.Frag} {mg : Str → Option Value} {base : Heap} {k : Nat} {f : Addr} {fd : FuncData} {ps : List Str} {F : FF} (Fo : FnOk P w K mg base CX0 k f fd ps (spF K 1 F))
    (h : ∀ ns : List Int, ns.length ≤ 63 → (∀ z ∈ ns, Builtin.Int.intBits z ≤ 1048576) → isTrue1 (F [.rl (ns.map D.int)] [])) : FnOk P w K mg base CX0 k f fd ps (spLaw K) :=
  have key : ∀ vs H Q E, spLaw K vs H Q E → spF K 1 F vs H Q E := fun vs H Q E q => by
    obtain ⟨a, ns, rfl, hO, hS, hl, hb, k⟩ := q
    refine ⟨rfl, [], [.rl (ns.map D.int)], [], ⟨rfl, .nil, fun n a c h => by simp at h⟩, .cons (.rl (fun H1 hf => ?_) (ints_rd ns)) .nil, ?_⟩
    · rcases hS with (z | ⟨o, z⟩) | z
      · rcases hO a with z2 | ⟨o, xs, z2⟩ <;> rw [z] at z2 <;> cases z2
      · exact .inl (.inr ⟨o, hf _ _ z⟩)
      · exact .inr z
    · have t := h ns hl hb
      cases q : F [.rl (ns.map D.int)] [] with
      | ok d S =>
        rw [q] at t
        have t : d = .bl true := t
        subst t
        intro L1 H1 _ _ v rv
        cases rv
        exact k H1
      | ex c S => rw [q] at t; exact t.elim
      | bad => rw [q] at t; exact t.elim
  ⟨fun vs H Q E q => Fo.len vs H Q E (key _ _ _ _ q), fun A outer s H args us vs Q E hr he hb hv q => Fo.run A outer s H args us vs Q E hr he hb hv (key _ _ _ _ q)⟩
end RF

/-! running the functions by rewriting -/
namespace RF
open PySem L2

section
variable {α : Type} {i n m : Nat} {env : Lc} {S : Sto} {d x y z : D} {ds xs : List D} {f g fa fb fc fo : EF} {fs : AF} {ft fu : BF} {sf sg : SF} {gf : GF} {gs : GsF} {o o' : Op2} {u : Op1} {b : Bool} {C : Addr} {nm : Str} {F : FF} {dds : List D} {fi : IF} {e : Lc} {fl : Fl}
def varK : Option (Option D) → Sto → R D
  | some (some d), S => .ok d S
  | _, _ => .bad
theorem ap_fVar : fVar i env S = varK env[i]? S := by
  unfold fVar varK
  cases env[i]? with
  | none => rfl
  | some o => cases o <;> rfl
theorem varK_some : varK (some (some d)) S = .ok d S := (rfl)
theorem ap_fC : fC d env S = .ok d S := (rfl)
def binK (o : Op2) (fb : EF) (env : Lc) : D → Sto → R D := fun x S1 => (fb env S1).bind fun y S2 => o x y S2
theorem ap_fBin : fBin o fa fb env S = (fa env S).bind (binK o fb env) := (rfl)
theorem ap_binK : binK o fb env x S = (fb env S).bind (o x) := (rfl)
theorem ap_fUn : fUn u fa env S = (fa env S).bind u := (rfl)
theorem ap_fApp {oN : OpN} : fApp oN fs env S = (fs env S).bind oN := (rfl)
theorem ap_fNil : fNil env S = .ok [] S := (rfl)
def consK (fs : AF) (env : Lc) : D → Sto → R (List D) := fun x S1 => (fs env S1).bind fun xs S2 => .ok (x :: xs) S2
def consK2 (x : D) : List D → Sto → R (List D) := fun xs S2 => .ok (x :: xs) S2
theorem ap_fCons : fCons fa fs env S = (fa env S).bind (consK fs env) := (rfl)
theorem ap_consK : consK fs env x S = (fs env S).bind (consK2 x) := (rfl)
theorem ap_consK2 : consK2 x xs S = .ok (x :: xs) S := (rfl)
def tupK : List D → Sto → R D := fun xs S1 => if xs.length ≤ 100000 then .ok (.tup xs) S1 else .bad
def lstK : List D → Sto → R D := fun xs S1 => if xs.length ≤ 100000 then .ok (.ref S1.length) (S1 ++ [.lst xs]) else .bad
theorem ap_fTup : fTup fs env S = (fs env S).bind tupK := (rfl)
theorem ap_fLst : fLst fs env S = (fs env S).bind lstK := (rfl)
theorem ap_tupK : tupK xs S = if xs.length ≤ 100000 then .ok (.tup xs) S else .bad := (rfl)
theorem ap_lstK : lstK xs S = if xs.length ≤ 100000 then .ok (.ref S.length) (S ++ [.lst xs]) else .bad := (rfl)
def testK : D → Sto → R Bool := fun x S1 => match x with | .bl b => .ok b S1 | _ => .bad
theorem ap_fTest : fTest fa env S = (fa env S).bind testK := (rfl)
theorem ap_testK : testK (.bl b) S = .ok b S := (rfl)
def valK' : Bool → Sto → R D := fun b S1 => .ok (.bl b) S1
def andK (g : BF) (env : Lc) : Bool → Sto → R Bool := fun b S1 => if b = true then g env S1 else .ok false S1
def orK (g : BF) (env : Lc) : Bool → Sto → R Bool := fun b S1 => if b = true then .ok true S1 else g env S1
def notK : Bool → Sto → R Bool := fun b S1 => .ok (!b) S1
theorem ap_fAnd : fAnd ft fu env S = (ft env S).bind (andK fu env) := (rfl)
theorem ap_fOr : fOr ft fu env S = (ft env S).bind (orK fu env) := (rfl)
theorem ap_fNot : fNot ft env S = (ft env S).bind notK := (rfl)
theorem ap_andK : andK fu env b S = if b = true then fu env S else .ok false S := (rfl)
theorem ap_orK : orK fu env b S = if b = true then .ok true S else fu env S := (rfl)
theorem ap_notK : notK b S = .ok (!b) S := (rfl)
def andVK (g : EF) (env : Lc) : D → Sto → R D := fun x S1 => match x with | .bl b => (if b = true then g env S1 else .ok (.bl false) S1) | _ => .bad
def orVK (g : EF) (env : Lc) : D → Sto → R D := fun x S1 => match x with | .bl b => (if b = true then .ok (.bl true) S1 else g env S1) | _ => .bad
def notVK : D → Sto → R D := fun x S1 => match x with | .bl b => .ok (.bl (!b)) S1 | _ => .bad
def ifEK (f g : EF) (env : Lc) : Bool → Sto → R D := fun b S1 => if b = true then f env S1 else g env S1
def chK1 (o o' : Op2) (fb fc : EF) (env : Lc) : D → Sto → R D := fun x S1 => (fb env S1).bind fun y S2 => (o x y S2).bind fun z S3 => match z with
  | .bl b => if b = true then (fc env S3).bind fun w S4 => o' y w S4 else .ok (.bl false) S3
  | _ => .bad
def chK2 (o o' : Op2) (fc : EF) (env : Lc) (x : D) : D → Sto → R D := fun y S2 => (o x y S2).bind fun z S3 => match z with
  | .bl b => if b = true then (fc env S3).bind fun w S4 => o' y w S4 else .ok (.bl false) S3
  | _ => .bad
def chK3 (o' : Op2) (fc : EF) (env : Lc) (y : D) : D → Sto → R D := fun z S3 => match z with
  | .bl b => if b = true then (fc env S3).bind fun w S4 => o' y w S4 else .ok (.bl false) S3
  | _ => .bad
/-! statements -/
theorem ap_fSkip : fSkip env S = .ok (.nx env) S := (rfl)
def seqK (g : SF) : Fl → Sto → R Fl := fun fl S1 => match fl with | .nx e => g e S1 | .rt d => .ok (.rt d) S1 | .bk e => .ok (.bk e) S1 | .ct e => .ok (.ct e) S1
theorem ap_fSeq : fSeq sf sg env S = (sf env S).bind (seqK sg) := (rfl)
theorem ap_seqK_nx : seqK sg (.nx e) S = sg e S := (rfl)
theorem ap_seqK_rt : seqK sg (.rt d) S = .ok (.rt d) S := (rfl)
def ifK (f g : SF) (env : Lc) : Bool → Sto → R Fl := fun b S1 => if b = true then f env S1 else g env S1
theorem ap_fIf : fIf ft sf sg env S = (ft env S).bind (ifK sf sg env) := (rfl)
theorem ap_ifK : ifK sf sg env b S = if b = true then sf env S else sg env S := (rfl)
def retK : D → Sto → R Fl := fun d S1 => .ok (.rt d) S1
theorem ap_fRet : fRet fa env S = (fa env S).bind retK := (rfl)
theorem ap_retK : retK d S = .ok (.rt d) S := (rfl)
def dropK' (env : Lc) : D → Sto → R Fl := fun _ S1 => .ok (.nx env) S1
theorem ap_fDrop : fDrop fa env S = (fa env S).bind (dropK' env) := (rfl)
theorem ap_dropK : dropK' env d S = .ok (.nx env) S := (rfl)
def asgK (g : GF) (env : Lc) : D → Sto → R Fl := fun d S1 => (g d env S1).bind fun env1 S2 => .ok (.nx env1) S2
def asgK2 : Lc → Sto → R Fl := fun env1 S2 => .ok (.nx env1) S2
theorem ap_fAsg : fAsg fa gf env S = (fa env S).bind (asgK gf env) := (rfl)
theorem ap_asgK : asgK gf env d S = (gf d env S).bind asgK2 := (rfl)
theorem ap_asgK2 : asgK2 env S = .ok (.nx env) S := (rfl)
theorem ap_gN : gN i d env S = .ok (env.set i (some d)) S := (rfl)
theorem ap_gNil : gNil' [] env S = .ok env S := (rfl)
def gsK (gs : GsF) (r : List D) : Lc → Sto → R Lc := fun env1 S1 => gs r env1 S1
theorem ap_gCons : gCons' gf gs (d :: ds) env S = (gf d env S).bind (gsK gs ds) := (rfl)
theorem ap_gsK : gsK gs ds env S = gs ds env S := (rfl)
def unpK (n : Nat) (gs : GsF) (env : Lc) : Option (List D) → Sto → R Lc
  | some ds, S => if ds.length = n then gs ds env S else .bad
  | none, _ => .bad
theorem ap_gUnp : gUnp n gs d env S = unpK n gs env (seqD S d) S := by unfold gUnp; cases seqD S d <;> rfl
theorem ap_unpK : unpK n gs env (some ds) S = if ds.length = n then gs ds env S else .bad := (rfl)
def subK1 (fi : EF) (d : D) (env : Lc) : D → Sto → R Lc := fun x S1 => (fi env S1).bind fun y S2 => (oSet x y d S2).bind fun _ S3 => .ok env S3
def subK2 (x d : D) (env : Lc) : D → Sto → R Lc := fun y S2 => (oSet x y d S2).bind fun _ S3 => .ok env S3
def subK3 (env : Lc) : Unit → Sto → R Lc := fun _ S3 => .ok env S3
theorem ap_gSub : gSub' fo fa d env S = (fo env S).bind (subK1 fa d env) := (rfl)
theorem ap_subK1 : subK1 fa d env x S = (fa env S).bind (subK2 x d env) := (rfl)
theorem ap_subK2 : subK2 x d env y S = (oSet x y d S).bind (subK3 env) := (rfl)
theorem ap_subK3 {u : Unit} : subK3 env u S = .ok env S := (rfl)

/-! subscripts -/
def ixK (fb : EF) (env : Lc) : D → Sto → R D := fun x S1 => if isDict S1 x = true then (fb env S1).bind fun y S2 => oGetD x y S2 else (fb env S1).bind fun y S2 => oGetL x y S2
theorem ap_fIx : fIx fa fb env S = (fa env S).bind (ixK fb env) := (rfl)
theorem ap_ixK : ixK fb env x S = if isDict S x = true then (fb env S).bind (oGetD x) else (fb env S).bind (oGetL x) := (rfl)
def isDictC : Option Cell → Bool
  | some (.dk _) => true
  | some (.dt _) => true
  | _ => false
theorem isDict_ref : isDict S (.ref n) = isDictC S[n]? := by unfold isDict isDictC; rfl
theorem isDict_tup : isDict S (.tup xs) = false := (rfl)
theorem isDict_rl : isDict S (.rl xs) = false := (rfl)
theorem isDictC_lst : isDictC (some (.lst xs)) = false := (rfl)
theorem getL_tup {j : Int} : oGetL (.tup xs) (.int j) S = retO S (atI xs j) := (rfl)
theorem getL_rl {j : Int} : oGetL (.rl xs) (.int j) S = retO S (atI xs j) := (rfl)
def getLC (S : Sto) (j : Int) : Option Cell → R D
  | some (.lst xs) => retO S (atI xs j)
  | _ => .bad
theorem getL_ref {j : Int} : oGetL (.ref n) (.int j) S = getLC S j S[n]? := by unfold oGetL getLC; rfl
theorem getLC_lst {j : Int} : getLC S j (some (.lst xs)) = retO S (atI xs j) := (rfl)
theorem retO_some : retO S (some d) = .ok d S := (rfl)
theorem atI_0 {a : α} {l : List α} : atI (a :: l) 0 = some a := by
  have h := L2.atI_nat (xs := a :: l) (j := 0) (v := a) rfl
  exact h
theorem atI_1 {a b : α} {l : List α} : atI (a :: b :: l) 1 = some b := by
  have h := L2.atI_nat (xs := a :: b :: l) (j := 1) (v := b) rfl
  exact h
theorem atI_2 {a b c : α} {l : List α} : atI (a :: b :: c :: l) 2 = some c := by
  have h := L2.atI_nat (xs := a :: b :: c :: l) (j := 2) (v := c) rfl
  exact h
theorem atI_3 {a b c d : α} {l : List α} : atI (a :: b :: c :: d :: l) 3 = some d := by
  have h := L2.atI_nat (xs := a :: b :: c :: d :: l) (j := 3) (v := d) rfl
  exact h
theorem atI_nn {l : List α} {j : Int} (h0 : 0 ≤ j) : atI l j = l[j.toNat]? := by
  unfold atI ixN
  by_cases h : j < l.length
  · simp [h0, h]
  · simp [h0, h]
def setC (S : Sto) (n : Nat) (y d : D) : Option Cell → R Unit
  | some (.lst xs) => match y with
      | .int i => match ixN xs.length i with
        | some j => .ok () (S.set n (.lst (xs.set j d)))
        | none => .bad
      | _ => .bad
  | some (.dk kvs) => match keyD y with
      | some k => if kvs.length < 100000 then .ok () (S.set n (.dk (putKD kvs k d))) else .bad
      | none => .bad
  | some (.dt kvs) => match keysD y with
      | some k => if kvs.length < 100000 then .ok () (S.set n (.dt (putKD kvs k d))) else .bad
      | none => .bad
  | _ => .bad
theorem oSet_ref : oSet (.ref n) y d S = setC S n y d S[n]? := by unfold oSet setC; rfl
def setLK (S : Sto) (n : Nat) (xs : List D) (d : D) : Option Nat → R Unit
  | some j => .ok () (S.set n (.lst (xs.set j d)))
  | none => .bad
theorem setC_lst {j : Int} : setC S n (.int j) d (some (.lst xs)) = setLK S n xs d (ixN xs.length j) := by unfold setC setLK; rfl
theorem setLK_some {j : Nat} : setLK S n xs d (some j) = .ok () (S.set n (.lst (xs.set j d))) := (rfl)
theorem ixN_0 {k : Nat} : ixN (k + 1) 0 = some 0 := by unfold ixN; simp
theorem ixN_1 {k : Nat} : ixN (k + 2) 1 = some 1 := by unfold ixN; simp; omega

/-! calls -/
def callK (F : FF) (n : Nat) (dds : List D) : List D → Sto → R D := fun ds S1 => if ds.length + dds.length = n then (F (ds ++ dds) S1).nox else .bad
theorem ap_fCall : fCall F n dds fs env S = (fs env S).bind (callK F n dds) := (rfl)
theorem ap_callK : callK F n dds ds S = if ds.length + dds.length = n then (F (ds ++ dds) S).nox else .bad := (rfl)
def fnK : Fl → Sto → R D := fun fl S1 => match fl with
  | .nx _ => .ok .non S1
  | .rt d => .ok d S1
  | _ => .bad
theorem ap_fnF : fnF m sf ds S = (sf (ds.map some ++ List.replicate (m - ds.length) none) S).bind fnK := (rfl)
theorem ap_fnK_rt : fnK (.rt d) S = .ok d S := (rfl)
end

/-! operators -/
section
variable {i j : Int} {S : Sto} {x y d : D} {b c : Bool} {xs ys ds : List D} {n m : Nat}
theorem o_add : oAdd (.int i) (.int j) S = .ok (.int (i + j)) S := (rfl)
def addC (S : Sto) : Option Cell → Option Cell → R D
  | some (.lst xs), some (.lst ys) => if xs.length + ys.length ≤ 100000 then .ok (.ref S.length) (S ++ [.lst (xs ++ ys)]) else .bad
  | _, _ => .bad
theorem o_addR : oAdd (.ref n) (.ref m) S = addC S S[n]? S[m]? := by unfold oAdd addC; rfl
theorem o_addC : addC S (some (.lst xs)) (some (.lst ys)) = if xs.length + ys.length ≤ 100000 then .ok (.ref S.length) (S ++ [.lst (xs ++ ys)]) else .bad := (rfl)
theorem o_mul : oMul (.int i) (.int j) S = if (-(2 ^ 64) < i ∧ i < 2 ^ 64) ∨ (-(2 ^ 64) < j ∧ j < 2 ^ 64) then .ok (.int (i * j)) S else .bad := by
  show (if cMul i j = true then _ else _) = _
  unfold cMul
  by_cases h : (-(2 ^ 64) < i ∧ i < 2 ^ 64) ∨ (-(2 ^ 64) < j ∧ j < 2 ^ 64)
  · rw [decide_eq_true h, if_pos rfl, if_pos h]
  · rw [decide_eq_false h, if_neg h]; rfl
theorem o_mod : oMod (.int i) (.int j) S = if 0 < j then .ok (.int (i % j)) S else .bad := by
  show (if decide (0 < j) = true then _ else _) = _
  by_cases h : 0 < j
  · rw [decide_eq_true h, if_pos rfl, if_pos h]
  · rw [decide_eq_false h, if_neg h]; rfl
theorem o_div : oDiv (.int i) (.int j) S = if 0 < j ∧ j < 1267650600228229401496703205376 then .ok (.int (i / j)) S else .bad := by
  rw [show (1267650600228229401496703205376 : Int) = 2 ^ 100 from by decide]
  show (if cDiv i j = true then _ else _) = _
  unfold cDiv
  by_cases h : 0 < j ∧ j < 2 ^ 100
  · rw [decide_eq_true h, if_pos rfl, if_pos h]
  · rw [decide_eq_false h, if_neg h]; rfl
theorem o_pow : oPow (.int i) (.int j) S = if 0 ≤ j ∧ j ≤ 1000 ∧ -18446744073709551616 < i ∧ i < 18446744073709551616 then .ok (.int (i ^ j.toNat)) S else .bad := by
  show (if cPow i j = true then _ else _) = _
  have e : (0 ≤ j ∧ j ≤ 1000 ∧ i.natAbs < 2 ^ 64) = (0 ≤ j ∧ j ≤ 1000 ∧ -18446744073709551616 < i ∧ i < 18446744073709551616) := by
    have e1 : (i.natAbs < 2 ^ 64) = (-18446744073709551616 < i ∧ i < 18446744073709551616) := propext ⟨fun h => ⟨by omega, by omega⟩, fun h => by omega⟩
    rw [e1]
  unfold cPow
  simp only [e, decide_eq_true_eq]
theorem o_neg : oNeg (.int i) S = .ok (.int (-i)) S := (rfl)
theorem o_gt : oGt (.int i) (.int j) S = .ok (.bl (decide (j < i))) S := (rfl)
theorem o_ge : oGe (.int i) (.int j) S = .ok (.bl (decide (j ≤ i))) S := (rfl)
theorem o_int : oInt [.int i] S = .ok (.int i) S := (rfl)
theorem o_min2 : oMin2 [.int i, .int j] S = .ok (.int (if j < i then j else i)) S := (rfl)
def eqK (S : Sto) : Option PyData → Option PyData → R D
  | some p, some q => .ok (.bl (PyData.eqv p q)) S
  | _, _ => .bad
def neK (S : Sto) : Option PyData → Option PyData → R D
  | some p, some q => .ok (.bl (!PyData.eqv p q)) S
  | _, _ => .bad
theorem o_eq : oEq x y S = eqK S (toP S 20 x) (toP S 20 y) := by unfold oEq eqK; rfl
theorem o_ne : oNe x y S = neK S (toP S 20 x) (toP S 20 y) := by unfold oNe neK; rfl
theorem eqK_some {p q : PyData} : eqK S (some p) (some q) = .ok (.bl (PyData.eqv p q)) S := (rfl)
theorem neK_some {p q : PyData} : neK S (some p) (some q) = .ok (.bl (!PyData.eqv p q)) S := (rfl)
theorem eqv_int : PyData.eqv (.int i) (.int j) = (i == j) := by simp only [PyData.eqv]
theorem toP_int {k : Nat} : toP S k (.int i) = some (.int i) := by cases k <;> rfl
theorem toP_non {k : Nat} : toP S k .non = some .none := by cases k <;> rfl
theorem toP_str {k : Nat} {t : Str} : toP S k (.str t) = if PyData.strOk t = true then some (.str t) else none := by cases k <;> rfl
theorem toP_tup {k : Nat} : toP S (k + 1) (.tup xs) = (xs.mapM (toP S k)).map .tuple := (rfl)
def toPC (S : Sto) (k : Nat) : Option Cell → Option PyData
  | some (.lst xs) => (xs.mapM (toP S k)).map .list
  | _ => none
theorem toP_ref {k : Nat} : toP S (k + 1) (.ref n) = toPC S k S[n]? := by unfold toP toPC; rfl
theorem toPC_lst {k : Nat} : toPC S k (some (.lst xs)) = (xs.mapM (toP S k)).map .list := (rfl)
theorem toP_mapM_nil {f : D → Option PyData} : List.mapM f [] = some [] := (rfl)
def consO (a : Option PyData) (l : Option (List PyData)) : Option (List PyData) := match a, l with
  | some x, some xs => some (x :: xs)
  | _, _ => none
theorem toP_mapM_cons {f : D → Option PyData} : List.mapM f (d :: ds) = consO (f d) (ds.mapM f) := by
  rw [List.mapM_cons]
  cases f d with
  | none => rfl
  | some p => cases ds.mapM f <;> rfl
def lenK (S : Sto) : Option Nat → R D
  | some n => .ok (.int (n : Nat)) S
  | none => .bad
theorem o_len : oLen [x] S = lenK S (lenD S x) := by unfold oLen lenK; rfl
theorem lenK_some {k : Nat} : lenK S (some k) = .ok (.int (k : Nat)) S := (rfl)
theorem lenD_rl : lenD S (.rl xs) = some xs.length := (rfl)
def lenC : Option Cell → Option Nat
  | some (.lst xs) => some xs.length
  | some (.dk kvs) => some kvs.length
  | some (.dt kvs) => some kvs.length
  | _ => none
theorem lenD_ref : lenD S (.ref n) = lenC S[n]? := by unfold lenD lenC; rfl
theorem lenC_lst : lenC (some (.lst xs)) = some xs.length := (rfl)
end

/-! types, loops, texts -/
section
variable {S : Sto} {d x : D} {xs ds acc : List D} {env e : Lc} {fa el : EF} {T t : String} {neg b : Bool} {g : GF} {body : SF} {fi : IF} {n i : Nat} {fs : AF} {ft : BF}
def isiK2 (S : Sto) : Option Bool → R D
  | some b => .ok (.bl b) S
  | none => .bad
def isiK (T : String) (S : Sto) : Option String → R D
  | some t => isiK2 S (isiD t T)
  | none => .bad
def isiK0 (T : String) : D → Sto → R D := fun x S1 => match tyD S1 x with
  | some t => match isiD t T with
    | some b => .ok (.bl b) S1
    | none => .bad
  | none => .bad
theorem ap_fIsi : fIsi T fa env S = (fa env S).bind (isiK0 T) := (rfl)
theorem ap_isiK0 : isiK0 T x S = isiK T S (tyD S x) := by unfold isiK0 isiK isiK2; cases tyD S x with
  | none => rfl
  | some t => cases isiD t T <;> rfl
theorem ap_isiK : isiK T S (some t) = isiK2 S (isiD t T) := (rfl)
theorem ap_isiK2 : isiK2 S (some b) = .ok (.bl b) S := (rfl)
def tyK (T : String) (neg : Bool) (S : Sto) : Option String → R D
  | some t => .ok (.bl (if neg = true then !decide (t = T) else decide (t = T))) S
  | none => .bad
def tyK0 (T : String) (neg : Bool) : D → Sto → R D := fun x S1 => match tyD S1 x with
  | some t => .ok (.bl (if neg = true then !decide (t = T) else decide (t = T))) S1
  | none => .bad
def forK (g : GF) (body : SF) (env : Lc) : It' → Sto → R Fl := fun it S1 => match it with
  | .fix xs => loopX g body xs env S1
  | .live n xs => loopL n g body xs 0 env S1
theorem ap_fFor : fFor fi g body env S = (fi env S).bind (forK g body env) := (rfl)
theorem ap_forK_fix : forK g body env (.fix xs) S = loopX g body xs env S := (rfl)
theorem ap_forK_live : forK g body env (.live n xs) S = loopL n g body xs 0 env S := (rfl)
theorem loopX_nil : loopX g body [] env S = .ok (.nx env) S := (rfl)
def turnK (g : GF) (body : SF) (xs : List D) : Fl → Sto → R Fl := fun fl S2 => match fl with
    | .nx e => loopX g body xs e S2
    | .ct e => loopX g body xs e S2
    | .bk e => .ok (.nx e) S2
    | .rt d => .ok (.rt d) S2
def turnK0 (g : GF) (body : SF) (xs : List D) : Lc → Sto → R Fl := fun env1 S1 => (body env1 S1).bind (turnK g body xs)
theorem loopX_cons : loopX g body (d :: xs) env S = (g d env S).bind (turnK0 g body xs) := (rfl)
theorem ap_turnK0 : turnK0 g body xs env S = (body env S).bind (turnK g body xs) := (rfl)
theorem ap_turnK_nx : turnK g body xs (.nx e) S = loopX g body xs e S := (rfl)
def rng1K : List D → Sto → R It' := fun ds S1 => match ds with
  | [.int j] => if -(2 ^ 62) ≤ j ∧ j < 2 ^ 62 then .ok (.fix (rngD 0 j.toNat)) S1 else .bad
  | _ => .bad
theorem ap_fRng1 : fRng1 fs env S = (fs env S).bind rng1K := (rfl)
theorem ap_rng1K {j : Int} : rng1K [.int j] S = if -(2 ^ 62) ≤ j ∧ j < 2 ^ 62 then .ok (.fix (rngD 0 j.toNat)) S else .bad := (rfl)
def iterC (S : Sto) (n : Nat) : Option Cell → R It'
  | some (.lst xs) => .ok (.live n xs) S
  | _ => .bad
def iterK : D → Sto → R It' := fun d S1 => match d with
  | .rl xs => .ok (.fix xs) S1
  | .tup xs => .ok (.fix xs) S1
  | .kt xs => .ok (.fix xs) S1
  | .ref n => match S1[n]? with
    | some (.lst xs) => .ok (.live n xs) S1
    | _ => .bad
  | _ => .bad
theorem ap_fIter : fIter fa env S = (fa env S).bind iterK := (rfl)
theorem ap_iterK_ref : iterK (.ref n) S = iterC S n S[n]? := by unfold iterK iterC; rfl
theorem iterC_lst : iterC S n (some (.lst xs)) = .ok (.live n xs) S := (rfl)
def iterSK : D → Sto → R It' := fun x S1 => match x with
  | .str z => .ok (.fix (sgnD z)) S1
  | _ => .bad
def compK (i : Nat) (ft : BF) (fe : EF) (env : Lc) : It' → Sto → R D := fun it S1 => match it with
  | .fix xs => compX i ft fe (env.set i none) xs [] S1
  | .live n xs => compL n i ft fe (env.set i none) xs 0 [] S1
def compTK (i : Nat) (ft : BF) (el : EF) (env : Lc) (d : D) (xs acc : List D) : Bool → Sto → R D := fun b S1 => if b = true then ((el (env.set i (some d)) S1).nox.bind fun y S2 => if acc.length < 100000 then compX i ft el env xs (acc ++ [y]) S2 else .bad) else compX i ft el env xs acc S1
def compEK (i : Nat) (ft : BF) (el : EF) (env : Lc) (xs acc : List D) : D → Sto → R D := fun y S2 => if acc.length < 100000 then compX i ft el env xs (acc ++ [y]) S2 else .bad
def slK1 (pl ph : PF) (env : Lc) : D → Sto → R D := fun x S1 => (pl env S1).bind fun l S2 => (ph env S2).bind fun h S3 => oSl x l h S3
def slK2 (ph : PF) (env : Lc) (x : D) : Option Int → Sto → R D := fun l S2 => (ph env S2).bind fun h S3 => oSl x l h S3
def pSoK : D → Sto → R (Option Int) := fun x S1 => match x with
  | .int i => .ok (some i) S1
  | _ => .bad
def bmK (T : String) (o : OpM) (fs : AF) (env : Lc) : D → Sto → R D := fun x S1 => if tyIn T S1 x = true then (fs env S1).bind fun ds S2 => o x ds S2 else .bad
theorem ap_fBm {o : OpM} {fo : EF} : fBm T o fo fs env S = (fo env S).bind (bmK T o fs env) := (rfl)
theorem ap_bmK {o : OpM} : bmK T o fs env x S = if tyIn T S x = true then (fs env S).bind (o x) else .bad := (rfl)
def tyInC (T : String) : Option Cell → Bool
  | some (.lst _) => decide (T = "list")
  | some (.dk _) => decide (T = "dict")
  | some (.dt _) => decide (T = "dict")
  | _ => false
theorem tyIn_ref : tyIn T S (.ref n) = tyInC T S[n]? := by unfold tyIn tyInC; rfl
theorem tyInC_lst : tyInC T (some (.lst xs)) = decide (T = "list") := (rfl)
def tyC : Option Cell → Option String
  | some (.lst _) => some "list"
  | some (.dk _) => some "dict"
  | some (.dt _) => some "dict"
  | _ => none
theorem tyD_ref : tyD S (.ref n) = tyC S[n]? := by unfold tyD tyC; rfl
end
theorem app_get {α : Type} {S T : List α} {n : Nat} {c : α} (h : S[n]? = some c) : (S ++ T)[n]? = some c := by
  rw [List.getElem?_append_left (List.getElem?_eq_some_iff.mp h).1]; exact h
theorem get_app {α : Type} {S T : List α} {k : Nat} : (S ++ T)[S.length + k]? = T[k]? := by
  rw [List.getElem?_append_right (Nat.le_add_right _ _), Nat.add_sub_cancel_left]
theorem get_app0 {α : Type} {S T : List α} : (S ++ T)[S.length]? = T[0]? := get_app (k := 0)
theorem get_apps {α : Type} {S T : List α} {k n : Nat} {d : α} : (S.set n d ++ T)[S.length + k]? = T[k]? := by
  have h := get_app (S := S.set n d) (T := T) (k := k)
  rw [List.length_set] at h
  exact h
theorem get_apps0 {α : Type} {S T : List α} {n : Nat} {d : α} : (S.set n d ++ T)[S.length]? = T[0]? := get_apps (k := 0)
theorem set_get {α : Type} {S : List α} {n : Nat} {c d : α} (h : S[n]? = some c) : (S.set n d)[n]? = some d := List.getElem?_set_self (List.getElem?_eq_some_iff.mp h).1
end RF

namespace RF
open PySem L2

/-! ### sorted of data -/
abbrev VDP := V × (D × PyData)
def leP : PyData → PyData → Bool := PySem.W.dataLe false id
def rSortD (K : PySem.W.Frag) : List V → Hp → VK → Prop := fun vs H Q => ∃ (a : Addr) (bs : List VDP), vs = [V.ref a] ∧ SqL K H a (bs.map (·.1)) ∧ DpAll K H (bs.map (·.1)) (bs.map (·.2.2)) ∧ PySem.W.AllAlike (bs.map (·.2.2)) ∧ PySem.W.Sortable (bs.map (·.2.2)) ∧ bs.length ≤ sizeLine ∧
  (∀ b ∈ bs, b.2.2.depth ≤ 60) ∧ ∀ p, H p = none → Q (.ref p) (upd H p (.lst ((bs.mergeSort (PySem.W.dataLe false (fun b => b.2.2))).map (·.1))))
theorem vals_each {R : V → Value → Prop} : ∀ {out : List Value} {bs : List VDP}, PySem.W.EachIs (fun v (b : VDP) => RelV b.1 v) out bs → Vals (bs.map (·.1)) out
  | [], [], .nil => .nil
  | _ :: _, _ :: _, .cons h t => .cons h (vals_each (R := R) t)
theorem each_vals : ∀ {out : List Value} {bs : List VDP}, Vals (bs.map (·.1)) out → PySem.W.EachIs (fun v (b : VDP) => RelV b.1 v) out bs
  | out, [], r => by
    rw [List.map_nil] at r
    cases r; exact .nil
  | out, b :: bs, r => by
    rw [List.map_cons] at r
    cases r with
    | cons h t => exact .cons h (each_vals t)
theorem call_sortedD {X : Cx} (hu : X.A.units + 65 < cLine) : CallR X (.builtin "sorted") (rSortD X.K) := by
  intro pins s σ H vs us Q I r h
  obtain ⟨a, bs, rfl, hs, hd, hal, hk, hL, hdep, q⟩ := h
  obtain ⟨its, rv, hl, _⟩ := I.list hs
  rw [Vals.ref1 r]
  obtain ⟨as, hr⟩ := Dp.readsAll I _ _ its hd rv
  refine PySem.W.sorted_data (A := X.A) (enc := fun b : VDP => b.2.2) (R := fun v (b : VDP) => RelV b.1 v) (vs := its) hl.isList (each_vals rv) (PySem.W.readsAll_each (fun b : VDP => b.2.2) hr) hal hk hL (fun b hb => ?_) fun out h1 h2 => ?_
  · have := hdep b hb; omega
  · obtain ⟨ep, he'⟩ := PyProof.Rows.sortedAll_at s.heap its out.toArray
    have hlen : ((bs.mergeSort (PySem.W.dataLe false fun b => b.2.2)).map (·.1)).length ≤ sizeLine := by rw [List.length_map, (List.mergeSort_perm _ _).length_eq]; exact hL
    exact ⟨.ref _, upd H (s.heap.objs.size + 1) (.lst ((bs.mergeSort (PySem.W.dataLe false fun b => b.2.2)).map (·.1))), I.laid (t' := s.toks) (fun _ _ => PyProof.Rows.sortedAll_old) (Nat.le_succ _) ⟨hlen, out, ep, vals_each (R := RelV) h2, he'⟩, rfl, q _ (I.hok.fresh (Nat.le_succ _))⟩

def isTupP : PyData → Bool
  | .tuple (_ :: _) => true
  | _ => false
def isOthP : PyData → Bool
  | .none => false
  | .tuple _ => false
  | _ => true
def likeB (ps : List PyData) : Bool := ps.all fun a => ps.all fun b => PySem.W.alike a b
def sortB (ps : List PyData) : Bool := likeB ps && (ps.all isTupP || ps.all isOthP)
def sortDs (xs : List D) (ps : List PyData) : List D := ((xs.zip ps).mergeSort (PySem.W.dataLe false Prod.snd)).map Prod.fst
def oSorted : OpN := fun ds S => match ds with
  | [x] => match lstD S x with
    | some xs => match xs.mapM (toP S 20) with
      | some ps => if sortB ps = true ∧ xs.length ≤ 100000 then .ok (.ref S.length) (S ++ [.lst (sortDs xs ps)]) else .bad
      | none => .bad
    | none => .bad
  | _ => .bad
theorem likeB_of {ps : List PyData} (h : likeB ps = true) : PySem.W.AllAlike ps := fun d hd d' hd' => List.all_eq_true.mp (List.all_eq_true.mp h d hd) d' hd'
theorem sortB_of {ps : List PyData} (h : sortB ps = true) : PySem.W.AllAlike ps ∧ PySem.W.Sortable ps := by
  unfold sortB at h
  rw [Bool.and_eq_true, Bool.or_eq_true] at h
  refine ⟨likeB_of h.1, ?_⟩
  rcases h.2 with h | h
  · refine .inl fun d hd => ?_
    have := List.all_eq_true.mp h d hd
    unfold isTupP at this
    split at this
    · exact ⟨_, _, rfl⟩
    · cases this
  · refine .inr fun d hd => ?_
    have := List.all_eq_true.mp h d hd
    unfold isOthP at this
    split at this
    · cases this
    · cases this
    · rename_i h1 h2
      exact ⟨fun e => h1 e, fun xs e => h2 xs e⟩
theorem triples {K : PySem.W.Frag} {L : List Addr} {H : Hp} : ∀ {vs : List V} {xs : List D} {ps : List PyData}, RDs K L H vs xs → xs.length = ps.length → ∃ bs : List VDP, bs.map (·.1) = vs ∧ bs.map (·.2) = xs.zip ps ∧ bs.map (·.2.2) = ps ∧ ∀ b ∈ bs, RD K L H b.1 b.2.1
  | _, _, [], .nil, _ => ⟨[], rfl, rfl, rfl, fun b hb => by cases hb⟩
  | _, _, _ :: _, .nil, h => by simp at h
  | _, _, [], .cons _ _, h => by simp at h
  | v :: vs, x :: xs, p :: ps, .cons a r, h => by
    obtain ⟨bs, h1, h2, h3, h4⟩ := triples r (ps := ps) (by simpa using h)
    refine ⟨(v, x, p) :: bs, by simp [h1], by simp [h2], by simp [h3], fun b hb => ?_⟩
    rcases List.mem_cons.mp hb with rfl | hb
    · exact a
    · exact h4 b hb
theorem rds_of {K : PySem.W.Frag} {L : List Addr} {H : Hp} : ∀ (bs : List VDP), (∀ b ∈ bs, RD K L H b.1 b.2.1) → RDs K L H (bs.map (·.1)) (bs.map (·.2.1))
  | [], _ => .nil
  | b :: bs, h => .cons (h b (List.mem_cons_self ..)) (rds_of bs fun c hc => h c (List.mem_cons_of_mem _ hc))
theorem dpAll_len {K : PySem.W.Frag} {H : Hp} : ∀ {vs : List V} {ps : List PyData}, DpAll K H vs ps → vs.length = ps.length
  | _, _, .nil => rfl
  | _, _, .cons _ b => by rw [List.length_cons, List.length_cons, dpAll_len b]
theorem depth_mem : ∀ {ps : List PyData} {k : Nat}, PyData.depthAll ps ≤ k → ∀ p ∈ ps, p.depth ≤ k
  | [], _, _, p, hp => by cases hp
  | q :: ps, k, h, p, hp => by
    simp only [PyData.depthAll] at h
    rcases List.mem_cons.mp hp with rfl | hp
    · omega
    · exact depth_mem (ps := ps) (k := k) (by omega) p hp
section
variable {K : PySem.W.Frag} {E : XK}
theorem f_sorted : CaF K E (rSortD K) oSorted := by
  intro L H S xs ds Q rep rs q
  match ds, rs, q with
  | [], _, q => exact q.elim
  | _ :: _ :: _, _, q => exact q.elim
  | [d], rs, q =>
    obtain ⟨x, rfl, r⟩ := rs.one
    unfold oSorted at q
    simp only at q
    cases h : lstD S d with
    | none => rw [h] at q; exact q.elim
    | some ys =>
      rw [h] at q
      simp only at q
      cases h2 : ys.mapM (toP S 20) with
      | none => rw [h2] at q; exact q.elim
      | some ps =>
        rw [h2] at q
        simp only at q
        by_cases hc : sortB ps = true ∧ ys.length ≤ 100000
        · rw [if_pos hc] at q
          obtain ⟨a, vs, rfl, rv, k⟩ := lstD_of rep r h
          obtain ⟨hdp, _, hdep⟩ := toPs_of 20 (toP_of rep 20) rv h2
          have hlen : ys.length = ps.length := by
            rw [← rv.length]
            exact dpAll_len hdp
          obtain ⟨bs, e1, e2, e3, e4⟩ := triples rv hlen
          have hbl : bs.length = ys.length := by rw [← rv.length, ← e1, List.length_map]
          obtain ⟨hal, hso⟩ := sortB_of hc.1
          refine ⟨a, bs, rfl, by rw [e1]; exact k, by rw [e1, e3]; exact hdp, by rw [e3]; exact hal, by rw [e3]; exact hso, by rw [hbl]; exact sz5 hc.2, fun b hb => ?_, fun p hp => newList q rep ?_ p hp⟩
          · have hm : b.2.2 ∈ ps := by rw [← e3]; exact List.mem_map_of_mem (f := fun b : VDP => b.2.2) hb
            have := depth_mem hdep _ hm
            omega
          · have e5 : sortDs ys ps = (bs.mergeSort (PySem.W.dataLe false fun b => b.2.2)).map (·.2.1) := by
              unfold sortDs
              rw [← e2, ← List.map_mergeSort (r := PySem.W.dataLe false fun b : VDP => b.2.2) (s := PySem.W.dataLe false Prod.snd) (f := fun b : VDP => b.2) (l := bs) (fun _ _ _ _ => rfl), List.map_map]
              rfl
            rw [e5]
            exact rds_of _ fun b hb => e4 b ((List.mergeSort_perm _ _).mem_iff.mp hb)
        · rw [if_neg hc] at q; exact q.elim
end
end RF

namespace RF
open PySem L2

/-! ### min of data -/
def rMinD (K : PySem.W.Frag) : List V → Hp → VK → Prop := fun vs H Q => ∃ (a : Addr) (bs : List VDP) (x : PyData) (ps : List PyData), vs = [V.ref a] ∧ SqL K H a (bs.map (·.1)) ∧ DpAll K H (bs.map (·.1)) (bs.map (·.2.2)) ∧ bs.map (·.2.2) = x :: ps ∧ PySem.W.AlikeAll (x :: ps) ∧
  PyData.depthAll (x :: ps) ≤ 60 ∧ PyData.canLayAll0 (x :: ps) = true ∧ ∀ b ∈ bs, b.2.2 = PySem.W.minD x ps → Q b.1 H
theorem lay_mem : ∀ {ps : List PyData}, PyData.canLayAll0 ps = true → ∀ p ∈ ps, p.canLay0 = true
  | [], _, p, hp => by cases hp
  | q :: ps, h, p, hp => by
    simp only [PyData.canLayAll0, Bool.and_eq_true] at h
    rcases List.mem_cons.mp hp with rfl | hp
    · exact h.1
    · exact lay_mem h.2 p hp
theorem vals_at : ∀ {vs : List V} {us : List Value} {i : Nat} {u : Value}, Vals vs us → us[i]? = some u → ∃ v, vs[i]? = some v ∧ RelV v u
  | _, _, i, _, .nil, h => by simp at h
  | _, _, 0, _, .cons a b, h => by simp at h; subst h; exact ⟨_, rfl, a⟩
  | _, _, i + 1, _, .cons a b, h => by
    obtain ⟨v, h1, h2⟩ := vals_at (i := i) b (by simpa using h)
    exact ⟨v, by simpa using h1, h2⟩
-- data of atoms and tuples, back
mutual
def toD : PyData → D
  | .none => .non
  | .bool b => .bl b
  | .int i => .int i
  | .str x => .str x
  | .tuple xs => .tup (toDs xs)
  | _ => .non
def toDs : List PyData → List D
  | [] => []
  | x :: xs => toD x :: toDs xs
end
mutual
def pureT : D → Bool
  | .non => true
  | .bl _ => true
  | .int _ => true
  | .str _ => true
  | .tup xs => pureTs xs
  | _ => false
def pureTs : List D → Bool
  | [] => true
  | x :: xs => pureT x && pureTs xs
end
theorem leafP_back {d : D} {p : PyData} (h : leafP d = some p) : toD p = d := by
  cases d with
  | str b =>
    have h : (if PyData.strOk b = true then some (PyData.str b) else none) = some p := h
    by_cases hb : PyData.strOk b = true
    · rw [if_pos hb] at h
      cases h
      simp [toD]
    · rw [if_neg hb] at h; cases h
  | non => cases h; simp [toD]
  | bl b => cases h; simp [toD]
  | int b => cases h; simp [toD]
  | _ => cases h
theorem toPs_back {S : Sto} {k : Nat} (ih : ∀ d p, pureT d = true → toP S k d = some p → toD p = d) : ∀ (ds : List D) (ps : List PyData), pureTs ds = true → ds.mapM (toP S k) = some ps → toDs ps = ds
  | [], ps, _, h => by
    simp at h
    subst h
    simp [toDs]
  | d :: ds, ps, hp, h => by
    simp only [pureTs, Bool.and_eq_true] at hp
    obtain ⟨p, ps', h1, h2, rfl⟩ := mapM_cons_some h
    simp only [toDs]
    rw [ih d p hp.1 h1, toPs_back ih ds ps' hp.2 h2]
theorem toP_back {S : Sto} : ∀ (k : Nat) (d : D) (p : PyData), pureT d = true → toP S k d = some p → toD p = d
  | 0, d, p, _, h => leafP_back h
  | k + 1, d, p, hp, h => by
    cases d with
    | tup xs =>
      obtain ⟨ps, h1, rfl⟩ := Option.map_eq_some_iff.mp (show (xs.mapM (toP S k)).map PyData.tuple = some _ from h)
      simp only [pureT] at hp
      simp only [toD]
      rw [toPs_back (fun d p => toP_back k d p) xs ps hp h1]
    | rl xs => simp [pureT] at hp
    | kt xs => simp [pureT] at hp
    | exc a => simp [pureT] at hp
    | ref n => simp [pureT] at hp
    | non => exact leafP_back h
    | bl b => exact leafP_back h
    | int b => exact leafP_back h
    | str b => exact leafP_back h
def notNoneB (ps : List PyData) : Bool := ps.all fun p => match p with | .none => false | _ => true
def oMin1 : OpN := fun ds S => match ds with
  | [x] => match lstD S x with
    | some xs => match xs.mapM (toP S 20) with
      | some (p :: ps) => if likeB (p :: ps) = true ∧ notNoneB (p :: ps) = true ∧ pureTs xs = true then .ok (toD (PySem.W.minD p ps)) S else .bad
      | _ => .bad
    | none => .bad
  | _ => .bad
theorem pureTs_mem : ∀ {xs : List D}, pureTs xs = true → ∀ d ∈ xs, pureT d = true
  | [], _, d, hd => by cases hd
  | x :: xs, h, d, hd => by
    simp only [pureTs, Bool.and_eq_true] at h
    rcases List.mem_cons.mp hd with rfl | hd
    · exact h.1
    · exact pureTs_mem h.2 d hd
theorem mapM_zip {f : D → Option PyData} : ∀ {xs : List D} {ps : List PyData}, xs.mapM f = some ps → ∀ z ∈ xs.zip ps, f z.1 = some z.2
  | [], ps, h, z, hz => by
    simp at hz
  | x :: xs, ps, h, z, hz => by
    obtain ⟨p, ps', h1, h2, rfl⟩ := mapM_cons_some h
    rw [List.zip_cons_cons] at hz
    rcases List.mem_cons.mp hz with rfl | hz
    · exact h1
    · exact mapM_zip h2 z hz
section
variable {K : PySem.W.Frag} {E : XK}
end

/-! ### l.remove(x) -/
def rRemD (K : PySem.W.Frag) : V → List V → Hp → VK → Prop := fun x xs H Q => ∃ (a : Addr) (y : V) (vs : List V) (d : PyData) (ds : List PyData) (j : Nat), x = V.ref a ∧ xs = [y] ∧ H a = some (.lst vs) ∧ DpAll K H vs ds ∧ Dp K H y d ∧ PyData.canLayAll0 ds = true ∧ d.canLay0 = true ∧ d.depth ≤ 60 ∧
  PySem.SeqAt.dataPlace ds d = some j ∧ Q .non (upd H a (.lst (vs.eraseIdx j)))
def mRemove : OpM := fun x ds S => match x, ds with
  | .ref n, [y] => match S[n]? with
    | some (.lst xs) => match xs.mapM (toP S 20), toP S 20 y with
      | some ps, some p => match PySem.SeqAt.dataPlace ps p with
        | some j => .ok .non (S.set n (.lst (xs.eraseIdx j)))
        | none => .bad
      | _, _ => .bad
    | _ => .bad
  | _, _ => .bad
section
variable {K : PySem.W.Frag} {E : XK}
end
end RF

namespace RF
open PySem L2

/-! ### a value's truth -/
def truD (S : Sto) : D → Option Bool
  | .non => some false
  | .bl b => some b
  | .int i => some (i != 0)
  | .tup xs => some (!xs.isEmpty)
  | .rl xs => some (!xs.isEmpty)
  | .ref n => match S[n]? with
    | some (.lst xs) => some (!xs.isEmpty)
    | some (.dk kvs) => some (!kvs.isEmpty)
    | _ => none
  | _ => none
def fTru (fa : EF) : BF := fun env S => (fa env S).bind fun x S1 => match truD S1 x with
  | some b => .ok b S1
  | none => .bad
theorem RDs.isEmpty {K : PySem.W.Frag} {L : List Addr} {H : Hp} : ∀ {vs : List V} {ds : List D}, RDs K L H vs ds → vs.isEmpty = ds.isEmpty
  | _, _, .nil => rfl
  | _, _, .cons _ _ => rfl
theorem RK.isEmpty {κ : Type} {K : PySem.W.Frag} {L : List Addr} {H : Hp} : ∀ {ps : List (κ × V)} {qs : List (κ × D)}, RK K L H ps qs → ps.isEmpty = qs.isEmpty
  | [], [], _ => rfl
  | _ :: _, _ :: _, _ => rfl
  | [], _ :: _, h => h.elim
  | _ :: _, [], h => h.elim
section
variable {X : Cx} {K : PySem.W.Frag} {E : XK} {L : List Addr} {H : Hp} {S : Sto}
end

/-! ### o.f += e -/
def fFldAug (C : Addr) (f : Str) (o : Op2) (fo fv : EF) : SF := fun env S => (fo env S).bind fun x S1 => match fldsOf C S1 x with
  | some (_, fs) => (retO S1 (fs.lookup f)).bind fun y S2 => (fv env S2).bind fun z S3 => (o y z S3).bind fun d S4 => (oPut C f x d S4).bind fun _ S5 => .ok (.nx env) S5
  | none => .bad
def oAddI : Op2 := oI (fun _ _ => true) fun i j => i + j
section
variable {X : Cx} {E : XK} {o e : Expr} {fo fv : EF} {pos tpos : Pos} {C : Addr} {f g : Str}
end

/-! ### methods, by a name that is equal -/
section
variable {X : Cx} {E : XK} {k n : Nat} {f C : Addr} {fd : FuncData} {ps : List Str} {F : FF} {dvs : List V} {ds : List Value} {dds : List D} {m m' : Str} {pos apos : Pos} {e o : Expr} {es : List Expr} {fo : EF} {fs : AF}
end

/-! ### a def with defaults -/
section
variable {P : Program} {w : World} {K : PySem.W.Frag} {mg : Str → Option Value} {base : Heap}
end
end RF

namespace RF
open PySem L2

/-! ### {k: e, ..} with texts and ints as keys -/
abbrev PrF := Lc → Sto → R (List (D × D))
def prNil : PrF := fun _ S => .ok [] S
def prCons (fk fv : EF) (r : PrF) : PrF := fun env S => (fk env S).bind fun x S1 => (fv env S1).bind fun y S2 => (r env S2).bind fun ps S3 => .ok ((x, y) :: ps) S3
def keyPs : List (D × D) → Option (List (Key × D))
  | [] => some []
  | (x, y) :: r => match keyD x with
    | some k => match keyPs r with
      | some kvs => some ((k, y) :: kvs)
      | none => none
    | none => none
def mergeKD (kvs more : List (Key × D)) : List (Key × D) := more.foldl (fun acc kv => putKD acc kv.1 kv.2) kvs
def fDisp (r : PrF) : EF := fun env S => (r env (S ++ [.dk []])).bind fun ps S1 => match keyPs ps with
  | some kvs => match S1[S.length]? with
    | some (.dk []) => if kvs.length ≤ 15 then .ok (.ref S.length) (S1.set S.length (.dk (mergeKD [] kvs))) else .bad
    | _ => .bad
  | none => .bad
def RPs (K : PySem.W.Frag) (L : List Addr) (H : Hp) : List (V × V) → List (D × D) → Prop
  | [], [] => True
  | p :: ps, q :: qs => RD K L H p.1 q.1 ∧ RD K L H p.2 q.2 ∧ RPs K L H ps qs
  | _, _ => False
theorem RPs.keys {K : PySem.W.Frag} {L : List Addr} {H : Hp} : ∀ {ps : List (V × V)} {qs : List (D × D)} {kvs : List (Key × D)}, RPs K L H ps qs → keyPs qs = some kvs → ∃ ws : List (Key × V), ps = ws.map (fun kv => (kV kv.1, kv.2)) ∧ RK K L H ws kvs
  | [], [], _, _, h => by cases h; exact ⟨[], rfl, trivial⟩
  | p :: ps, (x, y) :: qs, kvs, ⟨a, b, c⟩, h => by
    unfold keyPs at h
    cases h1 : keyD x with
    | none => rw [h1] at h; cases h
    | some k =>
      rw [h1] at h
      simp only at h
      cases h2 : keyPs qs with
      | none => rw [h2] at h; cases h
      | some r =>
        rw [h2] at h
        cases h
        obtain ⟨ws, e, rk⟩ := RPs.keys c h2
        refine ⟨(k, p.2) :: ws, ?_, rfl, b, rk⟩
        have := a.key h1
        rw [List.map_cons, e]
        obtain ⟨p1, p2⟩ := p
        simp only at this
        rw [this]
  | [], _ :: _, _, h, _ => h.elim
  | _ :: _, [], _, h, _ => h.elim
/-- the pairs of a display and their readings -/
structure PrX (X : Cx) (E : XK) (pos : Pos) (keys : List (Option Expr)) (values : List Expr) (r : PrF) : Prop where
  ex : ∃ trs, PPs X pos keys values trs ∧ ∀ σ H (Q : List (V × V) → Hp → Prop) L env S, Rep X.K L H S → RE X.K L H σ env → End X.K E L H (fun ps S1 L1 H1 => ∀ vs, RPs X.K L1 H1 vs ps → Q vs H1) (r env S) → tPairs trs σ H Q
theorem RPs.mono {K : PySem.W.Frag} {L L1 : List Addr} {H H1 : Hp} (e : Ex L H L1 H1) : ∀ {ps : List (V × V)} {qs : List (D × D)}, RPs K L H ps qs → RPs K L1 H1 ps qs
  | [], [], _ => trivial
  | _ :: _, _ :: _, ⟨a, b, c⟩ => ⟨a.mono e, b.mono e, RPs.mono e c⟩
  | [], _ :: _, h => h.elim
  | _ :: _, [], h => h.elim
section
variable {X : Cx} {E : XK} {pos : Pos} {k v : Expr} {ks : List (Option Expr)} {vs : List Expr} {fk fv : EF} {r : PrF}
end
end RF

/-! running by rewriting: instances, dicts, methods -/
namespace RF
open PySem L2
section
variable {C : Addr} {n k : Nat} {S : Sto} {x y z d : D} {ds xs : List D} {fs : List (Str × D)} {f m : Str} {env : Lc} {fo fa fv : EF} {aa : AF} {o : Op2} {F : FF} {dds : List D} {b : Bool} {kvs : List (Key × D)} {t : Str}
def fldC (C : Addr) (n : Nat) : Option Cell → Option (Nat × List (Str × D))
  | some (.ins C' fs) => if C' = C then some (n, fs) else none
  | _ => none
def fldK2 (f : Str) (S : Sto) : Option (Nat × List (Str × D)) → R D
  | some (_, fs) => retO S (fs.lookup f)
  | none => .bad
def fldK (C : Addr) (f : Str) : D → Sto → R D := fun x S1 => match fldsOf C S1 x with
  | some (_, fs) => retO S1 (fs.lookup f)
  | none => .bad
def sfK1 (C : Addr) (f : Str) (fo : EF) (env : Lc) : D → Sto → R Fl := fun d S1 => (fo env S1).bind fun x S2 => (oPut C f x d S2).bind fun _ S3 => .ok (.nx env) S3
def sfK2 (C : Addr) (f : Str) (env : Lc) (d : D) : D → Sto → R Fl := fun x S2 => (oPut C f x d S2).bind fun _ S3 => .ok (.nx env) S3
def sfK3 (env : Lc) : Unit → Sto → R Fl := fun _ S3 => .ok (.nx env) S3
def putK' (C : Addr) (f : Str) (d : D) (S : Sto) : Option (Nat × List (Str × D)) → R Unit
  | some (n, fs) => if fs.length < 900 then .ok () (S.set n (.ins C (putD f d fs))) else .bad
  | none => .bad
def faK2 (C : Addr) (f : Str) (o : Op2) (fv : EF) (env : Lc) (x : D) (S1 : Sto) : Option (Nat × List (Str × D)) → R Fl
  | some (_, fs) => (retO S1 (fs.lookup f)).bind fun y S2 => (fv env S2).bind fun z S3 => (o y z S3).bind fun d S4 => (oPut C f x d S4).bind fun _ S5 => .ok (.nx env) S5
  | none => .bad
def faK1 (C : Addr) (f : Str) (o : Op2) (fv : EF) (env : Lc) : D → Sto → R Fl := fun x S1 => match fldsOf C S1 x with
  | some (_, fs) => (retO S1 (fs.lookup f)).bind fun y S2 => (fv env S2).bind fun z S3 => (o y z S3).bind fun d S4 => (oPut C f x d S4).bind fun _ S5 => .ok (.nx env) S5
  | none => .bad
def faK3 (C : Addr) (f : Str) (o : Op2) (fv : EF) (env : Lc) (x : D) : D → Sto → R Fl := fun y S2 => (fv env S2).bind fun z S3 => (o y z S3).bind fun d S4 => (oPut C f x d S4).bind fun _ S5 => .ok (.nx env) S5
def faK4 (C : Addr) (f : Str) (o : Op2) (env : Lc) (x y : D) : D → Sto → R Fl := fun z S3 => (o y z S3).bind fun d S4 => (oPut C f x d S4).bind fun _ S5 => .ok (.nx env) S5
def faK5 (C : Addr) (f : Str) (env : Lc) (x : D) : D → Sto → R Fl := fun d S4 => (oPut C f x d S4).bind fun _ S5 => .ok (.nx env) S5
def meK2 (m : Str) (F : FF) (n : Nat) (dds : List D) (aa : AF) (env : Lc) (x : D) (S1 : Sto) : Option (Nat × List (Str × D)) → R D
  | some (_, fl) => if (fl.lookup m).isNone = true then (aa env S1).bind fun ds S2 => if ds.length + 1 + dds.length = n then (F (x :: (ds ++ dds)) S2).nox else .bad else .bad
  | none => .bad
def meK1 (C : Addr) (m : Str) (F : FF) (n : Nat) (dds : List D) (aa : AF) (env : Lc) : D → Sto → R D := fun x S1 => match fldsOf C S1 x with
  | some (_, fl) => if (fl.lookup m).isNone = true then (aa env S1).bind fun ds S2 => if ds.length + 1 + dds.length = n then (F (x :: (ds ++ dds)) S2).nox else .bad else .bad
  | none => .bad
def meK3 (F : FF) (n : Nat) (dds : List D) (x : D) : List D → Sto → R D := fun ds S2 => if ds.length + 1 + dds.length = n then (F (x :: (ds ++ dds)) S2).nox else .bad
def mkK2 (k : Nat) : D → Sto → R D := fun r S2 => match r with
  | .non => .ok (.ref k) S2
  | _ => .bad
def mkK (C : Addr) (F : FF) (n : Nat) (dds : List D) : List D → Sto → R D := fun ds S1 => if ds.length + 1 + dds.length = n then (F (.ref S1.length :: (ds ++ dds)) (S1 ++ [.ins C []])).nox.bind fun r S2 => match r with
  | .non => .ok (.ref S1.length) S2
  | _ => .bad
  else .bad
/-! truth -/
def truK2 (S : Sto) : Option Bool → R Bool
  | some b => .ok b S
  | none => .bad
def truK : D → Sto → R Bool := fun x S1 => match truD S1 x with
  | some b => .ok b S1
  | none => .bad
def truC : Option Cell → Option Bool
  | some (.lst xs) => some (!xs.isEmpty)
  | some (.dk kvs) => some (!kvs.isEmpty)
  | _ => none
/-! dicts -/
def getDK (S : Sto) : Option (Option D) → R D
  | some (some d) => .ok d S
  | _ => .bad
theorem o_getD : oGetD x y S = getDK S (lookD S x y) := by unfold oGetD getDK; rfl
theorem o_getDK : getDK S (some (some d)) = .ok d S := (rfl)
def lookC (y : D) : Option Cell → Option (Option D)
  | some (.dk kvs) => (keyD y).map fun k => valK kvs k
  | some (.dt kvs) => (keysD y).map fun k => valK kvs k
  | _ => none
theorem lookD_ref : lookD S (.ref n) y = lookC y S[n]? := by unfold lookD lookC; rfl
def dispK2 (k : Nat) (S1 : Sto) : Option (List (Key × D)) → Option Cell → R D
  | some kvs, some (.dk []) => if kvs.length ≤ 15 then .ok (.ref k) (S1.set k (.dk (mergeKD [] kvs))) else .bad
  | _, _ => .bad
def dispK (k : Nat) : List (D × D) → Sto → R D := fun ps S1 => match keyPs ps with
  | some kvs => match S1[k]? with
    | some (.dk []) => if kvs.length ≤ 15 then .ok (.ref k) (S1.set k (.dk (mergeKD [] kvs))) else .bad
    | _ => .bad
  | none => .bad
def prK (fv : EF) (r : PrF) (env : Lc) : D → Sto → R (List (D × D)) := fun x S1 => (fv env S1).bind fun y S2 => (r env S2).bind fun ps S3 => .ok ((x, y) :: ps) S3
def prK2 (x : D) (r : PrF) (env : Lc) : D → Sto → R (List (D × D)) := fun y S2 => (r env S2).bind fun ps S3 => .ok ((x, y) :: ps) S3
def prK3 (x y : D) : List (D × D) → Sto → R (List (D × D)) := fun ps S3 => .ok ((x, y) :: ps) S3
/-! operators -/
def appC (S : Sto) (n : Nat) (d : D) : Option Cell → R D
  | some (.lst xs) => if xs.length < 100000 then .ok .non (S.set n (.lst (xs ++ [d]))) else .bad
  | _ => .bad
theorem o_append : mAppend (.ref n) [d] S = appC S n d S[n]? := by unfold mAppend appC; rfl
theorem o_appC : appC S n d (some (.lst xs)) = if xs.length < 100000 then .ok .non (S.set n (.lst (xs ++ [d]))) else .bad := (rfl)
theorem o_isN : oIsN x .non S = .ok (.bl (isNonD x)) S := (rfl)
theorem o_nonD : isNonD .non = true := (rfl)
end
/-! a comprehension that only filters -/
end RF

/-! whos: ((house, count), attempt) -/
namespace RF
open PySem L2
abbrev Who := (Int × Int) × Int
def eT (t : Int × Int) : D := .tup [.int t.1, .int t.2]
def eW (w : Who) : D := .tup [eT w.1, .int w.2]
def pT (t : Int × Int) : PyData := .tuple [.int t.1, .int t.2]
def pW (w : Who) : PyData := .tuple [pT w.1, .int w.2]
def eH : Option Who → D
  | none => .non
  | some w => eW w
def pH : Option Who → PyData
  | none => .none
  | some w => pW w
def eWs (ws : List Who) : List D := ws.map eW
section
variable {S : Sto} {k n : Nat} {u w : Who} {t t' : Int × Int} {ws vs : List Who}
theorem fT_eT : toP S (k + 1) (eT t) = some (pT t) := by cases k <;> rfl
theorem eqv_T : PyData.eqv (pT t) (pT t') = decide (t = t') := by
  unfold pT
  simp only [PyData.eqv, PyData.eqvAll]
  obtain ⟨a, b⟩ := t
  obtain ⟨c, d⟩ := t'
  simp only [Prod.mk.injEq]
  by_cases h1 : a = c <;> by_cases h2 : b = d <;> simp [h1, h2]
theorem o_eqT : oEq (eT t) (eT t') S = .ok (.bl (decide (t = t'))) S := by rw [o_eq, fT_eT, fT_eT, eqK_some, eqv_T]
theorem o_neT : oNe (eT t) (eT t') S = .ok (.bl (!decide (t = t'))) S := by rw [o_ne, fT_eT, fT_eT, neK_some, eqv_T]
/-! order -/
def ltW (a b : Who) : Prop := a.1.1 < b.1.1 ∨ (a.1.1 = b.1.1 ∧ (a.1.2 < b.1.2 ∨ (a.1.2 = b.1.2 ∧ a.2 < b.2)))
instance (a b : Who) : Decidable (ltW a b) := inferInstanceAs (Decidable (_ ∨ _))
theorem ltW_irr (a : Who) : ¬ ltW a a := by unfold ltW; omega
def leW (a b : Who) : Bool := !decide (ltW b a)
theorem leW_iff {a b : Who} : leW a b = true ↔ ¬ ltW b a := by unfold leW; simp
def sortW (ws : List Who) : List Who := ws.mergeSort leW
def minW (a : Who) (r : List Who) : Who := r.foldl (fun a y => if ltW y a then y else a) a
theorem minW_mem (a : Who) (r : List Who) : minW a r ∈ a :: r := by
  unfold minW
  induction r generalizing a with
  | nil => simp
  | cons y r ih =>
    rw [List.foldl_cons]
    by_cases h : ltW y a
    · rw [if_pos h]
      have := ih y
      simp only [List.mem_cons] at this ⊢
      rcases this with e | e
      · exact .inr (.inl e)
      · exact .inr (.inr e)
    · rw [if_neg h]
      have := ih a
      simp only [List.mem_cons] at this ⊢
      rcases this with e | e
      · exact .inl e
      · exact .inr (.inr e)
theorem minW_le (a : Who) (r : List Who) : ∀ x ∈ a :: r, ¬ ltW x (minW a r) := by
  unfold minW
  induction r generalizing a with
  | nil =>
    intro x hx
    rw [List.mem_singleton.mp hx]
    exact ltW_irr _
  | cons y r ih =>
    intro x hx
    rw [List.foldl_cons]
    by_cases h : ltW y a
    · rw [if_pos h]
      have hy := ih y
      rcases List.mem_cons.mp hx with rfl | hx
      · have := hy y (List.mem_cons_self ..)
        intro z
        refine this ?_
        unfold ltW at h z ⊢
        omega
      · exact hy x hx
    · rw [if_neg h]
      have ha := ih a
      rcases List.mem_cons.mp hx with rfl | hx
      · exact ha x (List.mem_cons_self ..)
      · rcases List.mem_cons.mp hx with rfl | hx
        · have := ha a (List.mem_cons_self ..)
          intro z
          unfold ltW at h z this
          omega
        · exact ha x (List.mem_cons_of_mem _ hx)
end
end RF

/-! the lock and its model in the store -/
namespace RF
open PySem L2
section
variable {S : Sto} {w u : Who} {v t h d : D} {n : Nat} {C : Addr} {t2 : Int × Int} {g : Option Who}
def nV : Str := ⟨#[118, 97, 108, 117, 101]⟩
def nT : Str := ⟨#[116, 117, 114, 110]⟩
def nH : Str := ⟨#[104, 111, 108, 100, 101, 114]⟩
def nW : Str := ⟨#[95, 119, 104, 111, 115]⟩
def nA : Str := ⟨#[119, 97, 105, 116, 105, 110, 103]⟩
def lkF (v t h : D) (n : Nat) : List (Str × D) := [(nV, v), (nT, t), (nH, h), (nW, .ref n)]
def lkC (C : Addr) (v t h : D) (n : Nat) : Cell := .ins C (lkF v t h n)
def mdF (v t h : D) (n : Nat) : List (Key × D) := [(.inr nV, v), (.inr nT, t), (.inr nH, h), (.inr nA, .ref n)]
def mdC (v t h : D) (n : Nat) : Cell := .dk (mdF v t h n)
end
def upW (tr : Int × Int) (att : Int) (w : Who) : Bool := decide (w.1 = tr) && decide (w.2 ≤ att)
structure LSt where
  v : Int
  t : Int
  h : Option Who
  ws : List Who
def keepS (st : LSt) (tr : Int × Int) (att : Int) : List Who := st.ws.filter fun w => !upW tr att w
def goneS (st : LSt) (tr : Int × Int) (att : Int) : Bool := match st.h with
  | none => false
  | some x => upW tr att x
def freeS (st : LSt) (tr : Int × Int) (att : Int) : LSt × List Who :=
  if goneS st tr att = false then (⟨st.v, st.t, st.h, keepS st tr att⟩, [])
  else match keepS st tr att with
    | [] => (⟨st.v, st.t, none, []⟩, [])
    | a :: r => (⟨st.v, st.t + 1, some (minW a r), (a :: r).filter fun w => !decide (w = minW a r)⟩, [minW a r])
def askS (st : LSt) (u : Who) : LSt × List Who :=
  let p := freeS st u.1 (u.2 - 1)
  match p.1.h with
  | none => (⟨p.1.v, p.1.t + 1, some u, p.1.ws⟩, [u])
  | some x => if x ≠ u ∧ u ∉ p.1.ws then (⟨p.1.v, p.1.t, p.1.h, p.1.ws ++ [u]⟩, p.2) else p
def finS (st : LSt) (u : Who) (z : Int) : LSt × List Who :=
  if st.h ≠ some u then (st, []) else freeS ⟨z, st.t, st.h, st.ws⟩ u.1 u.2
def lkS (C : Addr) (st : LSt) (n : Nat) : Cell := lkC C (.int st.v) (.int st.t) (eH st.h) n
def mdS (st : LSt) (n : Nat) : Cell := mdC (.int st.v) (.int st.t) (eH st.h) n
/-- what keeps: all wait once; nobody waits where nobody holds -/
structure Okay (st : LSt) : Prop where
  nd : st.ws.Nodup
  no : st.h = none → st.ws = []
theorem keep_len {st : LSt} {tr : Int × Int} {att : Int} : (keepS st tr att).length ≤ st.ws.length := List.length_filter_le ..
theorem Okay.free {st : LSt} (o : Okay st) (tr : Int × Int) (att : Int) : Okay (freeS st tr att).1 ∧ (freeS st tr att).1.ws.length ≤ st.ws.length := by
  have hn : (keepS st tr att).Nodup := o.nd.filter _
  have hk := keep_len (st := st) (tr := tr) (att := att)
  unfold freeS
  split
  · refine ⟨⟨hn, fun e => ?_⟩, hk⟩
    have e : st.h = none := e
    show st.ws.filter _ = []
    rw [o.no e]; rfl
  · split
    · exact ⟨⟨List.nodup_nil, fun _ => rfl⟩, Nat.zero_le _⟩
    · rename_i a r h
      rw [h] at hn hk
      exact ⟨⟨show (List.filter (fun w => !decide (w = minW a r)) (a :: r)).Nodup from List.Pairwise.filter _ hn, fun e => by cases e⟩, Nat.le_trans (List.length_filter_le ..) hk⟩
theorem Okay.ask {st : LSt} (o : Okay st) (u : Who) : Okay (askS st u).1 ∧ (askS st u).1.ws.length ≤ st.ws.length + 1 := by
  obtain ⟨o1, hl⟩ := o.free u.1 (u.2 - 1)
  unfold askS
  simp only
  split
  · rename_i h
    exact ⟨⟨o1.nd, fun e => by cases e⟩, by show (freeS st u.1 (u.2 - 1)).1.ws.length ≤ _; omega⟩
  · rename_i x h
    split
    · rename_i h2
      refine ⟨⟨?_, fun e => ?_⟩, ?_⟩
      · show (_ ++ [u]).Nodup
        rw [List.nodup_append]
        refine ⟨o1.nd, by simp, fun a ha b hb e => ?_⟩
        rw [List.mem_singleton] at hb
        rw [e.trans hb] at ha
        exact h2.2 ha
      · have e : (freeS st u.1 (u.2 - 1)).1.h = none := e
        rw [h] at e; cases e
      · show (_ ++ [u]).length ≤ _
        rw [List.length_append, List.length_singleton]; omega
    · exact ⟨o1, by omega⟩
theorem Okay.fin {st : LSt} (o : Okay st) (u : Who) (z : Int) : Okay (finS st u z).1 ∧ (finS st u z).1.ws.length ≤ st.ws.length := by
  unfold finS
  split
  · exact ⟨o, Nat.le_refl _⟩
  · exact Okay.free (st := ⟨z, st.t, st.h, st.ws⟩) ⟨o.nd, o.no⟩ u.1 u.2
end RF

namespace RF
open PySem L2
/-! draws -/
abbrev Sd := Int × Int
def stC (s : Sd) : Cell := .lst [.int s.1, .int s.2]
def dNext (size : Int) (s : Sd) : Int × Sd :=
  if 0 < s.1 then (s.1 % size, (s.1 / size, s.2)) else
    let b := (s.2 * 48271 + 12820163) % 2147483647
    ((b * 16807 + 5) % 2147483399 / 3 % size, (s.1, b))
theorem dNext_lo {size : Int} (h : 0 < size) (s : Sd) : 0 ≤ (dNext size s).1 := by
  unfold dNext; split <;> exact Int.emod_nonneg _ (by omega)
theorem dNext_hi {size : Int} (h : 0 < size) (s : Sd) : (dNext size s).1 < size := by
  unfold dNext; split <;> exact Int.emod_lt_of_pos _ h
def dWho (s : Sd) : Who × Sd :=
  let (a, s) := dNext 5 s
  let (b, s) := dNext 3 s
  let (k, s) := dNext 8 s
  if k = 0 then
    let (a, s) := dNext (10 ^ 12) s
    let (b, s) := dNext (10 ^ 12) s
    let (x, s) := dNext 3 s
    (((1 + a, b), 1 + x), s)
  else
    let (x, s) := dNext 3 s
    (((1 + a, b), 1 + x), s)
/-- what an operation leaves: its object at l, its list, the list that it returns -/
structure Aft (X : Nat → Cell) (A B : Cell) (l : Nat) (S S1 : Sto) (r : Nat) : Prop where
  ex : ∃ w, S1[l]? = some (X w) ∧ S1[w]? = some A ∧ w ≠ r ∧ S.length ≤ w ∧ w < S1.length
  rs : S1[r]? = some B
  rn : S.length ≤ r
  le : S.length ≤ S1.length
  fr : ∀ i, i < S.length → i ≠ l → S1[i]? = S[i]?
/-- a lock at l and its model at m -/
structure Both (C : Addr) (l m : Nat) (st : LSt) (S : Sto) : Prop where
  lk : ∃ w, S[l]? = some (lkS C st w) ∧ S[w]? = some (.lst (eWs st.ws))
  md : ∃ q, S[m]? = some (mdS st q) ∧ S[q]? = some (.lst (eWs st.ws))
theorem ne_of_cell {S : Sto} {a b : Nat} {x y : Cell} (h1 : S[a]? = some x) (h2 : S[b]? = some y) (h : x ≠ y) : a ≠ b := fun e => h (by rw [e, h2] at h1; exact (Option.some.inj h1).symm)
/-- apart from what changes: nothing of these -/
def Kp (S S1 : Sto) (P : Nat → Prop) : Prop := S.length ≤ S1.length ∧ ∀ i, i < S.length → P i → S1[i]? = S[i]?
theorem Kp.get {S S1 : Sto} {P : Nat → Prop} (k : Kp S S1 P) {i : Nat} {c : Cell} (h : S[i]? = some c) (hp : P i) : S1[i]? = some c := (k.2 i (List.getElem?_eq_some_iff.mp h).1 hp).trans h
theorem Both.app {C : Addr} {l m : Nat} {st : LSt} {S : Sto} (h : Both C l m st S) (T : Sto) : Both C l m st (S ++ T) := by
  obtain ⟨⟨w, h1, h2⟩, ⟨q, h3, h4⟩⟩ := h
  exact ⟨⟨w, app_get h1, app_get h2⟩, ⟨q, app_get h3, app_get h4⟩⟩
def LkRes (C : Addr) (l : Nat) (S : Sto) (p : LSt × List Who) (x : R D) : Prop :=
  ∃ T w r, x = .ok (.ref (S.length + r)) (S.set l (lkS C p.1 (S.length + w)) ++ T) ∧ T[w]? = some (.lst (eWs p.1.ws)) ∧ T[r]? = some (.lst (eWs p.2)) ∧ w ≠ r
def MdRes (m : Nat) (S : Sto) (p : LSt × List Who) (x : R D) : Prop :=
  ∃ T w r, x = .ok (.ref (S.length + r)) (S.set m (mdS p.1 (S.length + w)) ++ T) ∧ T[w]? = some (.lst (eWs p.1.ws)) ∧ T[r]? = some (.lst (eWs p.2)) ∧ w ≠ r
/-- a deed on both -/
structure Two (C : Addr) (l m : Nat) (p : LSt × List Who) (S S1 S2 : Sto) (a b : Nat) : Prop where
  ha : S2[a]? = some (.lst (eWs p.2))
  hb : S2[b]? = some (.lst (eWs p.2))
  bo : Both C l m p.1 S2
  bs : ∀ d, Both C l m p.1 (S2.set a d)
  le : S.length ≤ S2.length
  fr : ∀ i, i < S.length → i ≠ l → i ≠ m → S2[i]? = S[i]?
  hs : S.length ≤ a
section
variable {S : Sto} {n : Nat} {xs : List D} {v t h : D} {C : Addr}
def seqC : Option Cell → Option (List D)
  | some (.lst xs) => some xs
  | _ => none
theorem o_seqR : seqD S (.ref n) = seqC S[n]? := by unfold seqD seqC; rfl
theorem o_seqC : seqC (some (.lst xs)) = some xs := (rfl)
end
end RF

namespace RF
open PySem L2
/-- what an operation leaves: its object at l, its list (new, or the one at w0), the list that it returns -/
structure Aft2 (X : Nat → Cell) (A B : Cell) (l w0 : Nat) (S S1 : Sto) (r : Nat) : Prop where
  ex : ∃ w, S1[l]? = some (X w) ∧ S1[w]? = some A ∧ w ≠ r ∧ (S.length ≤ w ∨ w = w0) ∧ w < S1.length
  rs : S1[r]? = some B
  rn : S.length ≤ r
  le : S.length ≤ S1.length
  fr : ∀ i, i < S.length → i ≠ l → S1[i]? = S[i]?
theorem Aft.two {X : Nat → Cell} {A B : Cell} {l w0 : Nat} {S S1 : Sto} {r : Nat} (h : Aft X A B l S S1 r) : Aft2 X A B l w0 S S1 r := by
  obtain ⟨⟨w, a, b, c, d, e⟩, f, g, i, j⟩ := h
  exact ⟨⟨w, a, b, c, .inl d, e⟩, f, g, i, j⟩
end RF

/-! C(k = v, ..), all by keywords -/
namespace RF
open PySem L2
def fMakeK (C : Addr) (F : FF) (n j : Nat) (g : List D → List D → List D) (fs : AF) : EF := fun env S => (fs env S).bind fun ds S1 => if ds.length = j ∧ (g [.ref S1.length] ds).length = n then (F (g [.ref S1.length] ds) (S1 ++ [.ins C []])).nox.bind (mkK2 S1.length) else .bad
section
variable {X : Cx} {E : XK} {k n : Nat} {f C : Addr} {fd : FuncData} {ps ks : List Str} {F : FF} {x nm : Str} {p pos kpos : Pos} {e : Expr} {kws : List Keyword} {fa : EF} {fs : AF} {g : List Value → List Value → List Value} {gV : List V → List V → List V} {gD : List D → List D → List D}
end
section
variable {C : Addr} {F : FF} {n j k : Nat} {g : List D → List D → List D} {fs : AF} {env : Lc} {S : Sto} {ds : List D}
def mkKK (C : Addr) (F : FF) (n j : Nat) (g : List D → List D → List D) : List D → Sto → R D := fun ds S1 => if ds.length = j ∧ (g [.ref S1.length] ds).length = n then (F (g [.ref S1.length] ds) (S1 ++ [.ins C []])).nox.bind (mkK2 S1.length) else .bad
def rng2K : List D → Sto → R It' := fun ds S1 => match ds with
  | [.int i, .int j] => if -(2 ^ 62) ≤ i ∧ i < 2 ^ 62 ∧ -(2 ^ 62) ≤ j ∧ j < 2 ^ 62 then .ok (.fix (rngD i (j - i).toNat)) S1 else .bad
  | _ => .bad
end
end RF

/-! a lock that is emptied -/
namespace RF
open PySem L2
def al (k : Nat) (st : LSt) (hs : List Who) : List Who := hs ++ (if k = 0 then [] else st.h.toList)
structure EI (ws0 : List Who) (t0 : Int) (k : Nat) (st : LSt) (hs : List Who) : Prop where
  ok : Okay st
  tn : st.t = t0 + (al k st hs).length
  sr : (al k st hs).Pairwise (fun a b => leW a b = true)
  le : ∀ a ∈ al k st hs, ∀ b ∈ st.ws, leW a b = true
  sb : ∀ a ∈ al k st hs, a ∈ ws0
  sw : ∀ b ∈ st.ws, b ∈ ws0
  ln : st.h.isSome = true → st.ws.length + k ≤ ws0.length
  hl : hs.length ≤ k
theorem EI.step {ws0 : List Who} {t0 : Int} {k : Nat} {st : LSt} {hs : List Who} {x : Who} (z : Int) (e : EI ws0 t0 k st hs) (hh : st.h = some x) : EI ws0 t0 (k + 1) (finS st x z).1 (al k st hs) := by
  obtain ⟨ok, tn, sr, le, sb, sw, ln, hl⟩ := e
  have hl2 : (al k st hs).length ≤ k + 1 := by
    unfold al
    rw [List.length_append]
    split
    · simp; omega
    · rw [hh]; simp; omega
  have hln := ln (by rw [hh]; rfl)
  have o2 := (ok.fin x z).1
  generalize al k st hs = gs at tn sr le sb hl2
  have hg : goneS ⟨z, st.t, st.h, st.ws⟩ x.1 x.2 = true := by unfold goneS upW; rw [hh]; simp
  have hks : ∀ b ∈ keepS ⟨z, st.t, st.h, st.ws⟩ x.1 x.2, b ∈ st.ws := fun b hb => (List.mem_filter.mp hb).1
  have hkl := keep_len (st := ⟨z, st.t, st.h, st.ws⟩) (tr := x.1) (att := x.2)
  have hf : finS st x z = freeS ⟨z, st.t, st.h, st.ws⟩ x.1 x.2 := by unfold finS; rw [if_neg (fun k => k hh)]
  rw [hf] at o2 ⊢
  unfold freeS at o2 ⊢
  rw [hg] at o2 ⊢
  simp only [Bool.true_eq_false, if_false] at o2 ⊢
  cases hq : keepS ⟨z, st.t, st.h, st.ws⟩ x.1 x.2 with
  | nil =>
    rw [hq] at o2
    have ea : al (k + 1) ⟨z, st.t, none, []⟩ gs = gs := by simp [al]
    exact ⟨o2, by rw [ea]; exact tn, by rw [ea]; exact sr, fun _ _ b hb => by simp at hb, by rw [ea]; exact sb, fun b hb => by simp at hb, fun h => by simp at h, hl2⟩
  | cons a r =>
    rw [hq] at o2 hks hkl
    simp only at o2 ⊢
    have hm := minW_mem a r
    have hle := minW_le a r
    generalize minW a r = mn at o2 hm hle
    have hmw := hks mn hm
    have ea : al (k + 1) ⟨z, st.t + 1, some mn, (a :: r).filter fun w => !decide (w = mn)⟩ gs = gs ++ [mn] := by simp [al]
    refine ⟨o2, ?_, ?_, ?_, ?_, ?_, ?_, hl2⟩
    · rw [ea, List.length_append]
      show st.t + 1 = _
      simp; omega
    · rw [ea, List.pairwise_append]
      refine ⟨sr, by simp, fun p hp q hq2 => ?_⟩
      rw [List.mem_singleton] at hq2
      subst hq2
      exact le p hp _ hmw
    · rw [ea]
      intro p hp b hb
      have hb2 : b ∈ a :: r := (List.mem_filter.mp hb).1
      rcases List.mem_append.mp hp with hp | hp
      · exact le p hp b (hks b hb2)
      · rw [List.mem_singleton] at hp
        subst hp
        exact leW_iff.mpr (hle b hb2)
    · rw [ea]
      intro p hp
      rcases List.mem_append.mp hp with hp | hp
      · exact sb p hp
      · rw [List.mem_singleton] at hp
        subst hp
        exact sw _ hmw
    · intro b hb
      exact sw b (hks b (List.mem_filter.mp hb).1)
    · intro _
      have h1 : ((a :: r).filter fun w => !decide (w = mn)).length < (a :: r).length := by
        rw [List.length_filter_lt_length_iff_exists]
        exact ⟨mn, hm, by simp⟩
      show ((a :: r).filter fun w => !decide (w = mn)).length + (k + 1) ≤ ws0.length
      have h2 : (LSt.mk z st.t st.h st.ws).ws.length = st.ws.length := rfl
      omega
theorem EI.last {ws0 : List Who} {t0 : Int} {st : LSt} {hs : List Who} (e : EI ws0 t0 (ws0.length + 1) st hs) : st.h = none := by
  cases h : st.h with
  | none => rfl
  | some x =>
    have := e.ln (by rw [h]; rfl)
    omega
theorem EI.done {ws0 : List Who} {t0 : Int} {k : Nat} {st : LSt} {hs : List Who} (e : EI ws0 t0 k st hs) (hh : st.h = none) : st.ws = [] ∧ st.t = t0 + hs.length ∧ sortW hs = hs ∧ ∀ a ∈ hs, a ∈ ws0 := by
  have ea : al k st hs = hs := by unfold al; rw [hh]; simp
  obtain ⟨ok, tn, sr, le, sb, sw, ln, hl⟩ := e
  rw [ea] at tn sr sb
  exact ⟨ok.no hh, tn, List.mergeSort_of_pairwise sr, sb⟩
end RF

/-! list(d), d a dict with tuples as keys -/
namespace RF
open PySem L2
def kD : Key → D
  | .inl i => .int i
  | .inr x => .str x
def keysOf (kvs : List (List Key × D)) : List D := kvs.map fun kv => .tup (kv.1.map kD)
def oListT : OpN := fun ds S => match ds with
  | [.ref n] => match S[n]? with
    | some (.dt kvs) => .ok (.ref S.length) (S ++ [.lst (keysOf kvs)])
    | _ => oList [.ref n] S
  | ds => oList ds S
def rListT (K : PySem.W.Frag) : List V → Hp → VK → Prop := fun xs H Q => (∃ p ys, xs = [.ref p] ∧ (SqL K H p ys ∨ SqT K H p ys) ∧ ∀ l, H l = none → Q (.ref l) (upd H l (.lst ys))) ∨
  ∃ d kvs, xs = [V.ref d] ∧ Rd H d (.dT kvs) ∧ ∀ p bs, H p = none → IsKeys H kvs bs → Q (.ref p) (upd H p (.lst (bs.map V.ref)))
section
variable {K : PySem.W.Frag} {E : XK}
end
end RF

/-! keys (house, name), steps, programs -/
namespace RF
open PySem L2
abbrev K2 := Int × Str
def eK (k : K2) : D := .tup [.int k.1, .str k.2]
def pK (k : K2) : PyData := .tuple [.int k.1, .str k.2]
def kk (k : K2) : List Key := [.inl k.1, .inr k.2]
def eKs (ks : List K2) : List D := ks.map eK
/-- the key of a step -/
def keyOfD : D → K2
  | .tup (_ :: .tup [.int a, .str b] :: _) => (a, b)
  | _ => (0, ⟨#[]⟩)
structure IsStep (d : D) : Prop where
  ex : ∃ w r, d = .tup (w :: eK (keyOfD d) :: r)
  ok : PyData.strOk (keyOfD d).2 = true
section
variable {S : Sto} {n j : Nat} {k g : K2} {ks gs : List K2}
theorem toP_eK (h : PyData.strOk k.2 = true) : toP S (j + 1) (eK k) = some (pK k) := by
  unfold eK pK
  rw [toP_tup, toP_mapM_cons, toP_mapM_cons, toP_mapM_nil, toP_int, toP_str, if_pos h]
  rfl
theorem eqv_K : PyData.eqv (pK k) (pK g) = decide (k = g) := by
  unfold pK
  simp only [PyData.eqv, PyData.eqvAll]
  obtain ⟨a, b⟩ := k
  obtain ⟨c, d⟩ := g
  simp only [Prod.mk.injEq]
  by_cases h1 : a = c <;> by_cases h2 : b = d <;> simp [h1, h2]
/-! unlike keys, in the order of their first use -/
def addK (acc : List K2) (k : K2) : List K2 := if k ∈ acc then acc else acc ++ [k]
def unl (ks : List K2) : List K2 := ks.foldl addK []
def encK (ks : List K2) : List (List Key × D) := ks.map fun k => (kk k, .bl true)
def listTC (S : Sto) (n : Nat) : Option Cell → R D
  | some (.dt kvs) => .ok (.ref S.length) (S ++ [.lst (keysOf kvs)])
  | _ => oList [.ref n] S
end
end RF

/-! dicts whose keys are tuples of any form (nested): in, [], get, [] =, list(d), len(d), {} -/
namespace RF
open PySem L2

mutual
def keyN : D → Option NestedKey
  | .non => some .none
  | .int i => some (.num i)
  | .str x => some (.text x)
  | .tup ds => match keyNs ds with
    | some ks => some (.tup ks)
    | none => none
  | .bl _ => none
  | .ref _ => none
  | .rl _ => none
  | .kt _ => none
  | .exc _ => none
def keyNs : List D → Option (List NestedKey)
  | [] => some []
  | d :: ds => match keyN d with
    | some k => match keyNs ds with
      | some ks => some (k :: ks)
      | none => none
    | none => none
end
mutual
def dOf : NestedKey → D
  | .none => .non
  | .num i => .int i
  | .text x => .str x
  | .tup ks => .tup (dOfs ks)
def dOfs : List NestedKey → List D
  | [] => []
  | k :: ks => dOf k :: dOfs ks
end
/-- the key that a tuple is -/
def keyT : D → Option NestedKey
  | .tup ds => match keyNs ds with
    | some ks => if NestedKey.depth (.tup ks) ≤ 8 then some (.tup ks) else none
    | none => none
  | _ => none
section
variable {K : PySem.W.Frag} {L : List Addr} {H : Hp} {S : Sto}
mutual
theorem RD.nk : ∀ {v : V} {d : D} {k : NestedKey}, RD K L H v d → keyN d = some k → NK H k v
  | _, _, _, .non, e => by simp only [keyN] at e; cases e; exact .none
  | _, _, _, .int i, e => by simp only [keyN] at e; cases e; exact .num i
  | _, _, _, .str x, e => by simp only [keyN] at e; cases e; exact .text x
  | _, _, _, .bl b, e => by simp only [keyN] at e; cases e
  | _, _, _, .ref h, e => by simp only [keyN] at e; cases e
  | _, _, _, .rl h r, e => by simp only [keyN] at e; cases e
  | _, _, _, .kt h r, e => by simp only [keyN] at e; cases e
  | _, _, _, .exc a, e => by simp only [keyN] at e; cases e
  | _, _, _, .tup (ds := ds) h r, e => by
    simp only [keyN] at e
    cases q : keyNs ds with
    | none => rw [q] at e; cases e
    | some ks => rw [q] at e; cases e; exact .tup h (RDs.nks r q)
theorem RDs.nks : ∀ {vs : List V} {ds : List D} {ks : List NestedKey}, RDs K L H vs ds → keyNs ds = some ks → NKs H ks vs
  | _, _, _, .nil, e => by simp only [keyNs] at e; cases e; exact .nil
  | _, _, _, .cons (d := d) (ds := ds) a b, e => by
    simp only [keyNs] at e
    cases q : keyN d with
    | none => rw [q] at e; cases e
    | some k =>
      rw [q] at e
      cases q2 : keyNs ds with
      | none => rw [q2] at e; cases e
      | some ks => rw [q2] at e; cases e; exact .cons (RD.nk a q) (RDs.nks b q2)
end
mutual
theorem NK.rd : ∀ {k : NestedKey} {v : V}, NK H k v → RD K L H v (dOf k)
  | _, _, .none => by simp only [dOf]; exact .non
  | _, _, .num i => by simp only [dOf]; exact .int i
  | _, _, .text x => by simp only [dOf]; exact .str x
  | _, _, .tup h r => by simp only [dOf]; exact .tup h (NKs.rd r)
theorem NKs.rd : ∀ {ks : List NestedKey} {vs : List V}, NKs H ks vs → RDs K L H vs (dOfs ks)
  | _, _, .nil => by simp only [dOfs]; exact .nil
  | _, _, .cons a b => by simp only [dOfs]; exact .cons (NK.rd a) (NKs.rd b)
end
theorem RD.keyt {v : V} {d : D} {k : NestedKey} (r : RD K L H v d) (e : keyT d = some k) : ∃ b, v = .ref b ∧ NK H k (.ref b) ∧ k.depth ≤ 8 := by
  cases r with
  | @tup a vs ds h rs =>
    unfold keyT at e
    simp only at e
    cases q : keyNs ds with
    | none => rw [q] at e; cases e
    | some ks =>
      rw [q] at e
      simp only at e
      by_cases hd : NestedKey.depth (.tup ks) ≤ 8
      · rw [if_pos hd] at e; cases e
        exact ⟨a, rfl, .tup h (rs.nks q), hd⟩
      · rw [if_neg hd] at e; cases e
  | _ => cases e
end
/-! the heap -/
mutual
theorem nk_is {P : Program} {w : World} {H : Hp} {h : Heap} (ok : HOk P w H h) : ∀ {k : NestedKey} {v : V} {u : Value}, NK H k v → RelV v u → NestedIs h k u
  | _, _, _, .none, r => by cases (show _ = Value.none from r); exact .none
  | _, _, _, .num i, r => by obtain ⟨t, q⟩ := (show ∃ t, _ = Value.int i t from r); cases q; exact .int i t
  | _, _, _, .text x, r => by obtain ⟨t, q⟩ := (show ∃ t, _ = Value.str x t from r); cases q; exact .text x t
  | _, _, _, .tup (a := a) (vs := vs) e rs, r => by
    cases (show _ = Value.ref a from r)
    obtain ⟨_, its, rv, o, h1, h2, n, h3⟩ := (show ObjOk P w H h a (.tup vs) from ok a _ e)
    exact .tup h1 h2 h3 (by simpa using nks_are ok rs rv)
theorem nks_are {P : Program} {w : World} {H : Hp} {h : Heap} (ok : HOk P w H h) : ∀ {ks : List NestedKey} {vs : List V} {us : List Value}, NKs H ks vs → Vals vs us → NestedAll h ks us
  | _, _, _, .nil, r => by cases r; exact .nil
  | _, _, _, .cons a b, r => by cases r with | cons r1 r2 => exact .cons (nk_is ok a r1) (nks_are ok b r2)
end
abbrev ZOk (H : Hp) (zs : List ZN) : Prop := ∀ z ∈ zs, NK H z.1 (.ref z.2.1) ∧ z.1.depth ≤ 8
def valZ (zs : List ZN) (k : NestedKey) : Option V := (zs.find? fun z => decide (z.1 = k)).map (·.2.2)
def putZ (zs : List ZN) (k : NestedKey) (b : Addr) (v : V) : List ZN := if (zs.any fun z => decide (z.1 = k)) = true then zs.map (fun z => if z.1 = k then (z.1, z.2.1, v) else z) else zs ++ [(k, b, v)]
theorem zx_val {zs : List ZN} {xs : List (NestedKey × Addr × Value)} (r : Paired ZX zs xs) (k : NestedKey) : RelO (valZ zs k) ((atKey xs k).map (·.2)) := by
  induction r with
  | nil => exact True.intro
  | @cons p q ps qs h t ih =>
    obtain ⟨h1, _, h2⟩ := h
    unfold valZ atKey at *
    rw [List.find?_cons, List.find?_cons]
    by_cases e : p.1 = k
    · have e' : q.1 = k := h1.symm.trans e
      rw [decide_eq_true e, decide_eq_true e']
      exact h2
    · have e' : ¬ q.1 = k := fun z => e (h1.trans z)
      rw [decide_eq_false e, decide_eq_false e']
      exact ih
theorem zx_any {zs : List ZN} {xs : List (NestedKey × Addr × Value)} (r : Paired ZX zs xs) (k : NestedKey) : (zs.any fun z => decide (z.1 = k)) = (atKey xs k).isSome := by
  induction r with
  | nil => rfl
  | @cons p q ps qs h t ih =>
    unfold atKey at *
    rw [List.find?_cons, List.any_cons, ih]
    by_cases e : p.1 = k
    · have e' : q.1 = k := h.1.symm.trans e
      rw [decide_eq_true e, decide_eq_true e']; rfl
    · have e' : ¬ q.1 = k := fun z => e (h.1.trans z)
      rw [decide_eq_false e, decide_eq_false e']; rfl
theorem zx_repl {zs : List ZN} {xs : List (NestedKey × Addr × Value)} (r : Paired ZX zs xs) (k : NestedKey) {y : V} {u : Value} (ry : RelV y u) : Paired ZX (zs.map fun z => if z.1 = k then (z.1, z.2.1, y) else z) (xs.map (putAt k u)) := by
  induction r with
  | nil => exact .nil
  | @cons p q ps qs h t ih =>
    rw [List.map_cons, List.map_cons]
    refine .cons ?_ ih
    obtain ⟨h1, h2, h3⟩ := h
    unfold putAt
    by_cases e : p.1 = k
    · rw [if_pos e, if_pos (h1.symm.trans e)]; exact ⟨h1, h2, ry⟩
    · rw [if_neg e, if_neg (fun z => e (h1.trans z))]; exact ⟨h1, h2, h3⟩
theorem zx_put {zs : List ZN} {xs : List (NestedKey × Addr × Value)} (r : Paired ZX zs xs) (k : NestedKey) {b : Addr} {y : V} {u : Value} (ry : RelV y u) : Paired ZX (putZ zs k b y) (storedH xs k b u) := by
  unfold putZ storedH
  rw [zx_any r k]
  by_cases q : (atKey xs k).isSome = true
  · rw [if_pos q, if_pos q]; exact zx_repl r k ry
  · rw [if_neg q, if_neg q]; exact Paired.snoc r ⟨rfl, rfl, ry⟩
theorem putZ_len (zs : List ZN) (k : NestedKey) (b : Addr) (v : V) : (putZ zs k b v).length ≤ zs.length + 1 := by
  unfold putZ
  split
  · rw [List.length_map]; omega
  · rw [List.length_append]; simp
section
variable {P : Program} {w : World} {H : Hp} {h : Heap} {a : Addr} {zs : List ZN}
theorem dn_of (ok : HOk P w H h) (e : Rd H a (dnO w a zs)) (hz : ZOk H zs) : (a == sysModules) = false ∧ zs.length ≤ sizeLine ∧ ∃ xs, Paired ZX zs xs ∧ h.DictOfH (nestedKind P w) a xs := by
  have ob : ObjOk P w H h a (dnO w a zs) := by
    rcases e with e | ⟨o, e⟩
    · exact ok a _ e
    · exact (ok a _ e).2
  obtain ⟨⟨q1, q2, xs, r, o, es, ep, h1, h2, h3, h4, h5⟩, _⟩ := ob
  refine ⟨q1, q2, xs, r, o, es, ep, h1, h2, h3, h4, ?_, h5⟩
  have all : ∀ {zs : List ZN} {xs : List (NestedKey × Addr × Value)}, Paired ZX zs xs → ZOk H zs → ∀ x ∈ xs, (nestedKind P w).is h x.1 x.2.1 := by
    intro zs xs q
    induction q with
    | nil => intro _ x hx; exact nomatch hx
    | @cons p q ps qs hq t ih =>
      intro hz x hx
      rcases List.mem_cons.mp hx with e | hx
      · subst e
        obtain ⟨z1, z2⟩ := hz p (List.mem_cons_self ..)
        rw [← hq.1, ← hq.2.1]
        exact ⟨nk_is ok z1 rfl, z2⟩
      · exact ih (fun z hm => hz z (List.mem_cons_of_mem _ hm)) x hx
  exact all r hz
theorem dnO_ok {H' : Hp} {xs : List (NestedKey × Addr × Value)} (q1 : (a == sysModules) = false) (q2 : zs.length ≤ sizeLine) (r : Paired ZX zs xs) (dd : h.DictOfH (nestedKind P w) a xs) : ObjOk P w H' h a (dnO w a zs) := by
  obtain ⟨o, es, ep, h1, h2, h3, h4, _, h5⟩ := dd
  exact ⟨⟨q1, q2, xs, r, o, es, ep, h1, h2, h3, h4, h5⟩, ⟨o, h1⟩, fun g1 g2 ⟨z1, z2, xs, z3, o, es, ep, z4, z5⟩ hk => ⟨z1, z2, xs, z3, o, es, ep, hk _ z4, z5⟩⟩
end
section
variable {X : Cx} {pins : List (Addr × Obj)} {σ : St} {H : Hp} {s : Shared} {a b : Addr} {zs : List ZN} {k : NestedKey} {u : Value} {A : Around} {E : Value → Shared → Prop}
theorem nroom {P : Program} {w : World} (hu : A.units + 65 < cLine) : (nestedKind P w).room A.in1 := by
  show A.units + 1 + 8 < cLine
  omega
theorem n_type (ok : HOk X.prog X.w H s.heap) {w' : World} (e : Rd H a (dnO w' a zs)) : s.TypeIs (.ref a) "dict" ∧ (∀ b, Value.ref a = .ref b → ∃ ob, s.heap.get? b = some ob ∧ ob.dict = none) ∧ (a == sysModules) = false := by
  have ob : ObjOk X.prog X.w H s.heap a (dnO w' a zs) := by
    rcases e with e | ⟨o, e⟩
    · exact ok a _ e
    · exact (ok a _ e).2
  obtain ⟨⟨q1, _, _, _, o, es, ep, h1, h2, _⟩, _⟩ := ob
  exact ⟨⟨o, h1, h2.1⟩, fun b q => by cases q; exact ⟨o, h1, h2.2.1⟩, q1⟩
/-- k in d -/
theorem n_in {Q : Value → Shared → Prop} (hu : A.units + 65 < cLine) (I : Inv X pins σ H s) (e : Rd H a (dnO X.w a zs)) (hz : ZOk H zs) (hk : NK H k (.ref b)) (hd : k.depth ≤ 8) (h : ∀ s', Inv X pins σ H s' → Q (.bool (valZ zs k).isSome) s') :
    wpAny (model X.prog X.w) A (compareOp .In (.ref b) (.ref a)) Q E s := by
  obtain ⟨q1, q2, xs, r, dd⟩ := dn_of I.hok e hz
  refine wpAny_in_heap (nroom hu) (k := k) ⟨nk_is I.hok hk rfl, hd⟩ q1 dd ?_
  have q := (zx_val r k).isSome_eq
  rw [Option.isSome_map] at q
  rw [← q]
  exact h _ (I.tok _)
theorem n_notIn {Q : Value → Shared → Prop} (hu : A.units + 65 < cLine) (I : Inv X pins σ H s) (e : Rd H a (dnO X.w a zs)) (hz : ZOk H zs) (hk : NK H k (.ref b)) (hd : k.depth ≤ 8) (h : ∀ s', Inv X pins σ H s' → Q (.bool (!(valZ zs k).isSome)) s') :
    wpAny (model X.prog X.w) A (compareOp .NotIn (.ref b) (.ref a)) Q E s := by
  obtain ⟨q1, q2, xs, r, dd⟩ := dn_of I.hok e hz
  refine PyProof.Rows.wpAny_notIn_heap (nroom hu) (k := k) ⟨nk_is I.hok hk rfl, hd⟩ q1 dd ?_
  have q := (zx_val r k).isSome_eq
  rw [Option.isSome_map] at q
  rw [← q]
  exact h _ (I.tok _)
/-- d[k], there -/
theorem n_get {v : V} {Q : Value → Shared → Prop} (hu : A.units + 65 < cLine) (I : Inv X pins σ H s) (e : Rd H a (dnO X.w a zs)) (hz : ZOk H zs) (hk : NK H k (.ref b)) (hd : k.depth ≤ 8) (hv : valZ zs k = some v) (h : ∀ w' s', Inv X pins σ H s' → RelV v w' → Q w' s') :
    wpAny (model X.prog X.w) A (getItem (.ref a) (.ref b)) Q E s := by
  obtain ⟨q1, q2, xs, r, dd⟩ := dn_of I.hok e hz
  obtain ⟨w', hw, rw'⟩ := RelO.some_of (v := v) (o := (atKey xs k).map (·.2)) (by rw [← hv]; exact zx_val r k)
  obtain ⟨p, hp, hp2⟩ := Option.map_eq_some_iff.mp hw
  refine wpAny_getItem_heap (nroom hu) (k := k) ⟨nk_is I.hok hk rfl, hd⟩ dd hp ?_
  rw [hp2]
  exact h w' _ (I.tok _) rw'
/-- d[k] = v -/
theorem n_set {v : V} {r0 : Value} {Q : Unit → Shared → Prop} (hu : A.units + 65 < cLine) (I : Inv X pins σ H s) (e : H a = some (dnO X.w a zs)) (hz : ZOk H zs) (hk : NK H k (.ref b)) (hd : k.depth ≤ 8) (hl : zs.length < sizeLine) (rv : RelV v r0)
    (h : ∀ s', Inv X pins σ (upd H a (dnO X.w a (putZ zs k b v))) s' → Q () s') : wpAny (model X.prog X.w) A (setItem (.ref a) (.ref b) r0) Q E s := by
  obtain ⟨q1, q2, xs, r, dd⟩ := dn_of I.hok (.inl e) hz
  have hxz : xs.length ≤ sizeLine := by rw [← Paired.length r]; exact q2
  refine wpAny_setItem_heap (hsz := hxz) (nroom hu) (k := k) ⟨nk_is I.hok hk rfl, hd⟩ dd fun h' dd' hs => h _ ?_
  have hl2 : (putZ zs k b v).length ≤ sizeLine := by have := putZ_len zs k b v; omega
  have he : ∃ q, h'.get? a = some q := let ⟨q, _, _, hq, _⟩ := dd'; ⟨q, hq⟩
  exact d_write I (by rw [e]; exact True.intro) hs he (dnO_ok q1 hl2 (zx_put r k rv) dd')
end
/-! rules by values -/
def rInN (w : World) (neg : Bool) : R2 := fun x y H Q => ∃ a b zs k, x = .ref b ∧ y = .ref a ∧ Rd H a (dnO w a zs) ∧ ZOk H zs ∧ NK H k (.ref b) ∧ k.depth ≤ 8 ∧ Q (.bl (if neg = true then !(valZ zs k).isSome else (valZ zs k).isSome)) H
section
variable {X : Cx}
theorem op_inN (hu : X.A.units + 65 < cLine) : OpR X (compareOp .In) (rInN X.w false) := by
  intro pins s σ H x y v u Q I rx ry h
  obtain ⟨a, b, zs, k, rfl, rfl, e, hz, hk, hd, q⟩ := h
  cases (show v = Value.ref b from rx)
  cases (show u = Value.ref a from ry)
  exact n_in hu I e hz hk hd fun s' I' => ⟨.bl _, H, I', rfl, q⟩
theorem op_notInN (hu : X.A.units + 65 < cLine) : OpR X (compareOp .NotIn) (rInN X.w true) := by
  intro pins s σ H x y v u Q I rx ry h
  obtain ⟨a, b, zs, k, rfl, rfl, e, hz, hk, hd, q⟩ := h
  cases (show v = Value.ref b from rx)
  cases (show u = Value.ref a from ry)
  exact n_notIn hu I e hz hk hd fun s' I' => ⟨.bl _, H, I', rfl, q⟩
end
/-! functions -/
open Classical in
noncomputable def lookNC (w : World) (c : Option Cell) (y : D) : Option (Option D) := match c with
  | some (.dn w' kvs) => if w = w' then (keyT y).map fun k => valK kvs k else none
  | some (.df w' kvs) => if w = w' then (keyT y).map fun k => valK kvs k else none
  | _ => none
noncomputable def lookN (w : World) (S : Sto) (x y : D) : Option (Option D) := match x with
  | .ref n => lookNC w S[n]? y
  | _ => none
noncomputable def oInN (w : World) (neg : Bool) : Op2 := fun y x S => match lookN w S x y with
  | some o => .ok (.bl (if neg = true then !o.isSome else o.isSome)) S
  | none => .bad
noncomputable def oIxN (w : World) : Op2 := fun x y S => match lookN w S x y with
  | some (some d) => .ok d S
  | _ => .bad
noncomputable def fIxN (w : World) (fa fb : EF) : EF := fBin (oIxN w) fa fb
def isN (S : Sto) : D → Bool
  | .ref n => match S[n]? with
    | some (.dn _ _) => true
    | some (.df _ _) => true
    | _ => false
  | _ => false
noncomputable def getN (w : World) (x y d : D) (S : Sto) : R D := match lookN w S x y with
  | some o => .ok (o.getD d) S
  | none => .bad
noncomputable def fGetN (w : World) (fo fk fx : EF) : EF := fun env S => (fo env S).bind fun x S1 => if isN S1 x = true then (fk env S1).bind fun y S2 => (fx env S2).bind fun d S3 => getN w x y d S3 else .bad
open Classical in
noncomputable def setNC (w : World) (S : Sto) (n : Nat) (c : Option Cell) (y d : D) : R Unit := match c with
  | some (.dn w' kvs) => if w = w' then match keyT y with
    | some k => if kvs.length < 100000 then .ok () (S.set n (.dn w (putKD kvs k d))) else .bad
    | none => .bad
    else .bad
  | _ => .bad
noncomputable def oSetN (w : World) (x y d : D) (S : Sto) : R Unit := match x with
  | .ref n => setNC w S n S[n]? y d
  | _ => .bad
noncomputable def gSubN (w : World) (fo fi : EF) : GF := fun d env S => (fo env S).bind fun x S1 => (fi env S1).bind fun y S2 => (oSetN w x y d S2).bind fun _ S3 => .ok env S3
def fDictN0 (w : World) : EF := fun _ S => .ok (.ref S.length) (S ++ [.dn w []])
section
variable {K : PySem.W.Frag} {L : List Addr} {H : Hp} {S : Sto}
theorem RN.zok : ∀ {zs : List ZN} {kvs : List (NestedKey × D)}, RN K L H zs kvs → ZOk H zs
  | [], [], _ => fun _ h => nomatch h
  | p :: ps, q :: qs, ⟨_, b, _, d⟩ => fun z hz => by
    rcases List.mem_cons.mp hz with rfl | hz
    · exact b
    · exact RN.zok d z hz
  | [], _ :: _, h => h.elim
  | _ :: _, [], h => h.elim
theorem RN.length : ∀ {zs : List ZN} {kvs : List (NestedKey × D)}, RN K L H zs kvs → zs.length = kvs.length
  | [], [], _ => rfl
  | p :: ps, q :: qs, ⟨_, _, _, d⟩ => by rw [List.length_cons, List.length_cons, RN.length d]
  | [], _ :: _, h => h.elim
  | _ :: _, [], h => h.elim
theorem RN.val (k : NestedKey) : ∀ {zs : List ZN} {kvs : List (NestedKey × D)}, RN K L H zs kvs → (valK kvs k = none ∧ valZ zs k = none) ∨ ∃ v d, valK kvs k = some d ∧ valZ zs k = some v ∧ RD K L H v d
  | [], [], _ => .inl ⟨rfl, rfl⟩
  | p :: ps, q :: qs, ⟨a, _, c, d⟩ => by
    unfold RF.valK valZ
    rw [List.find?_cons, List.find?_cons, a]
    cases q' : decide (q.1 = k) with
    | true => exact .inr ⟨_, _, rfl, rfl, c⟩
    | false => exact RN.val k d
  | [], _ :: _, h => h.elim
  | _ :: _, [], h => h.elim
theorem RN.any (k : NestedKey) : ∀ {zs : List ZN} {kvs : List (NestedKey × D)}, RN K L H zs kvs → (zs.any fun z => decide (z.1 = k)) = kvs.any fun z => decide (z.1 = k)
  | [], [], _ => rfl
  | p :: ps, q :: qs, ⟨a, _, _, d⟩ => by rw [List.any_cons, List.any_cons, RN.any k d, a]
  | [], _ :: _, h => h.elim
  | _ :: _, [], h => h.elim
theorem RN.repl {k : NestedKey} {v : V} {d : D} (rv : RD K L H v d) : ∀ {zs : List ZN} {kvs : List (NestedKey × D)}, RN K L H zs kvs → RN K L H (zs.map fun z => if z.1 = k then (z.1, z.2.1, v) else z) (kvs.map fun z => if z.1 = k then (z.1, d) else z)
  | [], [], _ => trivial
  | p :: ps, q :: qs, ⟨a, b, c, e⟩ => by
    rw [List.map_cons, List.map_cons]
    by_cases h : p.1 = k
    · simp only [if_pos h, if_pos (a.symm.trans h)]
      exact ⟨a, b, rv, RN.repl rv e⟩
    · simp only [if_neg h, if_neg (fun z => h (a.trans z))]
      exact ⟨a, b, c, RN.repl rv e⟩
  | [], _ :: _, h => h.elim
  | _ :: _, [], h => h.elim
theorem RN.snoc {k : NestedKey} {b : Addr} {v : V} {d : D} (h1 : NK H k (.ref b) ∧ k.depth ≤ 8) (rv : RD K L H v d) : ∀ {zs : List ZN} {kvs : List (NestedKey × D)}, RN K L H zs kvs → RN K L H (zs ++ [(k, b, v)]) (kvs ++ [(k, d)])
  | [], [], _ => ⟨rfl, h1, rv, trivial⟩
  | p :: ps, q :: qs, ⟨a, b', c, e⟩ => ⟨a, b', c, RN.snoc h1 rv e⟩
  | [], _ :: _, h => h.elim
  | _ :: _, [], h => h.elim
theorem RN.put {k : NestedKey} {b : Addr} {v : V} {d : D} {zs : List ZN} {kvs : List (NestedKey × D)} (h : RN K L H zs kvs) (h1 : NK H k (.ref b) ∧ k.depth ≤ 8) (rv : RD K L H v d) : RN K L H (putZ zs k b v) (putKD kvs k d) := by
  unfold putZ putKD
  rw [h.any k]
  split
  · exact h.repl rv
  · exact h.snoc h1 rv
theorem lookN_of {w : World} {x y : D} {v u : V} {o : Option D} (rep : Rep K L H S) (rx : RD K L H v x) (ry : RD K L H u y) (h : lookN w S x y = some o) :
    ∃ a b zs k, v = .ref a ∧ u = .ref b ∧ Rd H a (dnO w a zs) ∧ ZOk H zs ∧ NK H k (.ref b) ∧ k.depth ≤ 8 ∧ ((o = none ∧ valZ zs k = none) ∨ ∃ d z, o = some d ∧ valZ zs k = some z ∧ RD K L H z d) := by
  unfold lookN at h
  cases rx with
  | @ref a n ha =>
    obtain ⟨c, hc, rc⟩ := rep.adr ha
    simp only [hc] at h
    unfold lookNC at h
    cases c with
    | dn w' kvs =>
      simp only at h
      split at h
      · rename_i ew
        subst ew
        cases hk : keyT y with
        | none => rw [hk] at h; cases h
        | some k =>
          rw [hk] at h
          obtain ⟨b, rfl, k1, k2⟩ := ry.keyt hk
          obtain ⟨zs, hz, rn⟩ := rc
          have h : valK kvs k = o := Option.some.inj h
          subst h
          refine ⟨a, b, zs, k, rfl, rfl, .inl hz, rn.zok, k1, k2, ?_⟩
          rcases rn.val k with ⟨e1, e2⟩ | ⟨z, d, e1, e2, e3⟩
          · exact .inl ⟨e1, e2⟩
          · exact .inr ⟨d, z, e1, e2, e3⟩
      · cases h
    | df w' kvs =>
      simp only at h
      split at h
      · rename_i ew
        subst ew
        cases hk : keyT y with
        | none => rw [hk] at h; cases h
        | some k =>
          rw [hk] at h
          obtain ⟨b, rfl, k1, k2⟩ := ry.keyt hk
          obtain ⟨od, zs, hz, rn⟩ := rc
          have h : valK kvs k = o := Option.some.inj h
          subst h
          refine ⟨a, b, zs, k, rfl, rfl, .inr ⟨od, hz⟩, rn.zok, k1, k2, ?_⟩
          rcases rn.val k with ⟨e1, e2⟩ | ⟨z, d, e1, e2, e3⟩
          · exact .inl ⟨e1, e2⟩
          · exact .inr ⟨d, z, e1, e2, e3⟩
      · cases h
    | _ => cases h
  | _ => cases h
end
section
variable {K : PySem.W.Frag} {E : XK} {w : World}
theorem f_inN {neg : Bool} : OpF K E (rInN w neg) (oInN w neg) := by
  intro L H S x y d1 d2 Q rep rx ry q
  unfold oInN at q
  cases h : lookN w S d2 d1 with
  | none => rw [h] at q; exact q.elim
  | some o =>
    rw [h] at q
    simp only at q
    obtain ⟨a, b, zs, k, rfl, rfl, e, hz, hk, hd, r⟩ := lookN_of rep ry rx h
    refine ⟨a, b, zs, k, rfl, rfl, e, hz, hk, hd, EndV.val q rep ?_⟩
    rcases r with ⟨e1, e2⟩ | ⟨d, z, e1, e2, _⟩
    · rw [e1, e2]; exact .bl _
    · rw [e1, e2]; exact .bl _
end
section
variable {X : Cx} {E : XK} {o i e f : Expr} {fo fi fk fx : EF} {pos apos cpos : Pos}
theorem xIxN (hu : X.A.units + 65 < cLine) (ho : PE X o (tE X.K E fo)) (hi : PE X i (tE X.K E fi)) (hs : PlainIx i) : PE X (.Subscript o i pos) (tE X.K E (fIxN X.w fo fi)) := by
  refine ⟨fun pins s σ H Q I h => ?_⟩
  obtain ⟨L, env, S, rep, re, h⟩ := h
  refine subD_of PySem.F.slot_dict_getitem.lookup hs (thn (ho.run pins s σ H (fun x H1 => tE X.K E fi σ H1 fun y H2 => ∃ a b zs k v, x = .ref a ∧ y = .ref b ∧ Rd H2 a (dnO X.w a zs) ∧ ZOk H2 zs ∧ NK H2 k (.ref b) ∧ k.depth ≤ 8 ∧ valZ zs k = some v ∧ Q v H2) I
    ⟨L, env, S, rep, re, (End.bind h).imp fun x S1 L1 H1 e1 rep1 h1 v rv => ⟨L1, env, S1, rep1, re.mono e1, (End.bind h1).imp fun y S2 L2 H2 e2 rep2 h2 u ru => ?_⟩⟩)
    fun ov s1 ⟨x, H1, I1, rx, q1⟩ => thn (hi.run pins s1 σ H1 _ I1 q1) fun iv s2 ⟨y, H2, I2, ry, a, b, zs, k, v, ex, ey, e, hz, hk, hd, hv, q2⟩ => ?_)
  · unfold oIxN at h2
    cases hl : lookN X.w S2 x y with
    | none => rw [hl] at h2; exact h2.elim
    | some r =>
      rw [hl] at h2
      cases r with
      | none => exact h2.elim
      | some d =>
        simp only at h2
        obtain ⟨a, b, zs, k, rfl, rfl, e, hz, hk, hd, r⟩ := lookN_of rep2 (rv.mono e2) ru hl
        rcases r with ⟨z, _⟩ | ⟨d', z, z1, z2, z3⟩
        · cases z
        · cases z1
          exact ⟨a, b, zs, k, z, rfl, rfl, e, hz, hk, hd, z2, EndV.val h2 rep2 z3⟩
  · subst ex; subst ey
    obtain rfl : ov = Value.ref a := rx
    obtain rfl : iv = Value.ref b := ry
    exact ⟨(n_type I2.hok e).1, n_get hu I2 e hz hk hd hv fun w' s3 I3 rw' => ⟨v, H2, I3, rw', q2⟩⟩
theorem isN_of {K : PySem.W.Frag} {L : List Addr} {H : Hp} {S : Sto} {x : D} {v : V} (rep : Rep K L H S) (rx : RD K L H v x) (h : isN S x = true) : ∃ a w zs, v = .ref a ∧ Rd H a (dnO w a zs) := by
  cases rx with
  | @ref a n ha =>
    obtain ⟨c, hc, rc⟩ := rep.adr ha
    unfold isN at h
    simp only [hc] at h
    cases c with
    | dn w kvs =>
      obtain ⟨zs, hz, _⟩ := rc
      exact ⟨a, w, zs, rfl, .inl hz⟩
    | df w kvs =>
      obtain ⟨od, zs, hz, _⟩ := rc
      exact ⟨a, w, zs, rfl, .inr ⟨od, hz⟩⟩
    | _ => cases h
  | _ => cases h
theorem pset_N (hu : X.A.units + 65 < cLine) : PSet X (fun o i v H Q => ∃ a b zs k, o = .ref a ∧ i = .ref b ∧ H a = some (dnO X.w a zs) ∧ ZOk H zs ∧ NK H k (.ref b) ∧ k.depth ≤ 8 ∧ zs.length < sizeLine ∧ Q (upd H a (dnO X.w a (putZ zs k b v)))) := by
  intro pins s σ H o i v ov iv r Q I ro ri rv h
  obtain ⟨a, b, zs, k, rfl, rfl, e, hz, hk, hd, hl, q⟩ := h
  obtain rfl : ov = Value.ref a := ro
  obtain rfl : iv = Value.ref b := ri
  exact n_set hu I e hz hk hd hl rv fun s1 I1 => ⟨_, I1, q⟩
theorem xgSubN (hu : X.A.units + 65 < cLine) (ho : PE X o (tE X.K E fo)) (hi : PE X i (tE X.K E fi)) (ha : ∀ v, assign (.Subscript o i pos) X.env v = (do
      let ov ← holding [v] (eval o X.env)
      let iv ← holding [v, ov] (eval i X.env)
      standAt pos
      holding [v, ov, iv] (setItem ov iv v)
      release [v, ov, iv] []) := by intro _; rfl) : PG X (.Subscript o i pos) (tG X.K E (gSubN X.w fo fi)) := by
  refine ⟨fun pins s σ H v u Q I r q => (pg_sub ho hi (pset_N hu) ha).run pins s σ H v u Q I r ?_⟩
  obtain ⟨L, env, S, d, rep, re, rd, q⟩ := q
  refine ⟨L, env, S, rep, re, (End.bind q).imp fun x S1 L1 H1 e1 rep1 h1 v1 rv => ?_⟩
  refine ⟨L1, env, S1, rep1, re.mono e1, (End.bind h1).imp fun y S2 L2 H2 e2 rep2 h2 w rw' => ?_⟩
  have h3 := End.bind h2
  have rx := rv.mono e2
  have rd2 := (rd.mono e1).mono e2
  unfold oSetN at h3
  cases rx with
  | @ref a n hn =>
    obtain ⟨c, hc, rc⟩ := rep2.adr hn
    simp only [hc] at h3
    unfold setNC at h3
    cases c with
    | dn w' kvs =>
      simp only at h3
      split at h3
      · rename_i ew
        subst ew
        cases hk : keyT y with
        | none => rw [hk] at h3; exact h3.elim
        | some k =>
          rw [hk] at h3
          obtain ⟨b, rfl, k1, k2⟩ := rw'.keyt hk
          obtain ⟨zs, hz, rn⟩ := rc
          by_cases hl : kvs.length < 100000
          · simp only [if_pos hl] at h3
            refine ⟨a, b, zs, k, rfl, rfl, hz, rn.zok, k1, k2, by rw [rn.length]; exact sz5l hl, ?_⟩
            have gr : Gr L2 H2 L2 (upd H2 a (dnO X.w a (putZ zs k b v))) := Gr.wr rep2 hn
            obtain ⟨ex, rep3⟩ := rep2.write (c := .dn X.w (putKD kvs k d)) hn ⟨_, upd_same, (rn.put ⟨k1, k2⟩ rd2).grow gr⟩
            have h4 := h3 _ _ ex rep3
            exact h4 _ _ (Ex.refl _ _) rep3 σ (((re.mono e1).mono e2).mono ex)
          · simp only [if_neg hl] at h3; exact h3.elim
      · exact h3.elim
    | _ => exact h3.elim
  | _ => exact h3.elim
def tDNewN (w : World) : TE := fun _ H Q => ∀ p, H p = none → Q (.ref p) (upd H p (dnO w p []))
theorem pe_dnewN : PE X (.Dict [] [] pos) (tDNewN X.w) := ⟨fun pins s σ H Q I h =>
  wpAny_Dict_empty ⟨.ref s.heap.objs.size, _, I.laid (a := s.heap.objs.size) (o := dnO X.w s.heap.objs.size []) (t' := s.toks) (fun _ _ q => Heap.get?_push_of_some _ q) (Nat.le_refl _)
    (dnO_ok (P := X.prog) (beq_eq_false_iff_ne.mpr (Ne.symm (Nat.ne_of_lt I.big))) (Nat.zero_le _) .nil (Heap.DictOfH.new _)), rfl, h _ (I.hok.fresh (Nat.le_refl _))⟩⟩
theorem xDictN0 : PE X (.Dict [] [] pos) (tE X.K E (fDictN0 X.w)) :=
  monoE pe_dnewN fun σ H Q h => by
    obtain ⟨L, env, S, rep, re, h⟩ := h
    intro p hp
    have ex := Ex.newc (L := L) (o := dnO X.w p []) hp
    refine EndV.val (h.later ex) (rep.newc hp ⟨[], upd_same, trivial⟩) (.ref ?_)
    rw [← rep.len, List.getElem?_append_right (Nat.le_refl _)]
    simp
end
/-! list(d) -/
def keysN (kvs : List (NestedKey × D)) : List D := kvs.map fun kv => dOf kv.1
def oListN : OpN := fun ds S => match ds with
  | [.ref n] => match S[n]? with
    | some (.dn _ kvs) => .ok (.ref S.length) (S ++ [.lst (keysN kvs)])
    | _ => oListT [.ref n] S
  | ds => oListT ds S
def rListN (K : PySem.W.Frag) : List V → Hp → VK → Prop := fun xs H Q => rListT K xs H Q ∨
  ∃ a w zs, xs = [V.ref a] ∧ H a = some (dnO w a zs) ∧ ∀ p, H p = none → Q (.ref p) (upd H p (.lst (zs.map fun z => V.ref z.2.1)))
theorem zx_refs {zs : List ZN} {xs : List (NestedKey × Addr × Value)} (r : Paired ZX zs xs) : Vals (zs.map fun z => V.ref z.2.1) (xs.map fun x => Value.ref x.2.1) := by
  induction r with
  | nil => exact .nil
  | @cons p q ps qs h t ih =>
    rw [List.map_cons, List.map_cons]
    exact .cons (by rw [h.2.1]; exact rfl) ih
section
variable {X : Cx}
end
section
variable {K : PySem.W.Frag} {E : XK} {L : List Addr} {H : Hp}
theorem RN.keys : ∀ {zs : List ZN} {kvs : List (NestedKey × D)}, RN K L H zs kvs → RDs K L H (zs.map fun z => V.ref z.2.1) (keysN kvs)
  | [], [], _ => .nil
  | p :: ps, q :: qs, ⟨a, b, _, d⟩ => .cons (by show RD K L H (.ref p.2.1) (dOf q.1); rw [← a]; exact NK.rd b.1) (RN.keys d)
  | [], _ :: _, h => h.elim
  | _ :: _, [], h => h.elim
end
end RF

/-! rewriting lemmas for dicts with nested keys -/
namespace RF
open PySem L2
section
variable {env : Lc} {S : Sto} {n : Nat} {w : World} {x y d : D} {kvs : List (NestedKey × D)} {fa fb fc : EF} {neg : Bool}
theorem lookN_ref : lookN w S (.ref n) y = lookNC w S[n]? y := (rfl)
theorem lookNC_dn : lookNC w (some (.dn w kvs)) y = (keyT y).map fun k => valK kvs k := by unfold lookNC; exact if_pos rfl
theorem lookNC_df : lookNC w (some (.df w kvs)) y = (keyT y).map fun k => valK kvs k := by unfold lookNC; exact if_pos rfl
def inNK (S : Sto) (neg : Bool) : Option (Option D) → R D
  | some o => .ok (.bl (if neg = true then !o.isSome else o.isSome)) S
  | none => .bad
theorem o_inN : oInN w neg y x S = inNK S neg (lookN w S x y) := by unfold oInN inNK; rfl
theorem o_inNK {o : Option D} : inNK S neg (some o) = .ok (.bl (if neg = true then !o.isSome else o.isSome)) S := (rfl)
theorem ap_fIxN : fIxN w fa fb env S = fBin (oIxN w) fa fb env S := (rfl)
theorem o_ixN : oIxN w x y S = getDK S (lookN w S x y) := by unfold oIxN getDK; rfl
def isNC : Option Cell → Bool
  | some (.dn _ _) => true
  | some (.df _ _) => true
  | _ => false
theorem o_isDn : isN S (.ref n) = isNC S[n]? := by unfold isN isNC; rfl
noncomputable def gtK (w : World) (fk fx : EF) (env : Lc) : D → Sto → R D := fun x S1 => if isN S1 x = true then (fk env S1).bind fun y S2 => (fx env S2).bind fun d S3 => getN w x y d S3 else .bad
noncomputable def gtK2 (w : World) (x : D) (fx : EF) (env : Lc) : D → Sto → R D := fun y S2 => (fx env S2).bind fun d S3 => getN w x y d S3
noncomputable def gtK3 (w : World) (x y : D) : D → Sto → R D := fun d S3 => getN w x y d S3
theorem ap_fGetN : fGetN w fa fb fc env S = (fa env S).bind (gtK w fb fc env) := (rfl)
theorem ap_gtK : gtK w fb fc env x S = if isN S x = true then (fb env S).bind (gtK2 w x fc env) else .bad := (rfl)
theorem ap_gtK2 : gtK2 w x fc env y S = (fc env S).bind (gtK3 w x y) := (rfl)
theorem ap_gtK3 : gtK3 w x y d S = getN w x y d S := (rfl)
def getNK (S : Sto) (d : D) : Option (Option D) → R D
  | some o => .ok (o.getD d) S
  | none => .bad
theorem o_getN : getN w x y d S = getNK S d (lookN w S x y) := by unfold getN getNK; rfl
theorem o_getNK {o : Option D} : getNK S d (some o) = .ok (o.getD d) S := (rfl)
theorem oSetN_ref : oSetN w (.ref n) y d S = setNC w S n S[n]? y d := (rfl)
def setNK (w : World) (S : Sto) (n : Nat) (kvs : List (NestedKey × D)) (d : D) : Option NestedKey → R Unit
  | some k => if kvs.length < 100000 then .ok () (S.set n (.dn w (putKD kvs k d))) else .bad
  | none => .bad
theorem setNC_dn : setNC w S n (some (.dn w kvs)) y d = setNK w S n kvs d (keyT y) := by
  unfold setNC
  exact if_pos rfl
theorem setNK_some {k : NestedKey} : setNK w S n kvs d (some k) = if kvs.length < 100000 then .ok () (S.set n (.dn w (putKD kvs k d))) else .bad := (rfl)
noncomputable def gnK (w : World) (fi : EF) (d : D) (env : Lc) : D → Sto → R Lc := fun x S1 => (fi env S1).bind fun y S2 => (oSetN w x y d S2).bind fun _ S3 => .ok env S3
noncomputable def gnK2 (w : World) (x d : D) (env : Lc) : D → Sto → R Lc := fun y S2 => (oSetN w x y d S2).bind fun _ S3 => .ok env S3
def gnK3 (env : Lc) : Unit → Sto → R Lc := fun _ S3 => .ok env S3
theorem ap_gSubN : gSubN w fa fb d env S = (fa env S).bind (gnK w fb d env) := (rfl)
theorem ap_gnK : gnK w fb d env x S = (fb env S).bind (gnK2 w x d env) := (rfl)
theorem ap_gnK2 : gnK2 w x d env y S = (oSetN w x y d S).bind (gnK3 env) := (rfl)
theorem ap_gnK3 {u : Unit} : gnK3 env u S = .ok env S := (rfl)
theorem ap_fDictN0 : fDictN0 w env S = .ok (.ref S.length) (S ++ [.dn w []]) := (rfl)
def listNC (S : Sto) (n : Nat) : Option Cell → R D
  | some (.dn _ kvs) => .ok (.ref S.length) (S ++ [.lst (keysN kvs)])
  | _ => oListT [.ref n] S
def prpK (C : Addr) (F : FF) (n : Nat) : D → Sto → R D := fun x S1 => match fldsOf C S1 x with
  | some _ => if 1 = n then (F [x] S1).nox else .bad
  | none => .bad
def prpK2 (F : FF) (n : Nat) (x : D) (S1 : Sto) : Option (Nat × List (Str × D)) → R D
  | some _ => if 1 = n then (F [x] S1).nox else .bad
  | none => .bad
theorem o_someMap {α β : Type} {f : α → β} {a : α} : (some a).map f = some (f a) := (rfl)
end
section
variable {X : Cx} {E : XK} {e : Expr} {fo : EF} {pos : Pos} {C p g : Addr} {f : Str} {k n : Nat} {fd : FuncData} {ps : List Str} {F : FF}
end
end RF

/-! < and > of data -/
namespace RF
open PySem L2
def rGtP (K : PySem.W.Frag) : R2 := fun x y H Q => ∃ p q, Dp K H x p ∧ Dp K H y q ∧ PySem.W.alike p q = true ∧ p ≠ .none ∧ p.depth ≤ 60 ∧ Q (.bl (PySem.W.dataLt q p)) H
def rLtP (K : PySem.W.Frag) : R2 := fun x y H Q => ∃ p q, Dp K H x p ∧ Dp K H y q ∧ PySem.W.alike p q = true ∧ p ≠ .none ∧ p.depth ≤ 60 ∧ Q (.bl (PySem.W.dataLt p q)) H
def isNonP : PyData → Bool
  | .none => true
  | _ => false
def cmpP (f : PyData → PyData → Bool) (S : Sto) : Option PyData → Option PyData → R D
  | some p, some q => if (PySem.W.alike p q && !isNonP p && decide (p.depth ≤ 60)) = true then .ok (.bl (f p q)) S else .bad
  | _, _ => .bad
def oGtP : Op2 := fun x y S => cmpP (fun p q => PySem.W.dataLt q p) S (toP S 20 x) (toP S 20 y)
def oLtP : Op2 := fun x y S => cmpP (fun p q => PySem.W.dataLt p q) S (toP S 20 x) (toP S 20 y)
section
variable {K : PySem.W.Frag} {E : XK}
end
/-! pairs of ints -/
def ltT (a b : Int × Int) : Bool := decide (a.1 < b.1 ∨ (a.1 = b.1 ∧ a.2 < b.2))
section
variable {S : Sto} {a b : Int × Int}
end
end RF

/-! x in t, t a tuple; kinds of data that stand for values of a type; marks -/
namespace RF
open PySem L2
def rInTu (K : PySem.W.Frag) (neg : Bool) : R2 := fun x y H Q => ∃ d ds, Dp K H x d ∧ Dp K H y (.tuple ds) ∧ SeqAt.shaped d = true ∧ SeqAt.shaped (.tuple ds) = true ∧ Q (.bl (if neg = true then !(ds.any fun z => PyData.eqv z d) else ds.any fun z => PyData.eqv z d)) H
def oInTu (neg : Bool) : Op2 := fun x y S => match toP S 20 x, toP S 20 y with
  | some p, some (.tuple qs) => .ok (.bl (if neg = true then !(qs.any fun z => PyData.eqv z p) else qs.any fun z => PyData.eqv z p)) S
  | _, _ => .bad
/-- how the values of a type stand as data -/
structure Cod (α : Type) [DecidableEq α] where
  e : α → D
  p : α → PyData
  ok : α → Prop
  toP : ∀ (S : Sto) (k : Nat) (a : α), ok a → RF.toP S (k + 6) (e a) = some (p a)
  eqv : ∀ a b, PyData.eqv (p a) (p b) = decide (a = b)
  alike : ∀ a b, PySem.W.alike (p a) (p b) = true
  tupl : ∀ a, isTupP (p a) = true
namespace Cod
variable {α : Type} [DecidableEq α] {C : Cod α} {S : Sto} {n k : Nat} {a b : α} {as bs : List α}
def es (C : Cod α) (as : List α) : List D := as.map C.e
theorem es_len : (C.es as).length = as.length := List.length_map ..
theorem toPs (h : ∀ a ∈ as, C.ok a) : (C.es as).mapM (RF.toP S (k + 6)) = some (as.map C.p) := by
  induction as with
  | nil => rfl
  | cons a as ih =>
    show List.mapM (RF.toP S (k + 6)) (C.e a :: C.es as) = _
    rw [toP_mapM_cons, ih (fun x hx => h x (List.mem_cons_of_mem _ hx)), C.toP _ _ _ (h a (List.mem_cons_self ..))]; rfl
theorem eqvs : PyData.eqvAll (as.map C.p) (bs.map C.p) = decide (as = bs) := by
  induction as generalizing bs with
  | nil => cases bs <;> simp [PyData.eqvAll]
  | cons a as ih => cases bs with
    | nil => simp [PyData.eqvAll]
    | cons b bs =>
      simp only [List.map_cons, PyData.eqvAll, ih, C.eqv, List.cons.injEq]
      by_cases h1 : a = b <;> by_cases h2 : as = bs <;> simp [h1, h2]
theorem one (h1 : C.ok a) (h2 : C.ok b) : oNe (C.e a) (C.e b) S = .ok (.bl (!decide (a = b))) S := by rw [o_ne, C.toP _ _ _ h1, C.toP _ _ _ h2, neK_some, C.eqv]
theorem any_ : ((as.map C.p).any fun z => PyData.eqv z (C.p a)) = decide (a ∈ as) := by
  induction as with
  | nil => simp
  | cons w ws ih =>
    rw [List.map_cons, List.any_cons, ih, C.eqv]
    by_cases h1 : w = a
    · simp [h1]
    · by_cases h2 : a ∈ ws
      · simp [h2]
      · have h3 : ¬ a = w := fun e => h1 e.symm
        simp [h1, h2, h3]
theorem oin {neg : Bool} (e1 : S[n]? = some (.lst (C.es as))) (h1 : ∀ a ∈ as, C.ok a) (h2 : C.ok a) {b : Bool} (hb : b = true ↔ a ∈ as) : oInL neg (C.e a) (.ref n) S = .ok (.bl (if neg = true then !b else b)) S := by
  unfold oInL
  rw [C.toP _ _ _ h2, show (20 : Nat) = 19 + 1 from rfl, toP_ref, e1, toPC_lst, show (19 : Nat) = 13 + 6 from rfl, toPs h1]
  have hd : decide (a ∈ as) = b := by cases b <;> simp at hb ⊢ <;> exact hb
  simp only [Option.map_some, any_, hd]
/-- sorted -/
def le (C : Cod α) (a b : α) : Bool := !PySem.W.dataLt (C.p b) (C.p a)
def sort (C : Cod α) (as : List α) : List α := as.mergeSort C.le
theorem zip_ : (C.es as).zip (as.map C.p) = as.map fun w => (C.e w, C.p w) := by
  induction as with
  | nil => rfl
  | cons w ws ih => show (C.e w, C.p w) :: (C.es ws).zip (ws.map C.p) = _; rw [ih]; rfl
theorem sortDs_ : sortDs (C.es as) (as.map C.p) = C.es (C.sort as) := by
  unfold sortDs sort
  rw [zip_, ← List.map_mergeSort (r := C.le) (s := PySem.W.dataLe false Prod.snd) (f := fun w => (C.e w, C.p w)) (l := as) (fun a _ b _ => ?_), List.map_map]
  · rfl
  · rw [PySem.W.dataLe_eq]; rfl
theorem sortB_ : sortB (as.map C.p) = true := by
  unfold sortB
  have h : likeB (as.map C.p) = true := by
    unfold likeB
    simp only [List.all_map, List.all_eq_true, Function.comp]
    intro a _ b _
    exact C.alike a b
  rw [h, Bool.true_and, Bool.or_eq_true]
  refine .inl ?_
  simp only [List.all_map, List.all_eq_true, Function.comp]
  intro a _
  exact C.tupl a
theorem osort (e1 : S[n]? = some (.lst (C.es as))) (h1 : ∀ a ∈ as, C.ok a) (hl : as.length ≤ 100000) : oSorted [.ref n] S = .ok (.ref S.length) (S ++ [.lst (C.es (C.sort as))]) := by
  unfold oSorted
  simp only
  have e : lstD S (.ref n) = some (C.es as) := by unfold lstD; simp only [e1]
  rw [e]
  simp only
  rw [show (20 : Nat) = 14 + 6 from rfl, toPs h1]
  simp only
  rw [if_pos ⟨sortB_, by rw [es_len]; exact hl⟩, sortDs_]
theorem sort_mem : a ∈ C.sort as ↔ a ∈ as := (List.mergeSort_perm _ _).mem_iff
end Cod
/-! marks -/
abbrev Mk := (Int × Int) × Int × K2 × Int
def eM (m : Mk) : D := .tup [eT m.1, .int m.2.1, eK m.2.2.1, .int m.2.2.2]
def pM (m : Mk) : PyData := .tuple [pT m.1, .int m.2.1, pK m.2.2.1, .int m.2.2.2]
def kM (m : Mk) : NestedKey := .tup [.tup [.num m.1.1, .num m.1.2], .num m.2.1, .tup [.num m.2.2.1.1, .text m.2.2.1.2], .num m.2.2.2]
def okM (m : Mk) : Prop := PyData.strOk m.2.2.1.2 = true
def cM : Cod Mk where
  e := eM
  p := pM
  ok := okM
  toP := fun S k m h => by
    unfold eM pM
    have h : PyData.strOk m.2.2.1.2 = true := h
    rw [toP_tup, toP_mapM_cons, toP_mapM_cons, toP_mapM_cons, toP_mapM_cons, toP_mapM_nil, fT_eT, toP_int, toP_eK h, toP_int]
    rfl
  eqv := fun a b => by
    unfold pM
    simp only [PyData.eqv, PyData.eqvAll, eqv_T, eqv_K]
    obtain ⟨a1, a2, a3, a4⟩ := a
    obtain ⟨b1, b2, b3, b4⟩ := b
    simp only [Prod.mk.injEq]
    by_cases h1 : a1 = b1 <;> by_cases h2 : a2 = b2 <;> by_cases h3 : a3 = b3 <;> by_cases h4 : a4 = b4 <;> simp [h1, h2, h3, h4]
  alike := fun a b => by simp [pM, pT, pK, PySem.W.alike, PySem.W.alikeAll]
  tupl := fun a => by simp [pM, isTupP]
/-- a dict that holds marks alone -/
def encM (ms : List Mk) : List (NestedKey × D) := ms.map fun m => (kM m, .bl true)
def addM (acc : List Mk) (m : Mk) : List Mk := if m ∈ acc then acc else acc ++ [m]
end RF

/-! loops by an invariant -/
namespace RF
open PySem L2
/-- one turn of a loop goes on -/
def Turn1 (g : GF) (body : SF) (d : D) (env : Lc) (S : Sto) (e : Lc) (S1 : Sto) : Prop := (g d env S).bind body = .ok (.nx e) S1
theorem loopX_inv {g : GF} {body : SF} {P : Nat → Lc → Sto → Prop} {xs : List D} (step : ∀ j e S d, xs[j]? = some d → P j e S → ∃ e1 S1, Turn1 g body d e S e1 S1 ∧ P (j + 1) e1 S1) : ∀ (r j : Nat), r = xs.length - j → j ≤ xs.length → ∀ e S, P j e S → ∃ e1 S1, loopX g body (xs.drop j) e S = .ok (.nx e1) S1 ∧ P xs.length e1 S1
  | 0, j, hr, hj, e, S, h => by
    have : j = xs.length := by omega
    subst this
    rw [List.drop_length]
    exact ⟨e, S, rfl, h⟩
  | r + 1, j, hr, hj, e, S, h => by
    have hlt : j < xs.length := by omega
    rw [List.drop_eq_getElem_cons hlt]
    obtain ⟨e1, S1, t, h1⟩ := step j e S _ (List.getElem?_eq_getElem hlt) h
    obtain ⟨e2, S2, k, h2⟩ := loopX_inv step r (j + 1) (by omega) (by omega) e1 S1 h1
    refine ⟨e2, S2, ?_, h2⟩
    unfold Turn1 at t
    unfold loopX
    cases q : g xs[j] e S with
    | ok a T =>
      rw [q] at t
      simp only [R.bind_ok] at t ⊢
      rw [t]
      simp only [R.bind_ok]
      exact k
    | ex a T => rw [q] at t; cases t
    | bad => rw [q] at t; cases t
theorem loopX_ok {g : GF} {body : SF} {xs : List D} (P : Nat → Lc → Sto → Prop) (step : ∀ j e S d, xs[j]? = some d → P j e S → ∃ e1 S1, Turn1 g body d e S e1 S1 ∧ P (j + 1) e1 S1) {e : Lc} {S : Sto} (h : P 0 e S) : ∃ e1 S1, loopX g body xs e S = .ok (.nx e1) S1 ∧ P xs.length e1 S1 := by
  obtain ⟨e1, S1, k, q⟩ := loopX_inv step xs.length 0 (by omega) (Nat.zero_le _) e S h
  rw [List.drop_zero] at k
  exact ⟨e1, S1, k, q⟩
theorem loopL_inv {n : Nat} {g : GF} {body : SF} {P : Nat → Lc → Sto → Prop} {ys : List D} (hn : ∀ j e S, P j e S → S[n]? = some (.lst ys)) (step : ∀ j e S d, ys[j]? = some d → P j e S → ∃ e1 S1, Turn1 g body d e S e1 S1 ∧ P (j + 1) e1 S1) :
    ∀ (xs : List D) (j : Nat), xs.length = ys.length - j → j ≤ ys.length → ∀ e S, P j e S → ∃ e1 S1, loopL n g body xs j e S = .ok (.nx e1) S1 ∧ P ys.length e1 S1
  | [], j, hr, hj, e, S, h => by
    have hr : 0 = ys.length - j := hr
    have : j = ys.length := by omega
    subst this
    refine ⟨e, S, ?_, h⟩
    unfold loopL
    rw [hn _ _ _ h]
    simp
  | x :: xs, j, hr, hj, e, S, h => by
    rw [List.length_cons] at hr
    have hlt : j < ys.length := by omega
    obtain ⟨e1, S1, t, h1⟩ := step j e S _ (List.getElem?_eq_getElem hlt) h
    obtain ⟨e2, S2, k, h2⟩ := loopL_inv hn step xs (j + 1) (by omega) (by omega) e1 S1 h1
    refine ⟨e2, S2, ?_, h2⟩
    unfold Turn1 at t
    unfold loopL
    rw [hn _ _ _ h]
    simp only
    rw [List.getElem?_eq_getElem hlt]
    simp only
    cases q : g ys[j] e S with
    | ok a T =>
      rw [q] at t
      simp only [R.bind_ok] at t ⊢
      rw [t]
      simp only [R.bind_ok]
      exact k
    | ex a T => rw [q] at t; cases t
    | bad => rw [q] at t; cases t
theorem loopL_ok {n : Nat} {g : GF} {body : SF} {ys : List D} (P : Nat → Lc → Sto → Prop) (hn : ∀ j e S, P j e S → S[n]? = some (.lst ys)) (step : ∀ j e S d, ys[j]? = some d → P j e S → ∃ e1 S1, Turn1 g body d e S e1 S1 ∧ P (j + 1) e1 S1) {e : Lc} {S : Sto} (h : P 0 e S) :
    ∃ e1 S1, loopL n g body ys 0 e S = .ok (.nx e1) S1 ∧ P ys.length e1 S1 := loopL_inv hn step ys 0 (by omega) (Nat.zero_le _) e S h
/-- the same store, but for what is new and the places P -/
structure Fr (S S1 : Sto) (P : Nat → Prop) : Prop where
  le : S.length ≤ S1.length
  eq : ∀ i, i < S.length → ¬ P i → S1[i]? = S[i]?
theorem Fr.get {S S1 : Sto} {P : Nat → Prop} (k : Fr S S1 P) {i : Nat} {c : Cell} (h : S[i]? = some c) (hp : ¬ P i) : S1[i]? = some c := (k.eq i (List.getElem?_eq_some_iff.mp h).1 hp).trans h
theorem Fr.refl (S : Sto) (P : Nat → Prop) : Fr S S P := ⟨Nat.le_refl _, fun _ _ _ => rfl⟩
theorem Fr.trans {S S1 S2 : Sto} {P : Nat → Prop} (a : Fr S S1 P) (b : Fr S1 S2 P) : Fr S S2 P := ⟨Nat.le_trans a.le b.le, fun i h hp => (b.eq i (Nat.lt_of_lt_of_le h a.le) hp).trans (a.eq i h hp)⟩
theorem Fr.mono {S S1 : Sto} {P Q : Nat → Prop} (a : Fr S S1 P) (h : ∀ i, P i → Q i) : Fr S S1 Q := ⟨a.le, fun i hi hq => a.eq i hi fun z => hq (h i z)⟩
theorem Fr.app (S T : Sto) (P : Nat → Prop) : Fr S (S ++ T) P := ⟨by rw [List.length_append]; omega, fun i h _ => List.getElem?_append_left h⟩
theorem Fr.set {S : Sto} {n : Nat} {c : Cell} {P : Nat → Prop} (h : P n) : Fr S (S.set n c) P := ⟨by rw [List.length_set]; exact Nat.le_refl _, fun i _ hp => List.getElem?_set_ne (fun z => hp (by rw [← z]; exact h))⟩
/-- what is new may change -/
theorem Fr.new {S S1 S2 : Sto} {P Q : Nat → Prop} (a : Fr S S1 P) (b : Fr S1 S2 Q) (h : ∀ i, i < S.length → Q i → P i) : Fr S S2 P := ⟨Nat.le_trans a.le b.le, fun i hi hp => (b.eq i (Nat.lt_of_lt_of_le hi a.le) fun z => hp (h i hi z)).trans (a.eq i hi hp)⟩
end RF
namespace RF
open PySem L2
def tupC (S : Sto) : Option (List D) → R D
  | some xs => .ok (.tup xs) S
  | none => .bad
theorem o_tupR {x : D} {S : Sto} : oTuple [x] S = tupC S (seqD S x) := by unfold oTuple tupC; rfl
/-! the marks of a transaction -/
def eO : Option Mk → D
  | none => .non
  | some m => eM m
section
variable {C : Addr} {x : D} {n : Nat} {S : Sto} {d0 d1 d2 : D}
def mkf (d0 d1 d2 : D) : List (Str × D) := [(⟨#[95, 116, 114, 97, 110, 115, 97, 99, 116, 105, 111, 110]⟩, d0), (⟨#[95, 111, 119, 110]⟩, d1), (⟨#[95, 121, 111, 117, 110, 103, 101, 114]⟩, d2)]
def mkc (C : Addr) (d0 d1 d2 : D) : Cell := .ins C (mkf d0 d1 d2)
end
def mkC (C : Addr) (tr : Int × Int) (own : Option Mk) (y : Nat) : Cell := mkc C (eT tr) (eO own) (.ref y)
def addY (tr : Int × Int) (acc : List Mk) (m : Mk) : List Mk := if ltT tr m.1 = true then addM acc m else acc
/-- all of them are fit for dicts and sorted -/
def okMs (ms : List Mk) : Prop := ∀ m ∈ ms, okM m
def tellL (own : Option Mk) (ms : List Mk) : List Mk := match own with
  | none => []
  | some o => cM.sort (o :: ms)
theorem o_tyT {S : Sto} {xs : List D} : tyD S (.tup xs) = some "tuple" := (rfl)
def pO : Option Mk → PyData
  | none => .none
  | some m => pM m
end RF

/-! sorted(d), len(d) of a dict whose keys are tuples of any form -/
namespace RF
open PySem L2
mutual
theorem NK.dp {K : PySem.W.Frag} {H : Hp} : ∀ {k : NestedKey} {v : V}, NK H k v → Dp K H v k.data
  | _, _, .none => by simp only [NestedKey.data]; exact .non
  | _, _, .num i => by simp only [NestedKey.data]; exact .int i
  | _, _, .text x => by simp only [NestedKey.data]; exact .str x
  | _, _, .tup h r => by simp only [NestedKey.data]; exact .tup (.of h) (NKs.dp r)
theorem NKs.dp {K : PySem.W.Frag} {H : Hp} : ∀ {ks : List NestedKey} {vs : List V}, NKs H ks vs → DpAll K H vs (NestedKey.datas ks)
  | _, _, .nil => by simp only [NestedKey.datas]; exact .nil
  | _, _, .cons a b => by simp only [NestedKey.datas]; exact .cons (NK.dp a) (NKs.dp b)
end
theorem zs_dp {K : PySem.W.Frag} {H : Hp} : ∀ {zs : List ZN}, ZOk H zs → DpAll K H (zs.map fun z => V.ref z.2.1) (zs.map fun z => z.1.data)
  | [], _ => .nil
  | z :: zs, h => .cons (h z (List.mem_cons_self ..)).1.dp (zs_dp fun x hx => h x (List.mem_cons_of_mem _ hx))
/-- what stands behind: the address of the key, its data -/
abbrev zV (z : ZN) : V := .ref z.2.1
def rSortN : List V → Hp → VK → Prop := fun vs H Q => ∃ (a : Addr) (w : World) (zs : List ZN), vs = [V.ref a] ∧ H a = some (dnO w a zs) ∧ ZOk H zs ∧ PySem.W.AllAlike (zs.map fun z => z.1.data) ∧ PySem.W.Sortable (zs.map fun z => z.1.data) ∧ zs.length ≤ 100000 ∧
  (∀ z ∈ zs, z.1.data.depth ≤ 60) ∧ ∀ p, H p = none → Q (.ref p) (upd H p (.lst ((zs.mergeSort (PySem.W.dataLe false fun z => z.1.data)).map zV)))
theorem each_zs : ∀ {out : List Value} {zs : List ZN}, Vals (zs.map zV) out → PySem.W.EachIs (fun v (z : ZN) => RelV (zV z) v) out zs
  | out, [], r => by
    rw [List.map_nil] at r
    cases r; exact .nil
  | out, b :: bs, r => by
    rw [List.map_cons] at r
    cases r with
    | cons h t => exact .cons h (each_zs t)
theorem zs_each : ∀ {out : List Value} {zs : List ZN}, PySem.W.EachIs (fun v (z : ZN) => RelV (zV z) v) out zs → Vals (zs.map zV) out
  | [], [], .nil => .nil
  | _ :: _, _ :: _, .cons h t => .cons h (zs_each t)
section
variable {X : Cx}
theorem call_sortN (hc : X.calm = true) (hu : X.A.units + 65 < cLine) : CallR X (.builtin "sorted") rSortN := by
  intro pins s σ H xs us Q I r h
  obtain ⟨d, w, zs, rfl, hd, hz, hal, hk, hL, hdep, q⟩ := h
  obtain ⟨u, rfl, rx⟩ := r.one
  cases rx
  obtain ⟨⟨hs, z, ks, pr, o, es, ep, ho, hx, hdt, he, hn⟩, _⟩ := I.hok d _ hd
  have l1 : es.size = ks.length := by rw [← Array.length_toList, he, List.length_map]
  have l2 : zs.length = ks.length := Paired.length pr
  refine Calls.call_function_entry PyProof.Rows.kind_sorted PyProof.Rows.plain_sorted PyProof.Rows.entry_sorted (PyProof.Rows.args_sorted1 _) ?_
  unfold Builtin.«sorted»
  refine wpAny_bind (m := checkCount "sorted" 1 1 _) (wpAny_pure ?_)
  refine wpAny_bind (PySem.W.kdu_collect (A := X.A.in1) (kdl_raw hs hx hdt) (I.ok.hd hc) ho (by omega) fun h' tk acc kp it => ?_)
  have ea : acc.toList = ks.map fun x => Value.ref x.2.1 := by
    have hl : acc.toList.length = ks.length := by rw [Array.length_toList, it.1]; exact l1
    apply List.ext_getElem?
    intro j
    rw [List.getElem?_map]
    cases hj : acc.toList[j]? with
    | none =>
      have h1 := List.getElem?_eq_none_iff.mp hj
      rw [List.getElem?_eq_none (by omega)]
      all_goals rfl
    | some v =>
      obtain ⟨en, hen, hv⟩ := it.2 j v (by rw [← Array.getElem?_toList]; exact hj)
      have qe : es[j]? = (ks[j]?).map (fun x => (⟨x.1.hash w, .ref x.2.1, x.2.2⟩ : DictEntry)) := by rw [← Array.getElem?_toList, he, List.getElem?_map]
      rw [hen] at qe
      cases hb : ks[j]? with
      | none =>
        rw [hb] at qe
        exact nomatch (show some en = none from qe)
      | some b =>
        rw [hb] at qe
        have e2 : en = (⟨b.1.hash w, .ref b.2.1, b.2.2⟩ : DictEntry) := Option.some.inj qe
        rw [hv, e2]
        all_goals rfl
  have rv : Vals (zs.map zV) acc.toList := by rw [ea]; exact zx_refs pr
  have hlen : acc.toList.length = zs.length := by rw [← rv.length, List.length_map]
  have I1 : Inv X pins σ H { s with heap := h', toks := tk } := I.kept kp
  refine wpAny_bind (wpAny_newList ?_ (by rw [hlen]; exact z))
  have hoL : (h'.push (PyProof.Rows.seqObj "list" acc.toList.toArray 0)).get? h'.objs.size = some (PyProof.Rows.seqObj "list" acc.toList.toArray 0) := Heap.get?_push_size _ rfl
  show wpAny _ _ _ _ _ { s with heap := h'.push (PyProof.Rows.seqObj "list" acc.toList.toArray 0), toks := tk }
  obtain ⟨as, hr⟩ := Dp.readsAll I1 _ _ acc.toList (zs_dp hz) rv
  have er : PySem.W.EachIs (fun v (z : ZN) => ∃ as, PySem.Reads h' v z.1.data as) acc.toList zs := PySem.W.readsAll_each (fun z : ZN => z.1.data) hr
  have er' : PySem.W.EachIs (fun v (z : ZN) => ∃ as, PySem.Reads (PySem.W.sortingHeap (h'.push (PyProof.Rows.seqObj "list" acc.toList.toArray 0)) h'.objs.size acc.toList) v z.1.data as) acc.toList zs :=
    er.mono fun _ _ ⟨as, r⟩ => ⟨as, PyProof.Rows.Reads.keeps (fun b o q => PySem.W.sortingHeap_old (Nat.ne_of_lt (Heap.lt_size q)) (Heap.get?_push_of_some _ q)) r⟩
  have ez := each_zs rv
  refine wpAny_bind (wpAny_holding (wpAny_call_entry PyProof.Rows.slot_list_sort ⟨_, hoL, rfl⟩ PyProof.Rows.entry_list_sort
    (PySem.W.list_sort_vals (A := X.A.in1.in1) (s := { s with heap := h'.push (PyProof.Rows.seqObj "list" acc.toList.toArray 0), toks := tk }) (κ := PySem.W.dataKind (PySem.W.sortingHeap (h'.push (PyProof.Rows.seqObj "list" acc.toList.toArray 0)) h'.objs.size acc.toList) (zs.map fun z => z.1.data)) hoL
      (PySem.W.SortsAt.data (s := { s with heap := PySem.W.sortingHeap (h'.push (PyProof.Rows.seqObj "list" acc.toList.toArray 0)) h'.objs.size acc.toList, toks := tk }) (PySem.W.each_map (R := fun v d => ∃ as, PySem.Reads (PySem.W.sortingHeap (h'.push (PyProof.Rows.seqObj "list" acc.toList.toArray 0)) h'.objs.size acc.toList) v d as) (fun z : ZN => z.1.data) er') hal hk
        (PySem.W.bound_map fun b hb => by have := hdep b hb; have e1 : X.A.in1.in1.units = X.A.units + 1 + 1 := rfl; omega)) (by rw [hlen]; exact z) ?_) (PyProof.Rows.args_list_sort _)))
  refine ⟨.none, rfl, ?_⟩
  have ho := PySem.W.sortVals_data (R := fun v (z : ZN) => RelV (zV z) v) (enc := fun z : ZN => z.1.data) false ez er' hal
  generalize PySem.W.sortVals (PySem.W.dataKind (PySem.W.sortingHeap (h'.push (PyProof.Rows.seqObj "list" acc.toList.toArray 0)) h'.objs.size acc.toList) (zs.map fun z => z.1.data)) false acc.toList acc.toList = out at ho
  obtain ⟨e', he'⟩ := PyProof.Rows.sortedHeap_at (vs := acc.toList) (out := out.toArray) hoL
  have hlz : ((zs.mergeSort (PySem.W.dataLe false fun z => z.1.data)).map zV).length ≤ sizeLine := by rw [List.length_map, (List.mergeSort_perm _ _).length_eq]; exact z
  refine wpAny_pure ⟨_, rfl, .ref h'.objs.size, upd H h'.objs.size (.lst ((zs.mergeSort (PySem.W.dataLe false fun z => z.1.data)).map zV)), I1.laid (t' := tk) (fun b u e => ?_) (Nat.le_refl _)
    (show ObjOk X.prog X.w _ _ _ (.lst _) from ⟨hlz, out, e', zs_each ho, he'⟩), rfl, q _ (I1.hok.fresh (Nat.le_refl _))⟩
  rw [PyProof.Rows.sortedHeap_old (Nat.ne_of_lt (Heap.lt_size e)) (by rw [PyProof.Rows.size_push']; exact Nat.lt_succ_of_lt (Heap.lt_size e))]
  exact Heap.get?_push_of_some _ e
end
end RF

/-! comprehensions whose target is a tuple of names -/
namespace RF
open PySem L2
def unset : List Nat → Lc → Lc
  | [], env => env
  | i :: is, env => (unset is env).set i none
def gcompX (pt : D → Lc → Option Lc) (ft : BF) (fe : EF) (env : Lc) : List D → List D → Sto → R D
  | [], acc, S => .ok (.ref S.length) (S ++ [.lst acc])
  | d :: xs, acc, S => match pt d env with
    | some ee => (ft ee S).nox.bind fun b S1 => if b = true then ((fe ee S1).nox.bind fun y S2 => if acc.length < 100000 then gcompX pt ft fe env xs (acc ++ [y]) S2 else .bad) else gcompX pt ft fe env xs acc S1
    | none => .bad
def gcompL (n : Nat) (pt : D → Lc → Option Lc) (ft : BF) (fe : EF) (env : Lc) : List D → Nat → List D → Sto → R D
  | [], j, acc, S => match S[n]? with
    | some (.lst ys) => if ys.length ≤ j then .ok (.ref S.length) (S ++ [.lst acc]) else .bad
    | _ => .bad
  | _ :: xs, j, acc, S => match S[n]? with
    | some (.lst ys) => match ys[j]? with
      | none => .ok (.ref S.length) (S ++ [.lst acc])
      | some d => match pt d env with
        | some ee => (ft ee S).nox.bind fun b S1 => if b = true then ((fe ee S1).nox.bind fun y S2 => if acc.length < 100000 then gcompL n pt ft fe env xs (j + 1) (acc ++ [y]) S2 else .bad) else gcompL n pt ft fe env xs (j + 1) acc S1
        | none => .bad
    | _ => .bad
def fGComp (fi : IF) (is : List Nat) (pt : D → Lc → Option Lc) (ft : BF) (fe : EF) : EF := fun env S => (fi env S).bind fun it S1 => match it with
  | .fix xs => gcompX pt ft fe (unset is env) xs [] S1
  | .live n xs => gcompL n pt ft fe (unset is env) xs 0 [] S1
/-- a target by a function -/
def TgF (K : PySem.W.Frag) (is : List Nat) (g : TG) (pt : D → Lc → Option Lc) : Prop := ∀ {L : List Addr} {H : Hp} {x : V} {d : D} {σ0 : St} {env0 env1 : Lc} {Q : St → Hp → Prop}, RD K L H x d → RE K L H σ0 env0 → pt d env0 = some env1 →
  (∀ σ1, RE K L H σ1 env1 → wipe σ1 is = wipe σ0 is → Q σ1 H) → g x σ0 H Q
/-- the names of a tuple -/
def setD : List Nat → List D → Lc → Lc
  | i :: is, d :: ds, env => setD is ds (env.set i (some d))
  | _, _, env => env
def setVs : List Nat → List V → St → St
  | i :: is, v :: vs, σ => setVs is vs (σ.set i (some v))
  | _, _, σ => σ
def gNames : List Nat → TGs
  | [] => gNil
  | i :: is => gCons (gName i) (gNames is)
def ptT (is : List Nat) : D → Lc → Option Lc := fun d env => match d with
  | .tup ds => if ds.length = is.length then some (setD is ds env) else none
  | _ => none
section
variable {X : Cx} {E : XK} {tg l iter elt : Expr} {fa fe : EF} {ft : BF} {fi : IF} {pos : Pos}
end
end RF

/-! sorted(d) as a function; types whose values are keys -/
namespace RF
open PySem L2
def sortNC (S : Sto) (n : Nat) : Option Cell → R D
  | some (.dn _ kvs) => if sortB (kvs.map fun kv => kv.1.data) = true ∧ kvs.length ≤ 100000 ∧ (kvs.all fun kv => decide (kv.1.data.depth ≤ 60)) = true then .ok (.ref S.length) (S ++ [.lst (sortDs (keysN kvs) (kvs.map fun kv => kv.1.data))]) else .bad
  | _ => oSorted [.ref n] S
def oSortN : OpN := fun ds S => match ds with
  | [.ref n] => sortNC S n S[n]?
  | ds => oSorted ds S
theorem RN.data {K : PySem.W.Frag} {L : List Addr} {H : Hp} : ∀ {zs : List ZN} {kvs : List (NestedKey × D)}, RN K L H zs kvs → (zs.map fun z => z.1.data) = kvs.map fun kv => kv.1.data
  | [], [], _ => rfl
  | p :: ps, q :: qs, ⟨a, _, _, d⟩ => by rw [List.map_cons, List.map_cons, RN.data d, a]
  | [], _ :: _, h => h.elim
  | _ :: _, [], h => h.elim
theorem RN.keysZ {K : PySem.W.Frag} {L : List Addr} {H : Hp} : ∀ {zs : List ZN} {kvs : List (NestedKey × D)}, RN K L H zs kvs → (keysN kvs).zip (kvs.map fun kv => kv.1.data) = zs.map fun z => (dOf z.1, z.1.data)
  | [], [], _ => rfl
  | p :: ps, q :: qs, ⟨a, _, _, d⟩ => by
    show (dOf q.1, q.1.data) :: ((keysN qs).zip (qs.map fun kv => kv.1.data)) = _
    rw [RN.keysZ d, List.map_cons, a]
  | [], _ :: _, h => h.elim
  | _ :: _, [], h => h.elim
theorem rds_zs {K : PySem.W.Frag} {L : List Addr} {H : Hp} : ∀ {zs : List ZN}, ZOk H zs → RDs K L H (zs.map zV) (zs.map fun z => dOf z.1)
  | [], _ => .nil
  | z :: zs, h => .cons (NK.rd (h z (List.mem_cons_self ..)).1) (rds_zs fun x hx => h x (List.mem_cons_of_mem _ hx))
theorem f_sortN {K : PySem.W.Frag} {E : XK} : CaF K E (fun xs H Q => rSortD K xs H Q ∨ rSortN xs H Q) oSortN := by
  intro L H S xs ds Q rep rs q
  by_cases hd : ∃ n w kvs, ds = [.ref n] ∧ S[n]? = some (.dn w kvs)
  · obtain ⟨n, w, kvs, rfl, hn⟩ := hd
    obtain ⟨x, rfl, r⟩ := rs.one
    cases r with
    | @ref a _ ha =>
      obtain ⟨c, hc, rc⟩ := rep.adr ha
      rw [hn] at hc
      cases hc
      obtain ⟨zs, hz, rn⟩ := rc
      unfold oSortN at q
      simp only [hn] at q
      unfold sortNC at q
      simp only at q
      split at q
      · rename_i hc
        obtain ⟨h1, h2, h3⟩ := hc
        have ok := rn.zok
        obtain ⟨hal, hso⟩ := sortB_of h1
        rw [← rn.data] at hal hso
        refine .inr ⟨a, w, zs, rfl, hz, ok, hal, hso, by rw [rn.length]; exact h2, fun z hm => ?_, fun p hp => newList q rep ?_ p hp⟩
        · have : z.1.data ∈ kvs.map fun kv => kv.1.data := by rw [← rn.data]; exact List.mem_map_of_mem (f := fun z : ZN => z.1.data) hm
          obtain ⟨kv, hk, e⟩ := List.mem_map.mp this
          rw [← e]
          exact of_decide_eq_true (List.all_eq_true.mp h3 kv hk)
        · have e5 : sortDs (keysN kvs) (kvs.map fun kv => kv.1.data) = (zs.mergeSort (PySem.W.dataLe false fun z => z.1.data)).map fun z => dOf z.1 := by
            unfold sortDs
            rw [rn.keysZ, ← List.map_mergeSort (r := PySem.W.dataLe false fun z : ZN => z.1.data) (s := PySem.W.dataLe false Prod.snd) (f := fun z : ZN => (dOf z.1, z.1.data)) (l := zs) (fun _ _ _ _ => rfl), List.map_map]
            rfl
          rw [e5]
          exact rds_zs fun z hm => ok z ((List.mergeSort_perm _ _).mem_iff.mp hm)
      · exact q.elim
  · have e : oSortN ds S = oSorted ds S := by
      unfold oSortN
      split
      · rename_i n
        unfold sortNC
        split
        · rename_i w kvs h
          exact absurd ⟨n, w, kvs, rfl, h⟩ hd
        · rfl
      · rfl
    rw [e] at q
    exact .inl (f_sorted L H S xs ds Q rep rs q)
/-- values that are keys -/
structure CodK (α : Type) [DecidableEq α] extends Cod α where
  kf : α → NestedKey
  keyT : ∀ a, RF.keyT (e a) = some (kf a)
  inj : ∀ a b, kf a = kf b ↔ a = b
  dOf : ∀ a, RF.dOf (kf a) = e a
  data : ∀ a, (kf a).data = p a
  dep : ∀ a, (p a).depth ≤ 60
namespace CodK
variable {α : Type} [DecidableEq α] {C : CodK α} {S : Sto} {n : Nat} {a : α} {kvs : List (α × D)} {w : World} {d : D}
def enc (C : CodK α) (kvs : List (α × D)) : List (NestedKey × D) := kvs.map fun kv => (C.kf kv.1, kv.2)
theorem enc_len : (C.enc kvs).length = kvs.length := List.length_map ..
theorem val : valK (C.enc kvs) (C.kf a) = valK kvs a := by
  unfold valK enc
  induction kvs with
  | nil => rfl
  | cons kv r ih =>
    rw [List.map_cons, List.find?_cons, List.find?_cons]
    by_cases h : kv.1 = a
    · have h2 : C.kf kv.1 = C.kf a := by rw [h]
      simp [h, h2]
    · have h2 : ¬ C.kf kv.1 = C.kf a := fun z => h ((C.inj _ _).mp z)
      simp only [decide_eq_false h, decide_eq_false h2]
      exact ih
theorem any : ((C.enc kvs).any fun kv => decide (kv.1 = C.kf a)) = kvs.any fun kv => decide (kv.1 = a) := by
  unfold enc
  induction kvs with
  | nil => rfl
  | cons kv r ih =>
    rw [List.map_cons, List.any_cons, List.any_cons, ih]
    by_cases h : kv.1 = a
    · have h2 : C.kf kv.1 = C.kf a := by rw [h]
      simp [h, h2]
    · have h2 : ¬ C.kf kv.1 = C.kf a := fun z => h ((C.inj _ _).mp z)
      simp [h, h2]
theorem put : putKD (C.enc kvs) (C.kf a) d = C.enc (putKD kvs a d) := by
  unfold putKD
  rw [any]
  split
  · unfold enc
    rw [List.map_map, List.map_map]
    refine List.map_congr_left fun kv _ => ?_
    show (if C.kf kv.1 = C.kf a then (C.kf kv.1, d) else (C.kf kv.1, kv.2)) = _
    by_cases h : kv.1 = a
    · have h2 : C.kf kv.1 = C.kf a := by rw [h]
      simp [h, h2]
    · have h2 : ¬ C.kf kv.1 = C.kf a := fun z => h ((C.inj _ _).mp z)
      simp [h, h2]
  · unfold enc
    rw [List.map_append]; rfl
theorem keys : keysN (C.enc kvs) = C.es (kvs.map (·.1)) := by
  unfold keysN enc Cod.es
  rw [List.map_map, List.map_map]
  exact List.map_congr_left fun kv _ => C.dOf kv.1
theorem datas : ((C.enc kvs).map fun kv => kv.1.data) = (kvs.map (·.1)).map C.p := by
  unfold enc
  rw [List.map_map, List.map_map]
  exact List.map_congr_left fun kv _ => C.data kv.1
theorem osort (h : S[n]? = some (.dn w (C.enc kvs))) (hl : kvs.length ≤ 100000) : oSortN [.ref n] S = .ok (.ref S.length) (S ++ [.lst (C.es (C.sort (kvs.map (·.1))))]) := by
  unfold oSortN
  simp only [h]
  unfold sortNC
  simp only
  have h3 : ((C.enc kvs).all fun kv => decide (kv.1.data.depth ≤ 60)) = true := by
    rw [List.all_eq_true]
    intro kv hk
    obtain ⟨x, _, rfl⟩ := List.mem_map.mp hk
    rw [decide_eq_true_iff]
    show (C.kf x.1).data.depth ≤ 60
    rw [C.data]
    exact C.dep _
  have h2 : (C.enc kvs).length ≤ 100000 := by rw [enc_len]; exact hl
  rw [datas, keys, if_pos ⟨Cod.sortB_, h2, h3⟩, Cod.sortDs_]
end CodK
def kK : CodK K2 where
  e := eK
  p := pK
  ok := fun k => PyData.strOk k.2 = true
  toP := fun S k a h => toP_eK h
  eqv := fun _ _ => eqv_K
  alike := fun a b => by simp [pK, PySem.W.alike, PySem.W.alikeAll]
  tupl := fun a => by simp [pK, isTupP]
  kf := fun k => .tup [.num k.1, .text k.2]
  keyT := fun _ => (rfl)
  inj := fun a b => by
    obtain ⟨a1, a2⟩ := a
    obtain ⟨b1, b2⟩ := b
    simp
  dOf := fun _ => (rfl)
  data := fun _ => (rfl)
  dep := fun a => by simp [pK, PyData.depth, PyData.depthAll]
def kT : CodK (Int × Int) where
  e := eT
  p := pT
  ok := fun _ => True
  toP := fun S k a _ => fT_eT
  eqv := fun _ _ => eqv_T
  alike := fun a b => by simp [pT, PySem.W.alike, PySem.W.alikeAll]
  tupl := fun a => by simp [pT, isTupP]
  kf := fun k => .tup [.num k.1, .num k.2]
  keyT := fun _ => (rfl)
  inj := fun a b => by
    obtain ⟨a1, a2⟩ := a
    obtain ⟨b1, b2⟩ := b
    simp
  dOf := fun _ => (rfl)
  data := fun _ => (rfl)
  dep := fun a => by simp [pT, PyData.depth, PyData.depthAll]
def eKT (x : K2 × (Int × Int)) : D := .tup [eK x.1, eT x.2]
def pKT (x : K2 × (Int × Int)) : PyData := .tuple [pK x.1, pT x.2]
def kKT : CodK (K2 × (Int × Int)) where
  e := eKT
  p := pKT
  ok := fun x => PyData.strOk x.1.2 = true
  toP := fun S k a h => by
    unfold eKT pKT
    rw [toP_tup, toP_mapM_cons, toP_mapM_cons, toP_mapM_nil, toP_eK h, fT_eT]
    rfl
  eqv := fun a b => by
    unfold pKT
    simp only [PyData.eqv, PyData.eqvAll, eqv_T, eqv_K]
    obtain ⟨a1, a2⟩ := a
    obtain ⟨b1, b2⟩ := b
    simp only [Prod.mk.injEq]
    by_cases h1 : a1 = b1 <;> by_cases h2 : a2 = b2 <;> simp [h1, h2]
  alike := fun a b => by simp [pKT, pK, pT, PySem.W.alike, PySem.W.alikeAll]
  tupl := fun a => by simp [pKT, isTupP]
  kf := fun x => .tup [.tup [.num x.1.1, .text x.1.2], .tup [.num x.2.1, .num x.2.2]]
  keyT := fun _ => (rfl)
  inj := fun a b => by
    obtain ⟨⟨a1, a2⟩, a3, a4⟩ := a
    obtain ⟨⟨b1, b2⟩, b3, b4⟩ := b
    simp
  dOf := fun _ => (rfl)
  data := fun _ => (rfl)
  dep := fun a => by simp [pKT, pK, pT, PyData.depth, PyData.depthAll]
end RF

/-! shelves and their plain model in the store -/
namespace RF
open PySem L2
section
variable {C : Addr} {x : D} {n : Nat} {S : Sto} {d0 d1 : D}
def shf (d0 d1 : D) : List (Str × D) := [(⟨#[95, 108, 111, 99, 107, 115]⟩, d0), (⟨#[95, 103, 105, 118, 101, 110, 95, 98, 97, 99, 107]⟩, d1)]
def shc (C : Addr) (d0 d1 : D) : Cell := .ins C (shf d0 d1)
end
section
variable {S : Sto} {a b d : D} {n m : Nat}
def nLk : Str := ⟨#[108, 111, 99, 107, 115]⟩
def nPa : Str := ⟨#[112, 97, 115, 116]⟩
def smF (a b : D) : List (Key × D) := [(.inr nLk, a), (.inr nPa, b)]
def smC (a b : D) : Cell := .dk (smF a b)
end
abbrev PK := K2 × (Int × Int)
abbrev Ent := K2 × LSt × Nat
def LkAt (C : Addr) (l : Nat) (st : LSt) (S : Sto) : Prop := ∃ w, S[l]? = some (lkS C st w) ∧ S[w]? = some (.lst (eWs st.ws))
def MdAt (l : Nat) (st : LSt) (S : Sto) : Prop := ∃ w, S[l]? = some (mdS st w) ∧ S[w]? = some (.lst (eWs st.ws))
def fLk (es : List Ent) : List (K2 × D) := es.map fun e => (e.1, .ref e.2.2)
def fPa (pa : List (PK × Int)) : List (PK × D) := pa.map fun x => (x.1, .int x.2)
def stp (es : List Ent) : List (K2 × LSt) := es.map fun e => (e.1, e.2.1)
/-! the plain state -/
def st0 : LSt := ⟨0, 0, none, []⟩
def getS (sh : List (K2 × LSt)) (k : K2) : Option LSt := valK sh k
def lockS (sh : List (K2 × LSt)) (k : K2) : List (K2 × LSt) := match valK sh k with
  | some _ => sh
  | none => sh ++ [(k, st0)]
def setS (sh : List (K2 × LSt)) (k : K2) (st : LSt) : List (K2 × LSt) := sh.map fun e => if e.1 = k then (e.1, st) else e
def pastG (pa : List (PK × Int)) (x : PK) : Int := (valK pa x).getD 0
def giveS (pa : List (PK × Int)) (x : PK) (att : Int) : List (PK × Int) := putKD pa x (if att > pastG pa x then att else pastG pa x)
def sGr : Str := ⟨#[103, 114, 97, 110, 116, 101, 100]⟩
def sBe : Str := ⟨#[98, 101, 104, 105, 110, 100]⟩
def sFr : Str := ⟨#[102, 114, 101, 101, 100]⟩
def sFi : Str := ⟨#[102, 105, 110, 105, 115, 104, 101, 100]⟩
def ansD (key : K2) (st : LSt) (u : Who) : D := match st.h with
  | some h => if h = u then .tup [.int u.1.2, .tup [.str sGr, eT u.1, .int u.2, eK key, .int st.t, .int st.v]] else .tup [.int u.1.2, .tup [.str sBe, eT u.1, .int u.2, eK key, .int st.t, eT h.1, .int h.2]]
  | none => .non
def toldS (key : K2) (st : LSt) : List D := match st.h with
  | some h => (h :: sortW st.ws).map (ansD key st)
  | none => []
def freD (s : Str) (key : K2) (u : Who) : D := .tup [.int u.1.2, .tup [.str s, eT u.1, .int u.2, eK key]]
inductive Kd where
  | ask | free | fin (z : Int)
def handS (kd : Kd) (u : Who) (key : K2) (sh : List (K2 × LSt)) (pa : List (PK × Int)) (st : LSt) : List (K2 × LSt) × List (PK × Int) × List D := match kd with
  | .ask => if u.2 ≤ pastG pa (key, u.1) then (sh, pa, []) else
      (setS sh key (askS st u).1, pa, if (askS st u).2 = [] then [ansD key (askS st u).1 u] else toldS key (askS st u).1)
  | .free => (setS sh key (freeS st u.1 u.2).1, giveS pa (key, u.1) u.2, (if (freeS st u.1 u.2).2 = [] then [] else toldS key (freeS st u.1 u.2).1) ++ [freD sFr key u])
  | .fin z => if st.h = some u then (setS sh key (finS st u z).1, giveS pa (key, u.1) u.2, (if (finS st u z).2 = [] then [] else toldS key (finS st u z).1) ++ [freD sFi key u])
      else (sh, pa, if u.2 ≤ pastG pa (key, u.1) then [freD sFi key u] else [])
structure PR (C CL : Addr) (w : World) (sl dl dp : Nat) (es : List Ent) (pa : List (PK × Int)) (S : Sto) : Prop where
  ob : S[sl]? = some (shc C (.ref dl) (.ref dp))
  lk : S[dl]? = some (.dn w (kK.enc (fLk es)))
  pa : S[dp]? = some (.dn w (kKT.enc (fPa pa)))
  ne : dl ≠ dp
  at_ : ∀ e ∈ es, LkAt CL e.2.2 e.2.1 S
  nd : (es.map (·.2.2)).Nodup
  kd : (es.map (·.1)).Nodup
structure MR (w : World) (ml el ep : Nat) (es : List Ent) (pa : List (PK × Int)) (S : Sto) : Prop where
  ob : S[ml]? = some (smC (.ref el) (.ref ep))
  lk : S[el]? = some (.dn w (kK.enc (fLk es)))
  pa : S[ep]? = some (.dn w (kKT.enc (fPa pa)))
  ne : el ≠ ep
  at_ : ∀ e ∈ es, MdAt e.2.2 e.2.1 S
  nd : (es.map (·.2.2)).Nodup
  kd : (es.map (·.1)).Nodup
def PFt (CL : Addr) (dl dp : Nat) (S : Sto) : Nat → Prop := fun i => i = dl ∨ i = dp ∨ ∃ st w, S[i]? = some (lkS CL st w)
def MF (el ep : Nat) (S : Sto) : Nat → Prop := fun i => i = el ∨ i = ep ∨ ∃ st w, S[i]? = some (mdS st w)
section
variable {C CL : Addr} {w : World} {sl dl dp ml el ep : Nat} {es : List Ent} {pa : List (PK × Int)} {S S1 : Sto} {l : Nat} {st : LSt}
theorem LkAt.keep (h : LkAt CL l st S) {P : Nat → Prop} (fr : Fr S S1 P) (hl : ¬ P l) (hw : ∀ i xs, S[i]? = some (.lst xs) → ¬ P i) : LkAt CL l st S1 := by
  obtain ⟨w, h1, h2⟩ := h
  exact ⟨w, fr.get h1 hl, fr.get h2 (hw w _ h2)⟩
theorem MdAt.keep (h : MdAt l st S) {P : Nat → Prop} (fr : Fr S S1 P) (hl : ¬ P l) (hw : ∀ i xs, S[i]? = some (.lst xs) → ¬ P i) : MdAt l st S1 := by
  obtain ⟨w, h1, h2⟩ := h
  exact ⟨w, fr.get h1 hl, fr.get h2 (hw w _ h2)⟩
theorem MR.pr {es' : List Ent} {pa' : List (PK × Int)} (h : PR C CL w sl dl dp es pa S) (hm : MR w ml el ep es' pa' S) (fr : Fr S S1 (MF el ep S)) (hd : el ≠ dl ∧ el ≠ dp ∧ ep ≠ dl ∧ ep ≠ dp) : PR C CL w sl dl dp es pa S1 := by
  have ins : ∀ {i : Nat} {c : Cell}, S[i]? = some c → (∀ st w, c ≠ mdS st w) → ¬ (i = el) → ¬ (i = ep) → ¬ MF el ep S i := by
    rintro i c hc hk h1 h2 (z | z | ⟨st, w, z⟩)
    · exact h1 z
    · exact h2 z
    · rw [hc] at z; exact hk st w (Option.some.inj z)
  have kd : ∀ {i j : Nat} {c c' : Cell}, S[i]? = some c → S[j]? = some c' → c ≠ c' → ¬ i = j := fun h1 h2 hne => ne_of_cell h1 h2 hne
  have ls : ∀ i xs, S[i]? = some (.lst xs) → ¬ MF el ep S i := fun i xs hi => ins hi (fun _ _ z => nomatch z) (kd hi hm.lk (fun z => nomatch z)) (kd hi hm.pa (fun z => nomatch z))
  refine ⟨fr.get h.ob (ins h.ob (fun _ _ z => nomatch z) (kd h.ob hm.lk (fun z => nomatch z)) (kd h.ob hm.pa (fun z => nomatch z))), fr.get h.lk (ins h.lk (fun _ _ z => nomatch z) (fun z => hd.1 z.symm) (fun z => hd.2.2.1 z.symm)), fr.get h.pa (ins h.pa (fun _ _ z => nomatch z) (fun z => hd.2.1 z.symm) (fun z => hd.2.2.2 z.symm)), h.ne, fun e he => ?_, h.nd, h.kd⟩
  obtain ⟨w1, h1, h2⟩ := h.at_ e he
  exact ⟨w1, fr.get h1 (ins h1 (fun _ _ z => nomatch z) (kd h1 hm.lk (fun z => nomatch z)) (kd h1 hm.pa (fun z => nomatch z))), fr.get h2 (ls _ _ h2)⟩
end

/-! look-ups and stores -/
section
variable {C CL : Addr} {w : World} {sl dl dp ml el ep : Nat} {es : List Ent} {pa : List (PK × Int)} {S S1 : Sto} {l : Nat} {st : LSt} {k : K2} {x : PK} {a : Int} {e : Ent}
def atE (es : List Ent) (k : K2) : Option Ent := es.find? fun e => decide (e.1 = k)
theorem atE_some (h : atE es k = some e) : e ∈ es ∧ e.1 = k := ⟨List.mem_of_find?_eq_some h, by have := List.find?_some h; simpa using this⟩
theorem atE_none (h : atE es k = none) : k ∉ es.map (·.1) := by
  intro hm
  obtain ⟨y, hy, e⟩ := List.mem_map.mp hm
  have := List.find?_eq_none.mp h y hy
  simp [e] at this
def setE (es : List Ent) (k : K2) (st : LSt) : List Ent := es.map fun e => if e.1 = k then (e.1, st, e.2.2) else e
theorem setE_lk : fLk (setE es k st) = fLk es := by
  unfold fLk setE
  rw [List.map_map]
  refine List.map_congr_left fun y _ => ?_
  show ((if y.1 = k then (y.1, st, y.2.2) else y).1, D.ref (if y.1 = k then (y.1, st, y.2.2) else y).2.2) = (y.1, .ref y.2.2)
  by_cases h : y.1 = k <;> simp [h]
theorem setE_k : (setE es k st).map (·.1) = es.map (·.1) := by
  unfold setE
  rw [List.map_map]
  refine List.map_congr_left fun y _ => ?_
  show (if y.1 = k then (y.1, st, y.2.2) else y).1 = y.1
  by_cases h : y.1 = k <;> simp [h]
theorem setE_l : (setE es k st).map (·.2.2) = es.map (·.2.2) := by
  unfold setE
  rw [List.map_map]
  refine List.map_congr_left fun y _ => ?_
  show (if y.1 = k then (y.1, st, y.2.2) else y).2.2 = y.2.2
  by_cases h : y.1 = k <;> simp [h]
theorem nd_inj {α β : Type} {f : α → β} {xs : List α} (h : (xs.map f).Nodup) {a b : α} (ha : a ∈ xs) (hb : b ∈ xs) (e : f a = f b) : a = b := by
  induction xs with
  | nil => cases ha
  | cons x xs ih =>
    rw [List.map_cons, List.nodup_cons] at h
    rcases List.mem_cons.mp ha with h1 | h1
    · rcases List.mem_cons.mp hb with h2 | h2
      · exact h1.trans h2.symm
      · exact absurd (by rw [← h1, e]; exact List.mem_map_of_mem (f := f) h2) h.1
    · rcases List.mem_cons.mp hb with h2 | h2
      · exact absurd (by rw [← h2, ← e]; exact List.mem_map_of_mem (f := f) h1) h.1
      · exact ih h.2 h1 h2
/-- a lock has changed -/
theorem PR.upd (h : PR C CL w sl dl dp es pa S) (he : atE es k = some e) (fr : Fr S S1 (fun i => i = e.2.2)) (ha : LkAt CL e.2.2 st S1) : PR C CL w sl dl dp (setE es k st) pa S1 := by
  obtain ⟨hm, hk⟩ := atE_some he
  obtain ⟨w0, g1, g2⟩ := h.at_ e hm
  have kd : ∀ {i : Nat} {c : Cell}, S[i]? = some c → (∀ st w, c ≠ lkS CL st w) → ¬ i = e.2.2 := fun h1 hne => ne_of_cell h1 g1 (hne _ _)
  refine ⟨fr.get h.ob (kd h.ob fun _ _ z => by unfold shc lkS lkC shf lkF at z; injection z with _ z; injection z with _ z; injection z with _ z; cases z), by rw [setE_lk]; exact fr.get h.lk (kd h.lk fun _ _ z => nomatch z), fr.get h.pa (kd h.pa fun _ _ z => nomatch z), h.ne, fun y hy => ?_, by rw [setE_l]; exact h.nd, by rw [setE_k]; exact h.kd⟩
  obtain ⟨x, hx, rfl⟩ := List.mem_map.mp hy
  by_cases hxk : x.1 = k
  · rw [if_pos hxk]
    have : x = e := nd_inj h.kd hx hm (hxk.trans hk.symm)
    rw [this]; exact ha
  · rw [if_neg hxk]
    refine (h.at_ x hx).keep fr (fun z => hxk ?_) fun i xs hi => kd hi fun _ _ z => nomatch z
    rw [nd_inj h.nd hx hm z]; exact hk
theorem MR.upd (h : MR w ml el ep es pa S) (he : atE es k = some e) (fr : Fr S S1 (fun i => i = e.2.2)) (ha : MdAt e.2.2 st S1) : MR w ml el ep (setE es k st) pa S1 := by
  obtain ⟨hm, hk⟩ := atE_some he
  obtain ⟨w0, g1, g2⟩ := h.at_ e hm
  have kd : ∀ {i : Nat} {c : Cell}, S[i]? = some c → (∀ st w, c ≠ mdS st w) → ¬ i = e.2.2 := fun h1 hne => ne_of_cell h1 g1 (hne _ _)
  refine ⟨fr.get h.ob (kd h.ob fun _ _ z => by unfold smC mdS mdC smF mdF at z; injection z with z; injection z with _ z; injection z with _ z; cases z), by rw [setE_lk]; exact fr.get h.lk (kd h.lk fun _ _ z => nomatch z), fr.get h.pa (kd h.pa fun _ _ z => nomatch z), h.ne, fun y hy => ?_, by rw [setE_l]; exact h.nd, by rw [setE_k]; exact h.kd⟩
  obtain ⟨x, hx, rfl⟩ := List.mem_map.mp hy
  by_cases hxk : x.1 = k
  · rw [if_pos hxk]
    have : x = e := nd_inj h.kd hx hm (hxk.trans hk.symm)
    rw [this]; exact ha
  · rw [if_neg hxk]
    refine (h.at_ x hx).keep fr (fun z => hxk ?_) fun i xs hi => kd hi fun _ _ z => nomatch z
    rw [nd_inj h.nd hx hm z]; exact hk
end

theorem PR.app {C CL : Addr} {w : World} {sl dl dp : Nat} {es : List Ent} {pa : List (PK × Int)} {S T : Sto} (h : PR C CL w sl dl dp es pa S) : PR C CL w sl dl dp es pa (S ++ T) :=
  ⟨app_get h.ob, app_get h.lk, app_get h.pa, h.ne, fun e he => let ⟨w1, h1, h2⟩ := h.at_ e he; ⟨w1, app_get h1, app_get h2⟩, h.nd, h.kd⟩
theorem MR.app {w : World} {ml el ep : Nat} {es : List Ent} {pa : List (PK × Int)} {S T : Sto} (h : MR w ml el ep es pa S) : MR w ml el ep es pa (S ++ T) :=
  ⟨app_get h.ob, app_get h.lk, app_get h.pa, h.ne, fun e he => let ⟨w1, h1, h2⟩ := h.at_ e he; ⟨w1, app_get h1, app_get h2⟩, h.nd, h.kd⟩
/-- what was given back has changed -/
theorem PR.give {C CL : Addr} {w : World} {sl dl dp : Nat} {es : List Ent} {pa pa2 : List (PK × Int)} {S : Sto} (h : PR C CL w sl dl dp es pa S) : PR C CL w sl dl dp es pa2 (S.set dp (.dn w (kKT.enc (fPa pa2)))) := by
  have kd : ∀ {i : Nat} {c : Cell}, S[i]? = some c → (∀ kvs, c ≠ .dn w kvs) → i ≠ dp := fun h1 hne => ne_of_cell h1 h.pa (hne _)
  have st : ∀ {i : Nat} {c : Cell}, S[i]? = some c → (∀ kvs, c ≠ .dn w kvs) → (S.set dp (.dn w (kKT.enc (fPa pa2))))[i]? = some c := fun h1 hne => by rw [List.getElem?_set_ne (fun z => kd h1 hne z.symm)]; exact h1
  exact ⟨st h.ob (fun _ z => nomatch z), by rw [List.getElem?_set_ne (fun z => h.ne z.symm)]; exact h.lk, set_get h.pa, h.ne, fun e he => let ⟨w1, h1, h2⟩ := h.at_ e he; ⟨w1, st h1 (fun _ z => nomatch z), st h2 (fun _ z => nomatch z)⟩, h.nd, h.kd⟩
theorem MR.give {w : World} {ml el ep : Nat} {es : List Ent} {pa pa2 : List (PK × Int)} {S : Sto} (h : MR w ml el ep es pa S) : MR w ml el ep es pa2 (S.set ep (.dn w (kKT.enc (fPa pa2)))) := by
  have kd : ∀ {i : Nat} {c : Cell}, S[i]? = some c → (∀ kvs, c ≠ .dn w kvs) → i ≠ ep := fun h1 hne => ne_of_cell h1 h.pa (hne _)
  have st : ∀ {i : Nat} {c : Cell}, S[i]? = some c → (∀ kvs, c ≠ .dn w kvs) → (S.set ep (.dn w (kKT.enc (fPa pa2))))[i]? = some c := fun h1 hne => by rw [List.getElem?_set_ne (fun z => kd h1 hne z.symm)]; exact h1
  exact ⟨st h.ob (fun _ z => nomatch z), by rw [List.getElem?_set_ne (fun z => h.ne z.symm)]; exact h.lk, set_get h.pa, h.ne, fun e he => let ⟨w1, h1, h2⟩ := h.at_ e he; ⟨w1, st h1 (fun _ z => nomatch z), st h2 (fun _ z => nomatch z)⟩, h.nd, h.kd⟩
theorem PR.add {C CL : Addr} {w : World} {sl dl dp : Nat} {es : List Ent} {pa : List (PK × Int)} {S : Sto} {k : K2} (h : PR C CL w sl dl dp es pa S) (hk : atE es k = none) :
    PR C CL w sl dl dp (es ++ [(k, st0, S.length)]) pa (S.set dl (.dn w (kK.enc (fLk (es ++ [(k, st0, S.length)])))) ++ [lkS CL st0 (S.length + 1), .lst (eWs [])]) := by
  have kd : ∀ {i : Nat} {c : Cell}, S[i]? = some c → (∀ kvs, c ≠ .dn w kvs) → i ≠ dl := fun h1 hne => ne_of_cell h1 h.lk (hne _)
  have st : ∀ {i : Nat} {c d : Cell} {T : Sto}, S[i]? = some c → (∀ kvs, c ≠ .dn w kvs) → (S.set dl d ++ T)[i]? = some c := fun h1 hne => app_get (by rw [List.getElem?_set_ne (fun z => kd h1 hne z.symm)]; exact h1)
  refine ⟨st h.ob (fun _ z => nomatch z), app_get (set_get h.lk), app_get (by rw [List.getElem?_set_ne h.ne]; exact h.pa), h.ne, fun e he => ?_, ?_, ?_⟩
  · rcases List.mem_append.mp he with he | he
    · obtain ⟨w1, h1, h2⟩ := h.at_ e he
      exact ⟨w1, st h1 (fun _ z => nomatch z), st h2 (fun _ z => nomatch z)⟩
    · rw [List.mem_singleton.mp he]
      exact ⟨S.length + 1, by rw [get_apps0]; rfl, by rw [get_apps]; rfl⟩
  · rw [List.map_append, List.nodup_append]
    refine ⟨h.nd, by simp, fun a ha b hb z => ?_⟩
    rw [List.mem_singleton.mp hb] at z
    obtain ⟨e, he, rfl⟩ := List.mem_map.mp ha
    obtain ⟨w1, h1, _⟩ := h.at_ e he
    have := (List.getElem?_eq_some_iff.mp h1).1
    have z : e.2.2 = S.length := z
    omega
  · rw [List.map_append, List.nodup_append]
    refine ⟨h.kd, by simp, fun a ha b hb z => ?_⟩
    rw [List.mem_singleton.mp hb] at z
    exact atE_none hk (by rw [← show a = k from z]; exact ha)
theorem MR.add {w : World} {ml el ep : Nat} {es : List Ent} {pa : List (PK × Int)} {S : Sto} {k : K2} (h : MR w ml el ep es pa S) (hk : atE es k = none) :
    MR w ml el ep (es ++ [(k, st0, S.length)]) pa (S.set el (.dn w (kK.enc (fLk (es ++ [(k, st0, S.length)])))) ++ [mdS st0 (S.length + 1), .lst (eWs [])]) := by
  have kd : ∀ {i : Nat} {c : Cell}, S[i]? = some c → (∀ kvs, c ≠ .dn w kvs) → i ≠ el := fun h1 hne => ne_of_cell h1 h.lk (hne _)
  have st : ∀ {i : Nat} {c d : Cell} {T : Sto}, S[i]? = some c → (∀ kvs, c ≠ .dn w kvs) → (S.set el d ++ T)[i]? = some c := fun h1 hne => app_get (by rw [List.getElem?_set_ne (fun z => kd h1 hne z.symm)]; exact h1)
  refine ⟨st h.ob (fun _ z => nomatch z), app_get (set_get h.lk), app_get (by rw [List.getElem?_set_ne h.ne]; exact h.pa), h.ne, fun e he => ?_, ?_, ?_⟩
  · rcases List.mem_append.mp he with he | he
    · obtain ⟨w1, h1, h2⟩ := h.at_ e he
      exact ⟨w1, st h1 (fun _ z => nomatch z), st h2 (fun _ z => nomatch z)⟩
    · rw [List.mem_singleton.mp he]
      exact ⟨S.length + 1, by rw [get_apps0]; rfl, by rw [get_apps]; rfl⟩
  · rw [List.map_append, List.nodup_append]
    refine ⟨h.nd, by simp, fun a ha b hb z => ?_⟩
    rw [List.mem_singleton.mp hb] at z
    obtain ⟨e, he, rfl⟩ := List.mem_map.mp ha
    obtain ⟨w1, h1, _⟩ := h.at_ e he
    have := (List.getElem?_eq_some_iff.mp h1).1
    have z : e.2.2 = S.length := z
    omega
  · rw [List.map_append, List.nodup_append]
    refine ⟨h.kd, by simp, fun a ha b hb z => ?_⟩
    rw [List.mem_singleton.mp hb] at z
    exact atE_none hk (by rw [← show a = k from z]; exact ha)
/-- what an operation on the shelf leaves -/
structure POut (C CL : Addr) (w : World) (sl dl dp : Nat) (S : Sto) (q : List (K2 × LSt) × List (PK × Int) × List D) (x : R D) : Prop where
  ex : ∃ S1 r es1, x = .ok (.ref r) S1 ∧ PR C CL w sl dl dp es1 q.2.1 S1 ∧ stp es1 = q.1 ∧ Fr S S1 (PFt CL dl dp S) ∧ S1[r]? = some (.lst q.2.2) ∧ ∃ S0, PR C CL w sl dl dp es1 q.2.1 S0 ∧ Fr S0 S1 (fun _ => False) ∧ S.length ≤ S0.length ∧ S0.length ≤ r
structure MOut (w : World) (ml el ep : Nat) (S : Sto) (q : List (K2 × LSt) × List (PK × Int) × List D) (x : R D) : Prop where
  ex : ∃ S1 r es1, x = .ok (.ref r) S1 ∧ MR w ml el ep es1 q.2.1 S1 ∧ stp es1 = q.1 ∧ Fr S S1 (MF el ep S) ∧ S1[r]? = some (.lst q.2.2) ∧ S.length ≤ r

/-! data that compare with themselves -/
def gd : Nat → D → Bool
  | _, .non => true
  | _, .bl _ => true
  | _, .int _ => true
  | _, .str x => PyData.strOk x
  | n + 1, .tup xs => xs.all (gd n)
  | _, _ => false
theorem gd_toP : ∀ (n : Nat) (d : D), gd n d = true → ∃ p, (∀ (S : Sto) (k : Nat), n ≤ k → toP S k d = some p) ∧ PyData.eqv p p = true := by
  intro n
  induction n with
  | zero =>
    intro d h
    cases d with
    | non => exact ⟨.none, fun S k _ => by cases k <;> rfl, by simp [PyData.eqv]⟩
    | bl b => exact ⟨.bool b, fun S k _ => by cases k <;> rfl, by simp [PyData.eqv]⟩
    | int i => exact ⟨.int i, fun S k _ => by cases k <;> rfl, by simp [PyData.eqv]⟩
    | str x => exact ⟨.str x, fun S k _ => by rw [toP_str, if_pos (by simpa [gd] using h)], by simp [PyData.eqv]⟩
    | _ => simp [gd] at h
  | succ n ih =>
    intro d h
    cases d with
    | non => exact ⟨.none, fun S k _ => by cases k <;> rfl, by simp [PyData.eqv]⟩
    | bl b => exact ⟨.bool b, fun S k _ => by cases k <;> rfl, by simp [PyData.eqv]⟩
    | int i => exact ⟨.int i, fun S k _ => by cases k <;> rfl, by simp [PyData.eqv]⟩
    | str x => exact ⟨.str x, fun S k _ => by rw [toP_str, if_pos (by simpa [gd] using h)], by simp [PyData.eqv]⟩
    | tup xs =>
      have hx : ∀ x ∈ xs, gd n x = true := by simpa [gd] using h
      have key : ∀ xs : List D, (∀ x ∈ xs, gd n x = true) → ∃ ps, (∀ (S : Sto) (k : Nat), n ≤ k → xs.mapM (toP S k) = some ps) ∧ PyData.eqvAll ps ps = true := by
        intro xs
        induction xs with
        | nil => intro _; exact ⟨[], fun S k _ => rfl, by simp [PyData.eqvAll]⟩
        | cons x xs ihx =>
          intro hx
          obtain ⟨p, h1, h2⟩ := ih x (hx x (List.mem_cons_self ..))
          obtain ⟨ps, h3, h4⟩ := ihx fun y hy => hx y (List.mem_cons_of_mem _ hy)
          exact ⟨p :: ps, fun S k hk => by rw [toP_mapM_cons, h1 S k hk, h3 S k hk]; rfl, by simp [PyData.eqvAll, h2, h4]⟩
      obtain ⟨ps, h1, h2⟩ := key xs hx
      refine ⟨.tuple ps, fun S k hk => ?_, by simpa [PyData.eqv] using h2⟩
      cases k with
      | zero => omega
      | succ k => rw [toP_tup, h1 S k (by omega)]; rfl
    | _ => simp [gd] at h
theorem gds {xs : List D} (h : ∀ x ∈ xs, gd 15 x = true) : ∃ ps, (∀ S : Sto, xs.mapM (toP S 19) = some ps) ∧ PyData.eqv (.tuple ps) (.tuple ps) = true ∧ PyData.eqv (.list ps) (.list ps) = true := by
  induction xs with
  | nil => exact ⟨[], fun S => rfl, by simp [PyData.eqv, PyData.eqvAll], by simp [PyData.eqv, PyData.eqvAll]⟩
  | cons x xs ih =>
    obtain ⟨p, h1, h2⟩ := gd_toP 15 x (h x (List.mem_cons_self ..))
    obtain ⟨ps, h3, h4, h5⟩ := ih fun y hy => h y (List.mem_cons_of_mem _ hy)
    refine ⟨p :: ps, fun S => by rw [toP_mapM_cons, h1 S 19 (by omega), h3 S]; rfl, ?_, ?_⟩
    · simp only [PyData.eqv, PyData.eqvAll] at h4 ⊢; rw [h2, h4]; rfl
    · simp only [PyData.eqv, PyData.eqvAll] at h5 ⊢; rw [h2, h5]; rfl
def rowD (sh : List (K2 × LSt)) (k : K2) : D := match valK sh k with
  | some st => .tup [eK k, .int st.v, .int st.t, eH st.h]
  | none => .non
def rowsD (sh : List (K2 × LSt)) : List D := (kK.sort (sh.map (·.1))).map (rowD sh)
def pastD (pa : List (PK × Int)) : List D := (kKT.sort (pa.map (·.1))).map fun x => .tup [eK x.1, eT x.2, .int (pastG pa x)]
theorem PR.fr0 {C CL : Addr} {w : World} {sl dl dp : Nat} {es : List Ent} {pa : List (PK × Int)} {S S1 : Sto} (h : PR C CL w sl dl dp es pa S) (f : Fr S S1 (fun _ => False)) : PR C CL w sl dl dp es pa S1 :=
  ⟨f.get h.ob id, f.get h.lk id, f.get h.pa id, h.ne, fun e he => let ⟨w1, h1, h2⟩ := h.at_ e he; ⟨w1, f.get h1 id, f.get h2 id⟩, h.nd, h.kd⟩
theorem MR.fr0 {w : World} {ml el ep : Nat} {es : List Ent} {pa : List (PK × Int)} {S S1 : Sto} (h : MR w ml el ep es pa S) (f : Fr S S1 (fun _ => False)) : MR w ml el ep es pa S1 :=
  ⟨f.get h.ob id, f.get h.lk id, f.get h.pa id, h.ne, fun e he => let ⟨w1, h1, h2⟩ := h.at_ e he; ⟨w1, f.get h1 id, f.get h2 id⟩, h.nd, h.kd⟩
/-- what is fit for the rows -/
def okSh (sh : List (K2 × LSt)) (pa : List (PK × Int)) : Prop := (∀ e ∈ sh, PyData.strOk e.1.2 = true) ∧ ∀ x ∈ pa, PyData.strOk x.1.1.2 = true
def gcompK (is : List Nat) (pt : D → Lc → Option Lc) (ft : BF) (fe : EF) (env : Lc) : It' → Sto → R D := fun it S1 => match it with
  | .fix xs => gcompX pt ft fe (unset is env) xs [] S1
  | .live n xs => gcompL n pt ft fe (unset is env) xs 0 [] S1
theorem o_kTe {k : Int × Int} : kT.e k = eT k := (rfl)
end RF

/-! tuple * int; == of lists of other lengths -/
namespace RF
open PySem L2
section
variable {K : PySem.W.Frag} {L : List Addr} {H : Hp}
theorem RDs.rep {vs : List V} {xs : List D} (r : RDs K L H vs xs) : ∀ k : Nat, RDs K L H (List.replicate k vs).flatten (List.replicate k xs).flatten
  | 0 => .nil
  | k + 1 => by
    rw [List.replicate_succ, List.replicate_succ, List.flatten_cons, List.flatten_cons]
    exact r.append (RDs.rep r k)
end
def oMulT : Op2 := fun x y S => match x, y with
  | .tup xs, .int k => if xs ≠ [] ∧ 2 ≤ k ∧ k ≤ 1000 ∧ xs.length ≤ 1000 then .ok (.tup (List.replicate k.toNat xs).flatten) S else .bad
  | _, _ => .bad
def rEqLen (K : PySem.W.Frag) : R2 := fun x y H Q => ∃ a b xs ys, x = .ref a ∧ y = .ref b ∧ SqL K H a xs ∧ SqL K H b ys ∧ xs.length ≠ ys.length ∧ Q (.bl false) H
theorem op_eqLen {X : Cx} (hu : X.A.units < cLine) : OpR X (compareOp .Eq) (rEqLen X.K) := by
  intro pins s σ H x y v u Q I rx ry h
  obtain ⟨a, b, xs, ys, rfl, rfl, ha, hb, hne, q⟩ := h
  cases (show v = Value.ref a from rx)
  cases (show u = Value.ref b from ry)
  obtain ⟨us, r1, p1, _⟩ := I.list ha
  obtain ⟨ws, r2, p2, _⟩ := I.list hb
  have hsz : (us.toArray.size != ws.toArray.size) = true := by
    rw [List.size_toArray, List.size_toArray, ← r1.length, ← r2.length]
    simpa using hne
  exact SeqAt.RcAt.lists_lengths p1.isList p2.isList hsz hu X.prog X.w _ _ ⟨.bl false, H, I, rfl, q⟩
def oEqL : Op2 := fun x y S => match x, y with
  | .ref n, .ref m => match S[n]?, S[m]? with
    | some (.lst xs), some (.lst ys) => if xs.length = ys.length then oEq x y S else .ok (.bl false) S
    | _, _ => .bad
  | _, _ => .bad
def rEqLD (K : PySem.W.Frag) : R2 := fun x y H Q => rEqLen K x y H Q ∨ rEqD K x y H Q
theorem op_eqLD {X : Cx} (hu : X.A.units + 64 < cLine) : OpR X (compareOp .Eq) (rEqLD X.K) := (op_eqLen (by omega)).or (op_eqD hu)
theorem f_eqL {K : PySem.W.Frag} {E : XK} : OpF K E (rEqLD K) oEqL := by
  intro L H S x y d1 d2 Q rep r1 r2 q
  cases r1 with
  | @ref a n ha =>
    cases r2 with
    | @ref b m hb =>
      obtain ⟨c, hc, rc⟩ := rep.adr ha
      obtain ⟨c2, hc2, rc2⟩ := rep.adr hb
      unfold oEqL at q
      simp only [hc, hc2] at q
      cases c with
      | lst xs =>
        cases c2 with
        | lst ys =>
          simp only at q
          obtain ⟨vs, hv, rv⟩ := id rc
          obtain ⟨ws, hw, rw'⟩ := id rc2
          by_cases hl : xs.length = ys.length
          · rw [if_pos hl] at q
            exact .inr (f_eq _ _ _ _ _ _ _ _ rep (.ref ha) (.ref hb) q)
          · rw [if_neg hl] at q
            exact .inl ⟨a, b, vs, ws, rfl, rfl, .of hv, .of hw, by rw [rv.length, rw'.length]; exact hl, EndV.val q rep (.bl _)⟩
        | _ => exact q.elim
      | _ => exact q.elim
    | _ => exact q.elim
  | _ => exact q.elim
section
variable {S : Sto} {n m : Nat} {xs ys : List D} {k : Int} {a b : D}
theorem eqL_ne (h1 : S[n]? = some (.lst xs)) (h2 : S[m]? = some (.lst ys)) (h : ¬ xs.length = ys.length) : oEqL (.ref n) (.ref m) S = .ok (.bl false) S := by
  unfold oEqL
  simp only [h1, h2, if_neg h]
theorem eqL_00 (h1 : S[n]? = some (.lst [])) (h2 : S[m]? = some (.lst [])) : oEqL (.ref n) (.ref m) S = .ok (.bl true) S := by
  unfold oEqL
  simp only [h1, h2, if_true]
  rw [o_eq, show (20 : Nat) = 19 + 1 from rfl, toP_ref, toP_ref, h1, h2, toPC_lst, toP_mapM_nil]
  show (eqK S (some (.list [])) (some (.list []))) = _
  rw [eqK_some]
  simp [PyData.eqv, PyData.eqvAll]
end
end RF

/-! d.get(k) of dicts whose keys are tuples of any form (nested): in, [], get, [] =, list(d), len(d), {} -/
namespace RF
open PySem L2
section
variable {X : Cx} {pins : List (Addr × Obj)} {σ : St} {H : Hp} {s : Shared} {a b : Addr} {zs : List ZN} {k : NestedKey} {u : Value} {A : Around} {E : Value → Shared → Prop}
/-- d.get(k) -/
theorem n_get1 {Q : Value → Shared → Prop} (hu : A.units + 65 < cLine) (I : Inv X pins σ H s) (e : Rd H a (dnO X.w a zs)) (hz : ZOk H zs) (hk : NK H k (.ref b)) (hd : k.depth ≤ 8) (h : ∀ w' s', Inv X pins σ H s' → RelV ((valZ zs k).getD .non) w' → Q w' s') :
    wpAny (model X.prog X.w) A (call (.builtin "dict.get") [.ref a, .ref b]) Q E s := by
  obtain ⟨q1, q2, xs, r, dd⟩ := dn_of I.hok e hz
  refine call_meetsIn PySem.F.slot_dict_get dd.typeIs PySem.F.entry_dict_get (PySem.F.args_dict_get_2 _ _) (meetsH_dict_get (nestedKind X.prog X.w) a b q1) ⟨nroom hu, k, xs, ⟨nk_is I.hok hk rfl, hd⟩, dd, h _ _ (I.tok _) ?_⟩
  exact (zx_val r k).getD rfl
end
section
variable {X : Cx} {E : XK} {o i e f : Expr} {fo fi fk fx : EF} {pos apos cpos : Pos}
theorem xGetN1 (hu : X.A.units + 65 < cLine) (ho : PE X o (tE X.K E fo)) (he : PE X e (tE X.K E fk)) (m : M1 X o "get" apos e cpos) : PE X (.Call (.Attribute o "get" apos) [e] [] cpos) (tE X.K E (fGetN X.w fo fk (fC .non))) := by
  refine ⟨fun pins s σ H Q I h => ?_⟩
  obtain ⟨L, env, S, rep, re, h⟩ := h
  refine wpAny_Call_method m.base m.few m.line PySem.F.plainAttrs_dict PySem.F.slot_dict_get PySem.F.type_dict_get (thn (ho.run pins s σ H (fun x H1 => ∃ a w' zs', x = .ref a ∧ Rd H1 a (dnO w' a zs') ∧ tE X.K E fk σ H1 fun y H2 =>
      ∃ b zs k, y = .ref b ∧ Rd H2 a (dnO X.w a zs) ∧ ZOk H2 zs ∧ NK H2 k (.ref b) ∧ k.depth ≤ 8 ∧ Q ((valZ zs k).getD .non) H2) I
    ⟨L, env, S, rep, re, (End.bind h).imp fun x S1 L1 H1 e1 rep1 h1 v rv => ?_⟩) fun u s1 ⟨x, H1, I1, rx, a, w', zs', ex, ea, q1⟩ => ?_)
  · by_cases hn : isN S1 x = true
    · rw [if_pos hn] at h1
      obtain ⟨a, w', zs', rfl, ea⟩ := isN_of rep1 rv hn
      refine ⟨a, w', zs', rfl, ea, L1, env, S1, rep1, re.mono e1, (End.bind h1).imp fun y S2 L2 H2 e2 rep2 h2 u ru => ?_⟩
      have h3 : EndV X.K E L2 H2 Q (getN X.w x y .non S2) := h2
      unfold getN at h3
      cases hl : lookN X.w S2 x y with
      | none => rw [hl] at h3; exact h3.elim
      | some r =>
        rw [hl] at h3
        simp only at h3
        obtain ⟨a', b, zs, k, ea', rfl, e, hz, hk, hd, r⟩ := lookN_of rep2 (rv.mono e2) ru hl
        cases ea'
        refine ⟨b, zs, k, rfl, e, hz, hk, hd, EndV.val h3 rep2 ?_⟩
        rcases r with ⟨z1, z2⟩ | ⟨d', z', z1, z2, z3⟩
        · rw [z1, z2]; exact .non
        · rw [z1, z2]; exact z3
    · rw [if_neg hn] at h1; exact h1.elim
  · subst ex
    obtain rfl : u = Value.ref a := rx
    obtain ⟨t1, t2, _⟩ := n_type I1.hok ea
    refine ⟨t1, t2, ?_⟩
    rw [m.trees]
    refine Calls.callWith_builtin rfl (Calls.evalArgs_plain (Calls.spliced_cons (thn (he.run pins s1 σ H1 _ I1 q1) fun iv s2 ⟨y, H2, I2, ry, b, zs, k, ey, e, hz, hk, hd, q3⟩ => Calls.spliced_nil ?_)))
    subst ey
    obtain rfl : iv = Value.ref b := ry
    exact n_get1 hu I2 e hz hk hd fun w' s4 I4 rw' => ⟨_, H2, I4, rw', q3⟩
end
end RF

/-! t[::-1], t a tuple -/
namespace RF
open PySem PySem.Spec PyProof.Rows
section
variable {prog : Program} {w : World} {A : Around} {E : Value → Shared → Prop} {s : Shared}
end
end RF
namespace RF
open PySem L2 PySem.Spec PyProof.Rows
def revK : D → Sto → R D := fun x S => match x with
  | .tup xs => .ok (.tup xs.reverse) S
  | _ => .bad
def fRev (fa : EF) : EF := fun env S => (fa env S).bind revK
section
variable {K : PySem.W.Frag} {L : List Addr} {H : Hp}
end
section
variable {fa : EF} {env : Lc} {S : Sto} {xs : List D}
end
end RF

/-! max of a list of data; list(range(n)); l.pop(i) -/
namespace RF
open PySem L2
def rMaxD (K : PySem.W.Frag) : List V → Hp → VK → Prop := fun vs H Q => ∃ (a : Addr) (bs : List VDP) (x : PyData) (ps : List PyData), vs = [V.ref a] ∧ SqL K H a (bs.map (·.1)) ∧ DpAll K H (bs.map (·.1)) (bs.map (·.2.2)) ∧ bs.map (·.2.2) = x :: ps ∧ PySem.W.AlikeAll (x :: ps) ∧
  PyData.depthAll (x :: ps) ≤ 60 ∧ PyData.canLayAll0 (x :: ps) = true ∧ ∀ b ∈ bs, b.2.2 = PySem.W.maxD x ps → Q b.1 H
theorem call_max1D {X : Cx} (hc : X.calm = true) (hu : X.A.units + 65 < cLine) : CallR X (.builtin "max") (rMaxD X.K) := by
  intro pins s σ H vs us Q I r h
  obtain ⟨a, bs, x, ps, rfl, hs, hd, e, hal, hdep, hlay, q⟩ := h
  obtain ⟨its, rv, hl, _⟩ := I.list hs
  rw [Vals.ref1 r]
  rw [e] at hd
  obtain ⟨as, hr⟩ := Dp.readsAll I _ _ its hd rv
  refine PySem.W.max_list_data (I.ok.hd hc) hl.isList (vs := its.toArray) hr hal (by omega) fun i v h' tk bs' hv hr2 hk => ?_
  have hv' : its[i]? = some v := by simpa using hv
  obtain ⟨y, hy, ry⟩ := vals_at rv hv'
  rw [List.getElem?_map] at hy
  obtain ⟨b, hb, rfl⟩ := Option.map_eq_some_iff.mp hy
  obtain ⟨cs, r3, hi, hm, _⟩ := PySem.W.readsAll_atA (vs := its.toArray) hr i v hv
  have e1 : (x :: ps).getD i .none = b.2.2 := by
    rw [← e, List.getD_eq_getElem?_getD, List.getElem?_map, hb]; rfl
  rw [e1] at r3 hm
  refine ⟨b.1, H, I.kept hk, ry, q b (List.mem_of_getElem? hb) ?_⟩
  exact PySem.SeqAt.Reads.unique _ _ v _ _ (lay_mem hlay _ hm) (PySem.W.reads_keeps hk r3) hr2
def oMax1 : OpN := fun ds S => match ds with
  | [x] => match lstD S x with
    | some xs => match xs.mapM (toP S 20) with
      | some (p :: ps) => if likeB (p :: ps) = true ∧ notNoneB (p :: ps) = true ∧ pureTs xs = true then .ok (toD (PySem.W.maxD p ps)) S else .bad
      | _ => .bad
    | none => .bad
  | _ => .bad
section
variable {K : PySem.W.Frag} {E : XK}
theorem f_max1 : CaF K E (rMaxD K) oMax1 := by
  intro L H S xs ds Q rep rs q
  match ds, rs, q with
  | [], _, q => exact q.elim
  | _ :: _ :: _, _, q => exact q.elim
  | [d], rs, q =>
    obtain ⟨x, rfl, r⟩ := rs.one
    unfold oMax1 at q
    simp only at q
    cases h : lstD S d with
    | none => rw [h] at q; exact q.elim
    | some ys =>
      rw [h] at q
      simp only at q
      cases h2 : ys.mapM (toP S 20) with
      | none => rw [h2] at q; exact q.elim
      | some ps =>
        rw [h2] at q
        cases ps with
        | nil => exact q.elim
        | cons p ps =>
          simp only at q
          by_cases hc : likeB (p :: ps) = true ∧ notNoneB (p :: ps) = true ∧ pureTs ys = true
          · rw [if_pos hc] at q
            obtain ⟨a, vs, rfl, rv, k⟩ := lstD_of rep r h
            obtain ⟨hdp, hlay, hdep⟩ := toPs_of 20 (toP_of rep 20) rv h2
            have hlen : ys.length = (p :: ps).length := by
              rw [← rv.length]; exact dpAll_len hdp
            obtain ⟨bs, e1, e2, e3, e4⟩ := triples rv hlen
            refine ⟨a, bs, p, ps, rfl, by rw [e1]; exact k, by rw [e1, e3]; exact hdp, e3, ⟨likeB_of hc.1, fun z hz => ?_⟩, by omega, hlay, fun b hb hm => ?_⟩
            · have := List.all_eq_true.mp hc.2.1 z hz
              intro e
              rw [e] at this
              cases this
            · have hz : b.2 ∈ ys.zip (p :: ps) := by rw [← e2]; exact List.mem_map_of_mem (f := fun b : VDP => b.2) hb
              have ht := mapM_zip h2 _ hz
              have hpu : pureT b.2.1 = true := pureTs_mem hc.2.2 _ (List.of_mem_zip hz).1
              have e5 := toP_back 20 _ _ hpu ht
              rw [← hm, e5] at q
              exact EndV.val q rep (e4 b hb)
          · rw [if_neg hc] at q; exact q.elim
end
def mPopAt : OpM := fun x ds S => match x, ds with
  | .ref n, [.int i] => match S[n]? with
    | some (.lst xs) => if 0 ≤ i ∧ i < xs.length ∧ xs.length < 100000 then match xs[i.toNat]? with
      | some y => .ok y (S.set n (.lst (xs.eraseIdx i.toNat)))
      | none => .bad
      else .bad
    | _ => .bad
  | _, _ => .bad
section
variable {K : PySem.W.Frag} {E : XK}
end
def lstRgK : D → Sto → R D := fun d S => match d with
  | .int j => if 0 ≤ j ∧ j ≤ 1000 then .ok (.ref S.length) (S ++ [.lst (rngD 0 j.toNat)]) else .bad
  | _ => .bad
def fLstRg (fa : EF) : EF := fun env S => (fa env S).bind lstRgK
section
variable {fa : EF} {env : Lc} {S : Sto} {j : Int} {n : Nat} {xs : List D}
end
end RF

/-! a dict with nested keys stands still while it is walked: for k in d, [.. for k in d] -/
namespace RF
open PySem L2
section
variable {K : PySem.W.Frag} {E : XK} {L L1 : List Addr} {H H1 : Hp} {S S1 : Sto} {n : Nat} {a : Addr} {w : World} {zs : List ZN} {kvs : List (NestedKey × D)} {od : Obj}
theorem RE.growG {σ : St} {env : Lc} (r : RE K L H σ env) (e : Gr L H L1 H1) : RE K L1 H1 σ env := ⟨r.len, fun i d h => let ⟨v, h1, h2⟩ := r.val i d h; ⟨v, h1, h2.grow e⟩⟩
/-- what has been frozen .. -/
theorem Rep.ice (rep : Rep K L H S) (ha : L[n]? = some a) (hz : H a = some (dnO w a zs)) (rn : RN K L H zs kvs) (od : Obj) :
    Ex L H L (upd H a (.frz od (dnO w a zs))) ∧ Rep K L (upd H a (.frz od (dnO w a zs))) (S.set n (.df w kvs)) :=
  rep.write (c := .df w kvs) ha ⟨od, zs, upd_same, rn.grow (Gr.wr rep ha)⟩
/-- .. thaws -/
theorem Rep.thaw (rep : Rep K L1 H1 S1) (hL : L[n]? = some a) (hz : H a = some (dnO w a zs)) (ex : Ex L (upd H a (.frz od (dnO w a zs))) L1 H1) {w' : World} {kvs' : List (NestedKey × D)} (hc : S1[n]? = some (.df w' kvs')) :
    H1 a = some (.frz od (dnO w a zs)) ∧ Ex L H L1 (upd H1 a (dnO w a zs)) ∧ Gr L1 H1 L1 (upd H1 a (dnO w a zs)) ∧ Rep K L1 (upd H1 a (dnO w a zs)) (S1.set n (.dn w' kvs')) := by
  have hf : H1 a = some (.frz od (dnO w a zs)) := ex.fz _ _ _ upd_same
  have hL1 := ex.px _ _ hL
  have neq : ∀ b u, H b = some u → (∀ φ, u ≠ .ext φ) → b ≠ a := fun b u e hu z => by
    rw [z, hz] at e
    exact hu _ (Option.some.inj e).symm
  have neq1 : ∀ b u, H1 b = some u → (∀ o v, u = .frz o v → v ≠ dnO w a zs) → b ≠ a := fun b u e hu z => by
    rw [z, hf] at e
    exact hu _ _ (Option.some.inj e).symm rfl
  have gr : Gr L1 H1 L1 (upd H1 a (dnO w a zs)) := ⟨fun _ _ q => q, fun b xs q => by rw [upd_ne (neq1 b _ q (fun _ _ z => nomatch z))]; exact q, fun b o xs q => by
    rw [upd_ne (neq1 b _ q (fun _ _ z z2 => by cases z; cases z2))]; exact q⟩
  refine ⟨hf, ⟨ex.px, fun b hb => ?_, fun b o hb e => ?_, fun b xs e => ?_, fun b o u e => ?_⟩, gr, ?_⟩
  · rcases ex.nw b hb with h | h
    · exact .inl h
    · by_cases z : b = a
      · exact .inl (z ▸ List.mem_of_getElem? hL)
      · rw [upd_ne z] at h; exact .inr h
  · have z : b ≠ a := fun z => hb (z ▸ List.mem_of_getElem? hL)
    rw [upd_ne z]
    exact ex.fr b o hb (by rw [upd_ne z]; exact e)
  · have z := neq b _ e (fun _ z => nomatch z)
    rw [upd_ne z]
    exact ex.tp b xs (by rw [upd_ne z]; exact e)
  · have z := neq b _ e (fun _ z => nomatch z)
    rw [upd_ne z]
    exact ex.fz b o u (by rw [upd_ne z]; exact e)
  · refine ⟨by rw [List.length_set]; exact rep.len, rep.nd, fun m b c h1 h2 => ?_⟩
    by_cases hm : n = m
    · subst hm
      rw [hL1] at h1; cases h1
      rw [List.getElem?_set_self (by rw [← rep.len]; exact (List.getElem?_eq_some_iff.mp hL1).1)] at h2
      cases h2
      obtain ⟨od', zs', e, rn⟩ := rep.cel n a _ hL1 hc
      rw [hf] at e
      have e2 : dnO w a zs = dnO w' a zs' := by
        have := Option.some.inj e
        injection this
      exact ⟨zs', by rw [upd_same, e2], rn.grow gr⟩
    · rw [List.getElem?_set_ne hm] at h2
      refine (rep.cel m b c h1 h2).grow gr (upd_ne fun z => hm ?_)
      obtain ⟨l1, e1⟩ := List.getElem?_eq_some_iff.mp hL1
      obtain ⟨l2, e2⟩ := List.getElem?_eq_some_iff.mp h1
      exact (List.getElem_inj rep.nd).mp (e1.trans (z.symm.trans e2.symm))
end
/-- the dict at n may change again -/
def thawR {α : Type} (n : Nat) : R α → R α
  | .ok a S => match S[n]? with
    | some (.df w kvs) => .ok a (S.set n (.dn w kvs))
    | _ => .bad
  | _ => .bad
theorem thawR_ok {α : Type} {n : Nat} {a : α} {S : Sto} : thawR n (.ok a S) = (match S[n]? with
    | some (.df w kvs) => .ok a (S.set n (.dn w kvs))
    | _ => .bad) := (rfl)
def fIce (fa : EF) (s : SF) : SF := fun env S => match fa env S with
  | .ok (.ref n) _ => match S[n]? with
    | some (.dn w kvs) => thawR n (s env (S.set n (.df w kvs)))
    | _ => .bad
  | _ => .bad
def fIceE (fa : EF) (f : EF) : EF := fun env S => match fa env S with
  | .ok (.ref n) _ => match S[n]? with
    | some (.dn w kvs) => thawR n (f env (S.set n (.df w kvs)))
    | _ => .bad
  | _ => .bad
def fIterN (fa : EF) : IF := fun env S => (fa env S).bind fun d S1 => match d with
  | .ref n => match S1[n]? with
    | some (.df w kvs) => .ok (.fix (keysN kvs)) S1
    | _ => .bad
  | _ => .bad
section
variable {X : Cx} {E : XK} {e : Expr} {st : Stmt} {fa f : EF} {s : SF}
theorem xIce (h : PS X st (tS X.K E s)) : PS X st (tS X.K E (fIce fa s)) := monoS (ps_lock h) fun D σ H h => by
  obtain ⟨L, env, S, rep, re, q⟩ := h
  unfold fIce at q
  split at q
  · rename_i n S0 _
    split at q
    · rename_i w kvs hn
      obtain ⟨a, ha, zs, hz, rn⟩ := rep.at hn
      refine ⟨a, _, hz, trivial, fun od => ?_⟩
      obtain ⟨ex, rep2⟩ := rep.ice ha hz rn od
      refine ⟨L, env, _, rep2, re.mono ex, ?_⟩
      cases hs : s env (S.set n (.df w kvs)) with
      | ok fl S1 =>
        rw [hs, thawR_ok] at q
        intro L1 H1 ex1 rep1
        split at q
        · rename_i w' kvs' hc
          obtain ⟨t1, t2, t3, t4⟩ := rep1.thaw ha hz ex1 hc
          have q := q L1 _ t2 t4
          cases fl with
          | nx e => exact fun σ' r => ⟨t1, q σ' (r.growG t3)⟩
          | rt d => exact fun v r => ⟨t1, q v (r.grow t3)⟩
          | bk e => exact fun σ' r => ⟨t1, q σ' (r.growG t3)⟩
          | ct e => exact fun σ' r => ⟨t1, q σ' (r.growG t3)⟩
        · exact q.elim
      | ex c S1 => rw [hs] at q; exact q.elim
      | bad => rw [hs] at q; exact q.elim
    · exact q.elim
  · exact q.elim
end
/-! the walk itself -/
/-- the keys of the frozen dict at d -/
def ItN (w : World) (d : Addr) (o : Obj) (zs : List ZN) : It :=
  ⟨fun i H => i < zs.length ∧ H d = some (.frz o (dnO w d zs)), fun i H x H' => (∃ z, zs[i]? = some z ∧ x = V.ref z.2.1) ∧ H' = H, fun i H => zs.length ≤ i ∧ H d = some (.frz o (dnO w d zs))⟩
section
variable {X : Cx} {pins : List (Addr × Obj)} {σ : St} {H : Hp} {s : Shared} {d : Addr} {o : Obj} {zs : List ZN} {w : World}
theorem ice_raw (I : Inv X pins σ H s) (h : H d = some (.frz o (dnO w d zs))) : (d == sysModules) = false ∧ s.heap.get? d = some o ∧ o.ExactDict ∧ ∃ (es : Array DictEntry) (ep : Nat), o.data = .dict es ep ∧ es.size = zs.length ∧
    ∀ (i : Nat) (z : ZN), zs[i]? = some z → ∃ en : DictEntry, es[i]? = some en ∧ en.key = .ref z.2.1 := by
  obtain ⟨hg, ⟨q1, _, xs, pr, o', es, ep, h1, h2, h3, h4, _⟩, _⟩ := I.hok d _ h
  have e : o' = o := by rw [h1] at hg; exact Option.some.inj hg
  subst e
  have l1 : es.size = xs.length := by rw [← Array.length_toList, h4, List.length_map]
  refine ⟨q1, h1, h2, es, ep, h3, l1.trans (Paired.length pr).symm, fun i z hz => ?_⟩
  obtain ⟨b, hb, _, e2, _⟩ := paired_get pr hz
  have q : es[i]? = (xs[i]?).map fun x => (⟨x.1.hash w, .ref x.2.1, x.2.2⟩ : DictEntry) := by rw [← Array.getElem?_toList, h4, List.getElem?_map]
  rw [hb] at q
  exact ⟨_, q, by rw [e2]⟩
theorem turn_ice {P : Program} {w0 : World} {K : PySem.W.Frag} {tg : Expr} {es : Array DictEntry} {ep : Nat} (it : Addr) (hod : o.data = .dict es ep) : Turn P w0 K tg (ItN w d o zs) [it] it (fun i h => h.IsKeyIter it d i zs.length ep) where
  mem := List.mem_cons_self ..
  obj := fun i h ⟨oi, k1, k2, k3⟩ b hb => by
    cases List.mem_singleton.mp hb
    exact ⟨oi, k1, fun v z => by rw [k3] at z; cases z⟩
  keep := fun i h h' k1 k2 => k1.at fun oi k3 => k2 it (List.mem_cons_self ..) oi k3
  item := by
    intro X e1 e2 e3 hc i pins s σ H E I hf k1 ⟨hi, hd⟩
    subst e1 e2 e3
    obtain ⟨a0, a1, a2, a3, a4, a5⟩ := hf it (List.mem_cons_self ..)
    obtain ⟨_, b1, b2, es', ep', b3, b4, b5⟩ := ice_raw I hd
    obtain ⟨rfl, rfl⟩ := dict_ep hod b3
    obtain ⟨en, c1, c2⟩ := b5 i zs[i] (List.getElem?_eq_getElem hi)
    refine next_key_item k1 b1 b3 b4 c1 fun h' k2 k3 => ?_
    have J : Inv X pins σ H { s with heap := h' } := Inv.turned (t' := s.toks) I (fun b ob hb k4 => (k3.2 b hb).trans k4) a0 a1 a3 a4 a5
    obtain ⟨oi, d1, d2, d3⟩ := id k2
    exact ⟨en.key, rfl, go_of (s := { s with heap := h' }) d1 d2 d3 (by decide) ⟨.ref zs[i].2.1, H, J, c2, ⟨⟨_, List.getElem?_eq_getElem hi, rfl⟩, rfl⟩, k2, fun b hb => (hf b hb).1⟩⟩
  done := by
    intro X e1 e2 e3 hc i pins s σ H E I hf k1 ⟨hi, hd⟩
    subst e1 e2 e3
    obtain ⟨a0, a1, a2, a3, a4, a5⟩ := hf it (List.mem_cons_self ..)
    obtain ⟨_, b1, b2, es', ep', b3, b4, b5⟩ := ice_raw I hd
    obtain ⟨rfl, rfl⟩ := dict_ep hod b3
    exact next_key_end (I.ok.hd hc) k1 b1 b3 b4 hi fun h' k2 => ⟨rfl, Inv.turned (t' := s.toks) I (fun b ob hb k4 => k2 b ob hb k4) a0 a1 a3 a4 a5⟩
  self := fun A i s Q E k1 h => wpAny_pyIter_keyiter k1 h
def iIce (w : World) (td : TE) : TI := fun σ H R => td σ H fun x H1 => ∃ d o zs, x = .ref d ∧ H1 d = some (.frz o (dnO w d zs)) ∧ R (ItN w d o zs) H1
theorem pi_ice {w : World} {tg e : Expr} {td : TE} (he : PE X e td) : PI X tg e (fun σ H R => td σ H fun x H1 => ∃ d o zs w, x = .ref d ∧ H1 d = some (.frz o (dnO w d zs)) ∧ R (ItN w d o zs) H1) := by
  refine ⟨fun pins s σ H R I h => thn (he.run pins s σ H _ I h) fun u s1 ⟨x, H1, J, rx, d, o, zs, w, ex, k1, q⟩ => ?_⟩
  subst ex
  obtain rfl : u = Value.ref d := rx
  obtain ⟨b0, b1, b2, es, ep, b3, b4, b5⟩ := ice_raw J k1
  refine iter_keys b0 b1 b2 b3 (pi_one (tk := s1.toks) J _ (turn_ice _ b3) ⟨_, Heap.get?_push_size _ rfl, rfl, ?_⟩ q)
  rw [b4] <;> rfl
theorem RN.keyAt {K : PySem.W.Frag} {L : List Addr} {H : Hp} {i : Nat} {dd : D} : ∀ {zs : List ZN} {kvs : List (NestedKey × D)} {i : Nat}, RN K L H zs kvs → (keysN kvs)[i]? = some dd → ∃ z, zs[i]? = some z ∧ RD K L H (.ref z.2.1) dd := fun {zs kvs i} rn h => by
  obtain ⟨v, h1, h2⟩ := rn.keys.get h
  rw [List.getElem?_map] at h1
  obtain ⟨z, hz, rfl⟩ := Option.map_eq_some_iff.mp h1
  exact ⟨z, hz, h2⟩
theorem xIterN {E : XK} {tg e : Expr} {fa : EF} (h : PE X e (tE X.K E fa)) : PI X tg e (tI X.K E (fIterN fa)) := by
  have h1 := pi_ice (tg := tg) (w := X.w) h
  refine ⟨fun pins s σ H R I q => h1.run pins s σ H R I ?_⟩
  obtain ⟨L, env, S, rep, re, q⟩ := q
  refine ⟨L, env, S, rep, re, (End.bind q).imp fun x S1 L1 H1 ex1 rep1 q1 v rv => ?_⟩
  cases rv with
  | @ref a n ha =>
    obtain ⟨c, hc, rc⟩ := rep1.adr ha
    simp only [hc] at q1
    cases c with
    | df w kvs =>
      obtain ⟨od, zs, hz, rn⟩ := rc
      refine ⟨a, od, zs, w, rfl, hz, q1 L1 H1 (Ex.refl _ _) rep1 _ fun i L2 H2 S2 ex2 rep2 => ?_⟩
      have hz2 := ex2.fz _ _ _ hz
      have rn2 := rn.grow ex2.gr
      refine ⟨fun dd hdd => ?_, fun hl => ⟨by rw [rn2.length]; unfold keysN at hl; rwa [List.length_map] at hl, hz2⟩⟩
      obtain ⟨z, k1, k2⟩ := rn2.keyAt (i := i) hdd
      refine ⟨⟨(List.getElem?_eq_some_iff.mp k1).1, hz2⟩, fun y H3 hy => ?_⟩
      obtain ⟨⟨z', k3, rfl⟩, rfl⟩ := hy
      rw [k1] at k3; cases k3
      exact ⟨Ex.refl _ _, rep2, k2⟩
    | _ => exact q1.elim
  | _ => exact q1.elim
end
/-! rewriting -/
def iceC (s : SF) (env : Lc) (S : Sto) (n : Nat) : Option Cell → R Fl
  | some (.dn w kvs) => thawR n (s env (S.set n (.df w kvs)))
  | _ => .bad
def iceM (s : SF) (env : Lc) (S : Sto) : R D → R Fl
  | .ok (.ref n) _ => iceC s env S n S[n]?
  | _ => .bad
def thawC {α : Type} (a : α) (S : Sto) (n : Nat) : Option Cell → R α
  | some (.df w kvs) => .ok a (S.set n (.dn w kvs))
  | _ => .bad
def itNC (S : Sto) : Option Cell → R It'
  | some (.df _ kvs) => .ok (.fix (keysN kvs)) S
  | _ => .bad
def itNK : D → Sto → R It' := fun d S1 => match d with
  | .ref n => match S1[n]? with
    | some (.df w kvs) => .ok (.fix (keysN kvs)) S1
    | _ => .bad
  | _ => .bad
section
variable {fa : EF} {s : SF} {env : Lc} {S S0 : Sto} {n : Nat} {w : World} {kvs : List (NestedKey × D)}
theorem ap_fIce : fIce fa s env S = iceM s env S (fa env S) := by unfold fIce iceM iceC; rfl
theorem ap_iceM : iceM s env S (.ok (.ref n) S0) = iceC s env S n S[n]? := (rfl)
theorem ap_iceC : iceC s env S n (some (.dn w kvs)) = thawR n (s env (S.set n (.df w kvs))) := (rfl)
theorem ap_thawR {α : Type} {a : α} : thawR n (.ok a S) = thawC a S n S[n]? := by unfold thawR thawC; rfl
theorem ap_thawC {α : Type} {a : α} : thawC a S n (some (.df w kvs)) = .ok a (S.set n (.dn w kvs)) := (rfl)
theorem ap_fIterN : fIterN fa env S = (fa env S).bind itNK := (rfl)
theorem ap_itNK : itNK (.ref n) S = itNC S S[n]? := by unfold itNK itNC; rfl
theorem ap_itNC : itNC S (some (.df w kvs)) = .ok (.fix (keysN kvs)) S := (rfl)
end
end RF

/-! {k: v for x in ..} with nested tuples as keys -/
namespace RF
open PySem L2
section
variable {X : Cx} {pins : List (Addr × Obj)} {σ : St} {H : Hp} {s : Shared} {a b : Addr} {zs : List ZN} {k : NestedKey}
end
/-- {k: v for target in iter if ..}: dd the new dict -/
def tDcN (w : World) (wi : TI) (g : TG) (tt : TT) (tk tv : TE) (vs : List Nat) : TE := fun σ H Q => wi σ H fun J H1 => ∀ dd, H1 dd = none → ∃ ww : Nat → Nat → Hp → Prop, (∃ m, ww 0 m (upd H1 dd (dnO w dd []))) ∧ ∀ i m H, ww i m H →
  (J.stop i H ∧ Q (.ref dd) H) ∨ (J.go i H ∧ ∃ nx : Hp → Prop, (∀ H', nx H' → ∃ m', m' < m ∧ ww (i + 1) m' H') ∧ ∀ x H', J.yld i H x H' → g x (wipe σ vs) H' fun σ2 H2 => wipe σ2 vs = wipe σ vs ∧ tt σ2 H2 fun c H3 =>
    if c = true then tk σ2 H3 fun y H4 => tv σ2 H4 fun z H5 => ∃ zs k b, y = .ref b ∧ H5 dd = some (dnO w dd zs) ∧ ZOk H5 zs ∧ NK H5 k (.ref b) ∧ k.depth ≤ 8 ∧ zs.length < sizeLine ∧ nx (upd H5 dd (dnO w dd (putZ zs k b z))) else nx H3)
abbrev InBlk (X : Cx) (scope : Scope) (P : Cx → Prop) : Prop := ∀ (s : Shared) (H : Hp) (C : Addr) (cl : List (Str × Addr)) (fp : List Addr), P (X.blk s H scope (compEnvC scope cl C X.env) fp)
section
variable {X : Cx}
end
section
variable {X : Cx} {kx vx tg iter : Expr} {ifs : List Expr} {scope : Scope} {own : List (Str × Nat)} {pos : Pos} {wi : TI} {g : TG} {tt : TT} {tk tv : TE}
end
/-! functions -/
def dcK (ft : BF) (fk fv : EF) (ee : Lc) (acc : List (NestedKey × D)) (next : List (NestedKey × D) → Sto → R D) : Sto → R D := fun S => (ft ee S).nox.bind fun b S1 => if b = true then ((fk ee S1).nox.bind fun y S2 => (fv ee S2).nox.bind fun z S3 => match keyT y with
    | some k => if acc.length < 100000 then next (putKD acc k z) S3 else .bad
    | none => .bad) else next acc S1
def compXD (w : World) (i : Nat) (ft : BF) (fk fv : EF) (env : Lc) : List D → List (NestedKey × D) → Sto → R D
  | [], acc, S => .ok (.ref S.length) (S ++ [.dn w acc])
  | d :: xs, acc, S => dcK ft fk fv (env.set i (some d)) acc (compXD w i ft fk fv env xs) S
def compLD (w : World) (n i : Nat) (ft : BF) (fk fv : EF) (env : Lc) : List D → Nat → List (NestedKey × D) → Sto → R D
  | [], j, acc, S => match S[n]? with
    | some (.lst ys) => if ys.length ≤ j then .ok (.ref S.length) (S ++ [.dn w acc]) else .bad
    | _ => .bad
  | _ :: xs, j, acc, S => match S[n]? with
    | some (.lst ys) => match ys[j]? with
      | none => .ok (.ref S.length) (S ++ [.dn w acc])
      | some d => dcK ft fk fv (env.set i (some d)) acc (compLD w n i ft fk fv env xs (j + 1)) S
    | _ => .bad
def fDComp (w : World) (fi : IF) (i : Nat) (ft : BF) (fk fv : EF) : EF := fun env S => (fi env S).bind fun it S1 => match it with
  | .fix xs => compXD w i ft fk fv (env.set i none) xs [] S1
  | .live n xs => compLD w n i ft fk fv (env.set i none) xs 0 [] S1
section
variable {K : PySem.W.Frag} {L L1 : List Addr} {H H1 : Hp} {S S1 : Sto} {E : XK}
end
section
variable {X : Cx} {E : XK} {tg l iter kx vx : Expr} {fk fv : EF} {ft : BF} {fi : IF} {pos : Pos}
end
end RF
namespace RF
open PySem L2
/-! rewriting -/
section
variable {w : World} {i n j : Nat} {ft : BF} {fk fv : EF} {fi : IF} {env ee : Lc} {S : Sto} {d y : D} {xs ys : List D} {acc : List (NestedKey × D)} {k : NestedKey} {next : List (NestedKey × D) → Sto → R D}
def dcFK (w : World) (i : Nat) (ft : BF) (fk fv : EF) (env : Lc) : It' → Sto → R D := fun it S1 => match it with
  | .fix xs => compXD w i ft fk fv (env.set i none) xs [] S1
  | .live n xs => compLD w n i ft fk fv (env.set i none) xs 0 [] S1
end
end RF

/-! len of dicts with nested keys; tuples whose object is known: tuple(list), == with them, dict(t) of pairs -/
namespace RF
open PySem L2
def rLenN : List V → Hp → VK → Prop := fun xs H Q => ∃ a w zs, xs = [V.ref a] ∧ Rd H a (dnO w a zs) ∧ ZOk H zs ∧ Q (.int ((zs.length : Nat) : Int)) H
section
variable {X : Cx}
theorem call_lenN : CallR X (.builtin "len") rLenN := by
  intro pins s σ H xs us Q I r h
  obtain ⟨a, w, zs, rfl, hd, hz, q⟩ := h
  obtain ⟨u, rfl, rx⟩ := vals1 r
  obtain rfl : u = Value.ref a := rx
  have ob : ObjOk X.prog X.w H s.heap a (dnO w a zs) := hd.elim (fun e => I.hok a _ e) fun ⟨o, e⟩ => (I.hok a _ e).2
  obtain ⟨⟨q1, q2, ys, rel, o, es, ep, h1, h2, h3, h4, h5⟩, _⟩ := ob
  have l1 : es.size = ys.length := by rw [← Array.length_toList, h4, List.length_map]
  have l2 : zs.length = ys.length := Paired.length rel
  refine Calls.call_function_entry kind_len plain_len entry_len (args_len1 _) ?_
  unfold Builtin.«len»
  refine wpAny_bind (m := oneArg "len" _) (wpAny_pure ?_)
  have ht : s.TypeIs (.ref a) "dict" := ⟨o, h1, h2.1⟩
  refine wpAny_bind (m := callSpecial? (.ref a) (Str.ofString "__len__")) (wpAny_callSpecial?_slot (name := Str.ofString "__len__") ht PySem.F.slot_dict_len (call_len_raw q1 ⟨o, h1, h2, h3⟩ ?_))
  refine wpAny_bind (wpAny_holding (wpAny_pure ?_))
  refine wpAny_bind (wpAny_letGo ?_)
  have z := sizeLine_eq
  show wpAny _ _ (if ((es.size : Nat) : Int) < 0 then _ else _) _ _ _
  rw [if_neg (by omega)]
  show wpAny _ _ (if ((es.size : Nat) : Int) ≥ 2 ^ 63 then _ else _) _ _ _
  rw [if_neg (by omega), l1, ← l2]
  exact wpAny_bind (wpAny_mkInt (wpAny_pure ⟨_, rfl, .int ((zs.length : Nat) : Int), H, (I.tok _).tok _, ⟨_, rfl⟩, q⟩))
end
def oLenN : OpN := fun ds S => match ds with
  | [.ref n] => match S[n]? with
    | some (.dn _ kvs) => .ok (.int (kvs.length : Nat)) S
    | some (.df _ kvs) => .ok (.int (kvs.length : Nat)) S
    | _ => oLen [.ref n] S
  | ds => oLen ds S
section
variable {K : PySem.W.Frag} {E : XK}
theorem f_lenN : CaF K E (fun xs H Q => rLenA K xs H Q ∨ rLenN xs H Q) oLenN := by
  intro L H S xs ds Q rep rs q
  unfold oLenN at q
  split at q
  · rename_i n
    obtain ⟨x, rfl, r⟩ := rs.one
    split at q
    · rename_i w kvs hn
      cases r with
      | @ref a _ ha =>
        obtain ⟨c, hc, rc⟩ := rep.adr ha
        rw [hn] at hc; cases hc
        obtain ⟨zs, hz, rn⟩ := rc
        exact .inr ⟨a, w, zs, rfl, .inl hz, rn.zok, by rw [rn.length]; exact EndV.val q rep (.int _)⟩
    · rename_i w kvs hn
      cases r with
      | @ref a _ ha =>
        obtain ⟨c, hc, rc⟩ := rep.adr ha
        rw [hn] at hc; cases hc
        obtain ⟨od, zs, hz, rn⟩ := rc
        exact .inr ⟨a, w, zs, rfl, .inr ⟨od, hz⟩, rn.zok, by rw [rn.length]; exact EndV.val q rep (.int _)⟩
    · exact .inl (f_len L H S _ _ Q rep rs q)
  · exact .inl (f_len L H S _ _ Q rep rs q)
end
/-! a tuple as a cell -/
/-- what a value reads as, whatever tells of it -/
def RdX (X : Cx) (H : Hp) (v : V) (p : PyData) : Prop := ∀ {pins : List (Addr × Obj)} {σ : St} {s : Shared} {u : Value}, Inv X pins σ H s → RelV v u → ∃ as, Reads s.heap u p as
def RdXs (X : Cx) (H : Hp) (vs : List V) (ps : List PyData) : Prop := ∀ {pins : List (Addr × Obj)} {σ : St} {s : Shared} {us : List Value}, Inv X pins σ H s → Vals vs us → ∃ as, ReadsAll s.heap us ps as
def toPX (S : Sto) : Nat → D → Option PyData
  | 0, d => leafP d
  | k + 1, d => match d with
    | .tup xs => (xs.mapM (toPX S k)).map .tuple
    | .ref n => match S[n]? with
      | some (.tp xs) => (xs.mapM (toPX S k)).map .tuple
      | _ => none
    | d => leafP d
section
variable {X : Cx} {L : List Addr} {H : Hp} {S : Sto}
theorem RdX.of {v : V} {p : PyData} (h : Dp X.K H v p) : RdX X H v p := fun I r => Dp.reads I p v _ h r
def rNeX (X : Cx) : R2 := fun x y H Q => ∃ d e, RdX X H x d ∧ RdX X H y e ∧ SeqAt.shaped d = true ∧ SeqAt.shaped e = true ∧ Q (.bl (!PyData.eqv d e)) H
end
def oNeX : Op2 := fun x y S => match toPX S 20 x, toPX S 20 y with
  | some p, some q => .ok (.bl (!PyData.eqv p q)) S
  | _, _ => .bad
/-! tuple(list), its object known -/
def rTupX (K : PySem.W.Frag) : List V → Hp → VK → Prop := fun xs H Q => ∃ p ys, xs = [V.ref p] ∧ SqL K H p ys ∧ ∀ l, H l = none → Q (.ref l) (upd H l (tpO l ys))
def oTupX : OpN := fun ds S => match ds with
  | [.ref n] => match S[n]? with
    | some (.lst xs) => .ok (.ref S.length) (S ++ [.tp xs])
    | _ => .bad
  | _ => .bad
/-! dict(t), t such a tuple of pairs whose keys are nested tuples -/
def PairZ (H : Hp) (v : V) (z : ZN) : Prop := ∃ t, v = V.ref t ∧ H t = some (.tup [V.ref z.2.1, z.2.2]) ∧ NK H z.1 (.ref z.2.1) ∧ z.1.depth ≤ 8
def putZs (zs : List ZN) : List ZN := zs.foldl (fun a z => putZ a z.1 z.2.1 z.2.2) []
def rDictX (w : World) : List V → Hp → VK → Prop := fun xs H Q => ∃ (a : Addr) (vs : List V) (zs : List ZN), xs = [V.ref a] ∧ H a = some (tpO a vs) ∧ Paired (PairZ H) vs zs ∧ ∀ p, H p = none → Q (.ref p) (upd H p (dnO w p (putZs zs)))
def tsOf (vs : List V) (j : Nat) : Addr := match vs[j]? with
  | some (.ref t) => t
  | _ => 0
/-- the pairs of data -/
def pairKs : List D → Option (List (NestedKey × D))
  | [] => some []
  | .tup [k, v] :: ds => match keyT k with
    | some n => (pairKs ds).map ((n, v) :: ·)
    | none => none
  | _ => none
def putKs (kvs : List (NestedKey × D)) : List (NestedKey × D) := kvs.foldl (fun a z => putKD a z.1 z.2) []
def oDictX (w : World) : OpN := fun ds S => match ds with
  | [.ref n] => match S[n]? with
    | some (.tp xs) => match pairKs xs with
      | some kvs => .ok (.ref S.length) (S ++ [.dn w (putKs kvs)])
      | none => .bad
    | _ => .bad
  | _ => .bad
section
variable {K : PySem.W.Frag} {E : XK} {L : List Addr} {H : Hp}
end
/-! rewriting -/
def lenNC (S : Sto) (n : Nat) : Option Cell → R D
  | some (.dn _ kvs) => .ok (.int (kvs.length : Nat)) S
  | some (.df _ kvs) => .ok (.int (kvs.length : Nat)) S
  | _ => oLen [.ref n] S
def tupXC (S : Sto) : Option Cell → R D
  | some (.lst xs) => .ok (.ref S.length) (S ++ [.tp xs])
  | _ => .bad
def dictXC (w : World) (S : Sto) : Option Cell → R D
  | some (.tp xs) => match pairKs xs with
    | some kvs => .ok (.ref S.length) (S ++ [.dn w (putKs kvs)])
    | none => .bad
  | _ => .bad
section
variable {w : World} {S : Sto} {n : Nat} {kvs : List (NestedKey × D)} {xs : List D} {x y : D}
theorem o_lenN : oLenN [.ref n] S = lenNC S n S[n]? := by unfold oLenN lenNC; rfl
theorem o_lenNC : lenNC S n (some (.dn w kvs)) = .ok (.int (kvs.length : Nat)) S := (rfl)
end
end RF

/-! trips and their plain model in the store -/
namespace RF
open PySem L2
section
variable {C : Addr} {x : D} {n : Nat} {S : Sto} {d0 d1 d2 d3 d4 d5 d6 d7 d8 d9 d10 : D}
def trf (d0 d1 d2 d3 d4 d5 d6 d7 d8 d9 d10 : D) : List (Str × D) := [(⟨#[116, 114, 97, 110, 115, 97, 99, 116, 105, 111, 110]⟩, d0), (⟨#[112, 114, 111, 103, 114, 97, 109]⟩, d1), (⟨#[97, 116, 116, 101, 109, 112, 116]⟩, d2), (⟨#[95, 111, 117, 116, 99, 111, 109, 101]⟩, d3), (⟨#[95, 101, 110, 100, 101, 100]⟩, d4), (⟨#[95, 107, 101, 121, 115]⟩, d5), (⟨#[95, 118, 97, 108, 117, 101, 115]⟩, d6), (⟨#[95, 109, 97, 114, 107, 115]⟩, d7), (⟨#[95, 104, 111, 108, 100, 101, 114]⟩, d8), (⟨#[95, 102, 114, 101, 101, 100, 95, 107, 101, 121, 115]⟩, d9), (⟨#[95, 102, 105, 110, 105, 115, 104, 101, 100, 95, 107, 101, 121, 115]⟩, d10)]
def trc (C : Addr) (d0 d1 d2 d3 d4 d5 d6 d7 d8 d9 d10 : D) : Cell := .ins C (trf d0 d1 d2 d3 d4 d5 d6 d7 d8 d9 d10)
end
section
variable {S : Sto} {n m : Nat} {x a0 a1 a2 a3 a4 a5 a6 a7 a8 a9 : D}
def mtF (a0 a1 a2 a3 a4 a5 a6 a7 a8 a9 : D) : List (Key × D) := [(.inr ⟨#[110, 97, 109, 101]⟩, a0), (.inr ⟨#[112, 114, 111, 103, 114, 97, 109]⟩, a1), (.inr ⟨#[97, 116, 116, 101, 109, 112, 116]⟩, a2), (.inr ⟨#[111, 117, 116, 99, 111, 109, 101]⟩, a3), (.inr ⟨#[101, 110, 100, 101, 100]⟩, a4), (.inr ⟨#[104, 101, 108, 100]⟩, a5), (.inr ⟨#[104, 111, 108, 100, 101, 114]⟩, a6), (.inr ⟨#[109, 97, 114, 107]⟩, a7), (.inr ⟨#[107, 101, 112, 116]⟩, a8), (.inr ⟨#[100, 111, 110, 101]⟩, a9)]
def mtC (a0 a1 a2 a3 a4 a5 a6 a7 a8 a9 : D) : Cell := .dk (mtF a0 a1 a2 a3 a4 a5 a6 a7 a8 a9)
def mtK : List Key := [.inr ⟨#[110, 97, 109, 101]⟩, .inr ⟨#[112, 114, 111, 103, 114, 97, 109]⟩, .inr ⟨#[97, 116, 116, 101, 109, 112, 116]⟩, .inr ⟨#[111, 117, 116, 99, 111, 109, 101]⟩, .inr ⟨#[101, 110, 100, 101, 100]⟩, .inr ⟨#[104, 101, 108, 100]⟩, .inr ⟨#[104, 111, 108, 100, 101, 114]⟩, .inr ⟨#[109, 97, 114, 107]⟩, .inr ⟨#[107, 101, 112, 116]⟩, .inr ⟨#[100, 111, 110, 101]⟩]
end
/-! steps -/
inductive Stp where
  | rd (k : K2) | st (k : K2) | put (k : K2) (z : Int) | add (k : K2) (z : Int) | need (k : K2) (z : Int)
def Stp.key : Stp → K2
  | .rd k | .st k | .put k _ | .add k _ | .need k _ => k
def sRd : Str := ⟨#[114, 101, 97, 100]⟩
def sSt : Str := ⟨#[115, 116, 111, 114, 101]⟩
def sPu : Str := ⟨#[112, 117, 116]⟩
def sAd : Str := ⟨#[97, 100, 100]⟩
def sNe : Str := ⟨#[110, 101, 101, 100]⟩
def eS : Stp → D
  | .rd k => .tup [.str sRd, eK k]
  | .st k => .tup [.str sSt, eK k]
  | .put k z => .tup [.str sPu, eK k, .int z]
  | .add k z => .tup [.str sAd, eK k, .int z]
  | .need k z => .tup [.str sNe, eK k, .int z]
def eSs (ss : List Stp) : List D := ss.map eS
def okKs (ks : List K2) : Prop := ∀ k ∈ ks, PyData.strOk k.2 = true
def keysS (ss : List Stp) : List K2 := unl (ss.map Stp.key)
abbrev Vals2 := List (K2 × Int)
def fVs (vs : Vals2) : List (K2 × D) := vs.map fun x => (x.1, .int x.2)
def vlV (vs : Vals2) (k : K2) : Int := (valK vs k).getD 0
/-- the run of a program: done, what was read, the values behind -/
def runS (first : Vals2) : List Stp → Vals2 → List Int → Bool × List Int × Vals2
  | [], now, rs => (true, rs, now)
  | .rd k :: ss, now, rs => runS first ss now (rs ++ [vlV now k])
  | .st k :: ss, now, rs => runS first ss (putKD now k (rs.getLast?.getD 0)) rs
  | .put k z :: ss, now, rs => runS first ss (putKD now k z) rs
  | .add k z :: ss, now, rs => runS first ss (putKD now k (vlV now k + z)) rs
  | .need k z :: ss, now, rs => if vlV now k < z then (false, rs, first) else runS first ss now rs
def firstS (ks : List K2) (vs : Vals2) : Vals2 := ks.foldl (fun a k => putKD a k (vlV vs k)) []
def runP (ss : List Stp) (vs : Vals2) : Bool × List Int × Vals2 := runS (firstS (keysS ss) vs) ss (firstS (keysS ss) vs) []
/-- an outcome: done, read, the values of the keys -/
structure Out where
  d : Bool
  rs : List Int
  ps : Vals2
def outOf (ss : List Stp) (vs : Vals2) : Out := ⟨(runP ss vs).1, (runP ss vs).2.1, (keysS ss).map fun k => (k, vlV (runP ss vs).2.2 k)⟩
def eP (x : K2 × Int) : D := .tup [eK x.1, .int x.2]
def eI (xs : List Int) : List D := xs.map D.int
def eOut : Option Out → D
  | none => .non
  | some o => .tup [.bl o.d, .tup (eI o.rs), .tup (o.ps.map eP)]
def eOutM (t : Nat) : Option Out → D
  | none => .non
  | some o => .tup [.bl o.d, .tup (eI o.rs), .ref t]
/-- a trip -/
structure TSt where
  nm : Int × Int
  pg : List Stp
  at_ : Int
  out : Option Out
  en : Bool
  vs : Vals2
  ow : Option Mk
  yo : List Mk
  ho : Option Who
  fr : List K2
  fi : List K2
def fTr (ks : List K2) : List (K2 × D) := ks.map fun k => (k, .bl true)
structure PPl where
  sl : Nat
  kl : Nat
  vl : Nat
  ml : Nat
  yl : Nat
  fl : Nat
  il : Nat
def PPl.l (p : PPl) : List Nat := [p.sl, p.kl, p.vl, p.ml, p.yl, p.fl, p.il]
structure PT (C CM : Addr) (w : World) (p : PPl) (t : TSt) (S : Sto) : Prop where
  ob : S[p.sl]? = some (trc C (eT t.nm) (.tup (eSs t.pg)) (.int t.at_) (eOut t.out) (.bl t.en) (.ref p.kl) (.ref p.vl) (.ref p.ml) (eH t.ho) (.ref p.fl) (.ref p.il))
  kl : S[p.kl]? = some (.lst (kK.es (keysS t.pg)))
  vl : S[p.vl]? = some (.dn w (kK.enc (fVs t.vs)))
  ml : S[p.ml]? = some (mkC CM t.nm t.ow p.yl)
  yl : S[p.yl]? = some (.dn w (encM t.yo))
  fl : S[p.fl]? = some (.dn w (kK.enc (fTr t.fr)))
  il : S[p.il]? = some (.dn w (kK.enc (fTr t.fi)))
  nd : [p.vl, p.yl, p.fl, p.il].Nodup
structure MPl where
  m : Nat
  hl : Nat
  kt : Nat
  dn : Nat
  t3 : Nat
def MPl.l (p : MPl) : List Nat := [p.m, p.hl, p.kt, p.dn, p.t3]
structure MT (w : World) (p : MPl) (t : TSt) (done : List K2) (S : Sto) : Prop where
  ob : S[p.m]? = some (mtC (eT t.nm) (.tup (eSs t.pg)) (.int t.at_) (eOutM p.t3 t.out) (.bl t.en) (.ref p.hl) (eH t.ho) (eO t.ow) (.ref p.kt) (.ref p.dn))
  hl : S[p.hl]? = some (.dn w (kK.enc (fVs t.vs)))
  kt : S[p.kt]? = some (.lst (cM.es t.yo))
  dn : S[p.dn]? = some (.lst (kK.es done))
  t3 : ∀ o, t.out = some o → S[p.t3]? = some (.tp (o.ps.map eP))
  ne : p.kt ≠ p.dn
def eKO : Option K2 → D
  | none => .non
  | some k => eK k
def nextK (ks : List K2) (vs : Vals2) : Option K2 := ks.find? fun k => (valK vs k).isNone
def TSt.keys (t : TSt) : List K2 := keysS t.pg
def TSt.next (t : TSt) : Option K2 := nextK t.keys t.vs
def TSt.going (t : TSt) : Bool := !t.en && t.out.isNone
def sGo : Str := ⟨#[103, 111, 105, 110, 103]⟩
def sCo : Str := ⟨#[99, 111, 109, 109, 105, 116, 116, 101, 100]⟩
def sEn : Str := ⟨#[101, 110, 100, 101, 100]⟩
def TSt.st (t : TSt) : Str := if t.en = true then sEn else if t.out.isNone = true then sGo else sCo
def eOut2 : Option Out → D
  | none => .non
  | some o => .tup [.bl o.d, .tup (eI o.rs)]
end RF

/-! C(e, .., k = v, ..) -/
namespace RF
open PySem L2
def fMakeKP (C : Addr) (F : FF) (n i j : Nat) (g : List D → List D → List D) (as fs : AF) : EF := fun env S => (as env S).bind fun vs S1 => (fs env S1).bind fun ds S2 => if vs.length = i ∧ ds.length = j ∧ (g (.ref S2.length :: vs) ds).length = n then (F (g (.ref S2.length :: vs) ds) (S2 ++ [.ins C []])).nox.bind (mkK2 S2.length) else .bad
section
variable {X : Cx} {E : XK} {k n : Nat} {f C : Addr} {fd : FuncData} {ps ks : List Str} {F : FF} {x nm : Str} {p pos kpos : Pos} {e : Expr} {es : List Expr} {kws : List Keyword} {as fs : AF} {g : List Value → List Value → List Value} {gV : List V → List V → List V} {gD : List D → List D → List D}
end
section
variable {C : Addr} {F : FF} {n i j : Nat} {g : List D → List D → List D} {as fs : AF} {env : Lc} {S : Sto} {ds vs : List D}
def mkKP1 (C : Addr) (F : FF) (n i j : Nat) (g : List D → List D → List D) (fs : AF) (env : Lc) : List D → Sto → R D := fun vs S1 => (fs env S1).bind fun ds S2 => if vs.length = i ∧ ds.length = j ∧ (g (.ref S2.length :: vs) ds).length = n then (F (g (.ref S2.length :: vs) ds) (S2 ++ [.ins C []])).nox.bind (mkK2 S2.length) else .bad
def mkKP2 (C : Addr) (F : FF) (n i j : Nat) (g : List D → List D → List D) (vs : List D) : List D → Sto → R D := fun ds S2 => if vs.length = i ∧ ds.length = j ∧ (g (.ref S2.length :: vs) ds).length = n then (F (g (.ref S2.length :: vs) ds) (S2 ++ [.ins C []])).nox.bind (mkK2 S2.length) else .bad
end
end RF

/-! t == (); zip of two tuples in a comprehension; d.get(k, x) of a dict of the module: texts to ints -/
namespace RF
open PySem L2
def rEqE (K : PySem.W.Frag) : R2 := fun x y H Q => ∃ a b xs, x = .ref a ∧ y = .ref b ∧ SqT K H a xs ∧ SqT K H b [] ∧ Q (.bl xs.isEmpty) H
def oEqE : Op2 := fun x y S => match x, y with
  | .tup xs, .tup [] => .ok (.bl xs.isEmpty) S
  | _, _ => .bad
/-! != of lists of other lengths -/
def rNeLen (K : PySem.W.Frag) : R2 := fun x y H Q => ∃ a b xs ys, x = .ref a ∧ y = .ref b ∧ SqL K H a xs ∧ SqL K H b ys ∧ xs.length ≠ ys.length ∧ Q (.bl true) H
theorem op_neLen {X : Cx} (hu : X.A.units < cLine) : OpR X (compareOp .NotEq) (rNeLen X.K) := by
  intro pins s σ H x y v u Q I rx ry h
  obtain ⟨a, b, xs, ys, rfl, rfl, ha, hb, hne, q⟩ := h
  cases (show v = Value.ref a from rx)
  cases (show u = Value.ref b from ry)
  obtain ⟨us, r1, p1, _⟩ := I.list ha
  obtain ⟨ws, r2, p2, _⟩ := I.list hb
  have hsz : (us.toArray.size != ws.toArray.size) = true := by
    rw [List.size_toArray, List.size_toArray, ← r1.length, ← r2.length]
    simpa using hne
  exact SeqAt.RcNeAt.lists_lengths p1.isList p2.isList hsz hu X.prog X.w _ _ ⟨.bl true, H, I, rfl, q⟩
def oNeL : Op2 := fun x y S => match x, y with
  | .ref n, .ref m => match S[n]?, S[m]? with
    | some (.lst xs), some (.lst ys) => if xs.length = ys.length then oNe x y S else .ok (.bl true) S
    | _, _ => .bad
  | _, _ => .bad
def rNeLD (K : PySem.W.Frag) : R2 := fun x y H Q => rNeLen K x y H Q ∨ rNeD K x y H Q
theorem op_neLD {X : Cx} (hu : X.A.units + 64 < cLine) : OpR X (compareOp .NotEq) (rNeLD X.K) := (op_neLen (by omega)).or (op_neD hu)
theorem f_neL {K : PySem.W.Frag} {E : XK} : OpF K E (rNeLD K) oNeL := by
  intro L H S x y d1 d2 Q rep r1 r2 q
  cases r1 with
  | @ref a n ha =>
    cases r2 with
    | @ref b m hb =>
      obtain ⟨c, hc, rc⟩ := rep.adr ha
      obtain ⟨c2, hc2, rc2⟩ := rep.adr hb
      unfold oNeL at q
      simp only [hc, hc2] at q
      cases c with
      | lst xs =>
        cases c2 with
        | lst ys =>
          simp only at q
          obtain ⟨vs, hv, rv⟩ := id rc
          obtain ⟨ws, hw, rw'⟩ := id rc2
          by_cases hl : xs.length = ys.length
          · rw [if_pos hl] at q
            exact .inr (f_ne _ _ _ _ _ _ _ _ rep (.ref ha) (.ref hb) q)
          · rw [if_neg hl] at q
            exact .inl ⟨a, b, vs, ws, rfl, rfl, .of hv, .of hw, by rw [rv.length, rw'.length]; exact hl, EndV.val q rep (.bl _)⟩
        | _ => exact q.elim
      | _ => exact q.elim
    | _ => exact q.elim
  | _ => exact q.elim
section
variable {S : Sto} {n m : Nat} {xs ys : List D}
theorem neL_ne (h1 : S[n]? = some (.lst xs)) (h2 : S[m]? = some (.lst ys)) (h : ¬ xs.length = ys.length) : oNeL (.ref n) (.ref m) S = .ok (.bl true) S := by
  unfold oNeL
  simp only [h1, h2, if_neg h]
theorem neL_00 (h1 : S[n]? = some (.lst [])) (h2 : S[m]? = some (.lst [])) : oNeL (.ref n) (.ref m) S = .ok (.bl false) S := by
  unfold oNeL
  simp only [h1, h2, if_true]
  rw [o_ne, show (20 : Nat) = 19 + 1 from rfl, toP_ref, toP_ref, h1, h2, toPC_lst, toP_mapM_nil]
  show (neK S (some (.list [])) (some (.list []))) = _
  rw [neK_some]
  simp [PyData.eqv, PyData.eqvAll]
/-- against the empty list -/
theorem neL_nil (h1 : S[n]? = some (.lst xs)) (h2 : S[m]? = some (.lst [])) : oNeL (.ref n) (.ref m) S = .ok (.bl (!xs.isEmpty)) S := by
  cases xs with
  | nil => exact neL_00 h1 h2
  | cons x xs => exact neL_ne h1 h2 (by simp)
end

/-! zip -/
def zipD : List D → List D → List D
  | x :: xs, y :: ys => .tup [x, y] :: zipD xs ys
  | _, _ => []
def fZip (fs : AF) : IF := fun env S => (fs env S).bind fun ds S1 => match ds with
  | [.tup xs, .tup ys] => .ok (.fix (zipD xs ys)) S1
  | _ => .bad
section
variable {X : Cx} {E : XK}
end

/-! a dict of the module -/
inductive GEnts (w : World) : List DictEntry → List (Str × Int) → Prop
  | nil : GEnts w [] []
  | cons {x : Str} {i : Int} {t u : Tok} {es : List DictEntry} {kvs : List (Str × Int)} : GEnts w es kvs → GEnts w (⟨PyData.keyHash w.params x, .str x t, .int i u⟩ :: es) ((x, i) :: kvs)
def GDict (K : PySem.W.Frag) (w : World) (a : Addr) (kvs : List (Str × Int)) : Prop :=
  (a == sysModules) = false ∧ ∃ o es ep, K.lookup a = some o ∧ o.ExactDict ∧ o.data = .dict es ep ∧ GEnts w es.toList kvs ∧ (kvs.map (·.1)).Nodup
theorem GEnts.keys {P : Program} {w : World} {es : List DictEntry} {kvs : List (Str × Int)} (h : GEnts w es kvs) : ∀ e ∈ es, ∃ k, (strKind P w).is k e.key = true ∧ e.hash = (strKind P w).hash k := by
  induction h with
  | nil => intro e h; cases h
  | @cons x i t u es kvs h ih =>
    intro e he
    rcases List.mem_cons.mp he with rfl | he
    · exact ⟨x, by simp [strKind, Value.isStrOf], rfl⟩
    · exact ih e he
def GVals : List (Str × Int) → List (Str × Value) → Prop
  | [], [] => True
  | (x, i) :: ps, (y, v) :: qs => x = y ∧ (∃ t, v = .int i t) ∧ GVals ps qs
  | _, _ => False
theorem GEnts.pairs {P : Program} {w : World} {es : List DictEntry} {kvs : List (Str × Int)} (h : GEnts w es kvs) : ∃ vs : List (Str × Value), Pairs (strKind P w) es vs ∧ GVals kvs vs := by
  induction h with
  | nil => exact ⟨[], .nil, trivial⟩
  | @cons x i t u es kvs h ih =>
    obtain ⟨vs, h1, h2⟩ := ih
    exact ⟨(x, .int i u) :: vs, .cons (by simp [strKind, Value.isStrOf]) rfl h1, rfl, ⟨u, rfl⟩, h2⟩
theorem GVals.keys : ∀ {kvs : List (Str × Int)} {vs : List (Str × Value)}, GVals kvs vs → vs.map (·.1) = kvs.map (·.1)
  | [], [], _ => rfl
  | (x, i) :: ps, (y, v) :: qs, ⟨a, _, c⟩ => by rw [List.map_cons, List.map_cons, GVals.keys c]; subst a; rfl
  | [], _ :: _, h => h.elim
  | _ :: _, [], h => h.elim
theorem GVals.val : ∀ {kvs : List (Str × Int)} {vs : List (Str × Value)} (z : Str), GVals kvs vs → match kvs.lookup z with | some i => ∃ t, valueAt vs z = some (.int i t) | none => valueAt vs z = none
  | [], [], _, _ => rfl
  | (x, i) :: ps, (y, v) :: qs, z, ⟨a, b, c⟩ => by
    subst a
    have ih := GVals.val z c
    rw [List.lookup_cons]
    by_cases h : x = z
    · subst h
      obtain ⟨t, rfl⟩ := b
      simp [valueAt]
    · have h' : (z == x) = false := beq_eq_false_iff_ne.mpr fun e => h e.symm
      rw [h']
      have e : valueAt ((x, v) :: qs) z = valueAt qs z := by simp [valueAt, List.find?_cons, h]
      rw [e]
      exact ih
  | [], _ :: _, _, h => h.elim
  | _ :: _, [], _, h => h.elim
theorem GDict.of {X : Cx} {pins : List (Addr × Obj)} {σ : St} {H : Hp} {s : Shared} {a : Addr} {kvs : List (Str × Int)} (I : Inv X pins σ H s) (g : GDict X.K X.w a kvs) :
    (a == sysModules) = false ∧ ∃ vs, s.heap.DictOf (strKind X.prog X.w) a vs ∧ GVals kvs vs := by
  obtain ⟨h0, o, es, ep, h1, h2, h3, h4, h5⟩ := g
  obtain ⟨vs, p, q⟩ := h4.pairs (P := X.prog)
  exact ⟨h0, vs, ⟨o, es, ep, I.kIn a o h1, h2, h3, fun e he => h4.keys e (Array.mem_toList_iff.mpr he), p, by rw [q.keys]; exact h5⟩, q⟩
def fGetG (kvs : List (Str × Int)) (fk fx : EF) : EF := fun env S => (fk env S).bind fun k S1 => match k with
  | .str z => (fx env S1).bind fun x S2 => match kvs.lookup z with
    | some i => .ok (.int i) S2
    | none => .ok x S2
  | _ => .bad
section
variable {X : Cx} {E : XK} {e f : Expr} {fk fx : EF} {apos cpos p : Pos}
end
/-! rewriting -/
def zipK : List D → Sto → R It' := fun ds S1 => match ds with
  | [.tup xs, .tup ys] => .ok (.fix (zipD xs ys)) S1
  | _ => .bad
def getGV : Option Int → D → Sto → R D
  | some i => fun _ S => .ok (.int i) S
  | none => fun x S => .ok x S
def getGK (kvs : List (Str × Int)) (fx : EF) (env : Lc) : D → Sto → R D := fun k S1 => match k with
  | .str z => (fx env S1).bind (getGV (kvs.lookup z))
  | _ => .bad
end RF

/-! orders of data: keys, transactions, marks; what a sort gives -/
namespace RF
open PySem L2
/-! orders -/
structure Lin {α : Type} (lt : α → α → Bool) : Prop where
  irr : ∀ a, lt a a = false
  tr : ∀ a b d, lt a b = true → lt b d = true → lt a d = true
  tri : ∀ a b, lt a b = true ∨ a = b ∨ lt b a = true
theorem Lin.asym {α : Type} {lt : α → α → Bool} (h : Lin lt) {a b : α} (h1 : lt a b = true) : lt b a = false := by
  cases h2 : lt b a with
  | false => rfl
  | true => have := h.tr _ _ _ h1 h2; rw [h.irr] at this; cases this
theorem Lin.pair {α β : Type} [DecidableEq α] [DecidableEq β] {l1 : α → α → Bool} {l2 : β → β → Bool} (h1 : Lin l1) (h2 : Lin l2) : Lin (fun (x y : α × β) => if x.1 = y.1 then (if x.2 = y.2 then false else l2 x.2 y.2) else l1 x.1 y.1) := by
  refine ⟨fun a => by simp, fun a b d k1 k2 => ?_, fun a b => ?_⟩
  · by_cases e1 : a.1 = b.1
    · rw [if_pos e1] at k1
      by_cases e2 : b.1 = d.1
      · rw [if_pos e2] at k2
        rw [if_pos (e1.trans e2)]
        by_cases e3 : a.2 = b.2
        · rw [if_pos e3] at k1; cases k1
        · rw [if_neg e3] at k1
          by_cases e4 : b.2 = d.2
          · rw [if_pos e4] at k2; cases k2
          · rw [if_neg e4] at k2
            have k := h2.tr _ _ _ k1 k2
            rw [if_neg (fun z => by rw [z, h2.irr] at k; cases k)]
            exact k
      · rw [if_neg e2] at k2
        rw [if_neg (fun z => e2 (e1.symm.trans z)), e1]
        exact k2
    · rw [if_neg e1] at k1
      by_cases e2 : b.1 = d.1
      · rw [if_neg (fun z => e1 (z.trans e2.symm)), ← e2]
        exact k1
      · rw [if_neg e2] at k2
        have k := h1.tr _ _ _ k1 k2
        rw [if_neg (fun z => by rw [z, h1.irr] at k; cases k)]
        exact k
  · by_cases e1 : a.1 = b.1
    · by_cases e2 : a.2 = b.2
      · exact .inr (.inl (Prod.ext e1 e2))
      · rw [if_pos e1, if_neg e2, if_pos e1.symm, if_neg (fun z => e2 z.symm)]
        rcases h2.tri a.2 b.2 with k | k | k
        · exact .inl k
        · exact absurd k e2
        · exact .inr (.inr k)
    · rw [if_neg e1, if_neg (fun z => e1 z.symm)]
      rcases h1.tri a.1 b.1 with k | k | k
      · exact .inl k
      · exact absurd k e1
      · exact .inr (.inr k)
theorem lin_int : Lin (fun (a b : Int) => decide (a < b)) := ⟨fun a => by simp, fun a b d h1 h2 => by simp at *; omega, fun a b => by simp; omega⟩
theorem tLt_eq : (fun (a b : Int × Int) => PySem.W.dataLt (pT a) (pT b)) = fun x y => if x.1 = y.1 then (if x.2 = y.2 then false else decide (x.2 < y.2)) else decide (x.1 < y.1) := by
  funext a b
  unfold pT
  rw [PySem.W.dataLt_pair (by simp [PySem.W.alike]) (by simp [PySem.W.alike]), PySem.W.dataLt_int, PySem.W.dataLt_int]
  simp only [PyData.eqv, beq_iff_eq]
theorem tLin : Lin (fun (a b : Int × Int) => PySem.W.dataLt (pT a) (pT b)) := by rw [tLt_eq]; exact Lin.pair lin_int lin_int
theorem dataLt_cons2 {x y : PyData} {xs ys : List PyData} (h : PySem.W.alike x y = true) : PySem.W.dataLt (.tuple (x :: xs)) (.tuple (y :: ys)) = if PyData.eqv x y = true then PySem.W.dataLt (.tuple xs) (.tuple ys) else PySem.W.dataLt x y := by
  rw [PySem.W.dataLt_tuple]
  cases e : PyData.eqv x y with
  | true => rw [if_pos rfl, PySem.W.dataLt_all_yes h e, PySem.W.dataLt_tuple]
  | false => rw [if_neg (by decide), PySem.W.dataLt_all_no h e]
/-- what is sorted and holds nothing twice stands in order -/
theorem sort_asc {α : Type} [DecidableEq α] {C : Cod α} (h : Lin (fun a b => PySem.W.dataLt (C.p a) (C.p b))) {as : List α} (hn : as.Nodup) : (C.sort as).Pairwise (fun a b => PySem.W.dataLt (C.p a) (C.p b) = true) := by
  have tr : ∀ a b d, C.le a b = true → C.le b d = true → C.le a d = true := by
    intro a b d h1 h2
    unfold Cod.le at *
    simp only [Bool.not_eq_true', Bool.not_eq_true] at *
    cases q : PySem.W.dataLt (C.p d) (C.p a) with
    | false => rfl
    | true =>
      rcases h.tri a b with k | k | k
      · have := h.tr d a b q k
        rw [h2] at this; cases this
      · rw [k] at q; rw [h2] at q; cases q
      · rw [h1] at k; cases k
  have tot : ∀ a b, (C.le a b || C.le b a) = true := by
    intro a b
    unfold Cod.le
    cases q : PySem.W.dataLt (C.p b) (C.p a) with
    | false => rfl
    | true =>
      have := h.asym (a := b) (b := a) q
      rw [this]; rfl
  have h1 := List.pairwise_mergeSort tr tot as
  have h2 : (C.sort as).Pairwise (fun a b => a ≠ b) := ((List.mergeSort_perm as C.le).nodup_iff.mpr hn)
  refine List.Pairwise.imp (fun {a b} z => ?_) (List.pairwise_and_iff.mpr ⟨h1, h2⟩)
  obtain ⟨z1, z2⟩ := z
  unfold Cod.le at z1
  simp only [Bool.not_eq_true'] at z1
  rcases h.tri a b with k | k | k
  · exact k
  · exact absurd k z2
  · rw [z1] at k; cases k
end RF

/-! for i, x in enumerate(xs), a list that stands -/
namespace RF
open PySem L2
def loopE (n : Nat) (g : GF) (body : SF) : List D → Nat → Lc → Sto → R Fl
  | [], i, env, S => match S[n]? with
    | some (.lst ys) => if ys.length ≤ i then .ok (.nx env) S else .bad
    | _ => .bad
  | _ :: xs, i, env, S => match S[n]? with
    | some (.lst ys) => match ys[i]? with
      | none => .ok (.nx env) S
      | some d => (g (.tup [.int (i : Nat), d]) env S).bind fun env1 S1 => (body env1 S1).bind fun fl S2 => match fl with
        | .nx e => loopE n g body xs (i + 1) e S2
        | .ct e => loopE n g body xs (i + 1) e S2
        | .bk e => .ok (.nx e) S2
        | .rt d => .ok (.rt d) S2
    | _ => .bad
def fForEn (fs : AF) (g : GF) (body : SF) : SF := fun env S => (fs env S).bind fun ds S1 => match ds with
  | [.ref n] => match S1[n]? with
    | some (.lst xs) => loopE n g body xs 0 env S1
    | _ => .bad
  | _ => .bad
section
variable {X : Cx} {E : XK} {pos tpos p : Pos}
end
def forEC (n : Nat) (g : GF) (body : SF) (env : Lc) (S : Sto) : Option Cell → R Fl
  | some (.lst xs) => loopE n g body xs 0 env S
  | _ => .bad
def forEK (g : GF) (body : SF) (env : Lc) : List D → Sto → R Fl
  | [.ref n] => fun S => forEC n g body env S S[n]?
  | _ => fun _ => .bad
end RF

/-! comprehensions that filter and map; dicts with values of a type; keys of a word and a transaction -/
namespace RF
open PySem L2
/-! values of a type -/
section
variable {κ β : Type} [DecidableEq κ] {f : β → D} {kvs : List (κ × β)} {k : κ} {v : β}
def mapV (f : β → D) (kvs : List (κ × β)) : List (κ × D) := kvs.map fun x => (x.1, f x.2)
theorem mapV_val : valK (mapV f kvs) k = (valK kvs k).map f := by
  unfold valK mapV
  induction kvs with
  | nil => rfl
  | cons x r ih =>
    rw [List.map_cons, List.find?_cons, List.find?_cons]
    by_cases h : x.1 = k
    · simp [h]
    · simp only [decide_eq_false h]
      exact ih
theorem mapV_put : putKD (mapV f kvs) k (f v) = mapV f (putKD kvs k v) := by
  unfold putKD
  have e : ((mapV f kvs).any fun kv => decide (kv.1 = k)) = kvs.any fun kv => decide (kv.1 = k) := by
    unfold mapV; rw [List.any_map]; rfl
  rw [e]
  split
  · unfold mapV
    rw [List.map_map, List.map_map]
    refine List.map_congr_left fun x _ => ?_
    show (if x.1 = k then (x.1, f v) else (x.1, f x.2)) = _
    by_cases h : x.1 = k <;> simp [h]
  · unfold mapV
    rw [List.map_append]; rfl
theorem mapV_len : (mapV f kvs).length = kvs.length := List.length_map ..
theorem mapV_keys : (mapV f kvs).map (·.1) = kvs.map (·.1) := by unfold mapV; rw [List.map_map]; rfl
end
/-! (word, transaction) -/
def eWT (x : Str × (Int × Int)) : D := .tup [.str x.1, eT x.2]
def pWT (x : Str × (Int × Int)) : PyData := .tuple [.str x.1, pT x.2]
def kWT : CodK (Str × (Int × Int)) where
  e := eWT
  p := pWT
  ok := fun x => PyData.strOk x.1 = true
  toP := fun S k a h => by
    unfold eWT pWT
    rw [toP_tup, toP_mapM_cons, toP_mapM_cons, toP_mapM_nil, toP_str, if_pos h, fT_eT]
    rfl
  eqv := fun a b => by
    unfold pWT
    simp only [PyData.eqv, PyData.eqvAll, eqv_T]
    obtain ⟨a1, a2⟩ := a
    obtain ⟨b1, b2⟩ := b
    simp only [Prod.mk.injEq]
    by_cases h1 : a1 = b1 <;> by_cases h2 : a2 = b2 <;> simp [h1, h2]
  alike := fun a b => by simp [pWT, pT, PySem.W.alike, PySem.W.alikeAll]
  tupl := fun a => by simp [pWT, isTupP]
  kf := fun x => .tup [.text x.1, .tup [.num x.2.1, .num x.2.2]]
  keyT := fun _ => (rfl)
  inj := fun a b => by
    obtain ⟨a1, a2, a3⟩ := a
    obtain ⟨b1, b2, b3⟩ := b
    simp
  dOf := fun _ => (rfl)
  data := fun _ => (rfl)
  dep := fun a => by simp [pWT, pT, PyData.depth, PyData.depthAll]
theorem keyT_eTk {t : Int × Int} : keyT (eT t) = some (kT.kf t) := (rfl)
theorem eqL_nil {S : Sto} {n m : Nat} {xs : List D} (h1 : S[n]? = some (.lst xs)) (h2 : S[m]? = some (.lst [])) : oEqL (.ref n) (.ref m) S = .ok (.bl xs.isEmpty) S := by
  cases xs with
  | nil => exact eqL_00 h1 h2
  | cons x xs => exact eqL_ne h1 h2 (by simp)
def slC (S : Sto) (l h : Option Int) : Option Cell → R D
  | some (.lst xs) => .ok (.ref S.length) (S ++ [.lst (cutD xs l h)])
  | _ => .bad
end RF

/-! == and != of dicts with nested tuples as keys, entry by entry alike; d[a text] = v of such a dict -/
namespace RF
open PySem L2 PySem.Spec PyProof.Rows
section
variable {P : Program} {w : World} {A : Around} {E : Value → Shared → Prop} {s : Shared} {c d : Addr} {xs ys : List (NestedKey × Addr × Value)}
theorem pairs_same {nm : String} {Q : Bool → Shared → Prop} (hc : (c == sysModules) = false) (hd : (d == sysModules) = false) (hu : (nestedKind P w).room A)
    (mc : s.heap.DictOfH (nestedKind P w) c xs) (md : s.heap.DictOfH (nestedKind P w) d ys) (hl : xs.length = ys.length)
    (hv : ∀ (j : Nat) (k : NestedKey) (p : Addr) (v : Value), xs[j]? = some (k, p, v) → ∃ (q : Addr) (y : Value), ys[j]? = some (k, q, y) ∧ SeqAt.EqAt A s v y true) (fin : Q true s) : wpAny (model P w) A (Builtin.Dict.samePairs nm c d) Q E s := by
  obtain ⟨o1, es1, ep1, g1, _, d1, e1, i1, n1⟩ := mc
  obtain ⟨o2, es2, ep2, g2, _, d2, e2, i2, n2⟩ := md
  have z1 := size_of_entries e1
  have z2 := size_of_entries e2
  have zz : es1.size = es2.size := by omega
  unfold Builtin.Dict.samePairs Builtin.Dict.showsAll
  rw [if_neg (by rw [hc]; simp), if_neg (by rw [hd]; simp)]
  refine wpAny_bind (wpAny_pure (wpAny_bind (wpAny_pure (wpAny_bind (wpAny_dictEntries g1 d1 ?_)))))
  dsimp only
  refine wpAny_bind (wpAny_dictEntries g2 d2 ?_)
  rw [if_neg (by rw [zz]; simp)]
  refine wpAny_bind (wpAny_dictEpoch g1 d1 (wpAny_bind ?_))
  rw [Std.Legacy.Range.forIn_eq_forIn_range']
  simp only [Std.Legacy.Range.size, Nat.sub_zero, Nat.add_sub_cancel, Nat.div_one]
  refine wpAny_forIn_list _ (fun rest q s' => s' = s ∧ q = (none, ()) ∧ ∃ i, rest = List.range' i (es1.size - i) ∧ i ≤ es1.size) _ ?_ ?_ _ _ ⟨rfl, rfl, 0, by simp, Nat.zero_le _⟩
  · rintro x rest q s' ⟨rfl, rfl, i, hr, hi⟩
    have hlt : i < es1.size := by
      by_cases h : i < es1.size
      · exact h
      · rw [show es1.size - i = 0 by omega] at hr; simp at hr
    obtain ⟨rfl, hrest⟩ : x = i ∧ rest = List.range' (i + 1) (es1.size - (i + 1)) := by
      rw [show es1.size - i = (es1.size - (i + 1)) + 1 by omega, List.range'_succ] at hr
      injection hr with h1 h2
      exact ⟨h1, h2⟩
    obtain ⟨⟨k, p, v⟩, hx⟩ : ∃ y, xs[x]? = some y := ⟨xs[x]'(by omega), List.getElem?_eq_getElem _⟩
    obtain ⟨q, y, hy, he⟩ := hv x k p v hx
    have x1 : es1[x]? = some ⟨(nestedKind P w).hash k, .ref p, v⟩ := by rw [entry_at e1 x, hx]; rfl
    have x2 : es2[x]? = some ⟨(nestedKind P w).hash k, .ref q, y⟩ := by rw [entry_at e2 x, hy]; rfl
    refine wpAny_bind (wpAny_dictEntries g1 d1 ?_)
    rw [x1]
    dsimp only
    have hk := i1 _ (List.mem_of_getElem? hx)
    refine wpAny_bind (wpAny_holding (wpAny_bind (wpAny_dictFind_heap hu hk g2 d2 e2 i2 n2 (fun no => absurd hy (no x _)) fun j t hj => ?_)))
    obtain rfl : j = x := idxH_unique n2 hj hy
    refine wpAny_bind (wpAny_dictEntries g2 d2 ?_)
    rw [x2]
    dsimp only
    refine wpAny_holding (he P w E _ ?_)
    show wpAny _ _ (if (!true) = true then _ else _) _ E _
    rw [if_neg (by simp)]
    refine wpAny_bind (wpAny_dictEpoch g1 d1 ?_)
    rw [if_neg (by simp)]
    exact wpAny_pure ⟨rfl, rfl, j + 1, hrest, hlt⟩
  · rintro q s' ⟨rfl, rfl, i, hr, hi⟩
    exact wpAny_pure fin
theorem ne_dictH {Q : Value → Shared → Prop} (hc : (c == sysModules) = false) (hd : (d == sysModules) = false) (hu : A.units + 65 < cLine)
    (mc : s.heap.DictOfH (nestedKind P w) c xs) (md : s.heap.DictOfH (nestedKind P w) d ys) (hl : xs.length = ys.length)
    (hv : ∀ (j : Nat) (k : NestedKey) (p : Addr) (v : Value), xs[j]? = some (k, p, v) → ∃ (q : Addr) (y : Value), ys[j]? = some (k, q, y) ∧ SeqAt.EqAt A.in1 s v y true) (fin : Q (.bool false) s) : wpAny (model P w) A (compareOp .NotEq (.ref c) (.ref d)) Q E s := by
  refine wpAny_richCompare_same_room (op := .NotEq) mc.typeIs md.typeIs PySem.F.slot_dict_ne (wpAny_call_entry PySem.F.slot_dict_ne mc.typeIs PySem.F.entry_dict_ne ?_ (PySem.F.args_dict_ne_2 _ _)) (by omega)
  show wpAny _ _ (Builtin.Dict.dictSlotArgs "__ne__" ⟨[.ref c, .ref d], []⟩ >>= _) _ _ s
  unfold Builtin.Dict.dictSlotArgs
  refine wpAny_bind (wpAny_bind (wpAny_notOrdered_dict mc.typeIs ?_))
  show wpAny _ _ (pure (Value.ref c, Value.ref d)) _ _ s
  refine wpAny_pure (wpAny_bind (wpAny_isInstance (T := "dict") md.typeIs PySem.F.sub_dict_dict ?_))
  simp only [Bool.not_true, Bool.false_eq_true, if_false]
  refine wpAny_bind (wpAny_pure (wpAny_bind (wpAny_pure (wpAny_bind (pairs_same hc hd (nroom hu) mc md hl hv ?_)))))
  exact wpAny_pure ⟨_, rfl, (fun x => nomatch x), by simpa using fin⟩
end
/-- entries alike, in order -/
def ZE (K : PySem.W.Frag) (H : Hp) : List ZN → List ZN → Prop
  | [], [] => True
  | p :: ps, q :: qs => p.1 = q.1 ∧ (∃ d e, Dp K H p.2.2 d ∧ Dp K H q.2.2 e ∧ SeqAt.shaped d = true ∧ SeqAt.shaped e = true ∧ PyData.eqv d e = true) ∧ ZE K H ps qs
  | _, _ => False
def EqVs (A : Around) (s : Shared) (xs ys : List (NestedKey × Addr × Value)) : Prop := xs.length = ys.length ∧ ∀ (j : Nat) (k : NestedKey) (p : Addr) (v : Value), xs[j]? = some (k, p, v) → ∃ (q : Addr) (y : Value), ys[j]? = some (k, q, y) ∧ SeqAt.EqAt A s v y true
theorem EqVs.cons {A : Around} {s : Shared} {k : NestedKey} {p q : Addr} {v y : Value} {xs ys : List (NestedKey × Addr × Value)} (h : SeqAt.EqAt A s v y true) (r : EqVs A s xs ys) : EqVs A s ((k, p, v) :: xs) ((k, q, y) :: ys) := by
  refine ⟨by simp [r.1], fun j k' p' v' hj => ?_⟩
  cases j with
  | zero =>
    simp only [List.getElem?_cons_zero, Option.some.injEq, Prod.mk.injEq] at hj
    obtain ⟨rfl, rfl, rfl⟩ := hj
    exact ⟨q, y, rfl, h⟩
  | succ j =>
    rw [List.getElem?_cons_succ] at hj
    exact r.2 j k' p' v' hj
theorem ZE.vals {X : Cx} {pins : List (Addr × Obj)} {σ : L2.St} {H : Hp} {s : Shared} {A : Around} (hu : A.units + 64 < cLine) (I : Inv X pins σ H s) : ∀ {zs ws : List ZN} {xs ys : List (NestedKey × Addr × Value)}, ZE X.K H zs ws → Paired ZX zs xs → Paired ZX ws ys → EqVs A s xs ys
  | [], [], _, _, _, .nil, .nil => ⟨rfl, fun j k p v h => by simp at h⟩
  | p :: ps, q :: qs, _, _, ⟨h1, ⟨d, e, h2, h3, h4, h5, h6⟩, h7⟩, .cons (b := (k, a, v)) x1 r1, .cons (b := (k', a', v')) x2 r2 => by
    obtain ⟨x1a, x1b, x1c⟩ := x1
    obtain ⟨x2a, x2b, x2c⟩ := x2
    simp only at x1a x1b x1c x2a x2b x2c
    obtain rfl : k = k' := x1a.symm.trans (h1.trans x2a)
    refine EqVs.cons ?_ (ZE.vals hu I h7 r1 r2)
    obtain ⟨as, g1⟩ := Dp.reads I d _ _ h2 x1c
    obtain ⟨bs, g2⟩ := Dp.reads I e _ _ h3 x2c
    unfold SeqAt.shaped at h4 h5
    simp only [Bool.and_eq_true, decide_eq_true_eq] at h4 h5
    have g := SeqAt.eqAt_reads d e A s v v' as bs g1 g2 h4.1 h5.1 (by omega)
    rw [h6] at g
    exact g
  | [], _ :: _, _, _, h, _, _ => h.elim
  | _ :: _, [], _, _, h, _, _ => h.elim
def rEqN (K : PySem.W.Frag) (w : World) (neg : Bool) : R2 := fun x y H Q => ∃ a b zs ws, x = .ref a ∧ y = .ref b ∧ Rd H a (dnO w a zs) ∧ Rd H b (dnO w b ws) ∧ ZOk H zs ∧ ZOk H ws ∧ ZE K H zs ws ∧ Q (.bl (!neg)) H
section
variable {X : Cx} {K : PySem.W.Frag} {E : XK}
theorem op_neN (hu : X.A.units + 65 < cLine) : OpR X (compareOp .NotEq) (rEqN X.K X.w true) := by
  intro pins s σ H x y v u Q I rx ry h
  obtain ⟨a, b, zs, ws, rfl, rfl, ha, hb, za, zb, e, q⟩ := h
  cases (show v = Value.ref a from rx)
  cases (show u = Value.ref b from ry)
  obtain ⟨a1, a2, xs, a3, a4⟩ := dn_of I.hok ha za
  obtain ⟨b1, b2, ys, b3, b4⟩ := dn_of I.hok hb zb
  have ev := ZE.vals (A := X.A.in1) (by show X.A.units + 1 + 64 < cLine; omega) I e a3 b3
  exact ne_dictH a1 b1 hu a4 b4 ev.1 ev.2 ⟨.bl _, H, I, rfl, q⟩
end
/-- entries alike, as data -/
def eqKV (S : Sto) : List (NestedKey × D) → List (NestedKey × D) → Bool
  | [], [] => true
  | p :: ps, q :: qs => decide (p.1 = q.1) && (match toP S 20 p.2, toP S 20 q.2 with | some d, some e => PyData.eqv d e | _, _ => false) && eqKV S ps qs
  | _, _ => false
open Classical in
noncomputable def eqNC (w : World) (neg : Bool) (S : Sto) (c c' : Option Cell) : R D := match c, c' with
  | some (.dn w1 kvs), some (.dn w2 lvs) => if w1 = w ∧ w2 = w ∧ eqKV S kvs lvs = true then .ok (.bl (!neg)) S else .bad
  | _, _ => .bad
noncomputable def oEqN (w : World) (neg : Bool) : Op2 := fun x y S => match x, y with
  | .ref n, .ref m => eqNC w neg S S[n]? S[m]?
  | _, _ => .bad
section
variable {K : PySem.W.Frag} {E : XK}
theorem RN.ze {L : List Addr} {H : Hp} {S : Sto} (rep : Rep K L H S) : ∀ {zs ws : List ZN} {kvs lvs : List (NestedKey × D)}, RN K L H zs kvs → RN K L H ws lvs → eqKV S kvs lvs = true → ZE K H zs ws
  | [], [], [], [], _, _, _ => trivial
  | p :: ps, p' :: ps', q :: qs, q' :: qs', ⟨a, b, c, d⟩, ⟨a', b', c', d'⟩, h => by
    simp only [eqKV, Bool.and_eq_true, decide_eq_true_eq] at h
    obtain ⟨⟨h1, h2⟩, h3⟩ := h
    refine ⟨by rw [a, a', h1], ?_, RN.ze rep d d' h3⟩
    cases e1 : toP S 20 q.2 with
    | none => rw [e1] at h2; cases h2
    | some p1 =>
      cases e2 : toP S 20 q'.2 with
      | none => rw [e1, e2] at h2; cases h2
      | some p2 =>
        rw [e1, e2] at h2
        obtain ⟨x1, x2⟩ := toP_of rep 20 _ _ _ c e1
        obtain ⟨y1, y2⟩ := toP_of rep 20 _ _ _ c' e2
        exact ⟨p1, p2, x1, y1, x2.shaped (by decide), y2.shaped (by decide), h2⟩
  | [], _, _ :: _, _, h, _, _ => h.elim
  | _ :: _, _, [], _, h, _, _ => h.elim
  | _, [], _, _ :: _, _, h, _ => h.elim
  | _, _ :: _, _, [], _, h, _ => h.elim
  | _ :: _, [], _ :: _, [], _, _, h => by simp [eqKV] at h
  | [], _ :: _, [], _ :: _, _, _, h => by simp [eqKV] at h
theorem f_eqN {w : World} {neg : Bool} : OpF K E (rEqN K w neg) (oEqN w neg) := by
  intro L H S x y d1 d2 Q rep r1 r2 q
  unfold oEqN at q
  cases r1 with
  | @ref a n ha =>
    cases r2 with
    | @ref b m hb =>
      obtain ⟨c, hc, rc⟩ := rep.adr ha
      obtain ⟨c', hc', rc'⟩ := rep.adr hb
      simp only [hc, hc'] at q
      cases c with
      | dn w1 kvs =>
        cases c' with
        | dn w2 lvs =>
          simp only [eqNC] at q
          split at q
          · rename_i e
            obtain ⟨rfl, rfl, e⟩ := e
            obtain ⟨zs, hz, rz⟩ := rc
            obtain ⟨ws, hw, rw'⟩ := rc'
            exact ⟨a, b, zs, ws, rfl, rfl, .inl hz, .inl hw, rz.zok, rw'.zok, rz.ze rep rw' e, EndV.val q rep (.bl _)⟩
          · exact q.elim
        | _ => exact q.elim
      | _ => exact q.elim
    | _ => exact q.elim
  | _ => exact q.elim
end
theorem eqKV_gd {S : Sto} : ∀ {kvs : List (NestedKey × D)}, (∀ p ∈ kvs, ∃ d, toP S 20 p.2 = some d ∧ PyData.eqv d d = true) → eqKV S kvs kvs = true
  | [], _ => rfl
  | p :: ps, h => by
    obtain ⟨d, h1, h2⟩ := h p List.mem_cons_self
    simp only [eqKV, h1, h2, Bool.and_eq_true, decide_eq_true_eq, true_and]
    exact eqKV_gd fun q hq => h q (List.mem_cons_of_mem _ hq)
theorem o_eqN {w : World} {neg : Bool} {n m : Nat} {kvs : List (NestedKey × D)} {S : Sto} (h1 : S[n]? = some (.dn w kvs)) (h2 : S[m]? = some (.dn w kvs)) (h : eqKV S kvs kvs = true) : oEqN w neg (.ref n) (.ref m) S = .ok (.bl (!neg)) S := by
  simp only [oEqN, h1, h2, eqNC, h, and_self, if_true]
end RF

/-! d[a text] = v where all keys of d are tuples; a pair of empty dicts == such a pair -/
namespace RF
open PySem L2 PySem.Spec PyProof.Rows
section
variable {P : Program} {w : World} {A : Around} {E : Value → Shared → Prop} {s : Shared} {c d : Addr} {xs ys : List (NestedKey × Addr × Value)}
end
section
variable {X : Cx} {E : XK} {o i : Expr} {pos : Pos} {fo fi : EF}
open Classical in
noncomputable def setXC (w : World) (S : Sto) (n : Nat) (c : Option Cell) (y : D) : R Unit := match c, y with
  | some (.dn w' kvs), .str _ => if w = w' ∧ kvs.length < 100000 then .ok () (S.set n .jk) else .bad
  | _, _ => .bad
noncomputable def oSetX (w : World) (x y : D) (S : Sto) : R Unit := match x with
  | .ref n => setXC w S n S[n]? y
  | _ => .bad
noncomputable def gSubX (w : World) (fo fi : EF) : GF := fun d env S => (fo env S).bind fun x S1 => (fi env S1).bind fun y S2 => (oSetX w x y S2).bind fun _ S3 => .ok env S3
noncomputable def subX3 (env : Lc) : Unit → Sto → R Lc := fun _ S3 => .ok env S3
noncomputable def subX2 (w : World) (env : Lc) (x : D) : D → Sto → R Lc := fun y S2 => (oSetX w x y S2).bind (subX3 env)
noncomputable def subX1 (w : World) (fi : EF) (env : Lc) : D → Sto → R Lc := fun x S1 => (fi env S1).bind (subX2 w env x)
end
def rEqTE (w : World) : R2 := fun x y H Q => ∃ a b p1 p2 q1 q2, x = .ref a ∧ y = .ref b ∧ H a = some (.tup [.ref p1, .ref p2]) ∧ H b = some (.tup [.ref q1, .ref q2]) ∧ p1 ≠ q1 ∧ p2 ≠ q2 ∧
  Rd H p1 (dnO w p1 []) ∧ Rd H p2 (dnO w p2 []) ∧ Rd H q1 (dnO w q1 []) ∧ Rd H q2 (dnO w q2 []) ∧ Q (.bl true) H
section
variable {X : Cx} {pins : List (Addr × Obj)} {σ : L2.St} {H : Hp} {s : Shared}
theorem hu70 {A : Around} {k : Nat} (hr : Room k A) : A.units + 70 < cLine := by have := hr.un; omega
end
open Classical in
noncomputable def isE (w : World) (c : Option Cell) : Bool := match c with
  | some (.dn w' []) => decide (w' = w)
  | _ => false
noncomputable def oEqTE (w : World) : Op2 := fun x y S => match x, y with
  | .tup [.ref a, .ref b], .tup [.ref c, .ref d] => if a ≠ c ∧ b ≠ d ∧ isE w S[a]? = true ∧ isE w S[b]? = true ∧ isE w S[c]? = true ∧ isE w S[d]? = true then .ok (.bl true) S else .bad
  | _, _ => .bad
end RF

/-! defs that raise; raise X('..'); try: .. except X as e: ..; isinstance(e, Y) of the exception that is held -/
namespace RF
open PySem L2
/-- a def that may raise -/
def spX (K : PySem.W.Frag) (n : Nat) (F : FF) : Sp := fun vs H Q E => vs.length = n ∧ ∃ L ds S, Rep K L H S ∧ RDs K L H vs ds ∧ EndV K E L H Q (F ds S)
section
variable {P : Program} {w : World} {K : PySem.W.Frag} {mg : Str → Option Value} {base : Heap}
end
/-! raise -/
def fRaise (C : Addr) : SF := fun _ S => .ex C S
section
variable {X : Cx} {E : XK} {k n i : Nat} {f C : Addr} {fd : FuncData} {ps : List Str} {F : FF} {dvs : List V} {ds : List Value} {dds : List D} {x m : Str} {p p2 pos pos' apos : Pos} {e e1 e2 o c : Expr} {es : List Expr} {fo f1 f2 : EF} {fs : AF} {ft : BF} {W : WX}
/-! a call that may raise, used where it does not -/
/-! a call that may raise, in a try -/
def fMethX (C : Addr) (m : Str) (F : FF) (n : Nat) (fo : EF) (fs : AF) : EF := fun env S => (fo env S).bind fun x S1 => match fldsOf C S1 x with
  | some (_, fl) => if (fl.lookup m).isNone = true then (fs env S1).bind fun ds S2 => if ds.length + 1 = n then F (x :: ds) S2 else .bad else .bad
  | none => .bad
def tES (K : PySem.W.Frag) (W : WX) (f : EF) : TE := fun σ H Q => tE K (fun c d H => W c d σ H) f σ H Q
def tSS (K : PySem.W.Frag) (W : WX) (f : SF) : TS := fun D σ H => tS K (fun c d H => W c d σ H) f D σ H
/-! the bodies of a try -/
end
/-! try: .. except X as e: .. -/
open Classical in
/-- what is the same for all addresses of the exception -/
noncomputable def allA {α : Type} (g : Addr → R α) : R α := if h : ∃ r, ∀ a, g a = r then h.choose else .bad
/-- the name of the clause goes -/
def goneF (i : Nat) : R Fl → R Fl
  | .ok (.nx e) S => .ok (.nx (e.set i none)) S
  | .ok (.rt d) S => .ok (.rt d) S
  | .ok (.bk e) S => .ok (.bk (e.set i none)) S
  | .ok (.ct e) S => .ok (.ct (e.set i none)) S
  | .ex _ _ => .bad
  | .bad => .bad
abbrev Hds := List (Addr × Option (Addr → SF))
noncomputable def tryK (i : Nat) (hs : Hds) (env : Lc) : R Fl → R Fl
  | .ok fl S1 => .ok fl S1
  | .bad => .bad
  | .ex C S1 => match hs.lookup C with
    | some (some fs) => goneF i (allA fun a => fs a (env.set i (some (.exc a))) S1)
    | some none => .ex C S1
    | none => .bad
noncomputable def fTry (i : Nat) (fb : SF) (hs : Hds) : SF := fun env S => tryK i hs env (fb env S)
inductive HsOk (X : Cx) (cls : Value) (suite : List Stmt) : Hds → Prop
  | nil : HsOk X cls suite []
  | yes {C : Addr} {fs : Addr → SF} {r : Hds} : PySem.W.exmOne X.K (.ref C) cls = some true → (∀ (a : Addr) (oe : Obj) (pn : List (Addr × Obj)), Zc (.ref C) none oe → (∃ vs, oe.data = .fields vs) → PSs (X.suite a ((a, oe) :: pn)) suite (tS X.K E0' (fs a))) →
      HsOk X cls suite r → HsOk X cls suite ((C, some fs) :: r)
  | no {C : Addr} {r : Hds} : PySem.W.exmOne X.K (.ref C) cls = some false → HsOk X cls suite r → HsOk X cls suite ((C, none) :: r)
section
variable {X : Cx} {E : XK} {cls : Value} {suite : List Stmt}
theorem RE.unset {K : PySem.W.Frag} {L : List Addr} {H : Hp} {σ : L2.St} {env : Lc} {i : Nat} (r : RE K L H σ env) : RE K L H (σ.set i none) (env.set i none) := by
  refine ⟨by rw [List.length_set, List.length_set, r.len], fun j d h => ?_⟩
  by_cases hj : i = j
  · subst hj
    by_cases hi : i < env.length
    · rw [List.getElem?_set_self hi] at h; cases h
    · rw [List.getElem?_eq_none (by rw [List.length_set]; omega)] at h; cases h
  · rw [List.getElem?_set_ne hj] at h ⊢
    exact r.val j d h
variable {x n : Str} {i : Nat} {body : List Stmt} {b₀ : Stmt} {np pos pos' : Pos} {fb : SF} {hs : Hds}
/-! isinstance(e, Y) -/
def fIsE (i : Nat) (a : Addr) (b : Bool) : EF := fun env S => match env[i]? with
  | some (some (.exc a')) => if a' = a then .ok (.bl b) S else .bad
  | _ => .bad
end
end RF

/-! while -/
namespace RF
open PySem L2
def whileF (ft : BF) (fb : SF) : Nat → Lc → Sto → R Fl
  | 0, _, _ => .bad
  | n + 1, env, S => (ft env S).bind fun b S1 => if b = true then (fb env S1).bind fun fl S2 => match fl with
    | .nx e => whileF ft fb n e S2
    | .ct e => whileF ft fb n e S2
    | .bk e => .ok (.nx e) S2
    | .rt d => .ok (.rt d) S2
    else .ok (.nx env) S1
def fuelW : Nat := 100000
def fWhile (ft : BF) (fb : SF) : SF := fun env S => whileF ft fb fuelW env S
section
variable {X : Cx} {E : XK} {c : Expr} {body : List Stmt} {ft : BF} {fb : SF} {pos : Pos}
theorem xWhile (hp : PassesOwn (model X.prog X.w) X.A X.env X.xe) (hc : L2.PT X c (tT X.K E ft)) (hb : PSs X body (tS X.K E fb)) : PS X (.While c body [] pos) (tS X.K E (fWhile ft fb)) :=
  monoS (ps_while hp hc hb) fun D σ H h => by
    obtain ⟨L, env, S, rep, re, h⟩ := h
    unfold fWhile at h
    generalize fuelW = n at h
    refine ⟨fun m σ H => ∃ L2 env S, Rep X.K L2 H S ∧ RE X.K L2 H σ env ∧ End X.K E L2 H (fun fl _ L1 H1 => FlQ X.K D L1 H1 fl) (whileF ft fb m env S), ⟨n, L, env, S, rep, re, h⟩, ?_⟩
    rintro m σ1 H1 ⟨L1, env1, S1, rep1, re1, h1⟩
    cases m with
    | zero => exact h1.elim
    | succ m =>
      unfold whileF at h1
      refine ⟨L1, env1, S1, rep1, re1, (End.bind h1).imp fun b S2 L2 H2 e2 rep2 h2 => ?_⟩
      cases b with
      | true =>
        rw [if_pos rfl] at h2
        rw [if_pos rfl]
        refine ⟨fun σ3 H3 => ∃ L3 env S, Rep X.K L3 H3 S ∧ RE X.K L3 H3 σ3 env ∧ End X.K E L3 H3 (fun fl _ L1 H1 => FlQ X.K D L1 H1 fl) (whileF ft fb m env S), fun σ3 H3 q => ⟨m, Nat.lt_succ_self m, q⟩, L2, env1, S2, rep2, re1.mono e2, (End.bind h2).imp fun fl S3 L3 H3 e3 rep3 h3 => ?_⟩
        exact turn_of (nxt := fun e S => whileF ft fb m e S) rep3 (fun env4 σ4 r4 h4 => ⟨L3, env4, S3, rep3, r4, h4⟩) h3
      | false =>
        rw [if_neg (by simp)] at h2
        rw [if_neg (by simp)]
        exact h2 L2 H2 (Ex.refl _ _) rep2 σ1 (re1.mono e2)
end
/-- a while that ends: P m holds where m turns are left at most -/
theorem whileF_ok {ft : BF} {fb : SF} (P : Nat → Lc → Sto → Prop) (Q : Lc → Sto → Prop)
    (step : ∀ m e S, P m e S → (∃ S1, ft e S = .ok false S1 ∧ Q e S1) ∨ ∃ S1 e2 S2 m', ft e S = .ok true S1 ∧ fb e S1 = .ok (.nx e2) S2 ∧ m = m' + 1 ∧ P m' e2 S2) :
    ∀ m n e S, P m e S → m < n → ∃ e1 S1, whileF ft fb n e S = .ok (.nx e1) S1 ∧ Q e1 S1
  | m, 0, e, S, _, h => absurd h (Nat.not_lt_zero _)
  | m, n + 1, e, S, p, h => by
    rcases step m e S p with ⟨S1, h1, q⟩ | ⟨S1, e2, S2, m', h1, h2, rfl, p'⟩
    · exact ⟨e, S1, by unfold whileF; rw [h1]; rfl, q⟩
    · obtain ⟨e3, S3, h3, q3⟩ := whileF_ok P Q step m' n e2 S2 p' (by omega)
      exact ⟨e3, S3, by unfold whileF; rw [h1, R.bind_ok, if_pos rfl, h2, R.bind_ok]; exact h3, q3⟩
theorem fWhile_ok {ft : BF} {fb : SF} {m : Nat} {e : Lc} {S : Sto} (P : Nat → Lc → Sto → Prop) (Q : Lc → Sto → Prop)
    (step : ∀ m e S, P m e S → (∃ S1, ft e S = .ok false S1 ∧ Q e S1) ∨ ∃ S1 e2 S2 m', ft e S = .ok true S1 ∧ fb e S1 = .ok (.nx e2) S2 ∧ m = m' + 1 ∧ P m' e2 S2)
    (h : P m e S) (hm : m < 100000) : ∃ e1 S1, fWhile ft fb e S = .ok (.nx e1) S1 ∧ Q e1 S1 := whileF_ok P Q step m fuelW e S h hm
end RF

/-! dict(d) of a dict with nested tuples as keys whose hashes are apart -/
namespace RF
open PySem L2 PySem.Spec PyProof.Rows
theorem atKey_fresh {xs : List (NestedKey × Addr × Value)} {k : NestedKey} (h : k ∉ xs.map (·.1)) : atKey xs k = none := by
  unfold atKey
  rw [Option.map_eq_none_iff, List.find?_eq_none]
  exact fun y hy e => h (List.mem_map.mpr ⟨y, hy, by simpa using e⟩)
theorem stored_all : ∀ {ys acc : List (NestedKey × Addr × Value)}, ((acc ++ ys).map (·.1)).Nodup → storedAllH acc ys = acc ++ ys
  | [], acc, _ => by simp [storedAllH]
  | y :: ys, acc, h => by
    have hn : y.1 ∉ acc.map (·.1) := fun z => by
      rw [List.map_append, List.nodup_append] at h
      exact h.2.2 _ z _ (List.mem_map.mpr ⟨y, List.mem_cons_self, rfl⟩) rfl
    have e : storedH acc y.1 y.2.1 y.2.2 = acc ++ [y] := storedH_new (atKey_fresh hn) _ _
    show storedAllH (storedH acc y.1 y.2.1 y.2.2) ys = _
    rw [e, stored_all (by rw [List.append_assoc]; exact h), List.append_assoc]
    rfl
section
variable {P : Program} {w : World} {A : Around} {E : Value → Shared → Prop} {s : Shared} {o : Addr} {ys : List (NestedKey × Addr × Value)}
theorem dict_copy {Q : Value → Shared → Prop} (hu : A.units + 70 < cLine) (ho : (o == sysModules) = false) (mo : s.heap.DictOfH (nestedKind P w) o ys) (hap : (ys.map fun x => (nestedKind P w).hash x.1).Nodup) (hsz : ys.length ≤ sizeLine)
    (fin : ∀ h', h'.DictOfH (nestedKind P w) s.heap.objs.size ys → (∀ b q, s.heap.get? b = some q → h'.get? b = some q) → Q (.ref s.heap.objs.size) { s with heap := h' }) :
    wpAny (model P w) A (call (.type "dict") [.ref o]) Q E s := by
  refine callType_codes (Q₁ := fun u t => u = .ref s.heap.objs.size ∧ t = { s with heap := s.heap.push { cls := .type "dict", data := .dict #[] } }) F.kt_called_dict (F.kt_typeCall_dict_1 _) PySem.F.entry_dict_init (kt_code_dict_new _ ⟨rfl, rfl⟩) ?_
  rintro u t ⟨rfl, rfl⟩
  have mn : (s.heap.push { cls := .type "dict", data := .dict #[] }).DictOfH (nestedKind P w) s.heap.objs.size [] := Heap.DictOfH.new s.heap
  obtain ⟨ob, es, ep, g, x1, x2, x3, x4, x5⟩ := id mo
  have mo' : (s.heap.push { cls := .type "dict", data := .dict #[] }).DictOfH (nestedKind P w) o ys := ⟨ob, es, ep, Heap.get?_push_of_some _ g, x1, x2, x3, fun y hy => nestedKind_stays.stays (fun b q _ _ e _ => Heap.get?_push_of_some _ e) (x4 y hy), x5⟩
  have hne : s.heap.objs.size ≠ o := fun e => absurd (Heap.lt_size g) (by rw [e]; exact Nat.lt_irrefl _)
  refine ⟨mn.typeIs, PySem.F.args_dict_init_2 _ _, ?_⟩
  unfold Builtin.«dict.__init__»
  refine wpAny_bind ?_
  unfold Builtin.Dict.selfAndRest
  refine wpAny_bind (wpAny_notOrdered_dict mn.typeIs ?_)
  show wpAny _ _ (pure (s.heap.objs.size, [Value.ref o])) _ _ _
  refine wpAny_pure ?_
  refine updateFrom_dictH (A := A.in1) .none (by show A.units + 1 + 1 + 8 < cLine; omega) hne ho mn mo' (.inr ⟨keyed_apart nestedKind_stays mo', hap⟩) (by simpa using hsz) fun h' hd' _ hs => ⟨rfl, fin h' ?_ fun b q e => ?_⟩
  · rw [stored_all (by simpa using x5)] at hd'
    exact hd'
  · exact (hs.2 b (Nat.ne_of_lt (Heap.lt_size e))).trans (Heap.get?_push_of_some _ e)
end
def rDictC (w : World) : List V → Hp → VK → Prop := fun xs H Q => ∃ a zs, xs = [.ref a] ∧ Rd H a (dnO w a zs) ∧ ZOk H zs ∧ (zs.map fun z => z.1.hash w).Nodup ∧ ∀ l, H l = none → Q (.ref l) (upd H l (dnO w l zs))
theorem zx_hash {w : World} {zs : List ZN} {xs : List (NestedKey × Addr × Value)} (r : Paired ZX zs xs) : (xs.map fun x => x.1.hash w) = zs.map fun z => z.1.hash w := by
  induction r with
  | nil => rfl
  | cons h _ ih => rw [List.map_cons, List.map_cons, ih, h.1]
theorem call_dictC {X : Cx} (hu : X.A.units + 70 < cLine) : CallR X (.type "dict") (rDictC X.w) := by
  intro pins s σ H xs us Q I r h
  obtain ⟨a, zs, rfl, ha, hz, hn, q⟩ := h
  obtain ⟨u, rfl, rx⟩ := vals1 r
  cases (show u = Value.ref a from rx)
  obtain ⟨a1, a2, ys, a3, a4⟩ := dn_of I.hok ha hz
  have hm : (s.heap.objs.size == sysModules) = false := beq_eq_false_iff_ne.mpr (Nat.ne_of_gt I.big)
  refine dict_copy hu a1 a4 (by show (ys.map fun x => x.1.hash X.w).Nodup; rw [zx_hash a3]; exact hn) (by rw [← Paired.length a3]; exact a2) fun h' dd hk => ?_
  exact ⟨.ref s.heap.objs.size, _, Inv.laid I (t' := s.toks) (o := dnO X.w s.heap.objs.size zs) (fun b o e => hk b o e) (Nat.le_refl _) (dnO_ok (P := X.prog) hm a2 a3 dd), rfl, q _ (I.hok.fresh (Nat.le_refl _))⟩
open Classical in
noncomputable def dictCC (w : World) (S : Sto) : Option Cell → R D
  | some (.dn w' kvs) => if w' = w ∧ (kvs.map fun p => p.1.hash w).Nodup then .ok (.ref S.length) (S ++ [.dn w kvs]) else .bad
  | _ => .bad
noncomputable def oDictC (w : World) : OpN := fun ds S => match ds with
  | [.ref n] => dictCC w S S[n]?
  | _ => .bad
section
variable {K : PySem.W.Frag} {E : XK} {L : List Addr} {H : Hp} {S : Sto}
theorem RN.hash {w : World} : ∀ {zs : List ZN} {kvs : List (NestedKey × D)}, RN K L H zs kvs → (zs.map fun z => z.1.hash w) = kvs.map fun p => p.1.hash w
  | [], [], _ => rfl
  | p :: ps, q :: qs, ⟨a, _, _, d⟩ => by rw [List.map_cons, List.map_cons, RN.hash d, a]
  | [], _ :: _, h => h.elim
  | _ :: _, [], h => h.elim
theorem f_dictC {w : World} : CaF K E (rDictC w) (oDictC w) := by
  intro L H S xs ds Q rep rs q
  unfold oDictC at q
  split at q
  · rename_i n
    obtain ⟨x, rfl, r⟩ := rs.one
    cases r with
    | @ref a _ ha =>
      obtain ⟨c, hc, rc⟩ := rep.adr ha
      rw [hc] at q
      cases c with
      | dn w' kvs =>
        simp only [dictCC] at q
        split at q
        · rename_i e
          obtain ⟨rfl, e⟩ := e
          obtain ⟨zs, hz, rn⟩ := rc
          refine ⟨a, zs, rfl, .inl hz, rn.zok, by rw [rn.hash]; exact e, fun l hl => ?_⟩
          have ex := Ex.newc (L := L) (o := dnO w' l zs) hl
          refine EndV.val (q.later ex) (rep.newc hl ⟨zs, upd_same, rn.grow ex.gr⟩) (.ref ?_)
          rw [← rep.len, List.getElem?_append_right (Nat.le_refl _)]
          simp
        · exact q.elim
      | _ => exact q.elim
  · exact q.elim
end
theorem o_dictC {w : World} {n : Nat} {kvs : List (NestedKey × D)} {S : Sto} (h : S[n]? = some (.dn w kvs)) (hn : (kvs.map fun p => p.1.hash w).Nodup) : oDictC w [.ref n] S = .ok (.ref S.length) (S ++ [.dn w kvs]) := by
  simp only [oDictC, h, dictCC]
  rw [if_pos ⟨trivial, hn⟩]
end RF

/-! tuple(d): the tuple of the keys -/
namespace RF
open PySem L2 PySem.Spec PyProof.Rows
theorem meets_tuple_keys (d : Addr) (ob : Obj) (es : Array DictEntry) (ep : Nat) (lo : (d == sysModules) = false) (hx : ob.ExactDict) (hdt : ob.data = .dict es ep) (hz : es.size ≤ sizeLine) :
    Meets (Builtin.«tuple.__new__» ⟨[.type "tuple", .ref d], []⟩) (fun A R s => A.handled = none ∧ s.heap.get? d = some ob ∧ ∀ (h' : Heap) (tk : Nat) (acc : Array Value), (∀ b o, s.heap.get? b = some o → h'.get? b = some o) →
      ItemsOf (fun j v => ∃ en, es[j]? = some en ∧ v = en.key) acc es.size → R (.ok (.ret (.ref h'.objs.size))) { s with heap := h'.push { cls := .type "tuple", data := .seq acc }, toks := tk }) :=
  .of_wp fun prog w A R s h => by
    obtain ⟨hh, hg, h⟩ := h
    have hsub := sub_tuple_self
    have hinit := init_tuple_lookup
    have hmh := madeHere_tuple
    have hT : s.TypeIs (.ref d) "dict" := ⟨ob, hg, hx.1⟩
    have hh1 : A.in1.handled = none := hh
    obtain ⟨hp, g, dr, tk0, os⟩ := s
    wp_walk using PySem.AutoSeq1.wpAny_loadPart' hg, wpAny_typeOf hT, PySem.W.kdu_collect (kdl_raw (prog := prog) (w := w) lo hx hdt) hh1 hg hz
    intro h' tk acc hk hi
    show wpAny _ _ (Builtin.Tuple.tupleExact acc.toList.toArray >>= fun v => ret v) _ _ _
    unfold Builtin.Tuple.tupleExact
    refine wpAny_bind (wpAny_newObj_type ?_ (show acc.toList.toArray.size ≤ sizeLine by simp only [Array.toArray_toList]; rw [hi.1]; exact hz))
    have ea : acc.toList.toArray = acc := by simp
    rw [ea]
    exact wpAny_pure ⟨_, rfl, h h' tk acc hk hi⟩
section
variable {P : Program} {w : World} {A : Around} {E : Value → Shared → Prop} {s : Shared}
theorem tuple_keys {d : Addr} {ob : Obj} {es : Array DictEntry} {ep : Nat} {Q : Value → Shared → Prop} (lo : (d == sysModules) = false) (hg : s.heap.get? d = some ob) (hx : ob.ExactDict) (hdt : ob.data = .dict es ep) (hz : es.size ≤ sizeLine) (hh : A.handled = none)
    (fin : ∀ (h' : Heap) (tk : Nat) (acc : Array Value), (∀ b o, s.heap.get? b = some o → h'.get? b = some o) → ItemsOf (fun j v => ∃ en, es[j]? = some en ∧ v = en.key) acc es.size → Q (.ref h'.objs.size) { s with heap := h'.push { cls := .type "tuple", data := .seq acc }, toks := tk }) :
    wpAny (model P w) A (call (.type "tuple") [.ref d]) Q E s :=
  callType_new PySem.F.called_tuple (by decide) (PySem.F.typeCall_tuple_1 _) (PySem.F.newCall_tuple_1 _) (fun obj => PySem.F.args_object_init_2 obj _) PySem.F.entry_tuple_new (meets_tuple_keys d ob es ep lo hx hdt hz) ⟨hh, hg, fun h' tk acc hk hi => ⟨⟨_, Heap.get?_push_size _ rfl, rfl⟩, fin h' tk acc hk hi⟩⟩
end
/-- tuple of a list, a tuple or the keys of such a dict -/
def rTupK : List V → Hp → VK → Prop := fun xs H Q => ∃ a w zs, xs = [V.ref a] ∧ H a = some (dnO w a zs) ∧ ∀ l, H l = none → Q (.ref l) (upd H l (.tup (zs.map fun z => V.ref z.2.1)))
theorem call_tupK {X : Cx} (hc : X.calm = true) : CallR X (.type "tuple") rTupK := by
  intro pins s σ H xs us Q I r h
  obtain ⟨d, w, zs, rfl, hd, q⟩ := h
  obtain ⟨u, rfl, rx⟩ := r.one
  cases rx
  obtain ⟨⟨hs, z, ks, pr, o, es, ep, ho, hx, hdt, he, hn⟩, _⟩ := I.hok d _ hd
  have l1 : es.size = ks.length := by rw [← Array.length_toList, he, List.length_map]
  have l2 : zs.length = ks.length := Paired.length pr
  refine tuple_keys hs ho hx hdt (by omega) (I.ok.hd hc) fun h' tk acc kp it => ?_
  have ea : acc.toList = ks.map fun x => Value.ref x.2.1 := by
    have hl : acc.toList.length = ks.length := by rw [Array.length_toList, it.1]; exact l1
    apply List.ext_getElem?
    intro j
    rw [List.getElem?_map]
    cases hj : acc.toList[j]? with
    | none => rw [List.getElem?_eq_none (by have := List.getElem?_eq_none_iff.mp hj; omega)]; rfl
    | some v =>
      obtain ⟨en, hen, hv⟩ := it.2 j v (by rw [← Array.getElem?_toList]; exact hj)
      have qe : es[j]? = (ks[j]?).map (fun x => (⟨x.1.hash w, .ref x.2.1, x.2.2⟩ : DictEntry)) := by rw [← Array.getElem?_toList, he, List.getElem?_map]
      rw [hen] at qe
      cases hb : ks[j]? with
      | none => rw [hb] at qe; exact nomatch (show some en = none from qe)
      | some b =>
        rw [hb] at qe
        rw [hv, show en = (⟨b.1.hash w, .ref b.2.1, b.2.2⟩ : DictEntry) from Option.some.inj qe]
        rfl
  have rv : Vals (zs.map fun z => V.ref z.2.1) acc.toList := by rw [ea]; exact zx_refs pr
  have I1 : Inv X pins σ H { s with heap := h', toks := tk } := I.kept kp
  have hlen : (zs.map fun z => V.ref z.2.1).length ≤ sizeLine := by rw [List.length_map]; exact z
  have eacc : acc = acc.toList.toArray := by simp
  have I2 := I1.laid (o := .tup (zs.map fun z => V.ref z.2.1)) (h' := h'.push { cls := .type "tuple", data := .seq acc }) (t' := tk) (fun b o e => Heap.get?_push_of_some _ e) (Nat.le_refl _) (show ObjOk X.prog X.w _ _ _ (.tup _) from ⟨hlen, acc.toList, rv, by rw [eacc]; exact IsTup.new _ _⟩)
  exact ⟨.ref h'.objs.size, _, I2, rfl, q _ (I1.hok.fresh (Nat.le_refl _))⟩
def tupKC (S : Sto) (n : Nat) : Option Cell → R D
  | some (.dn _ kvs) => .ok (.tup (keysN kvs)) S
  | _ => oTuple [.ref n] S
def oTupK : OpN := fun ds S => match ds with
  | [.ref n] => tupKC S n S[n]?
  | ds => oTuple ds S
theorem f_tupK {K : PySem.W.Frag} {E : XK} : CaF K E (fun xs H Q => (∃ p ys, xs = [.ref p] ∧ ((SqL K H p ys ∧ ∀ l, H l = none → Q (.ref l) (upd H l (.tup ys))) ∨ (SqT K H p ys ∧ Q (.ref p) H))) ∨ rTupK xs H Q) oTupK := by
  intro L H S xs ds Q rep rs q
  by_cases hd : ∃ n w kvs, ds = [.ref n] ∧ S[n]? = some (.dn w kvs)
  · obtain ⟨n, w, kvs, rfl, hn⟩ := hd
    obtain ⟨x, rfl, r⟩ := rs.one
    cases r with
    | @ref a _ ha =>
      obtain ⟨c, hc, rc⟩ := rep.adr ha
      rw [hn] at hc
      cases hc
      obtain ⟨zs, hz, rn⟩ := rc
      have q : EndV K E L H Q (.ok (.tup (keysN kvs)) S) := by
        unfold oTupK at q
        simp only [hn, tupKC] at q
        exact q
      exact .inr ⟨a, w, zs, rfl, hz, fun p hp => EndV.val (q.later (Ex.new hp)) (rep.new hp) (.tup upd_same (rn.keys.mono (Ex.new hp)))⟩
  · have e : oTupK ds S = oTuple ds S := by
      unfold oTupK
      split
      · rename_i n
        unfold tupKC
        split
        · rename_i w kvs h
          exact absurd ⟨n, w, kvs, rfl, h⟩ hd
        · rfl
      · rfl
    rw [e] at q
    exact .inl (f_tuple L H S xs ds Q rep rs q)
theorem o_tupK {n : Nat} {S : Sto} : oTupK [.ref n] S = tupKC S n S[n]? := (rfl)
theorem o_tupKC {n : Nat} {S : Sto} {w : World} {kvs : List (NestedKey × D)} : tupKC S n (some (.dn w kvs)) = .ok (.tup (keysN kvs)) S := (rfl)
end RF

/-! max of a tuple of data -/
namespace RF
open PySem L2
def rMaxT (K : PySem.W.Frag) : List V → Hp → VK → Prop := fun vs H Q => ∃ (a : Addr) (bs : List VDP) (x : PyData) (ps : List PyData), vs = [V.ref a] ∧ SqT K H a (bs.map (·.1)) ∧ DpAll K H (bs.map (·.1)) (bs.map (·.2.2)) ∧ bs.map (·.2.2) = x :: ps ∧ PySem.W.AlikeAll (x :: ps) ∧
  PyData.depthAll (x :: ps) ≤ 60 ∧ PyData.canLayAll0 (x :: ps) = true ∧ ∀ b ∈ bs, b.2.2 = PySem.W.maxD x ps → Q b.1 H
theorem call_maxT {X : Cx} (hc : X.calm = true) (hu : X.A.units + 65 < cLine) : CallR X (.builtin "max") (rMaxT X.K) := by
  intro pins s σ H vs us Q I r h
  obtain ⟨a, bs, x, ps, rfl, hs, hd, e, hal, hdep, hlay, q⟩ := h
  obtain ⟨its, rv, hl, _⟩ := I.tuple hs
  rw [Vals.ref1 r]
  rw [e] at hd
  obtain ⟨as, hr⟩ := Dp.readsAll I _ _ its hd rv
  refine PySem.W.max_tuple_data (I.ok.hd hc) hl (vs := its.toArray) hr hal (by omega) fun i v h' tk bs' hv hr2 hk => ?_
  have hv' : its[i]? = some v := by simpa using hv
  obtain ⟨y, hy, ry⟩ := vals_at rv hv'
  rw [List.getElem?_map] at hy
  obtain ⟨b, hb, rfl⟩ := Option.map_eq_some_iff.mp hy
  obtain ⟨cs, r3, hi, hm, _⟩ := PySem.W.readsAll_atA (vs := its.toArray) hr i v hv
  have e1 : (x :: ps).getD i .none = b.2.2 := by
    rw [← e, List.getD_eq_getElem?_getD, List.getElem?_map, hb]; rfl
  rw [e1] at r3 hm
  refine ⟨b.1, H, I.kept hk, ry, q b (List.mem_of_getElem? hb) ?_⟩
  exact PySem.SeqAt.Reads.unique _ _ v _ _ (lay_mem hlay _ hm) (PySem.W.reads_keeps hk r3) hr2
def maxTC (S : Sto) (xs : List D) : Option (List PyData) → R D
  | some (p :: ps) => if likeB (p :: ps) = true ∧ notNoneB (p :: ps) = true ∧ pureTs xs = true then .ok (toD (PySem.W.maxD p ps)) S else .bad
  | _ => .bad
def oMaxT : OpN := fun ds S => match ds with
  | [.tup xs] => maxTC S xs (xs.mapM (toP S 20))
  | _ => .bad
section
variable {K : PySem.W.Frag} {E : XK}
theorem f_maxT : CaF K E (rMaxT K) oMaxT := by
  intro L H S xs ds Q rep rs q
  unfold oMaxT at q
  split at q
  · rename_i ys
    obtain ⟨x, rfl, r⟩ := rs.one
    cases r with
    | @tup a vs _ hs rv =>
      cases h2 : ys.mapM (toP S 20) with
      | none => rw [h2] at q; exact q.elim
      | some ps =>
        rw [h2] at q
        cases ps with
        | nil => exact q.elim
        | cons p ps =>
          unfold maxTC at q
          simp only at q
          by_cases hc : likeB (p :: ps) = true ∧ notNoneB (p :: ps) = true ∧ pureTs ys = true
          · rw [if_pos hc] at q
            obtain ⟨hdp, hlay, hdep⟩ := toPs_of 20 (toP_of rep 20) rv h2
            have hlen : ys.length = (p :: ps).length := by rw [← rv.length]; exact dpAll_len hdp
            obtain ⟨bs, e1, e2, e3, e4⟩ := triples rv hlen
            refine ⟨a, bs, p, ps, rfl, by rw [e1]; exact .of hs, by rw [e1, e3]; exact hdp, e3, ⟨likeB_of hc.1, fun z hz => ?_⟩, by omega, hlay, fun b hb hm => ?_⟩
            · have := List.all_eq_true.mp hc.2.1 z hz
              intro e
              rw [e] at this
              cases this
            · have hz : b.2 ∈ ys.zip (p :: ps) := by rw [← e2]; exact List.mem_map_of_mem (f := fun b : VDP => b.2) hb
              have ht := mapM_zip h2 _ hz
              have hpu : pureT b.2.1 = true := pureTs_mem hc.2.2 _ (List.of_mem_zip hz).1
              have e5 := toP_back 20 _ _ hpu ht
              rw [← hm, e5] at q
              exact EndV.val q rep (e4 b hb)
          · rw [if_neg hc] at q; exact q.elim
  · exact q.elim
end
end RF

namespace Qk34
open PySem L2 RF
noncomputable section
structure CA where
  w : World
/-- _law_next -/
def b_law_next (c : CA) : SF := fSeq (fIf (fTest (fBin oGt (fIx (fVar 0) (fC (.int 0))) (fC (.int 0)))) (fSeq (fAsg (fBin oMod (fApp oInt (fCons (fIx (fVar 0) (fC (.int 0))) fNil)) (fVar 1)) (gN 2)) (fSeq (fAsg (fBin oDiv (fIx (fVar 0) (fC (.int 0))) (fVar 1)) (gSub' (fVar 0) (fC (.int 0)))) (fRet (fVar 2)))) fSkip) (fSeq (fAsg (fBin oMod (fApp oInt (fCons (fBin oAdd (fBin oMul (fIx (fVar 0) (fC (.int 1))) (fC (.int 48271))) (fC (.int 12820163))) fNil)) (fC (.int 2147483647))) (gSub' (fVar 0) (fC (.int 1)))) (fRet (fBin oMod (fApp oInt (fCons (fBin oDiv (fBin oMod (fApp oInt (fCons (fBin oAdd (fBin oMul (fIx (fVar 0) (fC (.int 1))) (fC (.int 16807))) (fC (.int 5))) fNil)) (fC (.int 2147483399))) (fC (.int 3))) fNil)) (fVar 1))))
def F_law_next (c : CA) : FF := fnF 3 (b_law_next c)
def lb_law_drawn_0 (c : CA) : SF := fSeq (fAsg (fTup (fCons (fBin oAdd (fC (.int 1)) (fCall (F_law_next c) 2 [] (fCons (fVar 0) (fCons (fC (.int 14)) fNil)))) (fCons (fCall (F_law_next c) 2 [] (fCons (fVar 0) (fCons (fC (.int 6)) fNil))) fNil))) (gN 4)) (fIf (fTest (fBin (oInL true) (fVar 4) (fVar 2))) (fDrop (fBm "list" mAppend (fVar 2) (fCons (fVar 4) fNil))) fSkip)
theorem ap_lb_law_drawn_0 (c : CA) (env : Lc) (S : Sto) : lb_law_drawn_0 c env S = ((fSeq (fAsg (fTup (fCons (fBin oAdd (fC (.int 1)) (fCall (F_law_next c) 2 [] (fCons (fVar 0) (fCons (fC (.int 14)) fNil)))) (fCons (fCall (F_law_next c) 2 [] (fCons (fVar 0) (fCons (fC (.int 6)) fNil))) fNil))) (gN 4)) (fIf (fTest (fBin (oInL true) (fVar 4) (fVar 2))) (fDrop (fBm "list" mAppend (fVar 2) (fCons (fVar 4) fNil))) fSkip))) env S := (rfl)
def lb_law_drawn_1 (c : CA) : SF := fSeq (fAsg (fIx (fVar 2) (fCall (F_law_next c) 2 [] (fCons (fVar 0) (fCons (fApp oLen (fCons (fVar 2) fNil)) fNil)))) (gN 6)) (fIf (fAnd (fTest (fBin oNe (fVar 6) (fVar 4))) (fTest (fBin oGt (fCall (F_law_next c) 2 [] (fCons (fVar 0) (fCons (fC (.int 6)) fNil))) (fC (.int 0))))) (fAsg (fVar 6) (gSubN c.w (fVar 5) (fVar 4))) fSkip)
theorem ap_lb_law_drawn_1 (c : CA) (env : Lc) (S : Sto) : lb_law_drawn_1 c env S = ((fSeq (fAsg (fIx (fVar 2) (fCall (F_law_next c) 2 [] (fCons (fVar 0) (fCons (fApp oLen (fCons (fVar 2) fNil)) fNil)))) (gN 6)) (fIf (fAnd (fTest (fBin oNe (fVar 6) (fVar 4))) (fTest (fBin oGt (fCall (F_law_next c) 2 [] (fCons (fVar 0) (fCons (fC (.int 6)) fNil))) (fC (.int 0))))) (fAsg (fVar 6) (gSubN c.w (fVar 5) (fVar 4))) fSkip))) env S := (rfl)
def lb_law_drawn_2 (c : CA) : SF := fAsg (fTup (fCons (fBin oAdd (fC (.int 100)) (fBin oMod (fApp oInt (fCons (fBin oAdd (fBin oMul (fVar 8) (fVar 7)) (fVar 7)) fNil)) (fC (.int 300)))) (fCons (fC (.int 9)) fNil))) (gSubN c.w (fVar 5) (fTup (fCons (fBin oAdd (fC (.int 100)) (fBin oMod (fApp oInt (fCons (fBin oMul (fVar 8) (fVar 7)) fNil)) (fC (.int 300)))) (fCons (fC (.int 9)) fNil))))
theorem ap_lb_law_drawn_2 (c : CA) (env : Lc) (S : Sto) : lb_law_drawn_2 c env S = ((fAsg (fTup (fCons (fBin oAdd (fC (.int 100)) (fBin oMod (fApp oInt (fCons (fBin oAdd (fBin oMul (fVar 8) (fVar 7)) (fVar 7)) fNil)) (fC (.int 300)))) (fCons (fC (.int 9)) fNil))) (gSubN c.w (fVar 5) (fTup (fCons (fBin oAdd (fC (.int 100)) (fBin oMod (fApp oInt (fCons (fBin oMul (fVar 8) (fVar 7)) fNil)) (fC (.int 300)))) (fCons (fC (.int 9)) fNil)))))) env S := (rfl)
/-- _law_drawn -/
def b_law_drawn (c : CA) : SF := fSeq (fAsg (fLst fNil) (gN 2)) (fSeq (fFor (fRng1 (fCons (fCall (F_law_next c) 2 [] (fCons (fVar 0) (fCons (fC (.int 21)) fNil))) fNil)) (gN 3) (lb_law_drawn_0 c)) (fSeq (fAsg (fDictN0 c.w) (gN 5)) (fSeq (fFor (fIter (fVar 2)) (gN 4) (lb_law_drawn_1 c)) (fSeq (fIf (fAnd (fTest (fBin oEq (fVar 1) (fC (.int 0)))) (fTest (fBin oEq (fCall (F_law_next c) 2 [] (fCons (fVar 0) (fCons (fC (.int 16)) fNil))) (fC (.int 0))))) (fSeq (fAsg (fIx (fTup (fCons (fC (.int 1)) (fCons (fC (.int 7)) (fCons (fC (.int 11)) (fCons (fC (.int 13)) fNil))))) (fCall (F_law_next c) 2 [] (fCons (fVar 0) (fCons (fC (.int 4)) fNil)))) (gN 7)) (fFor (fRng1 (fCons (fC (.int 300)) fNil)) (gN 8) (lb_law_drawn_2 c))) fSkip) (fRet (fLst (fCons (fBin oAdd (fVar 2) (fLst (fCons (fTup (fCons (fC (.int 100)) (fCons (fC (.int 9)) fNil))) fNil))) (fCons (fVar 5) fNil))))))))
def F_law_drawn (c : CA) : FF := fnF 9 (b_law_drawn c)
/-- _law_stream -/
def b_law_stream (c : CA) : SF := fSeq (fAsg (fC (.int 0)) (gN 2)) (fSeq (fIf (fTest (fBin oGe (fVar 0) (fBin oPow (fC (.int 10)) (fC (.int 18))))) (fAsg (fVar 0) (gN 2)) fSkip) (fRet (fLst (fCons (fVar 2) (fCons (fBin oMod (fApp oInt (fCons (fBin oAdd (fBin oAdd (fBin oMul (fVar 0) (fC (.int 48271))) (fBin oMul (fVar 1) (fC (.int 69621)))) (fC (.int 77))) fNil)) (fC (.int 2147483647))) fNil)))))
def F_law_stream (c : CA) : FF := fnF 3 (b_law_stream c)
def wt_ring_of_0 (c : CA) : BF := fAnd (fTest (fBin (oInN c.w false) (fVar 3) (fVar 0))) (fTest (fBin (oInN c.w true) (fVar 3) (fVar 2)))
theorem ap_wt_ring_of_0 (c : CA) (env : Lc) (S : Sto) : wt_ring_of_0 c env S = ((fAnd (fTest (fBin (oInN c.w false) (fVar 3) (fVar 0))) (fTest (fBin (oInN c.w true) (fVar 3) (fVar 2))))) env S := (rfl)
def lb_ring_of_0 (c : CA) : SF := fSeq (fAsg (fC (.bl true)) (gSubN c.w (fVar 2) (fVar 3))) (fAsg (fIxN c.w (fVar 0) (fVar 3)) (gN 3))
theorem ap_lb_ring_of_0 (c : CA) (env : Lc) (S : Sto) : lb_ring_of_0 c env S = ((fSeq (fAsg (fC (.bl true)) (gSubN c.w (fVar 2) (fVar 3))) (fAsg (fIxN c.w (fVar 0) (fVar 3)) (gN 3)))) env S := (rfl)
/-- ring_of -/
def b_ring_of (c : CA) : SF := fSeq (fAsg (fDictN0 c.w) (gN 2)) (fSeq (fAsg (fVar 1) (gN 3)) (fSeq (fWhile (wt_ring_of_0 c) (lb_ring_of_0 c)) (fSeq (fIf (fTest (fBin oNe (fVar 3) (fVar 1))) (fRet (fTup fNil)) fSkip) (fRet (fApp oTupK (fCons (fVar 2) fNil))))))
def F_ring_of (c : CA) : FF := fnF 4 (b_ring_of c)
def lb_law_ring_0 (c : CA) : SF := fSeq (fAsg (fGetN c.w (fVar 0) (fIx (fVar 2) (fUn oNeg (fC (.int 1)))) (fC .non)) (gN 4)) (fSeq (fIf (fTest (fBin oEq (fVar 4) (fVar 1))) (fRet (fVar 2)) fSkip) (fSeq (fIf (fTest (fBin oIsN (fVar 4) (fC .non))) (fRet (fLst fNil)) fSkip) (fDrop (fBm "list" mAppend (fVar 2) (fCons (fVar 4) fNil)))))
theorem ap_lb_law_ring_0 (c : CA) (env : Lc) (S : Sto) : lb_law_ring_0 c env S = ((fSeq (fAsg (fGetN c.w (fVar 0) (fIx (fVar 2) (fUn oNeg (fC (.int 1)))) (fC .non)) (gN 4)) (fSeq (fIf (fTest (fBin oEq (fVar 4) (fVar 1))) (fRet (fVar 2)) fSkip) (fSeq (fIf (fTest (fBin oIsN (fVar 4) (fC .non))) (fRet (fLst fNil)) fSkip) (fDrop (fBm "list" mAppend (fVar 2) (fCons (fVar 4) fNil))))))) env S := (rfl)
/-- _law_ring -/
def b_law_ring (c : CA) : SF := fSeq (fAsg (fLst (fCons (fVar 1) fNil)) (gN 2)) (fSeq (fFor (fRng1 (fCons (fApp oLenN (fCons (fVar 0) fNil)) fNil)) (gN 3) (lb_law_ring_0 c)) (fRet (fLst fNil)))
def F_law_ring (c : CA) : FF := fnF 5 (b_law_ring c)
def wt_rings_0 (c : CA) : BF := fAnd (fTest (fBin (oInN c.w false) (fVar 4) (fVar 0))) (fTest (fBin (oInN c.w true) (fVar 4) (fVar 2)))
theorem ap_wt_rings_0 (c : CA) (env : Lc) (S : Sto) : wt_rings_0 c env S = ((fAnd (fTest (fBin (oInN c.w false) (fVar 4) (fVar 0))) (fTest (fBin (oInN c.w true) (fVar 4) (fVar 2))))) env S := (rfl)
def lb_rings_0 (c : CA) : SF := fSeq (fAsg (fVar 3) (gSubN c.w (fVar 2) (fVar 4))) (fAsg (fIxN c.w (fVar 0) (fVar 4)) (gN 4))
theorem ap_lb_rings_0 (c : CA) (env : Lc) (S : Sto) : lb_rings_0 c env S = ((fSeq (fAsg (fVar 3) (gSubN c.w (fVar 2) (fVar 4))) (fAsg (fIxN c.w (fVar 0) (fVar 4)) (gN 4)))) env S := (rfl)
def lb_rings_1 (c : CA) : SF := fSeq (fAsg (fVar 3) (gN 4)) (fSeq (fWhile (wt_rings_0 c) (lb_rings_0 c)) (fIf (fAnd (fTest (fBin (oInN c.w false) (fVar 4) (fVar 2))) (fTest (fBin oEq (fIxN c.w (fVar 2) (fVar 4)) (fVar 3)))) (fDrop (fBm "list" mAppend (fVar 1) (fCons (fCall (F_ring_of c) 2 [] (fCons (fVar 0) (fCons (fApp oMaxT (fCons (fCall (F_ring_of c) 2 [] (fCons (fVar 0) (fCons (fVar 4) fNil))) fNil)) fNil))) fNil))) fSkip))
theorem ap_lb_rings_1 (c : CA) (env : Lc) (S : Sto) : lb_rings_1 c env S = ((fSeq (fAsg (fVar 3) (gN 4)) (fSeq (fWhile (wt_rings_0 c) (lb_rings_0 c)) (fIf (fAnd (fTest (fBin (oInN c.w false) (fVar 4) (fVar 2))) (fTest (fBin oEq (fIxN c.w (fVar 2) (fVar 4)) (fVar 3)))) (fDrop (fBm "list" mAppend (fVar 1) (fCons (fCall (F_ring_of c) 2 [] (fCons (fVar 0) (fCons (fApp oMaxT (fCons (fCall (F_ring_of c) 2 [] (fCons (fVar 0) (fCons (fVar 4) fNil))) fNil)) fNil))) fNil))) fSkip)))) env S := (rfl)
/-- rings -/
def b_rings (c : CA) : SF := fSeq (fAsg (fLst fNil) (gN 1)) (fSeq (fAsg (fDictN0 c.w) (gN 2)) (fSeq (fIce (fVar 0) (fFor (fIterN (fVar 0)) (gN 3) (lb_rings_1 c))) (fRet (fApp oSorted (fCons (fVar 1) fNil)))))
def F_rings (c : CA) : FF := fnF 5 (b_rings c)
def lb_law_0 (c : CA) : SF := fSeq (fAsg (fCall (F_ring_of c) 2 [] (fCons (fVar 4) (fCons (fVar 5) fNil))) (gN 6)) (fIf (fOr (fNot (fTest (fIsi "tuple" (fVar 6)))) (fTest (fBin oNe (fVar 6) (fApp oTuple (fCons (fCall (F_law_ring c) 2 [] (fCons (fVar 3) (fCons (fVar 5) fNil))) fNil))))) (fRet (fC (.bl false))) fSkip)
theorem ap_lb_law_0 (c : CA) (env : Lc) (S : Sto) : lb_law_0 c env S = ((fSeq (fAsg (fCall (F_ring_of c) 2 [] (fCons (fVar 4) (fCons (fVar 5) fNil))) (gN 6)) (fIf (fOr (fNot (fTest (fIsi "tuple" (fVar 6)))) (fTest (fBin oNe (fVar 6) (fApp oTuple (fCons (fCall (F_law_ring c) 2 [] (fCons (fVar 3) (fCons (fVar 5) fNil))) fNil))))) (fRet (fC (.bl false))) fSkip))) env S := (rfl)
def lb_law_1 (c : CA) : SF := fSeq (fAsg (fCall (F_law_ring c) 2 [] (fCons (fVar 3) (fCons (fVar 5) fNil))) (gN 8)) (fIf (fAnd (fTest (fBin oNeL (fVar 8) (fLst fNil))) (fTest (fBin oEq (fApp oMax1 (fCons (fVar 8) fNil)) (fVar 5)))) (fDrop (fBm "list" mAppend (fVar 7) (fCons (fApp oTuple (fCons (fVar 8) fNil)) fNil))) fSkip)
theorem ap_lb_law_1 (c : CA) (env : Lc) (S : Sto) : lb_law_1 c env S = ((fSeq (fAsg (fCall (F_law_ring c) 2 [] (fCons (fVar 3) (fCons (fVar 5) fNil))) (gN 8)) (fIf (fAnd (fTest (fBin oNeL (fVar 8) (fLst fNil))) (fTest (fBin oEq (fApp oMax1 (fCons (fVar 8) fNil)) (fVar 5)))) (fDrop (fBm "list" mAppend (fVar 7) (fCons (fApp oTuple (fCons (fVar 8) fNil)) fNil))) fSkip))) env S := (rfl)
def lb_law_2 (c : CA) : SF := fSeq (fAsg (fCall (F_rings c) 1 [] (fCons (fVar 4) fNil)) (gN 10)) (fSeq (fIf (fOr (fNot (fTest (fIsi "list" (fVar 10)))) (fOr (fTest (fBin oNe (fVar 10) (fVar 7))) (fTest (fBin (oEqN c.w true) (fVar 4) (fVar 3))))) (fRet (fC (.bl false))) fSkip) (fDrop (fBm "list" mAppend (fVar 10) (fCons (fC (.int 0)) fNil))))
theorem ap_lb_law_2 (c : CA) (env : Lc) (S : Sto) : lb_law_2 c env S = ((fSeq (fAsg (fCall (F_rings c) 1 [] (fCons (fVar 4) fNil)) (gN 10)) (fSeq (fIf (fOr (fNot (fTest (fIsi "list" (fVar 10)))) (fOr (fTest (fBin oNe (fVar 10) (fVar 7))) (fTest (fBin (oEqN c.w true) (fVar 4) (fVar 3))))) (fRet (fC (.bl false))) fSkip) (fDrop (fBm "list" mAppend (fVar 10) (fCons (fC (.int 0)) fNil)))))) env S := (rfl)
def lb_law_3 (c : CA) : SF := fSeq (fAsg (fCall (F_law_drawn c) 2 [] (fCons (fCall (F_law_stream c) 2 [] (fCons (fIx (fVar 0) (fVar 1)) (fCons (fVar 1) fNil))) (fCons (fVar 1) fNil))) (gUnp 2 (gCons' (gN 2) (gCons' (gN 3) gNil')))) (fSeq (fAsg (fApp (oDictC c.w) (fCons (fVar 3) fNil)) (gN 4)) (fSeq (fFor (fIter (fBin oAdd (fVar 2) (fLst (fCons (fTup (fCons (fC (.int 999)) (fCons (fC (.int 1)) fNil))) fNil)))) (gN 5) (lb_law_0 c)) (fSeq (fAsg (fLst fNil) (gN 7)) (fSeq (fFor (fIter (fApp oSortN (fCons (fVar 3) fNil))) (gN 5) (lb_law_1 c)) (fFor (fRng1 (fCons (fC (.int 2)) fNil)) (gN 9) (lb_law_2 c))))))
theorem ap_lb_law_3 (c : CA) (env : Lc) (S : Sto) : lb_law_3 c env S = ((fSeq (fAsg (fCall (F_law_drawn c) 2 [] (fCons (fCall (F_law_stream c) 2 [] (fCons (fIx (fVar 0) (fVar 1)) (fCons (fVar 1) fNil))) (fCons (fVar 1) fNil))) (gUnp 2 (gCons' (gN 2) (gCons' (gN 3) gNil')))) (fSeq (fAsg (fApp (oDictC c.w) (fCons (fVar 3) fNil)) (gN 4)) (fSeq (fFor (fIter (fBin oAdd (fVar 2) (fLst (fCons (fTup (fCons (fC (.int 999)) (fCons (fC (.int 1)) fNil))) fNil)))) (gN 5) (lb_law_0 c)) (fSeq (fAsg (fLst fNil) (gN 7)) (fSeq (fFor (fIter (fApp oSortN (fCons (fVar 3) fNil))) (gN 5) (lb_law_1 c)) (fFor (fRng1 (fCons (fC (.int 2)) fNil)) (gN 9) (lb_law_2 c)))))))) env S := (rfl)
def lb_law_4 (c : CA) : SF := fAsg (fTup (fCons (fBin oAdd (fC (.int 1)) (fBin oMod (fApp oInt (fCons (fBin oAdd (fVar 12) (fC (.int 7))) fNil)) (fC (.int 1200)))) (fCons (fC (.int 0)) fNil))) (gSubN c.w (fVar 11) (fTup (fCons (fBin oAdd (fC (.int 1)) (fVar 12)) (fCons (fC (.int 0)) fNil))))
theorem ap_lb_law_4 (c : CA) (env : Lc) (S : Sto) : lb_law_4 c env S = ((fAsg (fTup (fCons (fBin oAdd (fC (.int 1)) (fBin oMod (fApp oInt (fCons (fBin oAdd (fVar 12) (fC (.int 7))) fNil)) (fC (.int 1200)))) (fCons (fC (.int 0)) fNil))) (gSubN c.w (fVar 11) (fTup (fCons (fBin oAdd (fC (.int 1)) (fVar 12)) (fCons (fC (.int 0)) fNil)))))) env S := (rfl)
/-- law -/
def b_law (c : CA) : SF := fSeq (fFor (fRng1 (fCons (fApp oMin2 (fCons (fApp oLen (fCons (fVar 0) fNil)) (fCons (fC (.int 12)) fNil))) fNil)) (gN 1) (lb_law_3 c)) (fSeq (fIf (fAnd (fTest (fBin oGt (fApp oLen (fCons (fVar 0) fNil)) (fC (.int 0)))) (fTest (fBin oEq (fCall (F_law_next c) 2 [] (fCons (fCall (F_law_stream c) 2 [] (fCons (fIx (fVar 0) (fC (.int 0))) (fCons (fC (.int 99)) fNil))) (fCons (fC (.int 16)) fNil))) (fC (.int 0))))) (fSeq (fAsg (fDictN0 c.w) (gN 11)) (fSeq (fFor (fRng1 (fCons (fC (.int 1200)) fNil)) (gN 12) (lb_law_4 c)) (fIf (fTest (fBin oNe (fCall (F_ring_of c) 2 [] (fCons (fVar 11) (fCons (fTup (fCons (fC (.int 5)) (fCons (fC (.int 0)) fNil))) fNil))) (fApp oTuple (fCons (fCall (F_law_ring c) 2 [] (fCons (fVar 11) (fCons (fTup (fCons (fC (.int 5)) (fCons (fC (.int 0)) fNil))) fNil))) fNil)))) (fRet (fC (.bl false))) fSkip))) fSkip) (fRet (fBin oEqL (fCall (F_rings c) 1 [] (fCons (fDictN0 c.w) fNil)) (fLst fNil))))
def F_law (c : CA) : FF := fnF 13 (b_law c)
end
def top (i : Nat) : Stmt := PySem.Challenge.pw_ringloosed_k34_rings_of_waits.main.body.getD i (.Pass ⟨0, 0, 0, 0⟩)
abbrev s_law_next : Stmt := top 5
abbrev s_law_drawn : Stmt := top 7
abbrev s_law_stream : Stmt := top 4
abbrev s_ring_of : Stmt := top 1
abbrev s_law_ring : Stmt := top 6
abbrev s_rings : Stmt := top 2
abbrev s_law : Stmt := top 8
structure Ad extends CA where
  a_law_next : Addr
  d_law_next : FuncData
  a_law_drawn : Addr
  d_law_drawn : FuncData
  a_law_stream : Addr
  d_law_stream : FuncData
  a_ring_of : Addr
  d_ring_of : FuncData
  a_law_ring : Addr
  d_law_ring : FuncData
  a_rings : Addr
  d_rings : FuncData
  a_law : Addr
  d_law : FuncData
structure Gm (K : PySem.W.Frag) (mg : Str → Option Value) (A : Ad) : Prop where
  z_dict : mg "dict" = none
  z_int : mg "int" = none
  z_isinstance : mg "isinstance" = none
  z_len : mg "len" = none
  z_list : mg "list" = none
  z_max : mg "max" = none
  z_min : mg "min" = none
  z_range : mg "range" = none
  z_sorted : mg "sorted" = none
  z_tuple : mg "tuple" = none
  F_law_next : Fun K "_law_next" "_law_next" s_law_next A.a_law_next A.d_law_next
  b_law_next : Binds K A.d_law_next ["stream", "size"] []
  g_law_next : mg "_law_next" = some (.ref A.a_law_next)
  F_law_drawn : Fun K "_law_drawn" "_law_drawn" s_law_drawn A.a_law_drawn A.d_law_drawn
  b_law_drawn : Binds K A.d_law_drawn ["stream", "k"] []
  g_law_drawn : mg "_law_drawn" = some (.ref A.a_law_drawn)
  F_law_stream : Fun K "_law_stream" "_law_stream" s_law_stream A.a_law_stream A.d_law_stream
  b_law_stream : Binds K A.d_law_stream ["cell", "k"] []
  g_law_stream : mg "_law_stream" = some (.ref A.a_law_stream)
  F_ring_of : Fun K "ring_of" "ring_of" s_ring_of A.a_ring_of A.d_ring_of
  b_ring_of : Binds K A.d_ring_of ["graph", "transaction"] []
  g_ring_of : mg "ring_of" = some (.ref A.a_ring_of)
  F_law_ring : Fun K "_law_ring" "_law_ring" s_law_ring A.a_law_ring A.d_law_ring
  b_law_ring : Binds K A.d_law_ring ["graph", "name"] []
  g_law_ring : mg "_law_ring" = some (.ref A.a_law_ring)
  F_rings : Fun K "rings" "rings" s_rings A.a_rings A.d_rings
  b_rings : Binds K A.d_rings ["graph"] []
  g_rings : mg "rings" = some (.ref A.a_rings)
  F_law : Fun K "law" "law" s_law A.a_law A.d_law
  b_law : Binds K A.d_law ["script"] []
  g_law : mg "law" = some (.ref A.a_law)
section
variable {P : Program} {K : PySem.W.Frag} {mg : Str → Option Value} {base : Heap} {A : Ad}
abbrev N_law_next : List Str := ["stream", "size", "drawn"]
theorem sc_law_next : FnScope N_law_next ["stream", "size"] (defScope s_law_next) := ⟨rfl, rfl, rfl, by decide +kernel, rfl, by decide +kernel, by decide +kernel⟩
theorem ok_law_next (G : Gm K mg A) : FnOk P A.w K mg base CX0 1 A.a_law_next A.d_law_next ["stream", "size"] (spF K 2 (F_law_next A.toCA)) := by
  refine fn_ok G.F_law_next sc_law_next rfl (fun cdv A0 outer s H E hr => ?_)
  have nd := sc_law_next.nd
  exact (xSeq (xIf (xCmpT op_gt f_gt (nomark _) (xIx (hu_of hr) (xVar 0) (xInt) (fun _ _ => rfl)) (xInt)) (xSeq (xSet (i := 2) nd rfl (by first | exact Or.inl rfl | exact Or.inr rfl) (xOp op_mod f_mod (xCT call_int1 f_int (by rfl) G.z_int (by decide +kernel) (xCons (xIx (hu_of hr) (xVar 0) (xInt) (fun _ _ => rfl)) xNil)) (xVar 1))) (xSeq (xAsg (xOp op_fdivW f_div (xIx (hu_of hr) (xVar 0) (xInt) (fun _ _ => rfl)) (xVar 1)) (xgSub (hu_of hr) (xVar 0) (xInt))) (xOne (xRet (xVar 2))))) xSkip) (xSeq (xAsg (xOp op_mod f_mod (xCT call_int1 f_int (by rfl) G.z_int (by decide +kernel) (xCons (xOp op_addA f_add (xOp op_mul f_mul (xIx (hu_of hr) (xVar 0) (xInt) (fun _ _ => rfl)) (xInt)) (xInt)) xNil)) (xInt)) (xgSub (hu_of hr) (xVar 0) (xInt))) (xOne (xRet (xOp op_mod f_mod (xCT call_int1 f_int (by rfl) G.z_int (by decide +kernel) (xCons (xOp op_fdivW f_div (xOp op_mod f_mod (xCT call_int1 f_int (by rfl) G.z_int (by decide +kernel) (xCons (xOp op_addA f_add (xOp op_mul f_mul (xIx (hu_of hr) (xVar 0) (xInt) (fun _ _ => rfl)) (xInt)) (xInt)) xNil)) (xInt)) (xInt)) xNil)) (xVar 1))))))
abbrev N_law_drawn : List Str := ["stream", "k", "names", "turn", "name", "graph", "other", "step", "place"]
theorem sc_law_drawn : FnScope N_law_drawn ["stream", "k"] (defScope s_law_drawn) := ⟨rfl, rfl, rfl, by decide +kernel, rfl, by decide +kernel, by decide +kernel⟩
theorem ok_law_drawn (G : Gm K mg A) : FnOk P A.w K mg base CX0 2 A.a_law_drawn A.d_law_drawn ["stream", "k"] (spF K 2 (F_law_drawn A.toCA)) := by
  refine fn_ok G.F_law_drawn sc_law_drawn rfl (fun cdv A0 outer s H E hr => ?_)
  have nd := sc_law_drawn.nd
  exact (xSeq (xSet (i := 2) nd rfl (by first | exact Or.inl rfl | exact Or.inr rfl) (xLst xNil)) (xSeq (xFor PassesOwn.never rfl (xRng1 (by rfl) G.z_range (xCons (xCall (ok_law_next G) (hr.mono (by decide)) (by rfl) G.g_law_next G.F_law_next.kp G.b_law_next (xCons (xVar 0) (xCons (xInt) xNil))) xNil)) (xgN nd rfl (by first | exact Or.inl rfl | exact Or.inr rfl)) (xSeq (xSet (i := 4) nd rfl (by first | exact Or.inl rfl | exact Or.inr rfl) (xTup (xCons (xOp op_addA f_add (xInt) (xCall (ok_law_next G) (hr.mono (by decide)) (by rfl) G.g_law_next G.F_law_next.kp G.b_law_next (xCons (xVar 0) (xCons (xInt) xNil)))) (xCons (xCall (ok_law_next G) (hr.mono (by decide)) (by rfl) G.g_law_next G.F_law_next.kp G.b_law_next (xCons (xVar 0) (xCons (xInt) xNil))) xNil)))) (xOne (xIf (xCmpT (op_notInD (hu65 hr)) f_notInL rfl (xVar 4) (xVar 2)) (xOne (xExpr (xBm PySem.F.plainAttrs_list PySem.F.slot_list_append PySem.F.type_list_append mt_append f_append (xVar 2) (xCons (xVar 4) xNil)))) xSkip)))) (xSeq (xSet (i := 5) nd rfl (by first | exact Or.inl rfl | exact Or.inr rfl) (xDictN0)) (xSeq (xFor PassesOwn.never rfl (xIter (xVar 2)) (xgN nd rfl (by first | exact Or.inl rfl | exact Or.inr rfl)) (xSeq (xSet (i := 6) nd rfl (by first | exact Or.inl rfl | exact Or.inr rfl) (xIx (hu_of hr) (xVar 2) (xCall (ok_law_next G) (hr.mono (by decide)) (by rfl) G.g_law_next G.F_law_next.kp G.b_law_next (xCons (xVar 0) (xCons (xCB call_lenA f_len (by rfl) G.z_len (by decide +kernel) (xCons (xVar 2) xNil)) xNil))) (fun _ _ => rfl))) (xOne (xIf (PW.pt (xAnd (xCmpT (op_neD (hr.units)) f_ne (nomark _) (xVar 6) (xVar 4)) (xAnd1 (xCmpT op_gt f_gt (nomark _) (xCall (ok_law_next G) (hr.mono (by decide)) (by rfl) G.g_law_next G.F_law_next.kp G.b_law_next (xCons (xVar 0) (xCons (xInt) xNil))) (xInt))))) (xOne (xAsg (xVar 6) (xgSubN (hu65 hr) (xVar 5) (xVar 4)))) xSkip)))) (xSeq (xIf (PW.pt (xAnd (xCmpT (op_eqD (hr.units)) f_eq (nomark _) (xVar 1) (xInt)) (xAnd1 (xCmpT (op_eqD (hr.units)) f_eq (nomark _) (xCall (ok_law_next G) (hr.mono (by decide)) (by rfl) G.g_law_next G.F_law_next.kp G.b_law_next (xCons (xVar 0) (xCons (xInt) xNil))) (xInt))))) (xSeq (xSet (i := 7) nd rfl (by first | exact Or.inl rfl | exact Or.inr rfl) (xIx (hu_of hr) (xTup (xCons (xInt) (xCons (xInt) (xCons (xInt) (xCons (xInt) xNil))))) (xCall (ok_law_next G) (hr.mono (by decide)) (by rfl) G.g_law_next G.F_law_next.kp G.b_law_next (xCons (xVar 0) (xCons (xInt) xNil))) (fun _ _ => rfl))) (xOne (xFor PassesOwn.never rfl (xRng1 (by rfl) G.z_range (xCons (xInt) xNil)) (xgN nd rfl (by first | exact Or.inl rfl | exact Or.inr rfl)) (xOne (xAsg (xTup (xCons (xOp op_addA f_add (xInt) (xOp op_mod f_mod (xCT call_int1 f_int (by rfl) G.z_int (by decide +kernel) (xCons (xOp op_addA f_add (xOp op_mul f_mul (xVar 8) (xVar 7)) (xVar 7)) xNil)) (xInt))) (xCons (xInt) xNil))) (xgSubN (hu65 hr) (xVar 5) (xTup (xCons (xOp op_addA f_add (xInt) (xOp op_mod f_mod (xCT call_int1 f_int (by rfl) G.z_int (by decide +kernel) (xCons (xOp op_mul f_mul (xVar 8) (xVar 7)) xNil)) (xInt))) (xCons (xInt) xNil))))))))) xSkip) (xOne (xRet (xLst (xCons (xOp op_addA f_add (xVar 2) (xLst (xCons (xTup (xCons (xInt) (xCons (xInt) xNil))) xNil))) (xCons (xVar 5) xNil))))))))))
abbrev N_law_stream : List Str := ["cell", "k", "digits"]
theorem sc_law_stream : FnScope N_law_stream ["cell", "k"] (defScope s_law_stream) := ⟨rfl, rfl, rfl, by decide +kernel, rfl, by decide +kernel, by decide +kernel⟩
theorem ok_law_stream (G : Gm K mg A) : FnOk P A.w K mg base CX0 1 A.a_law_stream A.d_law_stream ["cell", "k"] (spF K 2 (F_law_stream A.toCA)) := by
  refine fn_ok G.F_law_stream sc_law_stream rfl (fun cdv A0 outer s H E hr => ?_)
  have nd := sc_law_stream.nd
  exact (xSeq (xSet (i := 2) nd rfl (by first | exact Or.inl rfl | exact Or.inr rfl) (xInt)) (xSeq (xIf (xCmpT op_ge f_ge (nomark _) (xVar 0) (xOp op_pow f_pow (xInt) (xInt))) (xOne (xSet (i := 2) nd rfl (by first | exact Or.inl rfl | exact Or.inr rfl) (xVar 0))) xSkip) (xOne (xRet (xLst (xCons (xVar 2) (xCons (xOp op_mod f_mod (xCT call_int1 f_int (by rfl) G.z_int (by decide +kernel) (xCons (xOp op_addA f_add (xOp op_addA f_add (xOp op_mul f_mul (xVar 0) (xInt)) (xOp op_mul f_mul (xVar 1) (xInt))) (xInt)) xNil)) (xInt)) xNil)))))))
abbrev N_ring_of : List Str := ["graph", "transaction", "passed", "at"]
theorem sc_ring_of : FnScope N_ring_of ["graph", "transaction"] (defScope s_ring_of) := ⟨rfl, rfl, rfl, by decide +kernel, rfl, by decide +kernel, by decide +kernel⟩
theorem ok_ring_of (G : Gm K mg A) : FnOk P A.w K mg base CX0 1 A.a_ring_of A.d_ring_of ["graph", "transaction"] (spF K 2 (F_ring_of A.toCA)) := by
  refine fn_ok G.F_ring_of sc_ring_of rfl (fun cdv A0 outer s H E hr => ?_)
  have nd := sc_ring_of.nd
  exact (xSeq (xSet (i := 2) nd rfl (by first | exact Or.inl rfl | exact Or.inr rfl) (xDictN0)) (xSeq (xSet (i := 3) nd rfl (by first | exact Or.inl rfl | exact Or.inr rfl) (xVar 1)) (xSeq (xWhile PassesOwn.never (PW.pt (xAnd (xCmpT (op_inN (hu65 hr)) f_inN rfl (xVar 3) (xVar 0)) (xAnd1 (xCmpT (op_notInN (hu65 hr)) f_inN rfl (xVar 3) (xVar 2))))) (xSeq (xAsg (xBl) (xgSubN (hu65 hr) (xVar 2) (xVar 3))) (xOne (xSet (i := 3) nd rfl (by first | exact Or.inl rfl | exact Or.inr rfl) (xIxN (hu65 hr) (xVar 0) (xVar 3) (fun _ _ => rfl)))))) (xSeq (xIf (xCmpT (op_neD (hr.units)) f_ne (nomark _) (xVar 3) (xVar 1)) (xOne (xRet (xTup xNil))) xSkip) (xOne (xRet (xCT (call_tuple_of.or (call_tupK rfl)) f_tupK (by rfl) G.z_tuple (by decide +kernel) (xCons (xVar 2) xNil))))))))
abbrev N_law_ring : List Str := ["graph", "name", "ring", "turn", "last"]
theorem sc_law_ring : FnScope N_law_ring ["graph", "name"] (defScope s_law_ring) := ⟨rfl, rfl, rfl, by decide +kernel, rfl, by decide +kernel, by decide +kernel⟩
theorem ok_law_ring (G : Gm K mg A) : FnOk P A.w K mg base CX0 1 A.a_law_ring A.d_law_ring ["graph", "name"] (spF K 2 (F_law_ring A.toCA)) := by
  refine fn_ok G.F_law_ring sc_law_ring rfl (fun cdv A0 outer s H E hr => ?_)
  have nd := sc_law_ring.nd
  exact (xSeq (xSet (i := 2) nd rfl (by first | exact Or.inl rfl | exact Or.inr rfl) (xLst (xCons (xVar 1) xNil))) (xSeq (xFor PassesOwn.never rfl (xRng1 (by rfl) G.z_range (xCons (xCB (call_lenA.or call_lenN) f_lenN (by rfl) G.z_len (by decide +kernel) (xCons (xVar 0) xNil)) xNil)) (xgN nd rfl (by first | exact Or.inl rfl | exact Or.inr rfl)) (xSeq (xSet (i := 4) nd rfl (by first | exact Or.inl rfl | exact Or.inr rfl) (xGetN1 (hu65 hr) (xVar 0) (xIx (hu_of hr) (xVar 2) (xUn un_neg f_neg (xInt)) (fun _ _ => rfl)) ⟨by rfl, by rfl, by rfl, by rfl⟩)) (xSeq (xIf (xCmpT (op_eqD (hr.units)) f_eq (nomark _) (xVar 4) (xVar 1)) (xOne (xRet (xVar 2))) xSkip) (xSeq (xIf (xCmpT op_isN f_isN (nomark _) (xVar 4) (xNon)) (xOne (xRet (xLst xNil))) xSkip) (xOne (xExpr (xBm PySem.F.plainAttrs_list PySem.F.slot_list_append PySem.F.type_list_append mt_append f_append (xVar 2) (xCons (xVar 4) xNil)))))))) (xOne (xRet (xLst xNil)))))
abbrev N_rings : List Str := ["graph", "found", "starts", "start", "at"]
theorem sc_rings : FnScope N_rings ["graph"] (defScope s_rings) := ⟨rfl, rfl, rfl, by decide +kernel, rfl, by decide +kernel, by decide +kernel⟩
theorem ok_rings (G : Gm K mg A) : FnOk P A.w K mg base CX0 2 A.a_rings A.d_rings ["graph"] (spF K 1 (F_rings A.toCA)) := by
  refine fn_ok G.F_rings sc_rings rfl (fun cdv A0 outer s H E hr => ?_)
  have nd := sc_rings.nd
  exact (xSeq (xSet (i := 1) nd rfl (by first | exact Or.inl rfl | exact Or.inr rfl) (xLst xNil)) (xSeq (xSet (i := 2) nd rfl (by first | exact Or.inl rfl | exact Or.inr rfl) (xDictN0)) (xSeq (xIce (xFor PassesOwn.never rfl (xIterN (xVar 0)) (xgN nd rfl (by first | exact Or.inl rfl | exact Or.inr rfl)) (xSeq (xSet (i := 4) nd rfl (by first | exact Or.inl rfl | exact Or.inr rfl) (xVar 3)) (xSeq (xWhile PassesOwn.never (PW.pt (xAnd (xCmpT (op_inN (hu65 hr)) f_inN rfl (xVar 4) (xVar 0)) (xAnd1 (xCmpT (op_notInN (hu65 hr)) f_inN rfl (xVar 4) (xVar 2))))) (xSeq (xAsg (xVar 3) (xgSubN (hu65 hr) (xVar 2) (xVar 4))) (xOne (xSet (i := 4) nd rfl (by first | exact Or.inl rfl | exact Or.inr rfl) (xIxN (hu65 hr) (xVar 0) (xVar 4) (fun _ _ => rfl)))))) (xOne (xIf (PW.pt (xAnd (xCmpT (op_inN (hu65 hr)) f_inN rfl (xVar 4) (xVar 2)) (xAnd1 (xCmpT (op_eqD (hr.units)) f_eq (nomark _) (xIxN (hu65 hr) (xVar 2) (xVar 4) (fun _ _ => rfl)) (xVar 3))))) (xOne (xExpr (xBm PySem.F.plainAttrs_list PySem.F.slot_list_append PySem.F.type_list_append mt_append f_append (xVar 1) (xCons (xCall (ok_ring_of G) (hr.mono (by decide)) (by rfl) G.g_ring_of G.F_ring_of.kp G.b_ring_of (xCons (xVar 0) (xCons (xCB (call_maxT rfl (hu65 hr)) f_maxT (by rfl) G.z_max (by decide +kernel) (xCons (xCall (ok_ring_of G) (hr.mono (by decide)) (by rfl) G.g_ring_of G.F_ring_of.kp G.b_ring_of (xCons (xVar 0) (xCons (xVar 4) xNil))) xNil)) xNil))) xNil)))) xSkip)))))) (xOne (xRet (xCB (call_sortedD (hu65 hr)) f_sorted (by rfl) G.z_sorted (by decide +kernel) (xCons (xVar 1) xNil)))))))
abbrev N_law : List Str := ["script", "k", "names", "graph", "given", "name", "told", "due", "ring", "turn", "found", "long", "place"]
theorem sc_law : FnScope N_law ["script"] (defScope s_law) := ⟨rfl, rfl, rfl, by decide +kernel, rfl, by decide +kernel, by decide +kernel⟩
theorem ok_law (G : Gm K mg A) : FnOk P A.w K mg base CX0 3 A.a_law A.d_law ["script"] (spF K 1 (F_law A.toCA)) := by
  refine fn_ok G.F_law sc_law rfl (fun cdv A0 outer s H E hr => ?_)
  have nd := sc_law.nd
  exact (xSeq (xFor PassesOwn.never rfl (xRng1 (by rfl) G.z_range (xCons (xCB (call_min2 rfl) f_min2 (by rfl) G.z_min (by decide +kernel) (xCons (xCB call_lenA f_len (by rfl) G.z_len (by decide +kernel) (xCons (xVar 0) xNil)) (xCons (xInt) xNil))) xNil)) (xgN nd rfl (by first | exact Or.inl rfl | exact Or.inr rfl)) (xSeq (xAsg (xCall (ok_law_drawn G) (hr.mono (by decide)) (by rfl) G.g_law_drawn G.F_law_drawn.kp G.b_law_drawn (xCons (xCall (ok_law_stream G) (hr.mono (by decide)) (by rfl) G.g_law_stream G.F_law_stream.kp G.b_law_stream (xCons (xIx (hu_of hr) (xVar 0) (xVar 1) (fun _ _ => rfl)) (xCons (xVar 1) xNil))) (xCons (xVar 1) xNil))) (xgUnp rfl (xgCons (xgN nd rfl (by first | exact Or.inl rfl | exact Or.inr rfl)) (xgCons (xgN nd rfl (by first | exact Or.inl rfl | exact Or.inr rfl)) xgNil)))) (xSeq (xSet (i := 4) nd rfl (by first | exact Or.inl rfl | exact Or.inr rfl) (xCT (call_dictC (hu70 hr)) f_dictC (by rfl) G.z_dict (by decide +kernel) (xCons (xVar 3) xNil))) (xSeq (xFor PassesOwn.never rfl (xIter (xOp op_addA f_add (xVar 2) (xLst (xCons (xTup (xCons (xInt) (xCons (xInt) xNil))) xNil)))) (xgN nd rfl (by first | exact Or.inl rfl | exact Or.inr rfl)) (xSeq (xSet (i := 6) nd rfl (by first | exact Or.inl rfl | exact Or.inr rfl) (xCall (ok_ring_of G) (hr.mono (by decide)) (by rfl) G.g_ring_of G.F_ring_of.kp G.b_ring_of (xCons (xVar 4) (xCons (xVar 5) xNil)))) (xOne (xIf (PW.pt (xOr (xNot (xVal (xIsi (xVar 6) (by decide +kernel) (by rfl) G.z_tuple (by rfl) G.z_isinstance))) (xOr1 (xCmpT (op_neD (hr.units)) f_ne (nomark _) (xVar 6) (xCT call_tuple_of f_tuple (by rfl) G.z_tuple (by decide +kernel) (xCons (xCall (ok_law_ring G) (hr.mono (by decide)) (by rfl) G.g_law_ring G.F_law_ring.kp G.b_law_ring (xCons (xVar 3) (xCons (xVar 5) xNil))) xNil)))))) (xOne (xRet (xBl))) xSkip)))) (xSeq (xSet (i := 7) nd rfl (by first | exact Or.inl rfl | exact Or.inr rfl) (xLst xNil)) (xSeq (xFor PassesOwn.never rfl (xIter (xCB ((call_sortedD (hu65 hr)).or (call_sortN rfl (hu65 hr))) f_sortN (by rfl) G.z_sorted (by decide +kernel) (xCons (xVar 3) xNil))) (xgN nd rfl (by first | exact Or.inl rfl | exact Or.inr rfl)) (xSeq (xSet (i := 8) nd rfl (by first | exact Or.inl rfl | exact Or.inr rfl) (xCall (ok_law_ring G) (hr.mono (by decide)) (by rfl) G.g_law_ring G.F_law_ring.kp G.b_law_ring (xCons (xVar 3) (xCons (xVar 5) xNil)))) (xOne (xIf (PW.pt (xAnd (xCmpT (op_neLD (hr.units)) f_neL (nomark _) (xVar 8) (xLst xNil)) (xAnd1 (xCmpT (op_eqD (hr.units)) f_eq (nomark _) (xCB (call_max1D rfl (hu65 hr)) f_max1 (by rfl) G.z_max (by decide +kernel) (xCons (xVar 8) xNil)) (xVar 5))))) (xOne (xExpr (xBm PySem.F.plainAttrs_list PySem.F.slot_list_append PySem.F.type_list_append mt_append f_append (xVar 7) (xCons (xCT call_tuple_of f_tuple (by rfl) G.z_tuple (by decide +kernel) (xCons (xVar 8) xNil)) xNil)))) xSkip)))) (xOne (xFor PassesOwn.never rfl (xRng1 (by rfl) G.z_range (xCons (xInt) xNil)) (xgN nd rfl (by first | exact Or.inl rfl | exact Or.inr rfl)) (xSeq (xSet (i := 10) nd rfl (by first | exact Or.inl rfl | exact Or.inr rfl) (xCall (ok_rings G) (hr.mono (by decide)) (by rfl) G.g_rings G.F_rings.kp G.b_rings (xCons (xVar 4) xNil))) (xSeq (xIf (PW.pt (xOr (xNot (xVal (xIsi (xVar 10) (by decide +kernel) (by rfl) G.z_list (by rfl) G.z_isinstance))) (xOr (xCmpT (op_neD (hr.units)) f_ne (nomark _) (xVar 10) (xVar 7)) (xOr1 (xCmpT (op_neN (hu65 hr)) f_eqN (nomark _) (xVar 4) (xVar 3)))))) (xOne (xRet (xBl))) xSkip) (xOne (xExpr (xBm PySem.F.plainAttrs_list PySem.F.slot_list_append PySem.F.type_list_append mt_append f_append (xVar 10) (xCons (xInt) xNil)))))))))))))) (xSeq (xIf (PW.pt (xAnd (xCmpT op_gt f_gt (nomark _) (xCB call_lenA f_len (by rfl) G.z_len (by decide +kernel) (xCons (xVar 0) xNil)) (xInt)) (xAnd1 (xCmpT (op_eqD (hr.units)) f_eq (nomark _) (xCall (ok_law_next G) (hr.mono (by decide)) (by rfl) G.g_law_next G.F_law_next.kp G.b_law_next (xCons (xCall (ok_law_stream G) (hr.mono (by decide)) (by rfl) G.g_law_stream G.F_law_stream.kp G.b_law_stream (xCons (xIx (hu_of hr) (xVar 0) (xInt) (fun _ _ => rfl)) (xCons (xInt) xNil))) (xCons (xInt) xNil))) (xInt))))) (xSeq (xSet (i := 11) nd rfl (by first | exact Or.inl rfl | exact Or.inr rfl) (xDictN0)) (xSeq (xFor PassesOwn.never rfl (xRng1 (by rfl) G.z_range (xCons (xInt) xNil)) (xgN nd rfl (by first | exact Or.inl rfl | exact Or.inr rfl)) (xOne (xAsg (xTup (xCons (xOp op_addA f_add (xInt) (xOp op_mod f_mod (xCT call_int1 f_int (by rfl) G.z_int (by decide +kernel) (xCons (xOp op_addA f_add (xVar 12) (xInt)) xNil)) (xInt))) (xCons (xInt) xNil))) (xgSubN (hu65 hr) (xVar 11) (xTup (xCons (xOp op_addA f_add (xInt) (xVar 12)) (xCons (xInt) xNil))))))) (xOne (xIf (xCmpT (op_neD (hr.units)) f_ne (nomark _) (xCall (ok_ring_of G) (hr.mono (by decide)) (by rfl) G.g_ring_of G.F_ring_of.kp G.b_ring_of (xCons (xVar 11) (xCons (xTup (xCons (xInt) (xCons (xInt) xNil))) xNil))) (xCT call_tuple_of f_tuple (by rfl) G.z_tuple (by decide +kernel) (xCons (xCall (ok_law_ring G) (hr.mono (by decide)) (by rfl) G.g_law_ring G.F_law_ring.kp G.b_law_ring (xCons (xVar 11) (xCons (xTup (xCons (xInt) (xCons (xInt) xNil))) xNil))) xNil))) (xOne (xRet (xBl))) xSkip)))) xSkip) (xOne (xRet (xCmp (op_eqLD (hr.units)) f_eqL (nomark _) (xCall (ok_rings G) (hr.mono (by decide)) (by rfl) G.g_rings G.F_rings.kp G.b_rings (xCons (xDictN0) xNil)) (xLst xNil))))))
end
end Qk34

namespace Qk34
open PySem L2 RF
abbrev Tr := Int × Int
abbrev Gr := List (Tr × Tr)
/-- ps are the names that were passed from t on, a the one behind them -/
inductive Ch (g : Gr) (t : Tr) : List Tr → Tr → Prop
  | nil : Ch g t [] t
  | snoc {ps : List Tr} {a b : Tr} : Ch g t ps a → valK g a = some b → Ch g t (ps ++ [a]) b
/-- the law's ring -/
def lawR (g : Gr) (t : Tr) : Nat → List Tr → Tr → List Tr
  | 0, _, _ => []
  | n + 1, ring, a => match valK g a with
    | none => []
    | some b => if b = t then ring else lawR g t n (ring ++ [b]) b
def lring (g : Gr) (t : Tr) : List Tr := lawR g t g.length [t] t
/-- the program's wlk -/
def wlk (g : Gr) : Nat → List Tr → Tr → List Tr × Tr
  | 0, ps, a => (ps, a)
  | n + 1, ps, a => match valK g a with
    | none => (ps, a)
    | some b => if a ∈ ps then (ps, a) else wlk g n (ps ++ [a]) b
def pring (g : Gr) (t : Tr) : List Tr := if (wlk g (g.length + 1) [] t).2 = t then (wlk g (g.length + 1) [] t).1 else []
theorem Ch.head {g : Gr} {t : Tr} : ∀ {ps : List Tr} {a : Tr}, Ch g t ps a → ps = [] ∧ a = t ∨ ∃ r, ps = t :: r := by
  intro ps a h
  induction h with
  | nil => exact .inl ⟨rfl, rfl⟩
  | @snoc ps a b h _ ih =>
    rcases ih with ⟨rfl, rfl⟩ | ⟨r, rfl⟩
    · exact .inr ⟨[], rfl⟩
    · exact .inr ⟨r ++ [a], rfl⟩
theorem Ch.link {g : Gr} {t : Tr} : ∀ {ps : List Tr} {a : Tr}, Ch g t ps a → ∀ (us : List Tr) (c : Tr) (vs : List Tr), ps = us ++ c :: vs → valK g c = some (vs.headD a) := by
  intro ps a h
  induction h with
  | nil => intro us c vs e; simp at e
  | @snoc ps a b h hb ih =>
    intro us c vs e
    rcases List.eq_nil_or_concat vs with rfl | ⟨ws, x, rfl⟩
    · have e2 : ps ++ [a] = us ++ [c] := e
      have := List.append_inj' e2 rfl
      obtain ⟨_, e3⟩ := this
      cases e3
      exact hb
    · have e2 : ps ++ [a] = (us ++ c :: ws) ++ [x] := by rw [e]; simp
      obtain ⟨e3, e4⟩ := List.append_inj' e2 rfl
      cases e4
      have := ih us c ws e3
      rw [this]
      cases ws <;> rfl
/-- a set that is closed and without t: the law finds nothing from there -/
theorem lawR_out {g : Gr} {t : Tr} {C : Tr → Prop} (hc : ∀ c d, C c → valK g c = some d → C d) (ht : ¬ C t) : ∀ (n : Nat) (ring : List Tr) (b : Tr), C b → lawR g t n ring b = []
  | 0, _, _, _ => rfl
  | n + 1, ring, b, h => by
    unfold lawR
    cases q : valK g b with
    | none => rfl
    | some d =>
      have hd := hc b d h q
      simp only
      rw [if_neg (fun e : d = t => ht (e ▸ hd))]
      exact lawR_out hc ht n _ d hd
theorem val_mem {g : Gr} {k : Tr} (h : valK g k ≠ none) : k ∈ g.map (·.1) := by
  unfold valK at h
  cases q : g.find? (fun kv => decide (kv.1 = k)) with
  | none => rw [q] at h; exact absurd rfl h
  | some y =>
    have h1 := List.mem_of_find?_eq_some q
    have h2 : y.1 = k := by simpa using List.find?_some q
    rw [← h2]
    exact List.mem_map_of_mem (f := (·.1)) h1
theorem mem_val {g : Gr} {k : Tr} (h : k ∈ g.map (·.1)) : valK g k ≠ none := by
  obtain ⟨p, hp, e⟩ := List.mem_map.mp h
  unfold valK
  intro q
  rw [Option.map_eq_none_iff, List.find?_eq_none] at q
  exact q p hp (by simpa using e)
theorem sub_len {α : Type} [DecidableEq α] : ∀ {ps l : List α}, ps.Nodup → (∀ p ∈ ps, p ∈ l) → ps.length ≤ l.length
  | [], _, _, _ => Nat.zero_le _
  | p :: ps, l, hn, hs => by
    rw [List.nodup_cons] at hn
    have hp := hs p List.mem_cons_self
    have := sub_len (l := l.erase p) hn.2 fun x hx => (List.mem_erase_of_ne (fun (e : x = p) => hn.1 (e ▸ hx))).mpr (hs x (List.mem_cons_of_mem _ hx))
    rw [List.length_erase_of_mem hp] at this
    have : 0 < l.length := List.length_pos_of_mem hp
    rw [List.length_cons]
    omega
theorem len_le {g : Gr} {ps : List Tr} (hn : ps.Nodup) (hk : ∀ p ∈ ps, valK g p ≠ none) : ps.length ≤ g.length := by
  have := sub_len hn fun p hp => val_mem (hk p hp)
  rwa [List.length_map] at this
/-- a name that was passed comes again: the set from there on is closed -/
theorem back_out {g : Gr} {t : Tr} {ps : List Tr} {b : Tr} (h : Ch g t ps b) (hn : ps.Nodup) (hb : b ∈ ps) (hne : b ≠ t) : ∃ C : Tr → Prop, C b ∧ (∀ c d, C c → valK g c = some d → C d) ∧ ¬ C t := by
  obtain ⟨us, vs, e⟩ := List.append_of_mem hb
  refine ⟨fun c => c ∈ b :: vs, List.mem_cons_self, fun c d hc hd => ?_, fun ht => ?_⟩
  · obtain ⟨u2, v2, e2⟩ := List.append_of_mem hc
    have hl := h.link (us ++ u2) c v2 (by rw [e, e2]; simp)
    rw [hd] at hl
    cases hl
    cases v2 with
    | nil => exact List.mem_cons_self
    | cons x v2 =>
      rw [e2]
      simp
  · rcases h.head with ⟨rfl, rfl⟩ | ⟨r, er⟩
    · exact hne rfl
    · rw [e] at er hn
      cases us with
      | nil => injection er with e1 e2; exact hne e1
      | cons u us =>
        injection er with e1 e2
        subst e1
        rw [List.cons_append, List.nodup_cons] at hn
        exact hn.1 (List.mem_append_right _ ht)
theorem walk_law {g : Gr} {t : Tr} : ∀ (n : Nat) (ps : List Tr) (a : Tr), Ch g t ps a → ps.Nodup → (∀ p ∈ ps, valK g p ≠ none) → g.length < n + ps.length → a ∉ ps →
    (if (wlk g n ps a).2 = t then (wlk g n ps a).1 else []) = lawR g t (g.length - ps.length) (ps ++ [a]) a
  | 0, ps, a, h, hn, hk, hl, ha => by have := len_le hn hk; omega
  | n + 1, ps, a, h, hn, hk, hl, ha => by
    unfold wlk
    cases q : valK g a with
    | none =>
      simp only
      have e1 : lawR g t (g.length - ps.length) (ps ++ [a]) a = [] := by
        cases g.length - ps.length with
        | zero => rfl
        | succ m => unfold lawR; rw [q]
      rw [e1]
      split
      · rename_i e
        rcases h.head with ⟨rfl, _⟩ | ⟨r, rfl⟩
        · rfl
        · exact absurd (e ▸ List.mem_cons_self) ha
      · rfl
    | some b =>
      simp only
      rw [if_neg ha]
      have hn' : (ps ++ [a]).Nodup := by
        rw [List.nodup_append]
        refine ⟨hn, by simp, fun x hx y hy e => ?_⟩
        rw [List.mem_singleton] at hy
        subst hy; subst e
        exact ha hx
      have hk' : ∀ p ∈ ps ++ [a], valK g p ≠ none := fun p hp => by
        rcases List.mem_append.mp hp with hp | hp
        · exact hk p hp
        · rw [List.mem_singleton.mp hp, q]; simp
      have h' := h.snoc q
      have hlen := len_le hn' hk'
      rw [List.length_append, List.length_singleton] at hlen
      obtain ⟨m, hm⟩ : ∃ m, g.length - ps.length = m + 1 := ⟨g.length - ps.length - 1, by omega⟩
      rw [hm]
      unfold lawR
      rw [q]
      simp only
      by_cases hbt : b = t
      · rw [if_pos hbt]
        have hmem : b ∈ ps ++ [a] := by
          rcases h'.head with ⟨e, _⟩ | ⟨r, e⟩
          · simp at e
          · rw [e, hbt]; exact List.mem_cons_self
        have hw : wlk g n (ps ++ [a]) b = (ps ++ [a], b) := by
          cases n with
          | zero => rfl
          | succ n =>
            unfold wlk
            split
            · rfl
            · rw [if_pos hmem]
        rw [hw, if_pos hbt]
      · rw [if_neg hbt]
        by_cases hmem : b ∈ ps ++ [a]
        · obtain ⟨C, c1, c2, c3⟩ := back_out h' hn' hmem hbt
          rw [lawR_out c2 c3 m _ b c1]
          have hw : wlk g n (ps ++ [a]) b = (ps ++ [a], b) := by
            cases n with
            | zero => rfl
            | succ n =>
              unfold wlk
              split
              · rfl
              · rw [if_pos hmem]
          rw [hw, if_neg hbt]
        · have := walk_law n (ps ++ [a]) b h' hn' hk' (by rw [List.length_append, List.length_singleton]; omega) hmem
          rw [this, show g.length - (ps ++ [a]).length = m by rw [List.length_append, List.length_singleton]; omega]
theorem pring_eq (g : Gr) (t : Tr) : pring g t = lring g t := by
  have := walk_law (g := g) (t := t) (g.length + 1) [] t .nil List.nodup_nil (fun p hp => by cases hp) (by simp) (by simp)
  exact this
end Qk34

namespace Qk34
open PySem L2 RF
def IsG (c : CA) (S : Sto) (n : Nat) (g : Gr) : Prop := S[n]? = some (.dn c.w (kT.enc (mapV eT g))) ∨ S[n]? = some (.df c.w (kT.enc (mapV eT g)))
theorem IsG.val {c : CA} {S : Sto} {n : Nat} {g : Gr} (h : IsG c S n g) (a : Tr) : lookN c.w S (.ref n) (eT a) = some ((valK g a).map eT) := by
  rcases h with h | h <;> rw [lookN_ref, h]
  · rw [lookNC_dn, keyT_eTk]; simp only [Option.map_some, CodK.val, mapV_val]
  · rw [lookNC_df, keyT_eTk]; simp only [Option.map_some, CodK.val, mapV_val]
theorem IsG.mono {c : CA} {S S1 : Sto} {n : Nat} {g : Gr} {P : Nat → Prop} (h : IsG c S n g) (fr : Fr S S1 P) (hp : ¬ P n) : IsG c S1 n g := by
  rcases h with h | h
  · exact .inl (fr.get h hp)
  · exact .inr (fr.get h hp)
theorem IsG.lt {c : CA} {S : Sto} {n : Nat} {g : Gr} (h : IsG c S n g) : n < S.length := by
  rcases h with h | h <;> exact (List.getElem?_eq_some_iff.mp h).1
abbrev Pa := List (Tr × Unit)
def fU : Unit → D := fun _ => .bl true
def pa (ps : List Tr) : Pa := ps.map fun p => (p, ())
theorem pa_val {ps : List Tr} {a : Tr} : (valK (mapV fU (pa ps)) a).isSome = decide (a ∈ ps) := by
  rw [mapV_val, Option.isSome_map]
  unfold pa valK
  rw [Option.isSome_map]
  induction ps with
  | nil => rfl
  | cons p ps ih =>
    rw [List.map_cons, List.find?_cons]
    by_cases h : p = a
    · simp [h]
    · simp only [h, decide_false, ih, List.mem_cons]
      have : ¬ a = p := fun e => h e.symm
      simp [this]
theorem pa_put {ps : List Tr} {a : Tr} (h : a ∉ ps) : putKD (mapV fU (pa ps)) a (.bl true) = mapV fU (pa (ps ++ [a])) := by
  show putKD (mapV fU (pa ps)) a (fU ()) = _
  rw [mapV_put]
  congr 1
  unfold putKD pa
  rw [if_neg (fun z => h (by
    obtain ⟨p, hp, e⟩ := List.any_eq_true.mp z
    obtain ⟨q, hq, rfl⟩ := List.mem_map.mp hp
    have : q = a := by simpa using e
    exact this ▸ hq)), List.map_append]
  rfl
theorem pa_keys {ps : List Tr} : keysN (kT.enc (mapV fU (pa ps))) = ps.map eT := by
  rw [CodK.keys, mapV_keys]
  unfold pa
  rw [List.map_map]
  show kT.es (ps.map fun p => p) = _
  rw [List.map_id']
  rfl
theorem pa_len {ps : List Tr} : (kT.enc (mapV fU (pa ps))).length = ps.length := by rw [CodK.enc_len, mapV_len]; exact List.length_map ..
theorem ringof_eq (c : CA) {n : Nat} {g : Gr} {t : Tr} {S : Sto} (hg : IsG c S n g) (hl : g.length < 2000) : ∃ S1, F_ring_of c [.ref n, eT t] S = .ok (.tup ((lring g t).map eT)) S1 ∧ Fr S S1 (fun _ => False) := by
  let P : Nat → Lc → Sto → Prop := fun m e S1 => ∃ ps a, e = [some (.ref n), some (eT t), some (.ref S.length), some (eT a)] ∧ S1[S.length]? = some (.dn c.w (kT.enc (mapV fU (pa ps)))) ∧ Fr S S1 (fun _ => False) ∧ ps.Nodup ∧ (∀ p ∈ ps, valK g p ≠ none) ∧ ps.length + m = g.length ∧ wlk g (g.length + 1) [] t = wlk g (m + 1) ps a
  let Q : Lc → Sto → Prop := fun e S1 => ∃ ps a, e = [some (.ref n), some (eT t), some (.ref S.length), some (eT a)] ∧ S1[S.length]? = some (.dn c.w (kT.enc (mapV fU (pa ps)))) ∧ Fr S S1 (fun _ => False) ∧ wlk g (g.length + 1) [] t = (ps, a)
  have step : ∀ m e S1, P m e S1 → (∃ S2, wt_ring_of_0 c e S1 = .ok false S2 ∧ Q e S2) ∨ ∃ S2 e2 S3 m', wt_ring_of_0 c e S1 = .ok true S2 ∧ lb_ring_of_0 c e S2 = .ok (.nx e2) S3 ∧ m = m' + 1 ∧ P m' e2 S3 := by
    rintro m e S1 ⟨ps, a, rfl, h1, fr, hn, hk, hm, hw⟩
    have hg1 := hg.mono fr (fun z => z)
    have hv := hg1.val a
    cases q : valK g a with
    | none =>
      rw [q] at hv
      refine .inl ⟨S1, ?_, ps, a, rfl, h1, fr, by rw [hw]; unfold wlk; rw [q]⟩
      simp only [ap_fVar, varK_some, ap_fBin, ap_binK, ap_fTest, ap_testK, ap_fAnd, ap_andK, lookN_ref, o_inN, o_inNK, R.bind_ok, List.getElem?_cons_zero, List.getElem?_cons_succ, Bool.false_eq_true, if_false, Bool.not_false, ap_wt_ring_of_0, hv, Option.map_none, Option.isSome_none]
    | some b =>
      rw [q] at hv
      by_cases ha : a ∈ ps
      · refine .inl ⟨S1, ?_, ps, a, rfl, h1, fr, by rw [hw]; unfold wlk; rw [q]; simp only; rw [if_pos ha]⟩
        simp only [ap_fVar, varK_some, ap_fBin, ap_binK, ap_fTest, ap_testK, ap_fAnd, ap_andK, lookN_ref, lookNC_dn, o_inN, o_inNK, o_someMap, R.bind_ok, List.getElem?_cons_zero, List.getElem?_cons_succ, Bool.false_eq_true, if_true, if_false, decide_true, Bool.not_true, ap_wt_ring_of_0, hv, Option.map_some, Option.isSome_some, h1, keyT_eTk, CodK.val, pa_val, ha]
      · have hn' : (ps ++ [a]).Nodup := by
          rw [List.nodup_append]
          refine ⟨hn, by simp, fun x hx y hy e => ?_⟩
          rw [List.mem_singleton] at hy
          subst hy; subst e
          exact ha hx
        have hk' : ∀ p ∈ ps ++ [a], valK g p ≠ none := fun p hp => by
          rcases List.mem_append.mp hp with hp | hp
          · exact hk p hp
          · rw [List.mem_singleton.mp hp, q]; simp
        have hlen := len_le hn' hk'
        rw [List.length_append, List.length_singleton] at hlen
        have hcap : (kT.enc (mapV fU (pa ps))).length < 100000 := by rw [pa_len]; omega
        have hpl : S.length ≠ n := by have := hg.lt; omega
        have hv2 : lookN c.w (S1.set S.length (.dn c.w (kT.enc (mapV fU (pa (ps ++ [a])))))) (.ref n) (eT a) = some (some (eT b)) := by
          have hg2 : IsG c (S1.set S.length (.dn c.w (kT.enc (mapV fU (pa (ps ++ [a])))))) n g := by
            rcases hg1 with h | h
            · exact .inl (by rw [List.getElem?_set_ne hpl]; exact h)
            · exact .inr (by rw [List.getElem?_set_ne hpl]; exact h)
          rw [hg2.val, q]; rfl
        refine .inr ⟨S1, [some (.ref n), some (eT t), some (.ref S.length), some (eT b)], S1.set S.length (.dn c.w (kT.enc (mapV fU (pa (ps ++ [a]))))), m - 1, ?_, ?_, by omega, ps ++ [a], b, rfl, set_get h1, fr.new (Fr.set (P := fun i => i = S.length) rfl) (fun i hi z => by omega), hn', hk', by rw [List.length_append, List.length_singleton]; omega, ?_⟩
        · simp only [ap_fVar, varK_some, ap_fBin, ap_binK, ap_fTest, ap_testK, ap_fAnd, ap_andK, lookN_ref, lookNC_dn, o_inN, o_inNK, o_someMap, R.bind_ok, List.getElem?_cons_zero, List.getElem?_cons_succ, Bool.false_eq_true, if_true, if_false, decide_false, Bool.not_true, Bool.not_false, ap_wt_ring_of_0, hv, Option.map_some, Option.isSome_some, h1, keyT_eTk, CodK.val, pa_val, ha]
        · simp only [ap_fVar, varK_some, ap_fC, ap_fBin, ap_binK, ap_fSeq, ap_seqK_nx, ap_fAsg, ap_asgK, ap_asgK2, ap_gN, o_getDK, ap_fIxN, o_ixN, oSetN_ref, setNC_dn, setNK_some, ap_gSubN, ap_gnK, ap_gnK2, ap_gnK3, R.bind_ok, List.getElem?_cons_zero, List.getElem?_cons_succ, List.set_cons_zero, List.set_cons_succ, if_true, ap_lb_ring_of_0, h1, keyT_eTk, CodK.put, pa_put ha, hcap, hv2]
        · rw [hw, show m - 1 + 1 = m by omega]
          conv => lhs; unfold wlk
          rw [q]
          simp only
          rw [if_neg ha]
  obtain ⟨e1, S1, h, ps, a, rfl, q1, q2, q3⟩ := fWhile_ok (ft := wt_ring_of_0 c) (fb := lb_ring_of_0 c) (m := g.length) (e := [some (.ref n), some (eT t), some (.ref S.length), some (eT t)]) (S := S ++ [.dn c.w []]) P Q step ⟨[], t, rfl, get_app0, Fr.app _ _ _, List.nodup_nil, fun p hp => (by cases hp), by simp, rfl⟩ (by omega)
  have hne : oNe (eT a) (eT t) S1 = .ok (.bl (!decide (a = t))) S1 := o_neT
  have hpr := pring_eq g t
  unfold pring at hpr
  rw [q3] at hpr
  simp only at hpr
  refine ⟨S1, ?_, q2⟩
  unfold F_ring_of b_ring_of
  by_cases hat : a = t
  · rw [if_pos hat] at hpr
    have ht : oTupK [.ref S.length] S1 = .ok (.tup (ps.map eT)) S1 := by rw [o_tupK, q1, o_tupKC, pa_keys]
    rw [hpr] at ht
    subst hat
    simp only [ap_fVar, varK_some, ap_fBin, ap_binK, ap_fApp, ap_fNil, ap_fCons, ap_consK, ap_consK2, ap_fTup, ap_tupK, ap_fTest, ap_testK, ap_fSkip, ap_fSeq, ap_seqK_nx, ap_fIf, ap_ifK, ap_fRet, ap_retK, ap_fAsg, ap_asgK, ap_asgK2, ap_gN, ap_fnF, ap_fnK_rt, o_ne, neK_some, ap_fDictN0, fT_eT, eqv_T, R.bind_ok, List.map_cons, List.map_nil, List.length_cons, List.length_nil, List.cons_append, List.nil_append, Nat.zero_add, Nat.reduceAdd, Nat.reduceSub, List.replicate_succ, List.replicate_zero, List.getElem?_cons_zero, List.getElem?_cons_succ, List.set_cons_zero, List.set_cons_succ, Bool.false_eq_true, if_true, if_false, decide_true, Nat.reduceLeDiff, Bool.not_true, h, ht]
  · rw [if_neg hat] at hpr
    rw [← hpr]
    simp only [ap_fVar, varK_some, ap_fBin, ap_binK, ap_fNil, ap_fTup, ap_tupK, ap_fTest, ap_testK, ap_fSkip, ap_fSeq, ap_seqK_nx, ap_seqK_rt, ap_fIf, ap_ifK, ap_fRet, ap_retK, ap_fAsg, ap_asgK, ap_asgK2, ap_gN, ap_fnF, ap_fnK_rt, o_ne, neK_some, ap_fDictN0, fT_eT, eqv_T, R.bind_ok, List.map_cons, List.map_nil, List.length_cons, List.length_nil, List.cons_append, List.nil_append, Nat.zero_add, Nat.reduceAdd, Nat.reduceSub, List.replicate_succ, List.replicate_zero, List.getElem?_cons_zero, List.getElem?_cons_succ, List.set_cons_zero, List.set_cons_succ, if_true, decide_false, Nat.reduceLeDiff, Bool.not_false, h, hne, hat]
end Qk34

namespace Qk34
open PySem L2 RF
theorem run_neg1 {xs : List D} {x : D} : atI (xs ++ [x]) (-1) = some x := by
  unfold atI ixN
  rw [if_neg (by decide), if_pos (by rw [List.length_append]; simp; omega)]
  have e : (-1 + ((xs ++ [x]).length : Int)).toNat = xs.length := by rw [List.length_append, List.length_singleton]; omega
  rw [e]
  simp
theorem qNT {t : Tr} : PyData.eqv .none (pT t) = false := by simp [PyData.eqv, pT]
theorem nonT {t : Tr} : isNonD (eT t) = false := (rfl)
theorem last_at {ps : List Tr} {a : Tr} : atI ((ps ++ [a]).map eT) (-1) = some (eT a) := by
  have e : (ps ++ [a]).map eT = ps.map eT ++ [eT a] := by rw [List.map_append]; rfl
  rw [e]
  exact run_neg1
/-- one turn after the other -/
theorem lawring_loop (c : CA) {n r : Nat} {g : Gr} {t : Tr} (hl : g.length < 2000) : ∀ (m k : Nat) (ps : List Tr) (a : Tr) (S : Sto) (f3 f4 : Option D), IsG c S n g → S[r]? = some (.lst ((ps ++ [a]).map eT)) → n ≠ r → ps.length = k → k + m = g.length →
    ∃ S1, Fr S S1 (fun i => i = r) ∧ ((lawR g t m (ps ++ [a]) a ≠ [] ∧ loopX (gN 3) (lb_law_ring_0 c) ((rngD 0 g.length).drop k) [some (.ref n), some (eT t), some (.ref r), f3, f4] S = .ok (.rt (.ref r)) S1 ∧ S1[r]? = some (.lst ((lawR g t m (ps ++ [a]) a).map eT))) ∨
      (lawR g t m (ps ++ [a]) a = [] ∧ ∃ r', loopX (gN 3) (lb_law_ring_0 c) ((rngD 0 g.length).drop k) [some (.ref n), some (eT t), some (.ref r), f3, f4] S = .ok (.rt (.ref r')) S1 ∧ S.length ≤ r' ∧ S1[r']? = some (.lst [])) ∨
      (lawR g t m (ps ++ [a]) a = [] ∧ ∃ e1, loopX (gN 3) (lb_law_ring_0 c) ((rngD 0 g.length).drop k) [some (.ref n), some (eT t), some (.ref r), f3, f4] S = .ok (.nx e1) S1))
  | 0, k, ps, a, S, f3, f4, hg, hr, hnr, hk, hm => by
    refine ⟨S, Fr.refl _ _, .inr (.inr ⟨rfl, [some (.ref n), some (eT t), some (.ref r), f3, f4], ?_⟩)⟩
    rw [List.drop_eq_nil_of_le (by rw [rngD_len]; omega)]
    rfl
  | m + 1, k, ps, a, S, f3, f4, hg, hr, hnr, hk, hm => by
    have hkl : k < (rngD 0 g.length).length := by rw [rngD_len]; omega
    have hd := List.drop_eq_getElem_cons hkl
    have hgk : (rngD 0 g.length)[k] = .int (0 + (k : Nat)) := by
      have := rngD_get (List.getElem?_eq_getElem hkl)
      exact this.2
    rw [hd, hgk]
    have hv : lookNC c.w S[n]? (eT a) = some ((valK g a).map eT) := hg.val a
    have hi : isNC S[n]? = true := by rcases hg with h | h <;> rw [h] <;> rfl
    have hcap : ((ps ++ [a]).map eT).length < 100000 := by rw [List.length_map, List.length_append, List.length_singleton]; omega
    cases q : valK g a with
    | none =>
      rw [q] at hv
      simp only [Option.map_none, Option.map_some] at hv
      have e : lawR g t (m + 1) (ps ++ [a]) a = [] := by unfold lawR; rw [q]
      refine ⟨S ++ [.lst []], Fr.app _ _ _, .inr (.inl ⟨e, S.length, ?_, Nat.le_refl _, get_app0⟩)⟩
      have hb : lb_law_ring_0 c [some (.ref n), some (eT t), some (.ref r), some (.int (0 + (k : Nat))), f4] S = .ok (.rt (.ref S.length)) (S ++ [.lst []]) := by
        have hget : getNK S .non (some none) = .ok .non S := rfl
        simp only [ap_fVar, varK_some, ap_fC, ap_fBin, ap_binK, ap_fUn, ap_fNil, ap_fLst, ap_lstK, ap_fTest, ap_testK, ap_fSkip, ap_fSeq, ap_seqK_nx, ap_seqK_rt, ap_fIf, ap_ifK, ap_fRet, ap_retK, ap_fAsg, ap_asgK, ap_asgK2, ap_gN, ap_fIx, ap_ixK, isDict_ref, isDictC_lst, getL_ref, getLC_lst, retO_some, o_neg, o_eq, eqK_some, toP_non, o_getD, lookD_ref, o_isN, o_nonD, lookN_ref, o_isDn, ap_fGetN, ap_gtK, ap_gtK2, ap_gtK3, o_getN, fT_eT, R.bind_ok, List.length_nil, List.getElem?_cons_zero, List.getElem?_cons_succ, List.set_cons_zero, List.set_cons_succ, Bool.false_eq_true, if_true, if_false, Nat.reduceLeDiff, Int.reduceNeg, ap_lb_law_ring_0, hr, last_at, hi, hv, hget, qNT, Option.getD_none]
      unfold loopX
      rw [show gN 3 (.int (0 + (k : Nat))) [some (.ref n), some (eT t), some (.ref r), f3, f4] S = .ok [some (.ref n), some (eT t), some (.ref r), some (.int (0 + (k : Nat))), f4] S from rfl, R.bind_ok, hb, R.bind_ok]
    | some b =>
      rw [q] at hv
      simp only [Option.map_none, Option.map_some] at hv
      have hget : getNK S .non (some (some (eT b))) = .ok (eT b) S := rfl
      have heq : oEq (eT b) (eT t) S = .ok (.bl (decide (b = t))) S := o_eqT
      by_cases hbt : b = t
      · have e : lawR g t (m + 1) (ps ++ [a]) a = ps ++ [a] := by unfold lawR; rw [q]; simp only; rw [if_pos hbt]
        have hb : lb_law_ring_0 c [some (.ref n), some (eT t), some (.ref r), some (.int (0 + (k : Nat))), f4] S = .ok (.rt (.ref r)) S := by
          simp only [ap_fVar, varK_some, ap_fC, ap_fBin, ap_binK, ap_fUn, ap_fTest, ap_testK, ap_fSkip, ap_fSeq, ap_seqK_nx, ap_seqK_rt, ap_fIf, ap_ifK, ap_fRet, ap_retK, ap_fAsg, ap_asgK, ap_asgK2, ap_gN, ap_fIx, ap_ixK, isDict_ref, isDictC_lst, getL_ref, getLC_lst, retO_some, o_neg, o_eq, eqK_some, o_getD, lookD_ref, lookN_ref, o_isDn, ap_fGetN, ap_gtK, ap_gtK2, ap_gtK3, o_getN, o_getNK, fT_eT, eqv_T, R.bind_ok, List.getElem?_cons_zero, List.getElem?_cons_succ, List.set_cons_zero, List.set_cons_succ, Bool.false_eq_true, if_true, if_false, decide_true, Int.reduceNeg, ap_lb_law_ring_0, hr, last_at, hi, hv, hget, Option.getD_some, hbt]
        refine ⟨S, Fr.refl _ _, .inl ⟨by rw [e]; simp, ?_, by rw [e]; exact hr⟩⟩
        unfold loopX
        rw [show gN 3 (.int (0 + (k : Nat))) [some (.ref n), some (eT t), some (.ref r), f3, f4] S = .ok [some (.ref n), some (eT t), some (.ref r), some (.int (0 + (k : Nat))), f4] S from rfl, R.bind_ok, hb, R.bind_ok]
      · have e : lawR g t (m + 1) (ps ++ [a]) a = lawR g t m ((ps ++ [a]) ++ [b]) b := by
          show (match valK g a with | none => [] | some b => if b = t then ps ++ [a] else lawR g t m (ps ++ [a] ++ [b]) b) = _
          rw [q]
          exact if_neg hbt
        have hb : lb_law_ring_0 c [some (.ref n), some (eT t), some (.ref r), some (.int (0 + (k : Nat))), f4] S = .ok (.nx [some (.ref n), some (eT t), some (.ref r), some (.int (0 + (k : Nat))), some (eT b)]) (S.set r (.lst ((ps ++ [a] ++ [b]).map eT))) := by
          have ea : (ps ++ [a]).map eT ++ [eT b] = (ps ++ [a] ++ [b]).map eT := by rw [List.map_append (l₂ := [b])]; rfl
          simp only [ap_fVar, varK_some, ap_fC, ap_fBin, ap_binK, ap_fUn, ap_fNil, ap_fCons, ap_consK, ap_consK2, ap_fLst, ap_lstK, ap_fTest, ap_testK, ap_fSkip, ap_fSeq, ap_seqK_nx, ap_fIf, ap_ifK, ap_fRet, ap_retK, ap_fDrop, ap_dropK, ap_fAsg, ap_asgK, ap_asgK2, ap_gN, ap_fIx, ap_ixK, isDict_ref, isDictC_lst, getL_ref, getLC_lst, retO_some, o_neg, o_eq, eqK_some, ap_fBm, ap_bmK, tyIn_ref, tyInC_lst, o_getD, lookD_ref, o_append, o_appC, o_isN, lookN_ref, o_isDn, ap_fGetN, ap_gtK, ap_gtK2, ap_gtK3, o_getN, fT_eT, eqv_T, R.bind_ok, List.length_nil, List.cons_append, List.nil_append, List.getElem?_cons_zero, List.getElem?_cons_succ, List.set_cons_zero, List.set_cons_succ, Bool.false_eq_true, if_true, if_false, decide_true, decide_false, Nat.reduceLeDiff, Int.reduceNeg, List.append_assoc, ap_lb_law_ring_0, hr, last_at, hi, hv, hget, Option.getD_some, hbt, nonT, hcap, ea]
        have hg2 : IsG c (S.set r (.lst ((ps ++ [a] ++ [b]).map eT))) n g := hg.mono (Fr.set (P := fun i => i = r) rfl) hnr
        obtain ⟨S1, fr, res⟩ := lawring_loop c hl m (k + 1) (ps ++ [a]) b _ (some (.int (0 + (k : Nat)))) (some (eT b)) hg2 (set_get hr) hnr (by rw [List.length_append, List.length_singleton, hk]) (by omega)
        have hstep : loopX (gN 3) (lb_law_ring_0 c) (.int (0 + (k : Nat)) :: (rngD 0 g.length).drop (k + 1)) [some (.ref n), some (eT t), some (.ref r), f3, f4] S = loopX (gN 3) (lb_law_ring_0 c) ((rngD 0 g.length).drop (k + 1)) [some (.ref n), some (eT t), some (.ref r), some (.int (0 + (k : Nat))), some (eT b)] (S.set r (.lst ((ps ++ [a] ++ [b]).map eT))) := by
          conv => lhs; unfold loopX
          rw [show gN 3 (.int (0 + (k : Nat))) [some (.ref n), some (eT t), some (.ref r), f3, f4] S = .ok [some (.ref n), some (eT t), some (.ref r), some (.int (0 + (k : Nat))), f4] S from rfl, R.bind_ok, hb, R.bind_ok]
        have hlen : (S.set r (.lst ((ps ++ [a] ++ [b]).map eT))).length = S.length := List.length_set ..
        rw [e, hstep]
        rw [hlen] at res
        exact ⟨S1, (Fr.set (P := fun i => i = r) rfl).trans fr, res⟩
theorem lawring_eq (c : CA) {n : Nat} {g : Gr} {t : Tr} {S : Sto} (hg : S[n]? = some (.dn c.w (kT.enc (mapV eT g)))) (hl : g.length < 2000) : ∃ S1 r, F_law_ring c [.ref n, eT t] S = .ok (.ref r) S1 ∧ S1[r]? = some (.lst ((lring g t).map eT)) ∧ Fr S S1 (fun _ => False) ∧ S.length ≤ r := by
  have hn : n < S.length := (List.getElem?_eq_some_iff.mp hg).1
  obtain ⟨S1, fr, res⟩ := lawring_loop c hl (t := t) g.length 0 [] t (S ++ [.lst [eT t]]) none none (.inl (app_get hg)) get_app0 (by omega) rfl (by omega)
  have fr' : Fr S S1 (fun _ => False) := (Fr.app (P := fun _ => False) S [.lst [eT t]]).new fr (fun i hi z => by omega)
  have hlen : (kT.enc (mapV eT g)).length = g.length := by rw [CodK.enc_len, mapV_len]
  have hr2 : (-4611686018427387904 : Int) ≤ ((g.length : Nat) : Int) ∧ ((g.length : Nat) : Int) < 4611686018427387904 := by omega
  rw [List.drop_zero] at res
  rcases res with ⟨_, h, h2⟩ | ⟨e, r', h, hle, h2⟩ | ⟨e, e1, h⟩
  · refine ⟨S1, S.length, ?_, h2, fr', Nat.le_refl _⟩
    unfold F_law_ring b_law_ring
    simp only [ap_fVar, varK_some, ap_fApp, ap_fNil, ap_fCons, ap_consK, ap_consK2, ap_fLst, ap_lstK, ap_fSeq, ap_seqK_nx, ap_seqK_rt, ap_fAsg, ap_asgK, ap_asgK2, ap_gN, ap_fnF, ap_fnK_rt, ap_fFor, ap_forK_fix, ap_fRng1, ap_rng1K, o_lenN, o_lenNC, R.bind_ok, List.map_cons, List.map_nil, List.length_cons, List.length_nil, List.cons_append, List.nil_append, Nat.zero_add, Nat.reduceAdd, Nat.reduceSub, List.replicate_succ, List.replicate_zero, List.getElem?_cons_zero, List.getElem?_cons_succ, List.set_cons_zero, List.set_cons_succ, if_true, Nat.reduceLeDiff, Int.reduceNeg, Int.reducePow, and_self, app_get hg, hlen, hr2, Int.toNat_natCast, h]
  · refine ⟨S1, r', ?_, by unfold lring; rw [show [t] = [] ++ [t] from rfl, e]; exact h2, fr', by rw [List.length_append] at hle; omega⟩
    unfold F_law_ring b_law_ring
    simp only [ap_fVar, varK_some, ap_fApp, ap_fNil, ap_fCons, ap_consK, ap_consK2, ap_fLst, ap_lstK, ap_fSeq, ap_seqK_nx, ap_seqK_rt, ap_fAsg, ap_asgK, ap_asgK2, ap_gN, ap_fnF, ap_fnK_rt, ap_fFor, ap_forK_fix, ap_fRng1, ap_rng1K, o_lenN, o_lenNC, R.bind_ok, List.map_cons, List.map_nil, List.length_cons, List.length_nil, List.cons_append, List.nil_append, Nat.zero_add, Nat.reduceAdd, Nat.reduceSub, List.replicate_succ, List.replicate_zero, List.getElem?_cons_zero, List.getElem?_cons_succ, List.set_cons_zero, List.set_cons_succ, if_true, Nat.reduceLeDiff, Int.reduceNeg, Int.reducePow, and_self, app_get hg, hlen, hr2, Int.toNat_natCast, h]
  · refine ⟨S1 ++ [.lst []], S1.length, ?_, by unfold lring; rw [show [t] = [] ++ [t] from rfl, e]; exact get_app0, fr'.trans (Fr.app _ _ _), fr'.le⟩
    unfold F_law_ring b_law_ring
    simp only [ap_fVar, varK_some, ap_fApp, ap_fNil, ap_fCons, ap_consK, ap_consK2, ap_fLst, ap_lstK, ap_fSeq, ap_seqK_nx, ap_fRet, ap_retK, ap_fAsg, ap_asgK, ap_asgK2, ap_gN, ap_fnF, ap_fnK_rt, ap_fFor, ap_forK_fix, ap_fRng1, ap_rng1K, o_lenN, o_lenNC, R.bind_ok, List.map_cons, List.map_nil, List.length_cons, List.length_nil, List.cons_append, List.nil_append, Nat.zero_add, Nat.reduceAdd, Nat.reduceSub, List.replicate_succ, List.replicate_zero, List.getElem?_cons_zero, List.getElem?_cons_succ, List.set_cons_zero, List.set_cons_succ, if_true, Nat.reduceLeDiff, Int.reduceNeg, Int.reducePow, and_self, app_get hg, hlen, hr2, Int.toNat_natCast, h]
end Qk34

namespace Qk34
open PySem L2 RF
/-! rings: where they are -/
theorem walk_spec {g : Gr} {t : Tr} : ∀ (n : Nat) (ps : List Tr) (a : Tr), Ch g t ps a → ps.Nodup → (∀ p ∈ ps, valK g p ≠ none) → Ch g t (wlk g n ps a).1 (wlk g n ps a).2 ∧ (wlk g n ps a).1.Nodup ∧ ∀ p ∈ (wlk g n ps a).1, valK g p ≠ none
  | 0, ps, a, h, hn, hk => ⟨h, hn, hk⟩
  | n + 1, ps, a, h, hn, hk => by
    unfold wlk
    cases q : valK g a with
    | none => exact ⟨h, hn, hk⟩
    | some b =>
      simp only
      by_cases ha : a ∈ ps
      · rw [if_pos ha]; exact ⟨h, hn, hk⟩
      · rw [if_neg ha]
        refine walk_spec n (ps ++ [a]) b (h.snoc q) ?_ fun p hp => ?_
        · rw [List.nodup_append]
          refine ⟨hn, by simp, fun x hx y hy e => ?_⟩
          rw [List.mem_singleton] at hy
          subst hy; subst e
          exact ha hx
        · rcases List.mem_append.mp hp with hp | hp
          · exact hk p hp
          · rw [List.mem_singleton.mp hp, q]; simp
/-- a ring, as the law has it -/
structure Rg (g : Gr) (t : Tr) (r : List Tr) : Prop where
  ne : r ≠ []
  ch : Ch g t r t
  nd : r.Nodup
  ks : ∀ p ∈ r, valK g p ≠ none
theorem Rg.of {g : Gr} {t : Tr} (h : lring g t ≠ []) : Rg g t (lring g t) := by
  rw [← pring_eq] at h ⊢
  unfold pring at h ⊢
  obtain ⟨h1, h2, h3⟩ := walk_spec (g := g) (t := t) (g.length + 1) [] t .nil List.nodup_nil (fun p hp => by cases hp)
  by_cases e : (wlk g (g.length + 1) [] t).2 = t
  · rw [if_pos e] at h ⊢
    exact ⟨h, by rw [e] at h1; exact h1, h2, h3⟩
  · rw [if_neg e] at h
    exact absurd rfl h
theorem walk_ring {g : Gr} {t : Tr} {r : List Tr} (h : Rg g t r) : ∀ (vs us : List Tr) (n : Nat), r = us ++ vs → vs.length < n → wlk g n us (vs.headD t) = (r, t)
  | [], us, n, e, hn => by
    obtain ⟨n, rfl⟩ : ∃ m, n = m + 1 := ⟨n - 1, by simp at hn; omega⟩
    rw [List.append_nil] at e
    subst e
    have ht : t ∈ r := by
      rcases h.ch.head with ⟨e, _⟩ | ⟨x, e⟩
      · exact absurd e h.ne
      · rw [e]; exact List.mem_cons_self
    show wlk g (n + 1) r t = _
    unfold wlk
    split
    · rfl
    · rw [if_pos ht]
  | c :: vs, us, n, e, hn => by
    obtain ⟨n, rfl⟩ : ∃ m, n = m + 1 := ⟨n - 1, by simp at hn; omega⟩
    have hl := h.ch.link us c vs e
    have hc : c ∉ us := fun z => by
      have := h.nd
      rw [e, List.nodup_append] at this
      exact this.2.2 _ z _ List.mem_cons_self rfl
    show wlk g (n + 1) us c = _
    unfold wlk
    rw [hl]
    simp only
    rw [if_neg hc]
    exact walk_ring h vs (us ++ [c]) n (by rw [e]; simp) (by simp at hn; omega)
theorem Rg.eq {g : Gr} {t : Tr} {r : List Tr} (h : Rg g t r) : lring g t = r := by
  rw [← pring_eq]
  unfold pring
  have hl := len_le h.nd h.ks
  have hh : r.headD t = t := by
    rcases h.ch.head with ⟨e, _⟩ | ⟨x, e⟩ <;> rw [e] <;> rfl
  have := walk_ring h r [] (g.length + 1) rfl (by omega)
  rw [hh] at this
  rw [this, if_pos rfl]
theorem ch_of {g : Gr} {t : Tr} : ∀ (n : Nat) (r : List Tr) (a : Tr), r.length = n → (∀ us c vs, r = us ++ c :: vs → valK g c = some (vs.headD a)) → r.headD a = t → Ch g t r a
  | 0, r, a, hn, hl, hh => by
    have : r = [] := List.eq_nil_of_length_eq_zero hn
    subst this
    have hh : a = t := hh
    subst hh
    exact .nil
  | n + 1, r, a, hn, hl, hh => by
    rcases List.eq_nil_or_concat r with rfl | ⟨us, x, rfl⟩
    · simp at hn
    · have e : us.concat x = us ++ [x] := by simp
      rw [e] at hn hl hh ⊢
      refine .snoc (ch_of n us x (by simp at hn; omega) (fun ws c vs e2 => ?_) ?_) (hl us x [] rfl)
      · have := hl ws c (vs ++ [x]) (by rw [e2]; simp)
        rw [this]
        cases vs <;> rfl
      · rw [← hh]
        cases us <;> rfl
/-- the ring from another of its names on -/
theorem Rg.turn {g : Gr} {t u : Tr} {r : List Tr} (h : Rg g t r) (hu : u ∈ r) : ∃ q, Rg g u q ∧ ∀ x, x ∈ q ↔ x ∈ r := by
  obtain ⟨us, vs, e⟩ := List.append_of_mem hu
  have hht : ∀ d, us.headD d = t ∨ us = [] := fun d => by
    cases us with
    | nil => exact .inr rfl
    | cons y us =>
      rcases h.ch.head with ⟨z, _⟩ | ⟨x, z⟩
      · rw [e] at z; simp at z
      · rw [e] at z; injection z with z1 _; exact .inl z1
  have hut : us = [] → u = t := fun z => by
    subst z
    rcases h.ch.head with ⟨z, _⟩ | ⟨x, z⟩
    · rw [e] at z; simp at z
    · rw [e] at z; injection z
  have hm : ∀ x, x ∈ (u :: vs) ++ us ↔ x ∈ r := fun x => by rw [e]; simp only [List.mem_append, List.mem_cons]; constructor <;> (rintro (h | h) <;> simp [h] <;> (try (rcases h with h | h <;> simp [h])))
  refine ⟨(u :: vs) ++ us, ⟨by simp, ch_of _ _ _ rfl (fun xs c ys e2 => ?_) rfl, ?_, fun p hp => h.ks p ((hm p).mp hp)⟩, hm⟩
  · rcases List.append_eq_append_iff.mp e2 with ⟨as, e3, e4⟩ | ⟨bs, e3, e4⟩
    · -- us = as ++ c :: ys
      have hl := h.ch.link as c (ys ++ u :: vs) (by rw [e, e4]; simp)
      rw [hl]
      cases ys <;> rfl
    · -- u :: vs = xs ++ bs, c :: ys = bs ++ us
      cases bs with
      | nil =>
        have hl := h.ch.link [] c (ys ++ u :: vs) (by rw [e]; simp at e4; rw [← e4]; rfl)
        rw [hl]
        cases ys <;> rfl
      | cons b bs =>
        injection e4 with e5 e6
        subst e5
        have hl := h.ch.link (us ++ xs) c bs (by rw [e, e3]; simp)
        rw [hl, e6]
        cases bs with
        | cons y bs => rfl
        | nil =>
          show some t = some (us.headD u)
          rcases hht u with z | z
          · rw [z]
          · rw [z, hut z]; rfl
  · have hn := h.nd
    rw [e] at hn
    exact (List.perm_append_comm.nodup_iff).mp hn
end Qk34

namespace Qk34
open PySem L2 RF
theorem ring_mem {g : Gr} {t u : Tr} {r : List Tr} (h : Rg g t r) (hu : u ∈ r) : lring g u ≠ [] ∧ ∀ x, x ∈ lring g u ↔ x ∈ r := by
  obtain ⟨q, hq, hm⟩ := h.turn hu
  rw [hq.eq]
  exact ⟨hq.ne, hm⟩
/-! the greatest -/
def gtT (a b : Tr) : Bool := PySem.W.dataLt (pT a) (pT b)
def mxT (a : Tr) (r : List Tr) : Tr := r.foldl (fun m y => if gtT m y = true then y else m) a
def mxL : List Tr → Tr
  | [] => (0, 0)
  | a :: r => mxT a r
theorem mxT_mem : ∀ (r : List Tr) (a : Tr), mxT a r ∈ a :: r
  | [], a => List.mem_cons_self
  | y :: r, a => by
    show mxT (if gtT a y = true then y else a) r ∈ _
    have := mxT_mem r (if gtT a y = true then y else a)
    rcases List.mem_cons.mp this with e | h
    · rw [e]
      split
      · simp
      · exact List.mem_cons_self
    · exact List.mem_cons_of_mem _ (List.mem_cons_of_mem _ h)
theorem gt_ntr {a b d : Tr} (h1 : gtT b a = false) (h2 : gtT d b = false) : gtT d a = false := by
  cases q : gtT d a with
  | false => rfl
  | true =>
    rcases tLin.tri a b with k | k | k
    · have : gtT d b = true := tLin.tr d a b q k
      rw [h2] at this; cases this
    · rw [← k] at h2; rw [q] at h2; cases h2
    · have k : gtT b a = true := k
      rw [h1] at k; cases k
theorem mxT_ge : ∀ (r : List Tr) (a : Tr), ∀ x ∈ a :: r, gtT (mxT a r) x = false
  | [], a, x, hx => by
    rw [List.mem_singleton.mp hx]
    exact tLin.irr a
  | y :: r, a, x, hx => by
    show gtT (mxT (if gtT a y = true then y else a) r) x = false
    have ih := mxT_ge r (if gtT a y = true then y else a)
    have h0 := ih _ List.mem_cons_self
    rcases List.mem_cons.mp hx with e | hx
    · rw [e]
      by_cases h : gtT a y = true
      · rw [if_pos h] at h0 ⊢
        exact gt_ntr (tLin.asym h) h0
      · rw [if_neg h] at h0 ⊢
        exact h0
    · rcases List.mem_cons.mp hx with e | hx
      · rw [e]
        by_cases h : gtT a y = true
        · rw [if_pos h] at h0 ⊢; exact h0
        · rw [if_neg h] at h0 ⊢
          exact gt_ntr (by simpa using h) h0
      · exact ih x (List.mem_cons_of_mem _ hx)
theorem mxL_mem {l : List Tr} (h : l ≠ []) : mxL l ∈ l := by
  cases l with
  | nil => exact absurd rfl h
  | cons a r => exact mxT_mem r a
theorem mxL_ge {l : List Tr} {x : Tr} (h : x ∈ l) : gtT (mxL l) x = false := by
  cases l with
  | nil => cases h
  | cons a r => exact mxT_ge r a x h
theorem mxL_same {l m : List Tr} (h : ∀ x, x ∈ l ↔ x ∈ m) (hl : l ≠ []) : mxL l = mxL m := by
  have hm : m ≠ [] := fun e => by
    subst e
    cases l with
    | nil => exact hl rfl
    | cons a r => exact absurd ((h a).mp List.mem_cons_self) (by simp)
  have h1 := mxL_ge ((h _).mpr (mxL_mem hm))
  have h2 := mxL_ge ((h _).mp (mxL_mem hl))
  rcases tLin.tri (mxL l) (mxL m) with k | k | k
  · have k : gtT (mxL l) (mxL m) = true := k
    rw [h1] at k; cases k
  · exact k
  · have k : gtT (mxL m) (mxL l) = true := k
    rw [h2] at k; cases k
def good (g : Gr) (m : Tr) : Prop := lring g m ≠ [] ∧ mxL (lring g m) = m
theorem good_of {g : Gr} {a : Tr} (h : lring g a ≠ []) : good g (mxL (lring g a)) ∧ mxL (lring g a) ∈ lring g a := by
  have hr := Rg.of h
  have hm := mxL_mem h
  obtain ⟨h1, h2⟩ := ring_mem hr hm
  exact ⟨⟨h1, mxL_same h2 h1⟩, hm⟩
/-- what is closed holds the whole ring -/
theorem ch_closed {g : Gr} {u : Tr} {C : Tr → Prop} (hc : ∀ v, C v → ∀ b, valK g v = some b → valK g b ≠ none → C b) (hu : C u) : ∀ {ps : List Tr} {a : Tr}, Ch g u ps a → (∀ p ∈ ps, valK g p ≠ none) → (∀ p ∈ ps, C p) ∧ (valK g a ≠ none → C a) := by
  intro ps a h
  induction h with
  | nil => exact fun _ => ⟨fun p hp => (by cases hp), fun _ => hu⟩
  | @snoc ps a b h hb ih =>
    intro hk
    obtain ⟨i1, i2⟩ := ih fun p hp => hk p (List.mem_append_left _ hp)
    have ha := i2 (hk a (by simp))
    refine ⟨fun p hp => ?_, fun hv => hc a ha b hb hv⟩
    rcases List.mem_append.mp hp with hp | hp
    · exact i1 p hp
    · rw [List.mem_singleton.mp hp]; exact ha
theorem ring_closed {g : Gr} {t u : Tr} {r : List Tr} {C : Tr → Prop} (hc : ∀ v, C v → ∀ b, valK g v = some b → valK g b ≠ none → C b) (h : Rg g t r) (hu : u ∈ r) (hC : C u) : ∀ x ∈ r, C x := by
  obtain ⟨q, hq, hm⟩ := h.turn hu
  have := (ch_closed hc hC hq.ch hq.ks).1
  exact fun x hx => this x ((hm x).mpr hx)
/-- of a name on the way: what comes behind the way is on its ring -/
theorem way_end {g : Gr} {s y a : Tr} {ys : List Tr} (h : Ch g s ys a) (hy : y ∈ ys) (hr : lring g y ≠ []) : a ∈ lring g y := by
  have R := Rg.of hr
  have step : ∀ c b, c ∈ lring g y → valK g c = some b → b ∈ lring g y := fun c b hc hb => by
    obtain ⟨us, vs, e⟩ := List.append_of_mem hc
    have := R.ch.link us c vs e
    rw [hb] at this
    cases this
    cases vs with
    | nil =>
      show y ∈ _
      rcases R.ch.head with ⟨z, _⟩ | ⟨x, z⟩
      · exact absurd z R.ne
      · rw [z]; exact List.mem_cons_self
    | cons v vs => rw [e]; simp
  have hyy : y ∈ lring g y := by
    rcases R.ch.head with ⟨z, _⟩ | ⟨x, z⟩
    · exact absurd z R.ne
    · rw [z]; exact List.mem_cons_self
  have key : ∀ (vs us : List Tr) (c : Tr), ys = us ++ c :: vs → c ∈ lring g y → a ∈ lring g y := by
    intro vs
    induction vs with
    | nil => exact fun us c e hc => step c a hc (h.link us c [] e)
    | cons v vs ih => exact fun us c e hc => ih (us ++ [c]) v (by rw [e]; simp) (step c v hc (h.link us c (v :: vs) e))
  obtain ⟨us, vs, e⟩ := List.append_of_mem hy
  exact key vs us y e hyy
structure RI (g : Gr) (pre : List Tr) (V : Gr) (F : List (List Tr)) : Prop where
  nd : (V.map (·.1)).Nodup
  ks : ∀ v ∈ V.map (·.1), valK g v ≠ none
  cl : ∀ v ∈ V.map (·.1), ∀ b, valK g v = some b → valK g b ≠ none → b ∈ V.map (·.1)
  st : ∀ p ∈ V, p.2 ∈ pre
  pr : ∀ s ∈ pre, s ∈ V.map (·.1)
  fn : F.Nodup
  fm : ∀ r, r ∈ F ↔ ∃ m, m ∈ V.map (·.1) ∧ good g m ∧ r = lring g m
theorem lring_head {g : Gr} {m : Tr} (h : lring g m ≠ []) : ∃ x, lring g m = m :: x := by
  have R := Rg.of h
  rcases R.ch.head with ⟨z, _⟩ | h
  · exact absurd z R.ne
  · exact h
theorem RI.step {g : Gr} {pre : List Tr} {V : Gr} {F : List (List Tr)} {s a : Tr} {ys : List Tr} (h : RI g pre V F) (hs : valK g s ≠ none) (hp : s ∉ pre) (hch : Ch g s ys a) (hnd : ys.Nodup) (hks : ∀ y ∈ ys, valK g y ≠ none) (hdis : ∀ y ∈ ys, y ∉ V.map (·.1))
    (hstop : valK g a = none ∨ a ∈ V.map (·.1) ∨ a ∈ ys) : RI g (pre ++ [s]) (V ++ ys.map fun y => (y, s)) (if a ∈ ys then F ++ [lring g (mxL (lring g a))] else F) := by
  have em : (V ++ ys.map fun y => (y, s)).map (·.1) = V.map (·.1) ++ ys := by
    rw [List.map_append, List.map_map]
    congr 1
    exact List.map_id _
  have hcl : ∀ v ∈ V.map (·.1) ++ ys, ∀ b, valK g v = some b → valK g b ≠ none → b ∈ V.map (·.1) ++ ys := fun v hv b hb hbk => by
    rcases List.mem_append.mp hv with hv | hv
    · exact List.mem_append_left _ (h.cl v hv b hb hbk)
    · obtain ⟨us, vs, e⟩ := List.append_of_mem hv
      have hl := hch.link us v vs e
      rw [hb] at hl
      cases hl
      cases vs with
      | cons w vs => rw [e]; simp
      | nil =>
        rcases hstop with z | z | z
        · exact absurd z hbk
        · exact List.mem_append_left _ z
        · exact List.mem_append_right _ z
  have hloop : a ∈ ys → lring g a ≠ [] ∧ ∀ x ∈ lring g a, x ∈ ys := fun ha => by
    obtain ⟨us, vs, e⟩ := List.append_of_mem ha
    have R : Rg g a (a :: vs) := by
      refine ⟨by simp, ch_of _ _ _ rfl (fun xs c zs e2 => ?_) rfl, ?_, fun p hp => hks p (by rw [e]; exact List.mem_append_right _ hp)⟩
      · exact hch.link (us ++ xs) c zs (by rw [e, e2]; simp)
      · rw [e, List.nodup_append] at hnd; exact hnd.2.1
    rw [R.eq]
    exact ⟨R.ne, fun x hx => by rw [e]; exact List.mem_append_right _ hx⟩
  have hnew : ∀ m ∈ ys, good g m → a ∈ ys ∧ lring g m = lring g (mxL (lring g a)) := fun m hm hg => by
    have ham := way_end hch hm hg.1
    have R := Rg.of hg.1
    have hay : a ∈ ys := by
      have hak : valK g a ≠ none := R.ks a ham
      rcases hstop with z | z | z
      · exact absurd z hak
      · have hmm : m ∈ lring g m := by obtain ⟨x, e⟩ := lring_head hg.1; rw [e]; exact List.mem_cons_self
        exact absurd (ring_closed (C := fun v => v ∈ V.map (·.1)) h.cl R ham z m hmm) (hdis m hm)
      · exact z
    obtain ⟨_, hsame⟩ := ring_mem R ham
    have e1 : mxL (lring g a) = m := by
      rw [← hg.2]
      exact mxL_same hsame (hloop hay).1
    exact ⟨hay, by rw [e1]⟩
  refine ⟨?_, ?_, ?_, ?_, ?_, ?_, ?_⟩
  · rw [em, List.nodup_append]
    exact ⟨h.nd, hnd, fun x hx y hy e => hdis y hy (e ▸ hx)⟩
  · rw [em]
    intro v hv
    rcases List.mem_append.mp hv with hv | hv
    · exact h.ks v hv
    · exact hks v hv
  · rw [em]; exact hcl
  · intro p hp'
    rcases List.mem_append.mp hp' with hp' | hp'
    · exact List.mem_append_left _ (h.st p hp')
    · obtain ⟨y, _, rfl⟩ := List.mem_map.mp hp'
      exact List.mem_append_right _ List.mem_cons_self
  · rw [em]
    intro x hx
    rcases List.mem_append.mp hx with hx | hx
    · exact List.mem_append_left _ (h.pr x hx)
    · rw [List.mem_singleton.mp hx]
      rcases hch.head with ⟨rfl, rfl⟩ | ⟨z, e⟩
      · rcases hstop with z | z | z
        · exact absurd z hs
        · exact List.mem_append_left _ z
        · cases z
      · exact List.mem_append_right _ (by rw [e]; exact List.mem_cons_self)
  · split
    · rename_i ha
      obtain ⟨l1, l2⟩ := hloop ha
      obtain ⟨g1, g2⟩ := good_of l1
      rw [List.nodup_append]
      refine ⟨h.fn, by simp, fun x hx y hy e => ?_⟩
      rw [List.mem_singleton] at hy
      subst hy; subst e
      obtain ⟨m, m1, m2, m3⟩ := (h.fm _).mp hx
      obtain ⟨x1, e1⟩ := lring_head m2.1
      obtain ⟨x2, e2⟩ := lring_head g1.1
      rw [e1, e2] at m3
      injection m3 with m3 _
      exact hdis _ (l2 _ g2) (m3 ▸ m1)
    · exact h.fn
  · rw [em]
    intro r
    split
    · rename_i ha
      obtain ⟨l1, l2⟩ := hloop ha
      obtain ⟨g1, g2⟩ := good_of l1
      rw [List.mem_append, List.mem_singleton, h.fm]
      constructor
      · rintro (⟨m, m1, m2, m3⟩ | rfl)
        · exact ⟨m, List.mem_append_left _ m1, m2, m3⟩
        · exact ⟨_, List.mem_append_right _ (l2 _ g2), g1, rfl⟩
      · rintro ⟨m, m1, m2, m3⟩
        rcases List.mem_append.mp m1 with m1 | m1
        · exact .inl ⟨m, m1, m2, m3⟩
        · exact .inr (by rw [m3, (hnew m m1 m2).2])
    · rename_i ha
      rw [h.fm]
      constructor
      · rintro ⟨m, m1, m2, m3⟩
        exact ⟨m, List.mem_append_left _ m1, m2, m3⟩
      · rintro ⟨m, m1, m2, m3⟩
        rcases List.mem_append.mp m1 with m1 | m1
        · exact ⟨m, m1, m2, m3⟩
        · exact absurd (hnew m m1 m2).1 ha
end Qk34

namespace Qk34
open PySem L2 RF
theorem lt_nil_cons {y : Tr} {ys : List PyData} : PySem.W.dataLt (.tuple []) (.tuple (pT y :: ys)) = true := (rfl)
theorem lt_cons_nil {y : Tr} {ys : List PyData} : PySem.W.dataLt (.tuple (pT y :: ys)) (.tuple []) = false := (rfl)
theorem lt_nil_nil : PySem.W.dataLt (.tuple []) (.tuple []) = false := (rfl)
def ltL (r q : List Tr) : Bool := PySem.W.dataLt (.tuple (r.map pT)) (.tuple (q.map pT))
theorem ltL_cons {x y : Tr} {xs ys : List Tr} : ltL (x :: xs) (y :: ys) = if x = y then ltL xs ys else gtT x y := by
  unfold ltL
  rw [List.map_cons, List.map_cons, dataLt_cons2 (by simp [pT, PySem.W.alike, PySem.W.alikeAll]), eqv_T]
  simp only [decide_eq_true_eq]
  rfl
theorem ltL_cn {y : Tr} {ys : List Tr} : ltL (y :: ys) [] = false := lt_cons_nil
theorem ltL_irr : ∀ a : List Tr, ltL a a = false
  | [] => lt_nil_nil
  | x :: xs => by rw [ltL_cons, if_pos rfl]; exact ltL_irr xs
theorem ltL_tr : ∀ a b d : List Tr, ltL a b = true → ltL b d = true → ltL a d = true
  | [], [], _, h, _ => by rw [ltL_irr] at h; cases h
  | [], _ :: _, [], _, h => by rw [ltL_cn] at h; cases h
  | [], _ :: _, _ :: _, _, _ => lt_nil_cons
  | _ :: _, [], _, h, _ => by rw [ltL_cn] at h; cases h
  | _ :: _, _ :: _, [], _, h => by rw [ltL_cn] at h; cases h
  | x :: xs, y :: ys, z :: zs, h1, h2 => by
    rw [ltL_cons] at h1 h2 ⊢
    by_cases e1 : x = y
    · rw [if_pos e1] at h1
      by_cases e2 : y = z
      · rw [if_pos e2] at h2
        rw [if_pos (e1.trans e2)]
        exact ltL_tr xs ys zs h1 h2
      · rw [if_neg e2] at h2
        rw [if_neg (fun e => e2 (e1.symm.trans e)), e1]
        exact h2
    · rw [if_neg e1] at h1
      by_cases e2 : y = z
      · rw [if_neg (fun e => e1 (e.trans e2.symm)), ← e2]
        exact h1
      · rw [if_neg e2] at h2
        have k : gtT x z = true := tLin.tr x y z h1 h2
        rw [if_neg (fun e => by
          have i : gtT z z = false := tLin.irr z
          rw [e, i] at k; cases k)]
        exact k
theorem ltL_tri : ∀ a b : List Tr, ltL a b = true ∨ a = b ∨ ltL b a = true
  | [], [] => .inr (.inl rfl)
  | [], _ :: _ => .inl lt_nil_cons
  | _ :: _, [] => .inr (.inr lt_nil_cons)
  | x :: xs, y :: ys => by
    by_cases e : x = y
    · subst e
      rw [ltL_cons, ltL_cons, if_pos rfl, if_pos rfl]
      rcases ltL_tri xs ys with k | k | k
      · exact .inl k
      · exact .inr (.inl (by rw [k]))
      · exact .inr (.inr k)
    · rw [ltL_cons, ltL_cons, if_neg e, if_neg (fun z => e z.symm)]
      rcases tLin.tri x y with k | k | k
      · exact .inl k
      · exact absurd k e
      · exact .inr (.inr k)
abbrev Rn := Tr × List Tr
def eR (l : List Tr) : D := .tup (l.map eT)
theorem toP_Ts {S : Sto} {k : Nat} : ∀ {l : List Tr}, (l.map eT).mapM (toP S (k + 5)) = some (l.map pT)
  | [] => rfl
  | a :: l => by
    rw [List.map_cons, toP_mapM_cons, toP_Ts (l := l), show k + 5 = (k + 3) + 2 from rfl, fT_eT]
    rfl
theorem alike_Ts : ∀ {l m : List Tr}, PySem.W.alikeAll (l.map pT) (m.map pT) = true
  | [], _ => by simp [PySem.W.alikeAll]
  | _ :: _, [] => by simp [PySem.W.alikeAll]
  | a :: l, b :: m => by
    rw [List.map_cons, List.map_cons, PySem.W.alikeAll, alike_Ts (l := l), Bool.and_true]
    exact kT.alike a b
def cR : Cod Rn where
  e := fun x => eR (x.1 :: x.2)
  p := fun x => .tuple ((x.1 :: x.2).map pT)
  ok := fun _ => True
  toP := fun S k a _ => by
    unfold eR
    rw [show k + 6 = (k + 5) + 1 from rfl, toP_tup, toP_Ts]
    rfl
  eqv := fun a b => by
    obtain ⟨a1, a2⟩ := a
    obtain ⟨b1, b2⟩ := b
    have := kT.toCod.eqvs (as := a1 :: a2) (bs := b1 :: b2)
    show PyData.eqv (.tuple ((a1 :: a2).map pT)) (.tuple ((b1 :: b2).map pT)) = _
    simp only [PyData.eqv]
    have h : PyData.eqvAll ((a1 :: a2).map pT) ((b1 :: b2).map pT) = decide (a1 :: a2 = b1 :: b2) := this
    rw [h]
    simp
  alike := fun a b => by
    show PySem.W.alike (.tuple ((a.1 :: a.2).map pT)) (.tuple ((b.1 :: b.2).map pT)) = true
    rw [PySem.W.alike]
    exact alike_Ts
  tupl := fun a => rfl
theorem rLin : Lin (fun (a b : Rn) => PySem.W.dataLt (cR.p a) (cR.p b)) :=
  ⟨fun a => ltL_irr _, fun a b d h1 h2 => ltL_tr (a.1 :: a.2) (b.1 :: b.2) (d.1 :: d.2) h1 h2, fun a b => by
    rcases ltL_tri (a.1 :: a.2) (b.1 :: b.2) with k | k | k
    · exact .inl k
    · injection k with k1 k2
      exact .inr (.inl (Prod.ext k1 k2))
    · exact .inr (.inr k)⟩
def toR (l : List Tr) : Rn := (l.headD (0, 0), l.tail)
theorem eR_toR {l : List Tr} (h : l ≠ []) : cR.e (toR l) = eR l := by
  cases l with
  | nil => exact absurd rfl h
  | cons a l => rfl
instance {g : Gr} {m : Tr} : Decidable (good g m) := by unfold good; infer_instance
def dueL (g : Gr) (ks : List Tr) : List (List Tr) := (ks.filter fun m => decide (good g m)).map (lring g)
theorem toR_inj {l m : List Tr} (hl : l ≠ []) (hm : m ≠ []) (h : toR l = toR m) : l = m := by
  cases l with
  | nil => exact absurd rfl hl
  | cons a l =>
    cases m with
    | nil => exact absurd rfl hm
    | cons b m =>
      have h1 := congrArg Prod.fst h
      have h2 := congrArg Prod.snd h
      simp only [toR, List.headD_cons, List.tail_cons] at h1 h2
      rw [h1, h2]
theorem nodup_map {α β : Type} {f : α → β} : ∀ {l : List α}, l.Nodup → (∀ a ∈ l, ∀ b ∈ l, f a = f b → a = b) → (l.map f).Nodup
  | [], _, _ => List.nodup_nil
  | a :: l, hn, hf => by
    rw [List.nodup_cons] at hn
    rw [List.map_cons, List.nodup_cons]
    refine ⟨fun hm => ?_, nodup_map hn.2 fun x hx y hy => hf x (List.mem_cons_of_mem _ hx) y (List.mem_cons_of_mem _ hy)⟩
    obtain ⟨b, hb, e⟩ := List.mem_map.mp hm
    exact hn.1 (hf b (List.mem_cons_of_mem _ hb) a List.mem_cons_self e ▸ hb)
/-- what was found, sorted, is what is due -/
theorem found_due {g : Gr} {pre : List Tr} {V : Gr} {F : List (List Tr)} {ks : List Tr} (h : RI g pre V F) (hall : ∀ k, valK g k ≠ none → k ∈ V.map (·.1)) (hk : ∀ k, k ∈ ks ↔ valK g k ≠ none) (hs : ks.Pairwise (fun a b => gtT a b = true)) :
    cR.es (cR.sort (F.map toR)) = (dueL g ks).map eR := by
  have hFne : ∀ r ∈ F, r ≠ [] := fun r hr => by obtain ⟨m, _, m2, rfl⟩ := (h.fm r).mp hr; exact m2.1
  have hDne : ∀ r ∈ dueL g ks, r ≠ [] := fun r hr => by
    obtain ⟨m, hm, rfl⟩ := List.mem_map.mp hr
    have := (List.mem_filter.mp hm).2
    exact (of_decide_eq_true this).1
  have hmem : ∀ r, r ∈ F ↔ r ∈ dueL g ks := fun r => by
    rw [h.fm]
    unfold dueL
    rw [List.mem_map]
    constructor
    · rintro ⟨m, m1, m2, rfl⟩
      exact ⟨m, List.mem_filter.mpr ⟨(hk m).mpr (h.ks m m1), decide_eq_true m2⟩, rfl⟩
    · rintro ⟨m, m1, rfl⟩
      obtain ⟨m2, m3⟩ := List.mem_filter.mp m1
      exact ⟨m, hall m ((hk m).mp m2), of_decide_eq_true m3, rfl⟩
  have hDp : ((dueL g ks).map toR).Pairwise (fun a b => PySem.W.dataLt (cR.p a) (cR.p b) = true) := by
    unfold dueL
    rw [List.map_map, List.pairwise_map]
    refine List.Pairwise.imp_of_mem (fun {a b} ha hb z => ?_) (hs.filter _)
    obtain ⟨x, ex⟩ := lring_head (of_decide_eq_true (List.mem_filter.mp ha).2).1
    obtain ⟨y, ey⟩ := lring_head (of_decide_eq_true (List.mem_filter.mp hb).2).1
    show ltL ((toR (lring g a)).1 :: (toR (lring g a)).2) ((toR (lring g b)).1 :: (toR (lring g b)).2) = true
    rw [ex, ey]
    show ltL (a :: x) (b :: y) = true
    rw [ltL_cons, if_neg (fun e => by
      have i : gtT b b = false := tLin.irr b
      rw [e, i] at z; cases z)]
    exact z
  have hFn : (F.map toR).Nodup := nodup_map h.fn fun a ha b hb => toR_inj (hFne a ha) (hFne b hb)
  have hDn : ((dueL g ks).map toR).Nodup := hDp.imp fun {a b} z e => by
    have i := rLin.irr b
    rw [e] at z
    rw [i] at z; cases z
  have hperm : (F.map toR).Perm ((dueL g ks).map toR) := (List.perm_ext_iff_of_nodup hFn hDn).mpr fun x => by
    rw [List.mem_map, List.mem_map]
    constructor
    · rintro ⟨r, hr, e⟩; exact ⟨r, (hmem r).mp hr, e⟩
    · rintro ⟨r, hr, e⟩; exact ⟨r, (hmem r).mpr hr, e⟩
  have heq : cR.sort (F.map toR) = (dueL g ks).map toR := List.Perm.eq_of_pairwise (le := fun a b => PySem.W.dataLt (cR.p a) (cR.p b) = true) (fun a b _ _ h1 h2 => by
    have := rLin.asym (a := a) (b := b) h1
    rw [this] at h2; cases h2) (sort_asc rLin hFn) hDp ((List.mergeSort_perm _ _).trans hperm)
  rw [heq]
  unfold Cod.es
  rw [List.map_map]
  exact List.map_congr_left fun r hr => eR_toR (hDne r hr)
end Qk34

namespace Qk34
open PySem L2 RF
theorem v_in {V : Gr} {a : Tr} : (valK (mapV eT V) a).isSome = decide (a ∈ V.map (·.1)) := by
  rw [mapV_val, Option.isSome_map]
  cases q : valK V a with
  | none =>
    rw [decide_eq_false (fun z => mem_val z q)]; rfl
  | some x =>
    rw [decide_eq_true (val_mem (by rw [q]; simp))]; rfl
theorem v_put {V : Gr} {a s : Tr} (h : a ∉ V.map (·.1)) : putKD (mapV eT V) a (eT s) = mapV eT (V ++ [(a, s)]) := by
  rw [mapV_put]
  congr 1
  unfold putKD
  rw [if_neg (fun z => h (by
    obtain ⟨p, hp, e⟩ := List.any_eq_true.mp z
    exact List.mem_map.mpr ⟨p, hp, by simpa using e⟩))]
theorem val_app {V W : Gr} {a : Tr} : valK (V ++ W) a = (valK V a).or (valK W a) := by
  unfold valK
  rw [List.find?_append]
  cases V.find? (fun kv => decide (kv.1 = a)) <;> rfl
theorem val_ys {ys : List Tr} {s a : Tr} : valK (ys.map fun y => (y, s)) a = if a ∈ ys then some s else none := by
  induction ys with
  | nil => rfl
  | cons y ys ih =>
    unfold valK at ih ⊢
    rw [List.map_cons, List.find?_cons]
    by_cases h : y = a
    · simp [h]
    · have h2 : ¬ a = y := fun e => h e.symm
      simp only [h, decide_false, List.mem_cons, h2, false_or]
      exact ih
theorem val_pair {V : Gr} {a b : Tr} (h : valK V a = some b) : (a, b) ∈ V := by
  unfold valK at h
  obtain ⟨p, hp, rfl⟩ := Option.map_eq_some_iff.mp h
  have h1 := List.mem_of_find?_eq_some hp
  have h2 : p.1 = a := by simpa using List.find?_some hp
  rw [← h2]
  exact h1
theorem maxD_T : ∀ (r : List Tr) (a : Tr), PySem.W.maxD (pT a) (r.map pT) = pT (mxT a r) := by
  intro r
  induction r with
  | nil => intro a; rfl
  | cons y r ih =>
    intro a
    show PySem.W.maxD (if PySem.W.dataLt (pT a) (pT y) = true then pT y else pT a) (r.map pT) = pT (mxT (if gtT a y = true then y else a) r)
    by_cases h : gtT a y = true
    · have h' : PySem.W.dataLt (pT a) (pT y) = true := h
      rw [if_pos h, if_pos h']; exact ih y
    · have h' : ¬ PySem.W.dataLt (pT a) (pT y) = true := h
      rw [if_neg h, if_neg h']; exact ih a
theorem like_Ts {l : List Tr} : likeB (l.map pT) = true := by
  unfold likeB
  simp only [List.all_map, List.all_eq_true, Function.comp]
  intro a _ b _
  exact kT.alike a b
theorem pure_Ts : ∀ {l : List Tr}, pureTs (l.map eT) = true
  | [] => rfl
  | a :: l => by
    show (pureT (eT a) && pureTs (l.map eT)) = true
    rw [pure_Ts (l := l)]
    rfl
theorem nn_Ts {l : List Tr} : notNoneB (l.map pT) = true := by
  unfold notNoneB
  simp only [List.all_map, List.all_eq_true, Function.comp]
  intro a _
  rfl
theorem toD_T {a : Tr} : toD (pT a) = eT a := (rfl)
theorem max_tup {l : List Tr} {S : Sto} (h : l ≠ []) : oMaxT [.tup (l.map eT)] S = .ok (eT (mxL l)) S := by
  cases l with
  | nil => exact absurd rfl h
  | cons a r =>
    show maxTC S ((a :: r).map eT) (((a :: r).map eT).mapM (toP S (15 + 5))) = _
    rw [toP_Ts]
    show (if likeB ((a :: r).map pT) = true ∧ notNoneB ((a :: r).map pT) = true ∧ pureTs ((a :: r).map eT) = true then R.ok (toD (PySem.W.maxD (pT a) (r.map pT))) S else R.bad) = _
    rw [if_pos ⟨like_Ts, nn_Ts, pure_Ts⟩, maxD_T, toD_T]
    rfl
theorem max_lst {l : List Tr} {n : Nat} {S : Sto} (h : l ≠ []) (hn : S[n]? = some (.lst (l.map eT))) : oMax1 [.ref n] S = .ok (eT (mxL l)) S := by
  cases l with
  | nil => exact absurd rfl h
  | cons a r =>
    unfold oMax1
    simp only
    have e : lstD S (.ref n) = some ((a :: r).map eT) := by unfold lstD; simp only [hn]
    rw [e]
    simp only
    rw [show (20 : Nat) = 15 + 5 from rfl, toP_Ts]
    show (if likeB ((a :: r).map pT) = true ∧ notNoneB ((a :: r).map pT) = true ∧ pureTs ((a :: r).map eT) = true then R.ok (toD (PySem.W.maxD (pT a) (r.map pT))) S else R.bad) = _
    rw [if_pos ⟨like_Ts, nn_Ts, pure_Ts⟩, maxD_T, toD_T]
    rfl
/-- one start -/
theorem rings_turn (c : CA) {n fl st : Nat} {g V : Gr} {F : List (List Tr)} {pre : List Tr} {s : Tr} {S : Sto} (hg : IsG c S n g) (hl : g.length < 2000) (hF : S[fl]? = some (.lst (F.map eR))) (hV : S[st]? = some (.dn c.w (kT.enc (mapV eT V)))) (h1 : n ≠ fl) (h2 : n ≠ st) (h3 : fl ≠ st)
    (hR : RI g pre V F) (hs : valK g s ≠ none) (hp : s ∉ pre) (hFl : F.length < 3000) (f4 : Option D) :
    ∃ f4' S1 V' F', lb_rings_1 c [some (.ref n), some (.ref fl), some (.ref st), some (eT s), f4] S = .ok (.nx [some (.ref n), some (.ref fl), some (.ref st), some (eT s), f4']) S1 ∧ S1[fl]? = some (.lst (F'.map eR)) ∧ S1[st]? = some (.dn c.w (kT.enc (mapV eT V'))) ∧ Fr S S1 (fun i => i = fl ∨ i = st) ∧ RI g (pre ++ [s]) V' F' ∧ F'.length ≤ F.length + 1 := by
  let P : Nat → Lc → Sto → Prop := fun m e S1 => ∃ ys a, e = [some (.ref n), some (.ref fl), some (.ref st), some (eT s), some (eT a)] ∧ S1[st]? = some (.dn c.w (kT.enc (mapV eT (V ++ ys.map fun y => (y, s))))) ∧ Fr S S1 (fun i => i = st) ∧ Ch g s ys a ∧ ys.Nodup ∧ (∀ y ∈ ys, valK g y ≠ none) ∧ (∀ y ∈ ys, y ∉ V.map (·.1)) ∧ ys.length + m = g.length
  let Q : Lc → Sto → Prop := fun e S1 => ∃ ys a, e = [some (.ref n), some (.ref fl), some (.ref st), some (eT s), some (eT a)] ∧ S1[st]? = some (.dn c.w (kT.enc (mapV eT (V ++ ys.map fun y => (y, s))))) ∧ Fr S S1 (fun i => i = st) ∧ Ch g s ys a ∧ ys.Nodup ∧ (∀ y ∈ ys, valK g y ≠ none) ∧ (∀ y ∈ ys, y ∉ V.map (·.1)) ∧ (valK g a = none ∨ a ∈ V.map (·.1) ∨ a ∈ ys)
  have em : ∀ ys : List Tr, (V ++ ys.map fun y => (y, s)).map (·.1) = V.map (·.1) ++ ys := fun ys => by
    rw [List.map_append, List.map_map]
    congr 1
    exact List.map_id _
  have hvk := len_le hR.nd hR.ks
  rw [List.length_map] at hvk
  have step : ∀ m e S1, P m e S1 → (∃ S2, wt_rings_0 c e S1 = .ok false S2 ∧ Q e S2) ∨ ∃ S2 e2 S3 m', wt_rings_0 c e S1 = .ok true S2 ∧ lb_rings_0 c e S2 = .ok (.nx e2) S3 ∧ m = m' + 1 ∧ P m' e2 S3 := by
    rintro m e S1 ⟨ys, a, rfl, k1, fr, hch, hn, hk, hd, hm⟩
    have hg1 := hg.mono fr h2
    have hv : lookNC c.w S1[n]? (eT a) = some ((valK g a).map eT) := hg1.val a
    cases q : valK g a with
    | none =>
      rw [q] at hv
      refine .inl ⟨S1, ?_, ys, a, rfl, k1, fr, hch, hn, hk, hd, .inl q⟩
      simp only [ap_fVar, varK_some, ap_fBin, ap_binK, ap_fTest, ap_testK, ap_fAnd, ap_andK, lookN_ref, o_inN, o_inNK, R.bind_ok, List.getElem?_cons_zero, List.getElem?_cons_succ, Bool.false_eq_true, if_false, Bool.not_false, ap_wt_rings_0, hv, Option.map_none, Option.isSome_none]
    | some b =>
      rw [q] at hv
      have hin : (valK (mapV eT (V ++ ys.map fun y => (y, s))) a).isSome = decide (a ∈ V.map (·.1) ++ ys) := by rw [v_in, em]
      by_cases ha : a ∈ V.map (·.1) ++ ys
      · refine .inl ⟨S1, ?_, ys, a, rfl, k1, fr, hch, hn, hk, hd, .inr (List.mem_append.mp ha)⟩
        rw [decide_eq_true ha] at hin
        simp only [ap_fVar, varK_some, ap_fBin, ap_binK, ap_fTest, ap_testK, ap_fAnd, ap_andK, lookN_ref, lookNC_dn, o_inN, o_inNK, o_someMap, R.bind_ok, List.getElem?_cons_zero, List.getElem?_cons_succ, Bool.false_eq_true, if_true, if_false, Bool.not_true, ap_wt_rings_0, hv, Option.map_some, Option.isSome_some, k1, keyT_eTk, CodK.val, hin]
      · rw [decide_eq_false ha] at hin
        have hav : a ∉ V.map (·.1) := fun z => ha (List.mem_append_left _ z)
        have hay : a ∉ ys := fun z => ha (List.mem_append_right _ z)
        have hn' : (ys ++ [a]).Nodup := by
          rw [List.nodup_append]
          refine ⟨hn, by simp, fun x hx y hy e => ?_⟩
          rw [List.mem_singleton] at hy
          subst hy; subst e
          exact hay hx
        have hk' : ∀ p ∈ ys ++ [a], valK g p ≠ none := fun p hp => by
          rcases List.mem_append.mp hp with hp | hp
          · exact hk p hp
          · rw [List.mem_singleton.mp hp, q]; simp
        have hd' : ∀ p ∈ ys ++ [a], p ∉ V.map (·.1) := fun p hp => by
          rcases List.mem_append.mp hp with hp | hp
          · exact hd p hp
          · rw [List.mem_singleton.mp hp]; exact hav
        have hlen := len_le hn' hk'
        rw [List.length_append, List.length_singleton] at hlen
        have hcap : (kT.enc (mapV eT (V ++ ys.map fun y => (y, s)))).length < 100000 := by rw [CodK.enc_len, mapV_len, List.length_append, List.length_map]; omega
        have hput : putKD (mapV eT (V ++ ys.map fun y => (y, s))) a (eT s) = mapV eT (V ++ (ys ++ [a]).map fun y => (y, s)) := by
          rw [v_put (by rw [em]; exact ha), List.map_append, List.append_assoc]; rfl
        have hv2 : lookNC c.w (S1.set st (.dn c.w (kT.enc (mapV eT (V ++ (ys ++ [a]).map fun y => (y, s))))))[n]? (eT a) = some (some (eT b)) := by
          rw [List.getElem?_set_ne (fun z => h2 z.symm)]; exact hv
        have hv3 : lookN c.w (S1.set st (.dn c.w (kT.enc (mapV eT (V ++ (ys ++ [a]).map fun y => (y, s)))))) (.ref n) (eT a) = some (some (eT b)) := hv2
        refine .inr ⟨S1, [some (.ref n), some (.ref fl), some (.ref st), some (eT s), some (eT b)], S1.set st (.dn c.w (kT.enc (mapV eT (V ++ (ys ++ [a]).map fun y => (y, s))))), m - 1, ?_, ?_, by omega, ys ++ [a], b, rfl, set_get k1, fr.trans (Fr.set rfl), hch.snoc q, hn', hk', hd', by rw [List.length_append, List.length_singleton]; omega⟩
        · simp only [ap_fVar, varK_some, ap_fBin, ap_binK, ap_fTest, ap_testK, ap_fAnd, ap_andK, lookN_ref, lookNC_dn, o_inN, o_inNK, o_someMap, R.bind_ok, List.getElem?_cons_zero, List.getElem?_cons_succ, Bool.false_eq_true, if_true, if_false, Bool.not_true, Bool.not_false, ap_wt_rings_0, hv, Option.map_some, Option.isSome_some, k1, keyT_eTk, CodK.val, hin]
        · simp only [ap_fVar, varK_some, ap_fBin, ap_binK, ap_fSeq, ap_seqK_nx, ap_fAsg, ap_asgK, ap_asgK2, ap_gN, o_getDK, ap_fIxN, o_ixN, oSetN_ref, setNC_dn, setNK_some, ap_gSubN, ap_gnK, ap_gnK2, ap_gnK3, R.bind_ok, List.getElem?_cons_zero, List.getElem?_cons_succ, List.set_cons_zero, List.set_cons_succ, if_true, ap_lb_rings_0, k1, keyT_eTk, CodK.put, hput, hcap, hv2, hv3]
  obtain ⟨e1, S1, h, ys, a, rfl, q1, q2, hch, hn, hk, hd, hstop⟩ := fWhile_ok (ft := wt_rings_0 c) (fb := lb_rings_0 c) (m := g.length) (e := [some (.ref n), some (.ref fl), some (.ref st), some (eT s), some (eT s)]) (S := S) P Q step ⟨[], s, rfl, by simpa using hV, Fr.refl _ _, .nil, List.nodup_nil, fun p hp => (by cases hp), fun p hp => (by cases hp), by simp⟩ (by omega)
  have RS := hR.step hs hp hch hn hk hd hstop
  have hF1 := q2.get hF h3
  have hg1 := hg.mono q2 h2
  have hin : (valK (mapV eT (V ++ ys.map fun y => (y, s))) a).isSome = decide (a ∈ V.map (·.1) ++ ys) := by rw [v_in, em]
  have fr1 : Fr S S1 (fun i => i = fl ∨ i = st) := q2.mono fun i z => .inr z
  by_cases hay : a ∈ ys
  · rw [if_pos hay] at RS
    have hav : a ∉ V.map (·.1) := hd a hay
    have hval : valK (V ++ ys.map fun y => (y, s)) a = some s := by
      rw [val_app, val_ys, if_pos hay]
      cases q : valK V a with
      | none => rfl
      | some x => exact absurd (val_mem (by rw [q]; simp)) hav
    have hve : valK (mapV eT (V ++ ys.map fun y => (y, s))) a = some (eT s) := by rw [mapV_val, hval]; rfl
    have hre : lring g a ≠ [] := by
      obtain ⟨us, vs, e⟩ := List.append_of_mem hay
      have R2 : Rg g a (a :: vs) := ⟨by simp, ch_of _ _ _ rfl (fun xs cc zs e2 => hch.link (us ++ xs) cc zs (by rw [e, e2]; simp)) rfl, by rw [e, List.nodup_append] at hn; exact hn.2.1, fun p hp => hk p (by rw [e]; exact List.mem_append_right _ hp)⟩
      rw [R2.eq]; simp
    obtain ⟨S2, a2, fr2⟩ := ringof_eq c (t := a) hg1 hl
    obtain ⟨S3, a3, fr3⟩ := ringof_eq c (t := mxL (lring g a)) (hg1.mono fr2 (fun z => z)) hl
    have hF3 := fr3.get (fr2.get hF1 (fun z => z)) (fun z => z)
    have hm := max_tup (S := S2) hre
    have hcap : (F.map eR).length < 100000 := by rw [List.length_map]; omega
    have eF : F.map eR ++ [D.tup ((lring g (mxL (lring g a))).map eT)] = (F ++ [lring g (mxL (lring g a))]).map eR := by rw [List.map_append]; rfl
    have q1' := fr3.get (fr2.get q1 (fun z => z)) (fun z => z)
    refine ⟨some (eT a), S3.set fl (.lst ((F ++ [lring g (mxL (lring g a))]).map eR)), _, _, ?_, set_get hF3, by rw [List.getElem?_set_ne h3]; exact q1', ?_, RS, by simp⟩
    · simp only [ap_fVar, varK_some, ap_fBin, ap_binK, ap_fApp, ap_fNil, ap_fCons, ap_consK, ap_consK2, ap_fTest, ap_testK, ap_fAnd, ap_andK, ap_fSkip, ap_fSeq, ap_seqK_nx, ap_fIf, ap_ifK, ap_fDrop, ap_dropK, ap_fAsg, ap_asgK, ap_asgK2, ap_gN, ap_fCall, ap_callK, o_eq, eqK_some, ap_fBm, ap_bmK, tyIn_ref, tyInC_lst, o_getDK, o_append, o_appC, lookN_ref, lookNC_dn, o_inN, o_inNK, ap_fIxN, o_ixN, o_someMap, fT_eT, eqv_T, R.bind_ok, R.nox_ok, List.length_cons, List.length_nil, Nat.zero_add, Nat.reduceAdd, List.getElem?_cons_zero, List.getElem?_cons_succ, List.set_cons_zero, List.set_cons_succ, List.append_nil, Bool.false_eq_true, if_true, if_false, decide_true, Nat.add_zero, Bool.not_true, ap_lb_rings_1, h, q1, keyT_eTk, CodK.val, hve, Option.isSome_some, a2, hm, a3, hF1, hF3, hcap, eF]
    · exact ((fr1.trans (fr2.mono fun _ z => z.elim)).trans (fr3.mono fun _ z => z.elim)).trans (Fr.set (.inl rfl))
  · rw [if_neg hay] at RS
    refine ⟨some (eT a), S1, _, _, ?_, hF1, q1, fr1, RS, by omega⟩
    by_cases hav : a ∈ V.map (·.1)
    · obtain ⟨x, hx⟩ := Option.ne_none_iff_exists'.mp (mem_val hav)
      have hxs : x ≠ s := fun e => hp (e ▸ hR.st _ (val_pair hx))
      have hve : valK (mapV eT (V ++ ys.map fun y => (y, s))) a = some (eT x) := by rw [mapV_val, val_app, hx]; rfl
      simp only [ap_fVar, varK_some, ap_fBin, ap_binK, ap_fApp, ap_fNil, ap_fCons, ap_consK, ap_consK2, ap_fTest, ap_testK, ap_fAnd, ap_andK, ap_fSkip, ap_fSeq, ap_seqK_nx, ap_fIf, ap_ifK, ap_fDrop, ap_fAsg, ap_asgK, ap_asgK2, ap_gN, ap_fCall, ap_callK, o_eq, eqK_some, ap_fBm, ap_bmK, tyIn_ref, o_getDK, lookN_ref, lookNC_dn, o_inN, o_inNK, ap_fIxN, o_ixN, o_someMap, fT_eT, eqv_T, R.bind_ok, List.length_cons, List.length_nil, Nat.zero_add, Nat.reduceAdd, List.getElem?_cons_zero, List.getElem?_cons_succ, List.set_cons_zero, List.set_cons_succ, List.append_nil, Bool.false_eq_true, if_true, if_false, decide_false, Nat.add_zero, Bool.not_true, ap_lb_rings_1, h, q1, keyT_eTk, CodK.val, hve, Option.isSome_some, hxs]
    · have hve : valK (mapV eT (V ++ ys.map fun y => (y, s))) a = none := by
        have : decide (a ∈ V.map (·.1) ++ ys) = false := decide_eq_false fun z => (List.mem_append.mp z).elim hav hay
        rw [this] at hin
        cases q : valK (mapV eT (V ++ ys.map fun y => (y, s))) a with
        | none => rfl
        | some x => rw [q] at hin; cases hin
      simp only [ap_fVar, varK_some, ap_fBin, ap_binK, ap_fApp, ap_fNil, ap_fCons, ap_consK, ap_consK2, ap_fTest, ap_testK, ap_fAnd, ap_andK, ap_fSkip, ap_fSeq, ap_seqK_nx, ap_fIf, ap_ifK, ap_fDrop, ap_fAsg, ap_asgK, ap_asgK2, ap_gN, ap_fCall, ap_callK, ap_fBm, ap_bmK, tyIn_ref, lookN_ref, lookNC_dn, o_inN, o_inNK, ap_fIxN, o_ixN, o_someMap, R.bind_ok, List.length_cons, List.length_nil, Nat.zero_add, Nat.reduceAdd, List.getElem?_cons_zero, List.getElem?_cons_succ, List.set_cons_zero, List.set_cons_succ, List.append_nil, Bool.false_eq_true, if_true, if_false, Nat.add_zero, Bool.not_false, ap_lb_rings_1, h, q1, keyT_eTk, CodK.val, hve, Option.isSome_none]
end Qk34

namespace Qk34
open PySem L2 RF
theorem keys_enc {g : Gr} : keysN (kT.enc (mapV eT g)) = kT.es (g.map (·.1)) := by rw [CodK.keys, mapV_keys]
theorem found_cell {F : List (List Tr)} (h : ∀ r ∈ F, r ≠ []) : F.map eR = cR.es (F.map toR) := by
  unfold Cod.es
  rw [List.map_map]
  exact List.map_congr_left fun r hr => (eR_toR (h r hr)).symm
theorem sort_keys {g : Gr} (hnd : (g.map (·.1)).Nodup) : (∀ k, k ∈ kT.sort (g.map (·.1)) ↔ valK g k ≠ none) ∧ (kT.sort (g.map (·.1))).Pairwise (fun a b => gtT a b = true) :=
  ⟨fun k => by rw [Cod.sort_mem]; exact ⟨mem_val, val_mem⟩, sort_asc (C := kT.toCod) tLin hnd⟩
theorem rings_eq (c : CA) {n : Nat} {g : Gr} {S : Sto} (hg : S[n]? = some (.dn c.w (kT.enc (mapV eT g)))) (hl : g.length < 2000) (hnd : (g.map (·.1)).Nodup) :
    ∃ S1 r, F_rings c [.ref n] S = .ok (.ref r) S1 ∧ S1[r]? = some (.lst ((dueL g (kT.sort (g.map (·.1)))).map eR)) ∧ Fr S S1 (fun _ => False) ∧ S.length ≤ r := by
  have hnS : n < S.length := (List.getElem?_eq_some_iff.mp hg).1
  let S0 : Sto := List.set (S ++ [Cell.lst [], Cell.dn c.w []]) n (.df c.w (kT.enc (mapV eT g)))
  have hg0 : S0[n]? = some (.df c.w (kT.enc (mapV eT g))) := set_get (app_get hg)
  have hf0 : S0[S.length]? = some (.lst []) := by show (List.set _ _ _)[_]? = _; rw [List.getElem?_set_ne (by omega), get_app0]; rfl
  have hv0 : S0[S.length + 1]? = some (.dn c.w []) := by show (List.set _ _ _)[_]? = _; rw [List.getElem?_set_ne (by omega), get_app]; rfl
  let P : Nat → Lc → Sto → Prop := fun j e S1 => ∃ V F f3 f4, e = [some (.ref n), some (.ref S.length), some (.ref (S.length + 1)), f3, f4] ∧ S1[S.length]? = some (.lst (F.map eR)) ∧ S1[S.length + 1]? = some (.dn c.w (kT.enc (mapV eT V))) ∧ Fr S0 S1 (fun i => i = S.length ∨ i = S.length + 1) ∧ RI g ((g.map (·.1)).take j) V F ∧ F.length ≤ j
  have step : ∀ j e S1 d, (kT.es (g.map (·.1)))[j]? = some d → P j e S1 → ∃ e1 S2, Turn1 (gN 3) (lb_rings_1 c) d e S1 e1 S2 ∧ P (j + 1) e1 S2 := by
    rintro j e S1 d hd ⟨V, F, f3, f4, rfl, k1, k2, k3, k4, k5⟩
    unfold Cod.es at hd
    rw [List.getElem?_map] at hd
    obtain ⟨s, hs, rfl⟩ := Option.map_eq_some_iff.mp hd
    have hj := (List.getElem?_eq_some_iff.mp hs).1
    rw [List.length_map] at hj
    have hsk : valK g s ≠ none := mem_val (List.mem_of_getElem? hs)
    have htake : (g.map (·.1)).take (j + 1) = (g.map (·.1)).take j ++ [s] := by rw [List.take_succ, hs]; rfl
    have hsp : s ∉ (g.map (·.1)).take j := fun z => by
      have h1 : ((g.map (·.1)).take (j + 1)).Nodup := hnd.sublist (List.take_sublist _ _)
      rw [htake, List.nodup_append] at h1
      exact h1.2.2 _ z _ List.mem_cons_self rfl
    have hgn : IsG c S1 n g := .inr (k3.get hg0 (by omega))
    obtain ⟨g4, S2, V', F', a1, a2, a3, a4, a5, a6⟩ := rings_turn c hgn hl k1 k2 (by omega) (by omega) (by omega) k4 hsk hsp (by omega) f4
    refine ⟨_, S2, ?_, V', F', some (eT s), g4, rfl, a2, a3, k3.trans a4, by rw [htake]; exact a5, by omega⟩
    unfold Turn1
    simp only [ap_gN, o_kTe, R.bind_ok, List.set_cons_zero, List.set_cons_succ]
    exact a1
  have hR0 : RI g [] [] [] := ⟨List.nodup_nil, fun v hv => (by cases hv), fun v hv => (by cases hv), fun v hv => (by cases hv), fun v hv => (by cases hv), List.nodup_nil, fun r => ⟨fun h => (by cases h), fun ⟨m, hm, _⟩ => (by cases hm)⟩⟩
  obtain ⟨e1, S1, h, V, F, f3, f4, rfl, q1, q2, q3, q4, q5⟩ := loopX_ok P step (e := [some (.ref n), some (.ref S.length), some (.ref (S.length + 1)), none, none]) (S := S0) ⟨[], [], none, none, rfl, hf0, hv0, Fr.refl _ _, by simpa using hR0, Nat.le_refl _⟩
  have hlen : (kT.es (g.map (·.1))).length = g.length := by unfold Cod.es; rw [List.length_map, List.length_map]
  rw [hlen] at q4 q5
  have htk : (g.map (·.1)).take g.length = g.map (·.1) := List.take_of_length_le (by rw [List.length_map]; exact Nat.le_refl _)
  rw [htk] at q4
  have hFne : ∀ r ∈ F, r ≠ [] := fun r hr => by obtain ⟨m, _, m2, rfl⟩ := (q4.fm r).mp hr; exact m2.1
  have hth : S1[n]? = some (.df c.w (kT.enc (mapV eT g))) := q3.get hg0 (by omega)
  let S2 : Sto := S1.set n (.dn c.w (kT.enc (mapV eT g)))
  have hf2 : S2[S.length]? = some (.lst (cR.es (F.map toR))) := by
    show (List.set _ _ _)[_]? = _
    rw [List.getElem?_set_ne (by omega), q1, found_cell hFne]
  obtain ⟨s1, s2⟩ := sort_keys hnd
  have hso := Cod.osort (C := cR) hf2 (fun _ _ => trivial) (by rw [List.length_map]; omega)
  rw [found_due q4 (fun k hk => q4.pr k (val_mem hk)) s1 s2] at hso
  have fr : Fr S S2 (fun _ => False) := by
    have a : Fr S S0 (fun i => i = n) := (Fr.app (P := fun i => i = n) S [Cell.lst [], Cell.dn c.w []]).trans (show Fr _ S0 _ from Fr.set (P := fun i => i = n) rfl)
    have b : Fr S S1 (fun i => i = n) := a.new q3 (fun i hi z => by omega)
    have d : Fr S S2 (fun i => i = n) := b.trans (Fr.set rfl)
    refine ⟨d.le, fun i hi _ => ?_⟩
    by_cases hin : i = n
    · subst hin
      rw [hg]
      exact set_get hth
    · exact d.eq i hi hin
  refine ⟨S2 ++ [.lst ((dueL g (kT.sort (g.map (·.1)))).map eR)], S2.length, ?_, get_app0, fr.trans (Fr.app _ _ _), fr.le⟩
  have hgA : (S ++ [Cell.lst [], Cell.dn c.w []])[n]? = some (.dn c.w (kT.enc (mapV eT g))) := app_get hg
  have h' : loopX (gN 3) (lb_rings_1 c) (kT.es (g.map (·.1))) [some (.ref n), some (.ref S.length), some (.ref (S.length + 1)), none, none] ((S ++ [Cell.lst [], Cell.dn c.w []]).set n (.df c.w (kT.enc (mapV eT g)))) = .ok (.nx [some (.ref n), some (.ref S.length), some (.ref (S.length + 1)), f3, f4]) S1 := h
  have hg0' : ((S ++ [Cell.lst [], Cell.dn c.w []]).set n (.df c.w (kT.enc (mapV eT g))))[n]? = some (.df c.w (kT.enc (mapV eT g))) := hg0
  unfold F_rings b_rings
  simp only [ap_fVar, varK_some, ap_fApp, ap_fNil, ap_fCons, ap_consK, ap_consK2, ap_fLst, ap_lstK, ap_fSeq, ap_seqK_nx, ap_fRet, ap_retK, ap_fAsg, ap_asgK, ap_asgK2, ap_gN, ap_fnF, ap_fnK_rt, ap_fFor, ap_forK_fix, ap_fDictN0, ap_fIce, ap_iceM, ap_iceC, ap_thawR, ap_thawC, ap_fIterN, ap_itNK, ap_itNC, R.bind_ok, List.map_cons, List.map_nil, List.length_cons, List.length_nil, List.cons_append, List.nil_append, Nat.zero_add, Nat.reduceSub, List.replicate_succ, List.replicate_zero, List.getElem?_cons_zero, List.getElem?_cons_succ, List.set_cons_zero, List.set_cons_succ, if_true, Nat.reduceLeDiff, List.append_assoc, List.length_set, List.length_append, ap_fIce, ap_iceM, hgA, app_get hg, hg0', keys_enc, h', ap_thawR, hth, hso, S2]
end Qk34

namespace Qk34
open PySem L2 RF
def hI (t : Int × Int) : Int := reduceHash (Builtin.Tuple.tupleHashOf [hashInt t.1, hashInt t.2])
def KS : List (Int × Int) := ((List.range 14).flatMap fun a => (List.range 6).map fun b => (((1 + a : Nat) : Int), ((b : Nat) : Int))) ++ (List.range 300).map fun p => (((100 + p : Nat) : Int), (9 : Int))
def HS : List Int := [-5164621852614943976, 8389048192121911274, -3550055125485641917, -1440771752368011620, -6333845781340707986, 173794974761290439, 4685526799349444076, 6794810172467074373, 1901736143494378007, 8409376899596376432, 3516302870623680066, -8422800446983873125, 2248468952609198383, 8756109708711196808, 3863035679738500442, 5972319052856130739, 1079245023883434373, 7586885779985432798, -6348126469135965181, 159514286966033244, -9131917124991031250, -2624276368889032825, 3883364387212965600, -1009709641759730766, -3054609118068388172, 3453031638033610253, -5838399773923454241, 669240982178544184, -4223833046794152182, 2283807709307846243, -5491666964808633865, 8062003079928221385, -3877100237679331806, 2630540518422666619, -6660890893534397875, -153250137432399450, 4358481687155754187, -7580621630451799004, 5973048414285056246, 8082331787402686543, 3189257758429990177, -8749845559177563014, 1921423840415508494, 8429064596517506919, 3535990567544810553, -8403112750062742638, 752199911689744484, 7259840667791742909, -6675171581329655070, -167530825227656645, -5060604854200353011, -2951321481082722714, 3556319275019275711, -1336754753953420655, -3381654230262078061, 3125986525839920364, -1767087503132776002, 342195869984854295, -4550878158987842071, 1956762597114156354, 6468494421702309991, -5470608895905243200, 3684703765847243922, -8254399551760309269, 5299270492976545981, -6639832824631007210, 4031436574962064298, -7907666742645488893, 5646003302091366357, -6293100015516186834, 2862212646236300288, -9076890671371252903, 5992736111206186733, 8102019484323817030, 3208945455351120664, -8730157862256432527, 4823512182480422723, 6932795555598053020, -1271641495715522257, 5235999260386476168, 342925231413779802, 2452208604531410099, -2440865424441286267, 4066775331660712158, -5478294832440840526, -8344315056378181388, 7665371170591124535, -8820073366874304646, -3368282097894284722, -1406982561650162287, -8671360168571871277, 7338326058397434646, -1258269363347728918, 703030172896393517, 3996547523963970526, -8998405280765561166, -7037105744521438731, -1585314475541418807, 6106560258510526330, -6888392546219005362, -4927093009974882927, -7364150856715128620, 8216572993057082134, 5779515146316836441, -2817080275428327123, -5254138122168572816, -1960620771100995807, 7889527880863392245, 5452470034123146552, -3144125387622017012, 149391963445559997, -8447203458299603567, 7562482768669702356, 5125424921929456663, -3471170499815706901, -177653148748129892, -8774248570493293456, 7235437656476012467, -1361157765269151097, 1932359585798425912, 3893659122042548347, -9101293682686983345, -7139994146442860910, 4042372320344981716, 6003671856589104151, 3566614009848858458, -5029981411896305106, -1736464060828728097, 3715327208151291827, 5676626744395414262, -2919968677349749302, 373548673717827707, -2063509173022417986, 7786639478941970066, 5349581632201724373, 2483561408264383511, 46503561524137818, -8550091860221025746, 7459594366748280177, 5022536520008034484, 2156516296070693622, -280541550669552071, -8877136972414715635, 7132549254554590288, 4266529030617249426, 1829471183877003733, 3790770720121126168, -9204182084608405524, -5910664733540828515, 3939483918423559537, 1502426071683313844, 3463725607927436279, -3800651998994272711, -1839352462750150276, 3612438806229869648, 5573738342473992083, -1690639264447716907, 270660271796405528, -2166397574943840165, 7683751077020547887, 5246693230280302194, 2380673006342961332, -56384840397284361, -8652980262142447925, 7356705964826857998, -7796520757815116609, 2053627894149271443, -383429952590974250, -8980025374336137814, -5686508023268560805, -8123565870008806498, 1726582781955581554, -710475064784664139, -3576495288722005001, -6013553135462250694, 3836595516502137358, 1399537669761891665, -2309302381260857989, -3903540400915694890, -1942240864671572455, 3509550404308447469, -4597647029698670313, -1793527666369139086, 167771869874983349, -2269285976865262344, 7580862675099125708, -526334758907992074, -2120572778562828975, -159273242318706540, -8755868664063870104, -5462351312996293095, -853379871101681963, 1950739492227849264, -486318354512396429, -3352338578449737291, -5789396425189982984, -1180424983295371852, 1623694380034159375, -6483503053972958407, -3679383690643427180, -6116441537383672873, 3733707114580715179, -4373490319426402603, -6810548166166648296, -4006428802837117069, -2045129266592994634, -2263477584879846799, -4700535431620092492, -1896416068290561265, 64883467953561170, -2372174378786684523, -2590522697073536688, -629223160829414253, -2223461180484251154, -262161644240128719, -8369359078247246501, 1480789573717141551, -956268273023104142, 1847851090306427085, -6259346343700690697, -3455226980371159470, 1153744461523451662, -1283313385216794031, -4149333609154134893, -6586391455894380586, -3782272092564849359, 826699349329761773, -2039320874607579089, -4476378721347824782, -6913436568088070475, -4109317204758539248, -2148017668514416813, -2366365986801268978, -4803423833541514671, -1999304470211983444, -4436362316952229137, -8145202367974978791, -2693411098994958867, -732111562750836432, -2326349582405673333, 8013197057296760501, -8472247480168668680, 1377901171795719372, -1059156674944526321, -8323534281866235311, -6362234745622112876, -3558115382292581649, 1050856059602029483, 4344373410669606492, -4252222011075557072, -6689279857815802765, -3885160494486271538, 6454386145216162296, -2142209276529001268, -4579267123269246961, -7016324970009492654, -4212205606679961427, 6127341033022472407, -2469254388722691157, -4906312235462936850, -2945012699218814415, 8237353767569028211, -8248090769896400970, -2796299500916381046, -834999964672258611, -8099377571593967601, 7910308655375338322, -8575135882090090859, 1275012769874297193, 4568530120941874202, -8426422683787657490, -6465123147543535055, -1013331878563515131, 6678542855488430006, 4241485008748184313, -4355110412996979251, -6792168259737224944, 8788555590034985810, 6351497743294740117, -2245097678450423447, -4682155525190669140, -7119213371930914833, 8461510477841295921, 6024452631101050228, -2572142790644113336, -5009200637384359029, -1715683286316782020, 8134465365647606032, 5697407518907360339, -2899187902837803225, 394329448229773784, -8202265973515389780, 7807420253453916143, -8678024284011513038, 2504342182776329588, 4465641719020452023, -8529311085709079669, -6568011549464957234, 4614354917322885392, 6575654453567007827, 4138596606826762134, -4457998814918401430, -6895056661658647123, 4287309805129195503, 6248609341373317938, 3811551494633072245, -4785043927112091319, -1491526576044514310, 8358622075919873742, 5921564229179628049, -2675031192565535515, 618486158502041494, -1818571688238204199, 8031576963726183853, 5594519116985938160, 2728498893048597298, 291441046308351605, -8305154375436811959, 7704531851532493964, -7448694871109480643, 2401453780854907409, 4362753317099029844, -8632199487630501848, -5338682136562924839, 4511466515401463213, 2074408668661217520, 4035708204905339955, -4560887216839823609, -1267369865772246600, 4184421403207773324, 6145720939451895759, 3708663092711650066, 842642868774309204, -1594414977965936489, 8255733673998451563, 5818675827258205870, 2952655603320865008, 515597756580619315, -1921460090159626378, 7928688561804761674, -7224538160837212933, 2625610491127175119, 188552644386929426, -8408042777358234138, -5114525426290657129, -7551583273030902822, 2298565378933485230, -138492467806760463, -3004512691744101325, -5441570538484347018, -3480271002240224583, 1971520266739795341, 3932819802983917776, -3331557803937791214, -1370258267693668779, 4081533001286351145, 6042832537530473580, -9110394185111501027, 739754466852887025, -1697303379887358668, 8152845272077029384, -7000381450564945223, -1548590181584925299, 412709354659197136, -2024348492081048557, -4890368716018389419, -7327426562758635112, 2522722089205752940, 85664242465507247, -2780355981471833615, -5217413828212079308, -7654471674952325001, 2195676977012063051, -241380869728182642, -3107401093665523504, -5544458940405769197, -3583159404161646762, 1868631864818373162, 5162149215885950171, -3434446205859213393, -1473146669615090958, 3978644599364928966, 7272161950432505975, -9213282587032923206]
theorem hash_kf {w : World} {t : Int × Int} : (kT.kf t).hash w = hI t := by
  show NestedKey.hash w (.tup [.num t.1, .num t.2]) = _
  simp only [NestedKey.hash, NestedKey.hashes]
  rfl
theorem ks_hs : KS.map hI = HS := by decide +kernel
def noDup : List Int → Bool
  | [] => true
  | a :: l => !l.contains a && noDup l
theorem hs_nd : noDup HS = true := by decide +kernel
theorem noDup_inj : ∀ {α : Type} {f : α → Int} {l : List α}, noDup (l.map f) = true → ∀ a ∈ l, ∀ b ∈ l, f a = f b → a = b
  | α, f, [], _, a, ha, _, _, _ => by cases ha
  | α, f, x :: l, h, a, ha, b, hb, e => by
    rw [List.map_cons, noDup, Bool.and_eq_true] at h
    have hx : ∀ y ∈ l, f x ≠ f y := fun y hy z => by
      have : (l.map f).contains (f x) = true := by rw [List.contains_iff_mem]; exact z ▸ List.mem_map_of_mem (f := f) hy
      rw [this] at h
      exact absurd h.1 (by simp)
    rcases List.mem_cons.mp ha with e1 | h1
    · rcases List.mem_cons.mp hb with e2 | h2
      · rw [e1, e2]
      · exact absurd (e1 ▸ e) (hx b h2)
    · rcases List.mem_cons.mp hb with e2 | h2
      · exact absurd (e2 ▸ e.symm) (hx a h1)
      · exact noDup_inj h.2 a h1 b h2 e
theorem ks_inj : ∀ a ∈ KS, ∀ b ∈ KS, hI a = hI b → a = b := by
  have key : ∀ l : List (Int × Int), l.map hI = HS → ∀ a ∈ l, ∀ b ∈ l, hI a = hI b → a = b := fun l e => noDup_inj (by rw [e]; exact hs_nd)
  exact key KS ks_hs
theorem ks_len : KS.length = 384 := by
  have key : ∀ l : List (Int × Int), l.map hI = HS → l.length = 384 := fun l e => by
    have h := congrArg List.length e
    rw [List.length_map] at h
    rw [h]
    decide +kernel
  exact key KS ks_hs
end Qk34

namespace Qk34
open PySem L2 RF
def nextC (c : CA) (n : Nat) (size : Int) (S : Sto) : Option Cell → R D
  | some (.lst [.int a, .int b]) => .ok (.int (dNext size (a, b)).1) (S.set n (stC (dNext size (a, b)).2))
  | _ => F_law_next c [.ref n, .int size] S
theorem fT_nextC (c : CA) {n : Nat} {s : Sd} {size : Int} {S : Sto} : nextC c n size S (some (stC s)) = .ok (.int (dNext size s).1) (S.set n (stC (dNext size s).2)) := (rfl)
theorem next_eq (c : CA) {n : Nat} {size : Int} {S : Sto} (h0 : 0 < size) (h1 : size < 1267650600228229401496703205376) :
    F_law_next c [.ref n, .int size] S = nextC c n size S S[n]? := by
  unfold nextC
  split
  · rename_i a b h
    unfold F_law_next b_law_next
    by_cases ha : 0 < a
    · simp only [ap_fVar, varK_some, ap_fC, ap_fBin, ap_binK, ap_fApp, ap_fNil, ap_fCons, ap_consK, ap_consK2, ap_fTest, ap_testK, ap_fSkip, ap_fSeq, ap_seqK_nx, ap_seqK_rt, ap_fIf, ap_ifK, ap_fRet, ap_retK, ap_fAsg, ap_asgK, ap_asgK2, ap_gN, ap_gSub, ap_subK1, ap_subK2, ap_subK3, ap_fIx, ap_ixK, isDict_ref, isDictC_lst, getL_ref, getLC_lst, retO_some, atI_0, oSet_ref, setC_lst, setLK_some, ixN_0, ap_fnF, ap_fnK_rt, o_mod, o_div, o_gt, o_int, o_getD, lookD_ref, R.bind_ok, List.map_cons, List.map_nil, List.length_cons, List.length_nil, List.cons_append, List.nil_append, Nat.zero_add, Nat.reduceAdd, Nat.reduceSub, List.replicate_succ, List.replicate_zero, List.getElem?_cons_zero, List.getElem?_cons_succ, List.set_cons_zero, List.set_cons_succ, Bool.false_eq_true, if_true, if_false, decide_true, Int.reduceLE, and_self, h, set_get h, h0, h1, ha, stC, dNext]
    · simp only [ap_fVar, varK_some, ap_fC, ap_fBin, ap_binK, ap_fApp, ap_fNil, ap_fCons, ap_consK, ap_consK2, ap_fTest, ap_testK, ap_fSkip, ap_fSeq, ap_seqK_nx, ap_fIf, ap_ifK, ap_fRet, ap_retK, ap_fAsg, ap_asgK, ap_asgK2, ap_gN, ap_gSub, ap_subK1, ap_subK2, ap_subK3, ap_fIx, ap_ixK, isDict_ref, isDictC_lst, getL_ref, getLC_lst, retO_some, atI_0, atI_1, oSet_ref, setC_lst, setLK_some, ixN_0, ixN_1, ap_fnF, ap_fnK_rt, o_add, o_mul, o_mod, o_div, o_gt, o_int, o_getD, lookD_ref, R.bind_ok, List.map_cons, List.map_nil, List.length_cons, List.length_nil, List.cons_append, List.nil_append, Nat.zero_add, Nat.reduceAdd, Nat.reduceSub, List.replicate_succ, List.replicate_zero, List.getElem?_cons_zero, List.getElem?_cons_succ, List.set_cons_zero, List.set_cons_succ, Bool.false_eq_true, if_true, if_false, decide_false, Int.reduceLT, Int.reduceLE, Int.reduceNeg, Int.reducePow, or_true, and_self, h, set_get h, h0, h1, ha, stC, dNext]
  · rfl
theorem stream_eq (c : CA) (x k : Int) (S : Sto) (hk : 0 ≤ k ∧ k < 1000) : ∃ s, F_law_stream c [.int x, .int k] S = .ok (.ref S.length) (S ++ [stC s]) := by
  unfold F_law_stream b_law_stream
  by_cases h : (1000000000000000000 : Int) ≤ x
  · refine ⟨(x, (x * 48271 + k * 69621 + 77) % 2147483647), ?_⟩
    simp only [ap_fVar, varK_some, ap_fC, ap_fBin, ap_binK, ap_fApp, ap_fNil, ap_fCons, ap_consK, ap_consK2, ap_fLst, ap_lstK, ap_fTest, ap_testK, ap_fSkip, ap_fSeq, ap_seqK_nx, ap_fIf, ap_ifK, ap_fRet, ap_retK, ap_fAsg, ap_asgK, ap_asgK2, ap_gN, ap_fnF, ap_fnK_rt, o_add, o_mul, o_mod, o_pow, o_ge, o_int, R.bind_ok, List.map_cons, List.map_nil, List.length_cons, List.length_nil, List.cons_append, List.nil_append, Nat.zero_add, Nat.reduceAdd, Nat.reduceSub, List.replicate_succ, List.replicate_zero, List.getElem?_cons_zero, List.getElem?_cons_succ, List.set_cons_zero, List.set_cons_succ, if_true, decide_true, Nat.reduceLeDiff, Int.reduceLT, Int.reduceLE, Int.reduceNeg, Int.reducePow, or_true, and_self, Int.reduceToNat, h, stC]
  · refine ⟨(0, (x * 48271 + k * 69621 + 77) % 2147483647), ?_⟩
    simp only [ap_fVar, varK_some, ap_fC, ap_fBin, ap_binK, ap_fApp, ap_fNil, ap_fCons, ap_consK, ap_consK2, ap_fLst, ap_lstK, ap_fTest, ap_testK, ap_fSkip, ap_fSeq, ap_seqK_nx, ap_fIf, ap_ifK, ap_fRet, ap_retK, ap_fAsg, ap_asgK, ap_asgK2, ap_gN, ap_fnF, ap_fnK_rt, o_add, o_mul, o_mod, o_pow, o_ge, o_int, R.bind_ok, List.map_cons, List.map_nil, List.length_cons, List.length_nil, List.cons_append, List.nil_append, Nat.zero_add, Nat.reduceAdd, Nat.reduceSub, List.replicate_succ, List.replicate_zero, List.getElem?_cons_zero, List.getElem?_cons_succ, List.set_cons_zero, List.set_cons_succ, Bool.false_eq_true, if_true, if_false, decide_false, Nat.reduceLeDiff, Int.reduceLT, Int.reduceLE, Int.reduceNeg, Int.reducePow, or_true, and_self, Int.reduceToNat, h, stC]
def Dr (n : Nat) (S S1 : Sto) : Prop := (∃ s, S1[n]? = some (stC s)) ∧ Fr S S1 (fun i => i = n)
theorem Dr.trans {n : Nat} {S S1 S2 : Sto} (a : Dr n S S1) (b : Dr n S1 S2) : Dr n S S2 := ⟨b.1, a.2.trans b.2⟩
theorem Dr.mk1 {n : Nat} {S : Sto} {s s1 : Sd} (h : S[n]? = some (stC s)) : Dr n S (S.set n (stC s1)) := ⟨⟨_, set_get h⟩, Fr.set (P := fun i => i = n) rfl⟩
theorem Dr.app {n : Nat} {S S1 T : Sto} (h : Dr n S S1) : Dr n S (S1 ++ T) := ⟨let ⟨s, h⟩ := h.1; ⟨s, app_get h⟩, h.2.trans (Fr.app _ _ _)⟩
theorem nx_d (c : CA) {n : Nat} {S : Sto} {k : Int} (h0 : 0 < k) (h1 : k < 1000000) (h : ∃ s, S[n]? = some (stC s)) : ∃ (a : Int) (S1 : Sto), F_law_next c [.ref n, .int k] S = .ok (.int a) S1 ∧ Dr n S S1 ∧ 0 ≤ a ∧ a < k := by
  obtain ⟨s, h⟩ := h
  have e := next_eq c (n := n) (S := S) h0 (by omega : k < 1267650600228229401496703205376)
  rw [h, fT_nextC] at e
  exact ⟨_, _, e, Dr.mk1 h, dNext_lo h0 s, dNext_hi h0 s⟩
theorem atI_mem {α : Type} {l : List α} {x : Int} (h0 : 0 ≤ x) (h1 : x < l.length) : ∃ d, atI l x = some d ∧ d ∈ l := by
  rw [atI_nn h0]
  have h : x.toNat < l.length := by omega
  exact ⟨l[x.toNat], List.getElem?_eq_getElem h, List.getElem_mem h⟩
def inN (x : Tr) : Prop := 1 ≤ x.1 ∧ x.1 ≤ 14 ∧ 0 ≤ x.2 ∧ x.2 ≤ 5
def inK (x : Tr) : Prop := inN x ∨ (100 ≤ x.1 ∧ x.1 < 400 ∧ x.2 = 9)
theorem inK_ks {x : Tr} (h : inK x) : x ∈ KS := by
  obtain ⟨a, b⟩ := x
  unfold KS
  rw [List.mem_append]
  rcases h with ⟨h1, h2, h3, h4⟩ | ⟨h1, h2, h3⟩
  · left
    simp only at h1 h2 h3 h4
    rw [List.mem_flatMap]
    refine ⟨(a - 1).toNat, List.mem_range.mpr (by omega), List.mem_map.mpr ⟨b.toNat, List.mem_range.mpr (by omega), ?_⟩⟩
    exact Prod.ext (by simp only; omega) (by simp only; omega)
  · right
    simp only at h1 h2 h3
    refine List.mem_map.mpr ⟨(a - 100).toNat, List.mem_range.mpr (by omega), ?_⟩
    exact Prod.ext (by simp only; omega) h3.symm
theorem hash_e {w : World} : ∀ {g : Gr}, ((kT.enc (mapV eT g)).map fun p => p.1.hash w) = (g.map (·.1)).map hI
  | [] => rfl
  | x :: g => by
    show (kT.kf x.1).hash w :: ((kT.enc (mapV eT g)).map fun p => p.1.hash w) = hI x.1 :: (g.map (·.1)).map hI
    rw [hash_e (g := g), hash_kf]
theorem keys_hnd {ks : List Tr} (hn : ks.Nodup) (hk : ∀ x ∈ ks, inK x) : (ks.map hI).Nodup := nodup_map hn fun a ha b hb => ks_inj a (inK_ks (hk a ha)) b (inK_ks (hk b hb))
theorem hash_nd {w : World} {g : Gr} (hn : (g.map (·.1)).Nodup) (hk : ∀ x ∈ g.map (·.1), inK x) : ((kT.enc (mapV eT g)).map fun p => p.1.hash w).Nodup := by
  rw [hash_e]
  exact keys_hnd hn hk
/-- a graph that was drawn -/
structure Gk (g : Gr) : Prop where
  nd : (g.map (·.1)).Nodup
  ks : ∀ x ∈ g.map (·.1), inK x
theorem put_gk {g : Gr} {k v : Tr} (hn : (g.map (·.1)).Nodup) : ((putKD g k v).map (·.1)).Nodup ∧ (∀ x ∈ (putKD g k v).map (·.1), x ∈ g.map (·.1) ∨ x = k) ∧ (putKD g k v).length ≤ g.length + 1 := by
  unfold putKD
  by_cases h : (g.any fun kv => decide (kv.1 = k)) = true
  · rw [if_pos h]
    have e : (g.map fun kv => if kv.1 = k then (kv.1, v) else kv).map (·.1) = g.map (·.1) := by
      rw [List.map_map]
      exact List.map_congr_left fun x _ => by simp only [Function.comp]; split <;> rfl
    rw [e]
    exact ⟨hn, fun x hx => .inl hx, by rw [List.length_map]; omega⟩
  · rw [if_neg h, List.map_append]
    refine ⟨?_, fun x hx => ?_, by simp⟩
    · rw [List.nodup_append]
      refine ⟨hn, by simp, fun x hx y hy e => h ?_⟩
      simp only [List.map_cons, List.map_nil, List.mem_singleton] at hy
      subst hy; subst e
      obtain ⟨p, hp, e2⟩ := List.mem_map.mp hx
      exact List.any_eq_true.mpr ⟨p, hp, by simpa using e2⟩
    · rcases List.mem_append.mp hx with hx | hx
      · exact .inl hx
      · exact .inr (by simpa using hx)
theorem Gk.put {g : Gr} {k v : Tr} (h : Gk g) (hk : inK k) : Gk (putKD g k v) := by
  obtain ⟨a, b, _⟩ := put_gk (v := v) (k := k) h.nd
  exact ⟨a, fun x hx => by
    rcases b x hx with z | z
    · exact h.ks x z
    · rw [z]; exact hk⟩
theorem Gk.len {g : Gr} (h : Gk g) : g.length ≤ 384 := by
  have := sub_len h.nd fun x hx => inK_ks (h.ks x hx)
  rw [List.length_map] at this
  rw [ks_len] at this
  omega
theorem names_turn (c : CA) {n l : Nat} {S : Sto} {ns : List Tr} (v1 f3 f4 v5 v6 v7 v8 : Option D) (h : ∃ s, S[n]? = some (stC s)) (hln : l ≠ n) (hl : S[l]? = some (.lst (ns.map eT))) (hi : ∀ x ∈ ns, inN x) (hlen : ns.length < 1000) :
    ∃ (f4' : Option D) (S1 : Sto) (ns' : List Tr), lb_law_drawn_0 c [some (.ref n), v1, some (.ref l), f3, f4, v5, v6, v7, v8] S = .ok (.nx [some (.ref n), v1, some (.ref l), f3, f4', v5, v6, v7, v8]) S1 ∧ S1[l]? = some (.lst (ns'.map eT)) ∧ (∃ s, S1[n]? = some (stC s)) ∧ Fr S S1 (fun i => i = n ∨ i = l) ∧ (∀ x ∈ ns', inN x) ∧ ns'.length ≤ ns.length + 1 := by
  obtain ⟨a, S1, q1, d1, a0, a1⟩ := nx_d c (k := 14) (by decide) (by decide) h
  obtain ⟨b, S2, q2, d2, b0, b1⟩ := nx_d c (k := 6) (by decide) (by decide) d1.1
  have D2 := d1.trans d2
  have g2 := D2.2.get hl hln
  have hx : inN (1 + a, b) := ⟨by simp only; omega, by simp only; omega, by simp only; omega, by simp only; omega⟩
  have eT' : D.tup [.int (1 + a), .int b] = eT (1 + a, b) := rfl
  have hcap : (ns.map eT).length < 100000 := by rw [List.length_map]; omega
  by_cases hm : (1 + a, b) ∈ ns
  · have hin := Cod.oin (C := kT.toCod) (neg := true) (a := ((1 + a, b) : Tr)) (b := true) g2 (fun _ _ => trivial) trivial ⟨fun _ => hm, fun _ => rfl⟩
    have hin : oInL true (D.tup [.int (1 + a), .int b]) (.ref l) S2 = .ok (.bl false) S2 := hin
    refine ⟨some (eT (1 + a, b)), S2, ns, ?_, g2, d2.1, D2.2.mono fun i z => .inl z, hi, by omega⟩
    simp only [ap_fVar, varK_some, ap_fC, ap_fBin, ap_binK, ap_fNil, ap_fCons, ap_consK, ap_consK2, ap_fTup, ap_tupK, ap_fTest, ap_testK, ap_fSkip, ap_fSeq, ap_seqK_nx, ap_fIf, ap_ifK, ap_fDrop, ap_fAsg, ap_asgK, ap_asgK2, ap_gN, ap_fCall, ap_callK, o_add, ap_fBm, ap_bmK, tyIn_ref, o_append, R.bind_ok, R.nox_ok, List.length_cons, List.length_nil, Nat.zero_add, Nat.reduceAdd, List.getElem?_cons_zero, List.getElem?_cons_succ, List.set_cons_zero, List.set_cons_succ, List.append_nil, Bool.false_eq_true, if_true, if_false, Nat.add_zero, Nat.reduceLeDiff, ap_lb_law_drawn_0, q1, q2, hin, ← eT']
  · have hin := Cod.oin (C := kT.toCod) (neg := true) (a := ((1 + a, b) : Tr)) (b := false) g2 (fun _ _ => trivial) trivial ⟨fun z => (by cases z), fun z => absurd z hm⟩
    have hin : oInL true (D.tup [.int (1 + a), .int b]) (.ref l) S2 = .ok (.bl true) S2 := hin
    have ea : ns.map eT ++ [D.tup [.int (1 + a), .int b]] = (ns ++ [(1 + a, b)]).map eT := by rw [List.map_append]; rfl
    refine ⟨some (eT (1 + a, b)), S2.set l (.lst ((ns ++ [(1 + a, b)]).map eT)), ns ++ [(1 + a, b)], ?_, set_get g2, ?_, (D2.2.mono fun i z => .inl z).trans (Fr.set (.inr rfl)), fun x hx' => ?_, by simp⟩
    · rw [← ea]
      simp only [ap_fVar, varK_some, ap_fC, ap_fBin, ap_binK, ap_fNil, ap_fCons, ap_consK, ap_consK2, ap_fTup, ap_tupK, ap_fTest, ap_testK, ap_fSkip, ap_fSeq, ap_seqK_nx, ap_fIf, ap_ifK, ap_fDrop, ap_dropK, ap_fAsg, ap_asgK, ap_asgK2, ap_gN, ap_fCall, ap_callK, o_add, ap_fBm, ap_bmK, tyIn_ref, tyInC_lst, o_append, o_appC, R.bind_ok, R.nox_ok, List.length_cons, List.length_nil, Nat.zero_add, Nat.reduceAdd, List.getElem?_cons_zero, List.getElem?_cons_succ, List.set_cons_zero, List.set_cons_succ, List.append_nil, if_true, decide_true, Nat.add_zero, Nat.reduceLeDiff, ap_lb_law_drawn_0, q1, q2, hin, g2, hcap, ← eT']
    · obtain ⟨s, hs⟩ := d2.1
      exact ⟨s, by rw [List.getElem?_set_ne hln]; exact hs⟩
    · rcases List.mem_append.mp hx' with z | z
      · exact hi x z
      · rw [List.mem_singleton.mp z]; exact hx
theorem graph_turn (c : CA) {n l gp : Nat} {S : Sto} {ns : List Tr} {g : Gr} {x : Tr} (v1 v3 f6 v7 v8 : Option D) (h : ∃ s, S[n]? = some (stC s)) (hln : l ≠ n) (hgn : gp ≠ n) (hlg : l ≠ gp) (hl : S[l]? = some (.lst (ns.map eT))) (hi : ∀ x ∈ ns, inN x) (hlen : ns.length < 1000) (hx : x ∈ ns)
    (hg : S[gp]? = some (.dn c.w (kT.enc (mapV eT g)))) (hk : Gk g) :
    ∃ (f6' : Option D) (S1 : Sto) (g' : Gr), lb_law_drawn_1 c [some (.ref n), v1, some (.ref l), v3, some (eT x), some (.ref gp), f6, v7, v8] S = .ok (.nx [some (.ref n), v1, some (.ref l), v3, some (eT x), some (.ref gp), f6', v7, v8]) S1 ∧ S1[gp]? = some (.dn c.w (kT.enc (mapV eT g'))) ∧ (∃ s, S1[n]? = some (stC s)) ∧ Fr S S1 (fun i => i = n ∨ i = gp) ∧ Gk g' := by
  have hpos : 0 < ns.length := List.length_pos_of_mem hx
  obtain ⟨a, S1, q1, d1, a0, a1⟩ := nx_d c (k := (ns.length : Nat)) (by omega) (by omega) h
  have g1 := d1.2.get hl hln
  obtain ⟨y, hy, hym⟩ := atI_mem (l := ns.map eT) (x := a) a0 (by rw [List.length_map]; exact a1)
  obtain ⟨z, hz, rfl⟩ := List.mem_map.mp hym
  have hgl := hk.len
  have hcap : (kT.enc (mapV eT g)).length < 100000 := by rw [CodK.enc_len, mapV_len]; omega
  have hgg1 := d1.2.get hg hgn
  by_cases hzx : z = x
  · refine ⟨some (eT z), S1, g, ?_, hgg1, d1.1, d1.2.mono fun i z => .inl z, hk⟩
    subst hzx
    simp only [ap_fVar, varK_some, ap_fC, ap_fBin, ap_binK, ap_fApp, ap_fNil, ap_fCons, ap_consK, ap_consK2, ap_fTest, ap_testK, ap_fAnd, ap_andK, ap_fSkip, ap_fSeq, ap_seqK_nx, ap_fIf, ap_ifK, ap_fAsg, ap_asgK, ap_asgK2, ap_gN, ap_fIx, ap_ixK, isDict_ref, isDictC_lst, getL_ref, getLC_lst, retO_some, ap_fCall, ap_callK, o_ne, neK_some, o_len, lenK_some, lenD_ref, lenC_lst, o_getD, lookD_ref, oSetN_ref, ap_gSubN, ap_gnK, ap_gnK2, fT_eT, eqv_T, R.bind_ok, R.nox_ok, List.length_cons, List.length_nil, Nat.zero_add, Nat.reduceAdd, List.getElem?_cons_zero, List.getElem?_cons_succ, List.set_cons_zero, List.set_cons_succ, List.append_nil, Bool.false_eq_true, if_true, if_false, decide_true, Nat.add_zero, Bool.not_true, ap_lb_law_drawn_1, hl, g1, List.length_map, q1, hy]
  · obtain ⟨b, S2, q2, d2, b0, b1⟩ := nx_d c (k := 6) (by decide) (by decide) d1.1
    have hgg2 := d2.2.get hgg1 hgn
    by_cases hb : 0 < b
    · refine ⟨some (eT z), S2.set gp (.dn c.w (kT.enc (mapV eT (putKD g x z)))), putKD g x z, ?_, set_get hgg2, ?_, ((d1.trans d2).2.mono fun i z => .inl z).trans (Fr.set (.inr rfl)), hk.put (.inl (hi x hx))⟩
      · simp only [ap_fVar, varK_some, ap_fC, ap_fBin, ap_binK, ap_fApp, ap_fNil, ap_fCons, ap_consK, ap_consK2, ap_fTest, ap_testK, ap_fAnd, ap_andK, ap_fSkip, ap_fSeq, ap_seqK_nx, ap_fIf, ap_ifK, ap_fAsg, ap_asgK, ap_asgK2, ap_gN, ap_fIx, ap_ixK, isDict_ref, isDictC_lst, getL_ref, getLC_lst, retO_some, ap_fCall, ap_callK, o_gt, o_ne, neK_some, o_len, lenK_some, lenD_ref, lenC_lst, o_getD, lookD_ref, oSetN_ref, setNC_dn, setNK_some, ap_gSubN, ap_gnK, ap_gnK2, ap_gnK3, fT_eT, eqv_T, R.bind_ok, R.nox_ok, List.length_cons, List.length_nil, Nat.zero_add, Nat.reduceAdd, List.getElem?_cons_zero, List.getElem?_cons_succ, List.set_cons_zero, List.set_cons_succ, List.append_nil, Bool.false_eq_true, if_true, if_false, decide_true, decide_false, Nat.add_zero, Bool.not_false, ap_lb_law_drawn_1, hl, g1, List.length_map, q1, hy, hzx, q2, hb, hgg2, keyT_eTk, CodK.put, mapV_put, hcap]
      · obtain ⟨s, hs⟩ := d2.1
        exact ⟨s, by rw [List.getElem?_set_ne hgn]; exact hs⟩
    · refine ⟨some (eT z), S2, g, ?_, hgg2, d2.1, (d1.trans d2).2.mono fun i z => .inl z, hk⟩
      simp only [ap_fVar, varK_some, ap_fC, ap_fBin, ap_binK, ap_fApp, ap_fNil, ap_fCons, ap_consK, ap_consK2, ap_fTest, ap_testK, ap_fAnd, ap_andK, ap_fSkip, ap_fSeq, ap_seqK_nx, ap_fIf, ap_ifK, ap_fAsg, ap_asgK, ap_asgK2, ap_gN, ap_fIx, ap_ixK, isDict_ref, isDictC_lst, getL_ref, getLC_lst, retO_some, ap_fCall, ap_callK, o_gt, o_ne, neK_some, o_len, lenK_some, lenD_ref, lenC_lst, o_getD, lookD_ref, oSetN_ref, ap_gSubN, ap_gnK, ap_gnK2, fT_eT, eqv_T, R.bind_ok, R.nox_ok, List.length_cons, List.length_nil, Nat.zero_add, Nat.reduceAdd, List.getElem?_cons_zero, List.getElem?_cons_succ, List.set_cons_zero, List.set_cons_succ, List.append_nil, Bool.false_eq_true, if_true, if_false, decide_false, Nat.add_zero, Bool.not_false, ap_lb_law_drawn_1, hl, g1, List.length_map, q1, hy, hzx, q2, hb]
end Qk34

namespace Qk34
open PySem L2 RF
theorem place_turn (c : CA) {gp : Nat} {S : Sto} {g : Gr} {p st : Int} (v0 v1 v2 v3 v4 v6 : Option D) (hp : 0 ≤ p ∧ p < 300) (hst : 0 ≤ st ∧ st ≤ 13) (hg : S[gp]? = some (.dn c.w (kT.enc (mapV eT g)))) (hk : Gk g) :
    ∃ (S1 : Sto) (g' : Gr), lb_law_drawn_2 c [v0, v1, v2, v3, v4, some (.ref gp), v6, some (.int st), some (.int p)] S = .ok (.nx [v0, v1, v2, v3, v4, some (.ref gp), v6, some (.int st), some (.int p)]) S1 ∧ S1[gp]? = some (.dn c.w (kT.enc (mapV eT g'))) ∧ Fr S S1 (fun i => i = gp) ∧ Gk g' := by
  have hgl := hk.len
  have hcap : (kT.enc (mapV eT g)).length < 100000 := by rw [CodK.enc_len, mapV_len]; omega
  have e1 : D.tup [.int (100 + (p * st) % 300), .int 9] = eT (100 + (p * st) % 300, 9) := rfl
  have e2 : D.tup [.int (100 + (p * st + st) % 300), .int 9] = eT (100 + (p * st + st) % 300, 9) := rfl
  have hk1 : inK (100 + (p * st) % 300, 9) := .inr ⟨by simp only; omega, by simp only; omega, rfl⟩
  refine ⟨S.set gp (.dn c.w (kT.enc (mapV eT (putKD g (100 + (p * st) % 300, 9) (100 + (p * st + st) % 300, 9))))), _, ?_, set_get hg, Fr.set rfl, hk.put hk1⟩
  have b1 : (-18446744073709551616 : Int) < p := by omega
  have b2 : p < (18446744073709551616 : Int) := by omega
  simp only [ap_fVar, varK_some, ap_fC, ap_fBin, ap_binK, ap_fApp, ap_fNil, ap_fCons, ap_consK, ap_consK2, ap_fTup, ap_tupK, ap_fAsg, ap_asgK, ap_asgK2, o_add, o_mul, o_mod, o_int, oSetN_ref, setNC_dn, setNK_some, ap_gSubN, ap_gnK, ap_gnK2, ap_gnK3, R.bind_ok, List.length_cons, List.length_nil, Nat.zero_add, Nat.reduceAdd, List.getElem?_cons_zero, List.getElem?_cons_succ, if_true, Nat.reduceLeDiff, Int.reduceLT, Int.reduceNeg, Int.reducePow, true_or, and_self, ap_lb_law_drawn_2, b1, b2, e1, e2, hg, keyT_eTk, CodK.put, mapV_put, hcap]
theorem drawn_eq (c : CA) {n : Nat} {S : Sto} {k : Int} (h : ∃ s, S[n]? = some (stC s)) :
    ∃ (S1 : Sto) (r a b : Nat) (ns : List Tr) (g : Gr), F_law_drawn c [.ref n, .int k] S = .ok (.ref r) S1 ∧ S1[r]? = some (.lst [.ref a, .ref b]) ∧ S1[a]? = some (.lst (ns.map eT)) ∧ S1[b]? = some (.dn c.w (kT.enc (mapV eT g))) ∧ Gk g ∧ ns.length ≤ 30 ∧ Fr S S1 (fun i => i = n) ∧ a ≠ b := by
  have hnS : n < S.length := by obtain ⟨s, hs⟩ := h; exact (List.getElem?_eq_some_iff.mp hs).1
  have hA : ∃ s, (S ++ [Cell.lst []])[n]? = some (stC s) := let ⟨s, hs⟩ := h; ⟨s, app_get hs⟩
  obtain ⟨m, S1, q1, d1, m0, m1⟩ := nx_d c (k := 21) (by decide) (by decide) hA
  have hl1 : S1[S.length]? = some (.lst []) := d1.2.get get_app0 (by omega)
  have hr1 : (-4611686018427387904 : Int) ≤ m ∧ m < 4611686018427387904 := by omega
  -- the names
  let P : Nat → Lc → Sto → Prop := fun j e T => ∃ (ns : List Tr) (f3 f4 : Option D), e = [some (.ref n), some (.int k), some (.ref S.length), f3, f4, none, none, none, none] ∧ T[S.length]? = some (.lst (ns.map eT)) ∧ (∃ s, T[n]? = some (stC s)) ∧ Fr S1 T (fun i => i = n ∨ i = S.length) ∧ (∀ x ∈ ns, inN x) ∧ ns.length ≤ j
  have step : ∀ j e T d, (rngD 0 m.toNat)[j]? = some d → P j e T → ∃ e1 T2, Turn1 (gN 3) (lb_law_drawn_0 c) d e T e1 T2 ∧ P (j + 1) e1 T2 := by
    rintro j e T d hd ⟨ns, f3, f4, rfl, p1, p2, p3, p4, p5⟩
    obtain ⟨hj, rfl⟩ := rngD_get hd
    obtain ⟨f4', T2, ns', a1, a2, a3, a4, a5, a6⟩ := names_turn c (some (.int k)) (some (.int (0 + (j : Nat)))) f4 none none none none p2 (by omega) p1 p4 (by omega)
    refine ⟨_, T2, ?_, ns', some (.int (0 + (j : Nat))), f4', rfl, a2, a3, p3.trans a4, a5, by omega⟩
    unfold Turn1
    simp only [ap_gN, R.bind_ok, List.set_cons_zero, List.set_cons_succ]
    exact a1
  obtain ⟨e1, S2, h2, ns, f3, f4, rfl, r1, r2, r3, r4, r5⟩ := loopX_ok P step (e := [some (.ref n), some (.int k), some (.ref S.length), none, none, none, none, none, none]) (S := S1) ⟨[], none, none, rfl, hl1, d1.1, Fr.refl _ _, fun x hx => (by cases hx), Nat.le_refl _⟩
  rw [rngD_len] at r5
  have hle2 : S.length < S2.length := (List.getElem?_eq_some_iff.mp r1).1
  -- the graph
  let G : Nat → Lc → Sto → Prop := fun j e T => ∃ (g : Gr) (f4 f6 : Option D), e = [some (.ref n), some (.int k), some (.ref S.length), f3, f4, some (.ref S2.length), f6, none, none] ∧ T[S2.length]? = some (.dn c.w (kT.enc (mapV eT g))) ∧ T[S.length]? = some (.lst (ns.map eT)) ∧ (∃ s, T[n]? = some (stC s)) ∧ Fr S2 T (fun i => i = n) ∧ Gk g
  have gstep : ∀ j e T d, (ns.map eT)[j]? = some d → G j e T → ∃ e1 T2, Turn1 (gN 4) (lb_law_drawn_1 c) d e T e1 T2 ∧ G (j + 1) e1 T2 := by
    rintro j e T d hd ⟨g, f4, f6, rfl, p1, p2, p3, p4, p5⟩
    rw [List.getElem?_map] at hd
    obtain ⟨x, hx, rfl⟩ := Option.map_eq_some_iff.mp hd
    obtain ⟨f6', T2, g', a1, a2, a3, a4, a5⟩ := graph_turn c (some (.int k)) f3 f6 none none p3 (by omega) (by omega) (by omega) p2 r4 (by omega) (List.mem_of_getElem? hx) p1 p5
    refine ⟨_, T2, ?_, g', some (eT x), f6', rfl, a2, a4.get p2 (by omega), a3, p4.new a4 (fun i hi z => by omega), a5⟩
    unfold Turn1
    simp only [ap_gN, R.bind_ok, List.set_cons_zero, List.set_cons_succ]
    exact a1
  have hG0 : Gk [] := ⟨List.nodup_nil, fun x hx => (by cases hx)⟩
  obtain ⟨e2, S3, h3, g, f4', f6, rfl, t1, t2, t3, t4, t5⟩ := loopL_ok (n := S.length) G (fun j e T hp => by obtain ⟨_, _, _, _, _, z, _⟩ := hp; exact z) gstep (e := [some (.ref n), some (.int k), some (.ref S.length), f3, f4, some (.ref S2.length), none, none, none]) (S := S2 ++ [.dn c.w []]) ⟨[], f4, none, rfl, get_app0, app_get r1, let ⟨s, hs⟩ := r2; ⟨s, app_get hs⟩, Fr.app _ _ _, hG0⟩
  have hle3 : S2.length < S3.length := (List.getElem?_eq_some_iff.mp t1).1
  have fr3 : Fr S S3 (fun i => i = n) := by
    have x1 : Fr S S1 (fun i => i = n) := (Fr.app (P := fun i => i = n) S [Cell.lst []]).trans d1.2
    have x2 : Fr S S2 (fun i => i = n) := x1.new r3 (fun i hi z => by omega)
    exact x2.new t4 (fun i hi z => z)
  -- the ring
  have fin : ∀ (S4 : Sto) (g4 : Gr), S4[S2.length]? = some (.dn c.w (kT.enc (mapV eT g4))) → S4[S.length]? = some (.lst (ns.map eT)) → Fr S S4 (fun i => i = n) → S2.length < S4.length →
      (S4 ++ [Cell.lst [eT (100, 9)], .lst ((ns ++ [(100, 9)]).map eT), .lst [.ref (S4.length + 1), .ref S2.length]])[S4.length + 2]? = some (.lst [.ref (S4.length + 1), .ref S2.length]) ∧ (S4 ++ [Cell.lst [eT (100, 9)], .lst ((ns ++ [(100, 9)]).map eT), .lst [.ref (S4.length + 1), .ref S2.length]])[S4.length + 1]? = some (.lst ((ns ++ [(100, 9)]).map eT)) ∧
      (S4 ++ [Cell.lst [eT (100, 9)], .lst ((ns ++ [(100, 9)]).map eT), .lst [.ref (S4.length + 1), .ref S2.length]])[S2.length]? = some (.dn c.w (kT.enc (mapV eT g4))) := fun S4 g4 x1 x2 x3 x4 =>
    ⟨by rw [get_app]; rfl, by rw [get_app]; rfl, app_get x1⟩
  have hne : ∀ S4 : Sto, S2.length < S4.length → S4.length + 1 ≠ S2.length := fun S4 z => by omega
  have ens : ∀ {S4 : Sto}, ns.map eT ++ [D.tup [.int 100, .int 9]] = (ns ++ [(100, 9)]).map eT := by rw [List.map_append]; intro _; rfl
  have hcp : ns.length + 1 ≤ 100000 := by omega
  by_cases hk0 : k = 0
  · obtain ⟨u, S4, q4, d4, u0, u1⟩ := nx_d c (k := 16) (by decide) (by decide) t3
    have t1' := d4.2.get t1 (by omega)
    have t2' := d4.2.get t2 (by omega)
    have fr4 : Fr S S4 (fun i => i = n) := fr3.trans d4.2
    by_cases hu : u = 0
    · obtain ⟨v, S5, q5, d5, w0, w1⟩ := nx_d c (k := 4) (by decide) (by decide) d4.1
      have hst : ∃ st : Int, atI [D.int 1, .int 7, .int 11, .int 13] v = some (.int st) ∧ 0 ≤ st ∧ st ≤ 13 := by
        have : v = 0 ∨ v = 1 ∨ v = 2 ∨ v = 3 := by omega
        rcases this with rfl | rfl | rfl | rfl
        · exact ⟨1, atI_0, by decide, by decide⟩
        · exact ⟨7, atI_1, by decide, by decide⟩
        · exact ⟨11, atI_2, by decide, by decide⟩
        · exact ⟨13, atI_3, by decide, by decide⟩
      obtain ⟨st, hst1, hst2⟩ := hst
      let K : Nat → Lc → Sto → Prop := fun j e T => ∃ (g : Gr) (f8 : Option D), e = [some (.ref n), some (.int k), some (.ref S.length), f3, f4', some (.ref S2.length), f6, some (.int st), f8] ∧ T[S2.length]? = some (.dn c.w (kT.enc (mapV eT g))) ∧ Fr S5 T (fun i => i = S2.length) ∧ Gk g
      have kstep : ∀ j e T d, (rngD 0 300)[j]? = some d → K j e T → ∃ e1 T2, Turn1 (gN 8) (lb_law_drawn_2 c) d e T e1 T2 ∧ K (j + 1) e1 T2 := by
        rintro j e T d hd ⟨g, f8, rfl, p1, p2, p3⟩
        obtain ⟨hj, rfl⟩ := rngD_get hd
        obtain ⟨T2, g', a1, a2, a3, a4⟩ := place_turn c (p := 0 + (j : Nat)) (st := st) (some (.ref n)) (some (.int k)) (some (.ref S.length)) f3 f4' f6 (by omega) hst2 p1 p3
        refine ⟨_, T2, ?_, g', some (.int (0 + (j : Nat))), rfl, a2, p2.trans a3, a4⟩
        unfold Turn1
        simp only [ap_gN, R.bind_ok, List.set_cons_zero, List.set_cons_succ]
        exact a1
      obtain ⟨e3, S6, h6, g6, f8, rfl, z1, z2, z3⟩ := loopX_ok K kstep (e := [some (.ref n), some (.int k), some (.ref S.length), f3, f4', some (.ref S2.length), f6, some (.int st), none]) (S := S5) ⟨g, none, rfl, d5.2.get t1' (by omega), Fr.refl _ _, t5⟩
      have t2'' := z2.get (d5.2.get t2' (by omega)) (by omega)
      have fr6 : Fr S S6 (fun i => i = n) := (fr4.trans d5.2).new z2 (fun i hi z => by omega)
      have hl6 : S2.length < S6.length := (List.getElem?_eq_some_iff.mp z1).1
      obtain ⟨y1, y2, y3⟩ := fin S6 g6 z1 t2'' fr6 hl6
      refine ⟨_, _, _, _, ns ++ [(100, 9)], g6, ?_, y1, y2, y3, z3, by rw [List.length_append, List.length_singleton]; omega, fr6.trans (Fr.app _ _ _), hne S6 hl6⟩
      subst hk0; subst hu
      rw [← ens (S4 := S6)]
      have e9 : eT (100, 9) = D.tup [.int 100, .int 9] := rfl
      rw [e9]
      unfold F_law_drawn b_law_drawn
      simp only [ap_fVar, varK_some, ap_fC, ap_fBin, ap_binK, ap_fNil, ap_fCons, ap_consK, ap_consK2, ap_fTup, ap_fLst, ap_tupK, ap_lstK, ap_fTest, ap_testK, ap_fAnd, ap_andK, ap_fSkip, ap_fSeq, ap_seqK_nx, ap_fIf, ap_ifK, ap_fRet, ap_retK, ap_fAsg, ap_asgK, ap_asgK2, ap_gN, ap_fIx, ap_ixK, isDict_tup, getL_tup, retO_some, ap_fCall, ap_callK, ap_fnF, ap_fnK_rt, o_addR, o_addC, o_eq, eqK_some, eqv_int, toP_int, ap_fFor, ap_forK_fix, ap_forK_live, ap_fRng1, ap_rng1K, ap_fIter, ap_iterK_ref, iterC_lst, o_getD, ap_fDictN0, R.bind_ok, R.nox_ok, List.map_cons, List.map_nil, List.length_cons, List.length_nil, List.cons_append, List.nil_append, Nat.zero_add, Nat.reduceAdd, Nat.reduceSub, List.replicate_succ, List.replicate_zero, List.getElem?_cons_zero, List.getElem?_cons_succ, List.set_cons_zero, List.set_cons_succ, List.append_nil, Bool.false_eq_true, if_true, if_false, Nat.add_zero, Nat.reduceLeDiff, Int.reduceLT, Int.reduceLE, Int.reduceNeg, Int.reducePow, and_self, Int.reduceToNat, beq_iff_eq, get_app0, List.append_assoc, List.length_append, q1, hr1, Int.sub_zero, h2, app_get r1, h3, q4, q5, hst1, h6, app_get t2'', List.length_map, hcp]
    · have hl4 : S2.length < S4.length := (List.getElem?_eq_some_iff.mp t1').1
      obtain ⟨y1, y2, y3⟩ := fin S4 g t1' t2' fr4 hl4
      refine ⟨_, _, _, _, ns ++ [(100, 9)], g, ?_, y1, y2, y3, t5, by rw [List.length_append, List.length_singleton]; omega, fr4.trans (Fr.app _ _ _), hne S4 hl4⟩
      subst hk0
      rw [← ens (S4 := S4)]
      have e9 : eT (100, 9) = D.tup [.int 100, .int 9] := rfl
      rw [e9]
      unfold F_law_drawn b_law_drawn
      simp only [ap_fVar, varK_some, ap_fC, ap_fBin, ap_binK, ap_fNil, ap_fCons, ap_consK, ap_consK2, ap_fTup, ap_fLst, ap_tupK, ap_lstK, ap_fTest, ap_testK, ap_fAnd, ap_andK, ap_fSkip, ap_fSeq, ap_seqK_nx, ap_fIf, ap_ifK, ap_fRet, ap_retK, ap_fAsg, ap_asgK, ap_asgK2, ap_gN, ap_fIx, ap_ixK, isDict_tup, ap_fCall, ap_callK, ap_fnF, ap_fnK_rt, o_addR, o_addC, o_eq, eqK_some, eqv_int, toP_int, ap_fFor, ap_forK_fix, ap_forK_live, ap_fRng1, ap_rng1K, ap_fIter, ap_iterK_ref, iterC_lst, ap_fDictN0, R.bind_ok, R.nox_ok, List.map_cons, List.map_nil, List.length_cons, List.length_nil, List.cons_append, List.nil_append, Nat.zero_add, Nat.reduceAdd, Nat.reduceSub, List.replicate_succ, List.replicate_zero, List.getElem?_cons_zero, List.getElem?_cons_succ, List.set_cons_zero, List.set_cons_succ, List.append_nil, Bool.false_eq_true, if_true, if_false, Nat.add_zero, Nat.reduceLeDiff, Int.reduceNeg, Int.reducePow, and_self, beq_iff_eq, get_app0, List.append_assoc, List.length_append, q1, hr1, Int.sub_zero, h2, app_get r1, h3, q4, hu, app_get t2', List.length_map, hcp]
  · obtain ⟨y1, y2, y3⟩ := fin S3 g t1 t2 fr3 hle3
    refine ⟨_, _, _, _, ns ++ [(100, 9)], g, ?_, y1, y2, y3, t5, by rw [List.length_append, List.length_singleton]; omega, fr3.trans (Fr.app _ _ _), hne S3 hle3⟩
    rw [← ens (S4 := S3)]
    have e9 : eT (100, 9) = D.tup [.int 100, .int 9] := rfl
    rw [e9]
    unfold F_law_drawn b_law_drawn
    simp only [ap_fVar, varK_some, ap_fC, ap_fBin, ap_binK, ap_fNil, ap_fCons, ap_consK, ap_consK2, ap_fTup, ap_fLst, ap_tupK, ap_lstK, ap_fTest, ap_testK, ap_fAnd, ap_andK, ap_fSkip, ap_fSeq, ap_seqK_nx, ap_fIf, ap_ifK, ap_fRet, ap_retK, ap_fAsg, ap_asgK, ap_asgK2, ap_gN, ap_fIx, ap_ixK, isDict_tup, ap_fCall, ap_callK, ap_fnF, ap_fnK_rt, o_addR, o_addC, o_eq, eqK_some, eqv_int, toP_int, ap_fFor, ap_forK_fix, ap_forK_live, ap_fRng1, ap_rng1K, ap_fIter, ap_iterK_ref, iterC_lst, ap_fDictN0, R.bind_ok, R.nox_ok, List.map_cons, List.map_nil, List.length_cons, List.length_nil, List.cons_append, List.nil_append, Nat.zero_add, Nat.reduceAdd, Nat.reduceSub, List.replicate_succ, List.replicate_zero, List.getElem?_cons_zero, List.getElem?_cons_succ, List.set_cons_zero, List.set_cons_succ, List.append_nil, Bool.false_eq_true, if_true, if_false, Nat.add_zero, Nat.reduceLeDiff, Int.reduceNeg, Int.reducePow, and_self, beq_iff_eq, get_app0, List.append_assoc, List.length_append, q1, hr1, Int.sub_zero, h2, app_get r1, h3, hk0, app_get t2, List.length_map, hcp]
end Qk34

namespace Qk34
open PySem L2 RF
theorem turn0 (c : CA) {gp gv : Nat} {g : Gr} {t : Tr} {S : Sto} (hg : S[gp]? = some (.dn c.w (kT.enc (mapV eT g)))) (hv : S[gv]? = some (.dn c.w (kT.enc (mapV eT g)))) (hl : g.length < 2000) (v0 v1 v2 f6 v7 v8 v9 v10 v11 v12 : Option D) :
    ∃ (f6' : Option D) (S1 : Sto), lb_law_0 c [v0, v1, v2, some (.ref gp), some (.ref gv), some (eT t), f6, v7, v8, v9, v10, v11, v12] S = .ok (.nx [v0, v1, v2, some (.ref gp), some (.ref gv), some (eT t), f6', v7, v8, v9, v10, v11, v12]) S1 ∧ Fr S S1 (fun _ => False) := by
  obtain ⟨S1, a1, fr1⟩ := ringof_eq c (t := t) (.inl hv) hl
  obtain ⟨S2, r, a2, b2, fr2, _⟩ := lawring_eq c (t := t) (fr1.get hg (fun z => z)) hl
  have hq1 : ((lring g t).map eT).mapM (toP S2 19) = some ((lring g t).map pT) := toP_Ts (k := 14)
  have hq2 : PyData.eqv (.tuple ((lring g t).map pT)) (.tuple ((lring g t).map pT)) = true := by
    have h : PyData.eqvAll ((lring g t).map pT) ((lring g t).map pT) = decide (lring g t = lring g t) := kT.toCod.eqvs
    rw [decide_eq_true rfl] at h
    simp only [PyData.eqv]
    exact h
  have hcap : ((lring g t).map eT).length ≤ 100000 := by
    rw [List.length_map]
    by_cases e : lring g t = []
    · rw [e]; simp
    · have := Rg.of e
      have := len_le this.nd this.ks
      omega
  have ht : oTuple [.ref r] S2 = .ok (.tup ((lring g t).map eT)) S2 := by rw [o_tupR]; unfold seqD; simp only [b2]; rfl
  refine ⟨some (.tup ((lring g t).map eT)), S2, ?_, fr1.trans fr2⟩
  simp only [ap_fVar, varK_some, ap_fC, ap_fBin, ap_binK, ap_fApp, ap_fNil, ap_fCons, ap_consK, ap_consK2, ap_fTest, ap_testK, ap_fOr, ap_fNot, ap_orK, ap_notK, ap_fSkip, ap_fSeq, ap_seqK_nx, ap_fIf, ap_ifK, ap_fRet, ap_retK, ap_fAsg, ap_asgK, ap_asgK2, ap_gN, ap_fCall, ap_callK, o_ne, neK_some, toP_tup, ap_fIsi, ap_isiK0, ap_isiK, ap_isiK2, o_someMap, o_tyT, R.bind_ok, R.nox_ok, List.length_cons, List.length_nil, Nat.zero_add, Nat.reduceAdd, List.getElem?_cons_zero, List.getElem?_cons_succ, List.set_cons_zero, List.set_cons_succ, List.append_nil, Bool.false_eq_true, if_true, if_false, decide_true, decide_false, Nat.add_zero, or_true, or_false, Bool.not_true, String.reduceEq, ap_lb_law_0, a1, isiD, tyC, a2, b2, ht, hcap, hq1, hq2, Option.map_some]
theorem due_snoc {g : Gr} {ks : List Tr} {s : Tr} : dueL g (ks ++ [s]) = if good g s then dueL g ks ++ [lring g s] else dueL g ks := by
  unfold dueL
  rw [List.filter_append, List.map_append]
  by_cases h : good g s
  · rw [if_pos h]; simp [h]
  · rw [if_neg h]; simp [h]
theorem due_len {g : Gr} {ks : List Tr} : (dueL g ks).length ≤ ks.length := by
  unfold dueL
  rw [List.length_map]
  exact List.length_filter_le _ _
theorem turn1 (c : CA) {gp d : Nat} {g : Gr} {t : Tr} {S : Sto} {ks : List Tr} (hg : S[gp]? = some (.dn c.w (kT.enc (mapV eT g)))) (hl : g.length < 2000) (hd : S[d]? = some (.lst ((dueL g ks).map eR))) (hgd : gp ≠ d) (hk : ks.length < 3000) (v0 v1 v2 v4 v6 f8 v9 v10 v11 v12 : Option D) :
    ∃ (f8' : Option D) (S1 : Sto), lb_law_1 c [v0, v1, v2, some (.ref gp), v4, some (eT t), v6, some (.ref d), f8, v9, v10, v11, v12] S = .ok (.nx [v0, v1, v2, some (.ref gp), v4, some (eT t), v6, some (.ref d), f8', v9, v10, v11, v12]) S1 ∧ S1[d]? = some (.lst ((dueL g (ks ++ [t])).map eR)) ∧ Fr S S1 (fun i => i = d) := by
  obtain ⟨S2, r, a2, b2, fr2, _⟩ := lawring_eq c (t := t) hg hl
  have hne := neL_nil (S := S2 ++ [.lst []]) (n := r) (m := S2.length) (xs := (lring g t).map eT) (app_get b2) get_app0
  have hd2 := fr2.get hd (fun z => z)
  have hd3 : (S2 ++ [Cell.lst []])[d]? = some (.lst ((dueL g ks).map eR)) := app_get hd2
  have hb3 : (S2 ++ [Cell.lst []])[r]? = some (.lst ((lring g t).map eT)) := app_get b2
  have hdl := due_len (g := g) (ks := ks)
  have hcap : ((dueL g ks).map eR).length < 100000 := by rw [List.length_map]; omega
  have fr3 : Fr S (S2 ++ [Cell.lst []]) (fun i => i = d) := (fr2.mono fun _ z => z.elim).trans (Fr.app _ _ _)
  by_cases e : lring g t = []
  · have hng : ¬ good g t := fun z => z.1 e
    refine ⟨some (.ref r), S2 ++ [.lst []], ?_, by rw [due_snoc, if_neg hng]; exact hd3, fr3⟩
    rw [e] at hne b2
    simp only [List.map_nil] at hne b2
    simp only [ap_fVar, varK_some, ap_fBin, ap_binK, ap_fApp, ap_fNil, ap_fCons, ap_consK, ap_consK2, ap_fLst, ap_lstK, ap_fTest, ap_testK, ap_fAnd, ap_andK, ap_fSkip, ap_fSeq, ap_seqK_nx, ap_fIf, ap_ifK, ap_fDrop, ap_fAsg, ap_asgK, ap_asgK2, ap_gN, ap_fCall, ap_callK, ap_fBm, ap_bmK, tyIn_ref, o_seqR, o_tupR, R.bind_ok, R.nox_ok, List.length_cons, List.length_nil, Nat.zero_add, Nat.reduceAdd, List.getElem?_cons_zero, List.getElem?_cons_succ, List.set_cons_zero, List.set_cons_succ, List.append_nil, Bool.false_eq_true, if_true, if_false, Nat.add_zero, Nat.reduceLeDiff, Bool.not_true, ap_lb_law_1, a2, hne, List.isEmpty_nil]
  · have hemp : ((lring g t).map eT).isEmpty = false := by
      cases q : lring g t with
      | nil => exact absurd q e
      | cons a l => rfl
    have hm := max_lst (S := S2 ++ [Cell.lst []]) e hb3
    have heq : oEq (eT (mxL (lring g t))) (eT t) (S2 ++ [Cell.lst []]) = .ok (.bl (decide (mxL (lring g t) = t))) (S2 ++ [Cell.lst []]) := o_eqT
    have hcap2 : ((lring g t).map eT).length ≤ 100000 := by
      have := Rg.of e
      have := len_le this.nd this.ks
      rw [List.length_map]
      omega
    by_cases hmt : mxL (lring g t) = t
    · have hgood : good g t := ⟨e, hmt⟩
      have ht : oTuple [.ref r] (S2 ++ [Cell.lst []]) = .ok (.tup ((lring g t).map eT)) (S2 ++ [Cell.lst []]) := by rw [o_tupR]; unfold seqD; simp only [hb3]; rfl
      have ea : (dueL g ks).map eR ++ [D.tup ((lring g t).map eT)] = (dueL g (ks ++ [t])).map eR := by rw [due_snoc, if_pos hgood, List.map_append]; rfl
      refine ⟨some (.ref r), (S2 ++ [Cell.lst []]).set d (.lst ((dueL g (ks ++ [t])).map eR)), ?_, set_get hd3, fr3.trans (Fr.set rfl)⟩
      rw [decide_eq_true hmt] at heq
      simp only [ap_fVar, varK_some, ap_fBin, ap_binK, ap_fApp, ap_fNil, ap_fCons, ap_consK, ap_consK2, ap_fLst, ap_lstK, ap_fTest, ap_testK, ap_fAnd, ap_andK, ap_fSkip, ap_fSeq, ap_seqK_nx, ap_fIf, ap_ifK, ap_fDrop, ap_dropK, ap_fAsg, ap_asgK, ap_asgK2, ap_gN, ap_fCall, ap_callK, o_eq, eqK_some, ap_fBm, ap_bmK, tyIn_ref, tyInC_lst, o_append, o_appC, fT_eT, eqv_T, R.bind_ok, R.nox_ok, List.length_cons, List.length_nil, Nat.zero_add, Nat.reduceAdd, List.getElem?_cons_zero, List.getElem?_cons_succ, List.set_cons_zero, List.set_cons_succ, List.append_nil, if_true, decide_true, Nat.add_zero, Nat.reduceLeDiff, Bool.not_false, ap_lb_law_1, a2, hne, hemp, hm, hmt, ht, hb3, hcap2, hd3, hcap, ea]
    · have hng : ¬ good g t := fun z => hmt z.2
      refine ⟨some (.ref r), S2 ++ [.lst []], ?_, by rw [due_snoc, if_neg hng]; exact hd3, fr3⟩
      simp only [ap_fVar, varK_some, ap_fBin, ap_binK, ap_fApp, ap_fNil, ap_fCons, ap_consK, ap_consK2, ap_fLst, ap_lstK, ap_fTest, ap_testK, ap_fAnd, ap_andK, ap_fSkip, ap_fSeq, ap_seqK_nx, ap_fIf, ap_ifK, ap_fDrop, ap_fAsg, ap_asgK, ap_asgK2, ap_gN, ap_fCall, ap_callK, o_eq, eqK_some, ap_fBm, ap_bmK, tyIn_ref, o_seqR, o_tupR, fT_eT, eqv_T, R.bind_ok, R.nox_ok, List.length_cons, List.length_nil, Nat.zero_add, Nat.reduceAdd, List.getElem?_cons_zero, List.getElem?_cons_succ, List.set_cons_zero, List.set_cons_succ, List.append_nil, Bool.false_eq_true, if_true, if_false, decide_false, Nat.add_zero, Nat.reduceLeDiff, Bool.not_false, ap_lb_law_1, a2, hne, hemp, hm, hmt]
theorem gd_Ts {l : List Tr} : gd 15 (eR l) = true := by
  have : ∀ x ∈ l.map eT, gd 14 x = true := fun x hx => by obtain ⟨a, _, rfl⟩ := List.mem_map.mp hx; rfl
  unfold eR
  simp only [gd]
  exact List.all_eq_true.mpr this
theorem g_kv {S : Sto} {g : Gr} : eqKV S (kT.enc (mapV eT g)) (kT.enc (mapV eT g)) = true := eqKV_gd fun p hp => by
  unfold CodK.enc mapV at hp
  rw [List.map_map] at hp
  obtain ⟨x, _, rfl⟩ := List.mem_map.mp hp
  exact ⟨pT x.2, fT_eT, by show PyData.eqv (pT x.2) (pT x.2) = true; rw [eqv_T]; simp⟩
theorem turn2 (c : CA) {gp gv d : Nat} {g : Gr} {S : Sto} (hg : S[gp]? = some (.dn c.w (kT.enc (mapV eT g)))) (hv : S[gv]? = some (.dn c.w (kT.enc (mapV eT g)))) (hl : g.length < 2000) (hnd : (g.map (·.1)).Nodup) (hd : S[d]? = some (.lst ((dueL g (kT.sort (g.map (·.1)))).map eR))) (v0 v1 v2 v5 v6 v8 v9 f10 v11 v12 : Option D) :
    ∃ (f10' : Option D) (S1 : Sto), lb_law_2 c [v0, v1, v2, some (.ref gp), some (.ref gv), v5, v6, some (.ref d), v8, v9, f10, v11, v12] S = .ok (.nx [v0, v1, v2, some (.ref gp), some (.ref gv), v5, v6, some (.ref d), v8, v9, f10', v11, v12]) S1 ∧ Fr S S1 (fun _ => False) := by
  obtain ⟨S1, r, a1, b1, fr, lr⟩ := rings_eq c hv hl hnd
  have hd1 := fr.get hd (fun z => z)
  have e1 := o_eqN (neg := true) (fr.get hv (fun z => z)) (fr.get hg (fun z => z)) (g_kv (S := S1))
  simp only [Bool.not_true] at e1
  obtain ⟨ps, q1, q2, q3⟩ := gds (xs := (dueL g (kT.sort (g.map (·.1)))).map eR) (fun x hx => by obtain ⟨l, _, rfl⟩ := List.mem_map.mp hx; exact gd_Ts)
  have hs : (kT.sort (g.map (·.1))).length = g.length := by
    have := (List.mergeSort_perm (g.map (·.1)) kT.le).length_eq
    rw [List.length_map] at this
    exact this
  have hdl := due_len (g := g) (ks := kT.sort (g.map (·.1)))
  have hcap : ((dueL g (kT.sort (g.map (·.1)))).map eR).length < 100000 := by rw [List.length_map]; omega
  refine ⟨some (.ref r), S1.set r (.lst ((dueL g (kT.sort (g.map (·.1)))).map eR ++ [.int 0])), ?_, fr.new (Fr.set (P := fun i => i = r) rfl) (fun i hi z => by omega)⟩
  simp only [ap_fVar, varK_some, ap_fC, ap_fBin, ap_binK, ap_fNil, ap_fCons, ap_consK, ap_consK2, ap_fTest, ap_testK, ap_fOr, ap_fNot, ap_orK, ap_notK, ap_fSkip, ap_fSeq, ap_seqK_nx, ap_fIf, ap_ifK, ap_fRet, ap_retK, ap_fDrop, ap_dropK, ap_fAsg, ap_asgK, ap_asgK2, ap_gN, ap_fCall, ap_callK, o_ne, neK_some, toP_ref, toPC_lst, ap_fIsi, ap_isiK0, ap_isiK, ap_isiK2, ap_fBm, ap_bmK, tyIn_ref, tyInC_lst, tyD_ref, o_append, o_appC, o_someMap, R.bind_ok, R.nox_ok, List.length_cons, List.length_nil, Nat.zero_add, List.getElem?_cons_zero, List.getElem?_cons_succ, List.set_cons_zero, List.set_cons_succ, List.append_nil, Bool.false_eq_true, if_true, if_false, decide_true, decide_false, Nat.add_zero, or_true, or_false, Bool.not_true, String.reduceEq, ap_lb_law_2, a1, b1, isiD, tyC, hd1, q1, q3, e1, hcap]
end Qk34

namespace Qk34
open PySem L2 RF
theorem case_turn (c : CA) {ns : List Int} {k : Nat} {x : Int} {S : Sto} (hx : atI (ns.map D.int) (k : Int) = some (.int x)) (hk : k < 900) (f2 f3 f4 f5 f6 f7 f8 f9 f10 : Option D) :
    ∃ (g2 g3 g4 g5 g6 g7 g8 g9 g10 : Option D) (S1 : Sto), lb_law_3 c [some (.rl (ns.map D.int)), some (.int (k : Nat)), f2, f3, f4, f5, f6, f7, f8, f9, f10, none, none] S = .ok (.nx [some (.rl (ns.map D.int)), some (.int (k : Nat)), g2, g3, g4, g5, g6, g7, g8, g9, g10, none, none]) S1 := by
  obtain ⟨s, hs⟩ := stream_eq c x (k : Nat) S (by omega)
  obtain ⟨S1, r, a, b, nm, g, a1, b1, b2, b3, hG, hnl, fr1, hab⟩ := drawn_eq c (n := S.length) (S := S ++ [stC s]) (k := (k : Nat)) ⟨s, get_app0⟩
  have hgl := hG.len
  have hdc := o_dictC b3 (hash_nd (w := c.w) hG.nd hG.ks)
  let S2 : Sto := S1 ++ [.dn c.w (kT.enc (mapV eT g))]
  have hg2 : S2[b]? = some (.dn c.w (kT.enc (mapV eT g))) := app_get b3
  have hv2 : S2[S1.length]? = some (.dn c.w (kT.enc (mapV eT g))) := get_app0
  have ha2 : S2[a]? = some (.lst (nm.map eT)) := app_get b2
  let S3 : Sto := S2 ++ [.lst [eT (999, 1)], .lst ((nm ++ [(999, 1)]).map eT)]
  have h3l : S3[S2.length + 1]? = some (.lst ((nm ++ [(999, 1)]).map eT)) := by show (_ ++ _)[_]? = _; rw [get_app]; rfl
  let P : Nat → Lc → Sto → Prop := fun j e T => ∃ (f5 f6 : Option D), e = [some (.rl (ns.map D.int)), some (.int (k : Nat)), some (.ref a), some (.ref b), some (.ref S1.length), f5, f6, f7, f8, f9, f10, none, none] ∧ Fr S3 T (fun _ => False)
  have step : ∀ j e T d, ((nm ++ [(999, 1)]).map eT)[j]? = some d → P j e T → ∃ e1 T2, Turn1 (gN 5) (lb_law_0 c) d e T e1 T2 ∧ P (j + 1) e1 T2 := by
    rintro j e T d hd ⟨f5, f6, rfl, p1⟩
    rw [List.getElem?_map] at hd
    obtain ⟨t, _, rfl⟩ := Option.map_eq_some_iff.mp hd
    obtain ⟨f6', T2, a1, a2⟩ := turn0 c (t := t) (p1.get (app_get hg2) (fun z => z)) (p1.get (app_get hv2) (fun z => z)) (by omega) (some (.rl (ns.map D.int))) (some (.int (k : Nat))) (some (.ref a)) f6 f7 f8 f9 f10 none none
    refine ⟨_, T2, ?_, some (eT t), f6', rfl, p1.trans a2⟩
    unfold Turn1
    simp only [ap_gN, R.bind_ok, List.set_cons_zero, List.set_cons_succ]
    exact a1
  obtain ⟨e1, S4, h4, g5, g6, rfl, fr4⟩ := loopL_ok (n := S2.length + 1) P (fun j e T hp => by obtain ⟨_, _, _, z⟩ := hp; exact z.get h3l (fun z => z)) step (e := [some (.rl (ns.map D.int)), some (.int (k : Nat)), some (.ref a), some (.ref b), some (.ref S1.length), f5, f6, f7, f8, f9, f10, none, none]) (S := S3) ⟨f5, f6, rfl, Fr.refl _ _⟩
  have hg4 := fr4.get (app_get hg2) (fun z => z)
  have hv4 := fr4.get (app_get hv2) (fun z => z)
  have hbS4 : b < S4.length := (List.getElem?_eq_some_iff.mp hg4).1
  have hso := CodK.osort (C := kT) (n := b) (w := c.w) (kvs := mapV eT g) (S := S4 ++ [Cell.lst []]) (app_get hg4) (by rw [mapV_len]; omega)
  rw [mapV_keys] at hso
  let S5 : Sto := S4 ++ [.lst [], .lst (kT.es (kT.sort (g.map (·.1))))]
  have h5l : S5[S4.length + 1]? = some (.lst (kT.es (kT.sort (g.map (·.1))))) := by show (_ ++ _)[_]? = _; rw [get_app]; rfl
  have hsl : (kT.sort (g.map (·.1))).length = g.length := by
    have := (List.mergeSort_perm (g.map (·.1)) kT.le).length_eq
    rw [List.length_map] at this
    exact this
  let Q : Nat → Lc → Sto → Prop := fun j e T => ∃ (f5 f8 : Option D), e = [some (.rl (ns.map D.int)), some (.int (k : Nat)), some (.ref a), some (.ref b), some (.ref S1.length), f5, g6, some (.ref S4.length), f8, f9, f10, none, none] ∧ T[S4.length]? = some (.lst ((dueL g ((kT.sort (g.map (·.1))).take j)).map eR)) ∧ Fr S5 T (fun i => i = S4.length)
  have qstep : ∀ j e T d, (kT.es (kT.sort (g.map (·.1))))[j]? = some d → Q j e T → ∃ e1 T2, Turn1 (gN 5) (lb_law_1 c) d e T e1 T2 ∧ Q (j + 1) e1 T2 := by
    rintro j e T d hd ⟨f5, f8, rfl, p1, p2⟩
    unfold Cod.es at hd
    rw [List.getElem?_map] at hd
    obtain ⟨t, ht, rfl⟩ := Option.map_eq_some_iff.mp hd
    have hj := (List.getElem?_eq_some_iff.mp ht).1
    have htake : (kT.sort (g.map (·.1))).take (j + 1) = (kT.sort (g.map (·.1))).take j ++ [t] := by rw [List.take_succ, ht]; rfl
    obtain ⟨f8', T2, a1, a2, a3⟩ := turn1 c (t := t) (p2.get (app_get hg4) (by omega)) (by omega) p1 (by omega) (by rw [List.length_take]; omega) (some (.rl (ns.map D.int))) (some (.int (k : Nat))) (some (.ref a)) (some (.ref S1.length)) g6 f8 f9 f10 none none
    refine ⟨_, T2, ?_, some (eT t), f8', rfl, by rw [htake]; exact a2, p2.trans a3⟩
    unfold Turn1
    simp only [ap_gN, o_kTe, R.bind_ok, List.set_cons_zero, List.set_cons_succ]
    exact a1
  obtain ⟨e2, S6, h6, g5', g8, rfl, q1, fr6⟩ := loopL_ok (n := S4.length + 1) Q (fun j e T hp => by obtain ⟨_, _, _, _, z⟩ := hp; exact z.get h5l (by omega)) qstep (e := [some (.rl (ns.map D.int)), some (.int (k : Nat)), some (.ref a), some (.ref b), some (.ref S1.length), g5, g6, some (.ref S4.length), f8, f9, f10, none, none]) (S := S5) ⟨g5, f8, rfl, get_app0, Fr.refl _ _⟩
  have hfull : (kT.sort (g.map (·.1))).take (kT.es (kT.sort (g.map (·.1)))).length = kT.sort (g.map (·.1)) := List.take_of_length_le (by unfold Cod.es; rw [List.length_map]; exact Nat.le_refl _)
  rw [hfull] at q1
  have hvS4 : S1.length < S4.length := (List.getElem?_eq_some_iff.mp hv4).1
  have hg6 := fr6.get (app_get hg4) (by omega)
  have hv6 := fr6.get (app_get hv4) (by omega)
  obtain ⟨u1, S7, a7, fr7⟩ := turn2 c hg6 hv6 (by omega) hG.nd q1 (some (.rl (ns.map D.int))) (some (.int (k : Nat))) (some (.ref a)) g5' g6 g8 (some (.int 0)) f10 none none
  obtain ⟨u2, S8, a8, fr8⟩ := turn2 c (fr7.get hg6 (fun z => z)) (fr7.get hv6 (fun z => z)) (by omega) hG.nd (fr7.get q1 (fun z => z)) (some (.rl (ns.map D.int))) (some (.int (k : Nat))) (some (.ref a)) g5' g6 g8 (some (.int 1)) u1 none none
  have hrg : rngD 0 2 = [.int 0, .int 1] := rfl
  have hcp : nm.length + 1 ≤ 100000 := by omega
  have ens : nm.map eT ++ [D.tup [.int 999, .int 1]] = (nm ++ [(999, 1)]).map eT := by rw [List.map_append]; rfl
  have ha3 : (S1 ++ [Cell.dn c.w (kT.enc (mapV eT g)), Cell.lst [D.tup [D.int 999, D.int 1]]])[a]? = some (.lst (nm.map eT)) := app_get b2
  have e9 : eT (999, 1) = D.tup [.int 999, .int 1] := rfl
  refine ⟨some (.ref a), some (.ref b), some (.ref S1.length), g5', g6, some (.ref S4.length), g8, some (.int 1), u2, S8, ?_⟩
  simp only [S5, S3, S2, e9, List.append_assoc, List.cons_append, List.nil_append, List.length_append, List.length_cons, List.length_nil, Nat.zero_add, Nat.add_assoc, Nat.reduceAdd] at h4 h6 h3l h5l hso a7 a8
  simp only [ap_fVar, varK_some, ap_fC, ap_fBin, ap_binK, ap_fApp, ap_fNil, ap_fCons, ap_consK, ap_consK2, ap_fTup, ap_fLst, ap_tupK, ap_lstK, ap_fSeq, ap_seqK_nx, ap_fAsg, ap_asgK, ap_asgK2, ap_gN, ap_gNil, ap_gCons, ap_gsK, ap_gUnp, ap_unpK, ap_fIx, ap_ixK, isDict_rl, getL_rl, retO_some, ap_fCall, ap_callK, o_addR, o_addC, ap_fFor, ap_forK_fix, ap_forK_live, loopX_nil, loopX_cons, ap_turnK0, ap_turnK_nx, ap_fRng1, ap_rng1K, ap_fIter, ap_iterK_ref, iterC_lst, o_getD, o_seqR, o_seqC, R.bind_ok, R.nox_ok, List.length_cons, List.length_nil, List.cons_append, List.nil_append, Nat.zero_add, Nat.reduceAdd, List.getElem?_cons_zero, List.getElem?_cons_succ, List.set_cons_zero, List.set_cons_succ, List.append_nil, Bool.false_eq_true, if_true, if_false, Nat.add_zero, Nat.reduceLeDiff, Int.reduceLT, Int.reduceLE, Int.reduceNeg, Int.reducePow, and_self, Int.reduceToNat, get_app, List.append_assoc, List.length_append, ap_lb_law_3, hx, hs, a1, b1, hdc, ha3, List.length_map, hcp, ens, h3l, h4, hso, h5l, h6, hrg, a7, a8]
end Qk34

namespace Qk34
open PySem L2 RF
theorem put_len {g : Gr} {x v : Tr} : (putKD g x v).length ≤ g.length + 1 := by
  unfold putKD
  split
  · rw [List.length_map]; omega
  · rw [List.length_append]; simp
theorem long_turn (c : CA) {lp : Nat} {S : Sto} {g : Gr} {p : Int} (v0 v1 v2 v3 v4 v5 v6 v7 v8 v9 v10 : Option D) (hp : 0 ≤ p ∧ p < 1200) (hg : S[lp]? = some (.dn c.w (kT.enc (mapV eT g)))) (hl : g.length < 1500) :
    ∃ (S1 : Sto) (g' : Gr), lb_law_4 c [v0, v1, v2, v3, v4, v5, v6, v7, v8, v9, v10, some (.ref lp), some (.int p)] S = .ok (.nx [v0, v1, v2, v3, v4, v5, v6, v7, v8, v9, v10, some (.ref lp), some (.int p)]) S1 ∧ S1[lp]? = some (.dn c.w (kT.enc (mapV eT g'))) ∧ g'.length ≤ g.length + 1 := by
  have hcap : (kT.enc (mapV eT g)).length < 100000 := by rw [CodK.enc_len, mapV_len]; omega
  have e1 : D.tup [.int (1 + p), .int 0] = eT (1 + p, 0) := rfl
  have e2 : D.tup [.int (1 + (p + 7) % 1200), .int 0] = eT (1 + (p + 7) % 1200, 0) := rfl
  refine ⟨S.set lp (.dn c.w (kT.enc (mapV eT (putKD g (1 + p, 0) (1 + (p + 7) % 1200, 0))))), _, ?_, set_get hg, put_len⟩
  simp only [ap_fVar, varK_some, ap_fC, ap_fBin, ap_binK, ap_fApp, ap_fNil, ap_fCons, ap_consK, ap_consK2, ap_fTup, ap_tupK, ap_fAsg, ap_asgK, ap_asgK2, o_add, o_mod, o_int, oSetN_ref, setNC_dn, setNK_some, ap_gSubN, ap_gnK, ap_gnK2, ap_gnK3, R.bind_ok, List.length_cons, List.length_nil, Nat.zero_add, Nat.reduceAdd, List.getElem?_cons_zero, List.getElem?_cons_succ, if_true, Nat.reduceLeDiff, Int.reduceLT, ap_lb_law_4, e1, e2, hg, keyT_eTk, CodK.put, mapV_put, hcap]
theorem cell_of (ns : List Int) : ∃ x : Int, (ns = [] ∧ x = 0) ∨ (0 < ns.length ∧ atI (ns.map D.int) 0 = some (.int x)) := by
  cases ns with
  | nil => exact ⟨0, .inl ⟨rfl, rfl⟩⟩
  | cons a r => exact ⟨a, .inr ⟨by simp, by rw [atI_nn (by decide)]; rfl⟩⟩
theorem end_eq (c : CA) (S : Sto) : ∃ (S1 : Sto) (r : Nat), F_rings c [.ref S.length] (S ++ [.dn c.w []]) = .ok (.ref r) S1 ∧ oEqL (.ref r) (.ref S1.length) (S1 ++ [.lst []]) = .ok (.bl true) (S1 ++ [.lst []]) := by
  obtain ⟨S1, r, a1, b1, _, _⟩ := rings_eq c (n := S.length) (g := []) (S := S ++ [.dn c.w []]) get_app0 (by decide) List.nodup_nil
  have e : dueL [] (kT.sort (([] : Gr).map (·.1))) = [] := by
    have : kT.sort (([] : Gr).map (·.1)) = [] := by simp [Cod.sort]
    rw [this]; rfl
  rw [e] at b1
  exact ⟨S1, r, a1, eqL_nil (S := S1 ++ [.lst []]) (n := r) (m := S1.length) (xs := []) (app_get b1) get_app0⟩
theorem main_law (c : CA) (ns : List Int) (h1 : ns.length ≤ 63) (h2 : ∀ z ∈ ns, Builtin.Int.intBits z ≤ 1048576) : isTrue1 (F_law c [.rl (ns.map D.int)] []) := by
  obtain ⟨M, hM, hM2⟩ : ∃ M : Nat, (if (12 : Int) < (ns.length : Int) then 12 else (ns.length : Int)) = (M : Int) ∧ M ≤ ns.length ∧ M ≤ 12 := by
    split
    · exact ⟨12, rfl, by omega, by omega⟩
    · exact ⟨ns.length, rfl, by omega, by omega⟩
  let P : Nat → Lc → Sto → Prop := fun j e T => ∃ (f1 f2 f3 f4 f5 f6 f7 f8 f9 f10 : Option D), e = [some (.rl (ns.map D.int)), f1, f2, f3, f4, f5, f6, f7, f8, f9, f10, none, none]
  have step : ∀ j e T d, (rngD 0 M)[j]? = some d → P j e T → ∃ e1 T2, Turn1 (gN 1) (lb_law_3 c) d e T e1 T2 ∧ P (j + 1) e1 T2 := by
    rintro j e T d hd ⟨f1, f2, f3, f4, f5, f6, f7, f8, f9, f10, rfl⟩
    obtain ⟨hj, rfl⟩ := rngD_get hd
    have hlt : j < ns.length := by omega
    have hx : atI (ns.map D.int) ((j : Nat) : Int) = some (.int (ns[j]'hlt)) := by
      rw [atI_nn (by omega), List.getElem?_map, show (((j : Nat) : Int)).toNat = j by omega, List.getElem?_eq_getElem hlt]; rfl
    obtain ⟨g2, g3, g4, g5, g6, g7, g8, g9, g10, T2, a1⟩ := case_turn c (S := T) hx (by omega) f2 f3 f4 f5 f6 f7 f8 f9 f10
    refine ⟨_, T2, ?_, some (.int ((j : Nat) : Int)), g2, g3, g4, g5, g6, g7, g8, g9, g10, rfl⟩
    unfold Turn1
    have n0 : (0 : Int) + (j : Int) = (j : Int) := Int.zero_add _
    simp only [ap_gN, R.bind_ok, List.set_cons_zero, List.set_cons_succ, n0]
    exact a1
  obtain ⟨e1, S1, hloop, f1, f2, f3, f4, f5, f6, f7, f8, f9, f10, rfl⟩ := loopX_ok P step (e := [some (.rl (ns.map D.int)), none, none, none, none, none, none, none, none, none, none, none, none]) (S := []) ⟨none, none, none, none, none, none, none, none, none, none, rfl⟩
  have hcap : (ns.map D.int).length ≤ 100000 := by rw [List.length_map]; omega
  have hr : (-4611686018427387904 : Int) ≤ (M : Int) ∧ (M : Int) < 4611686018427387904 := by omega
  obtain ⟨x, hx⟩ := cell_of ns
  rcases hx with ⟨rfl, rfl⟩ | ⟨hx1, hx2⟩
  · obtain ⟨S9, r9, a9, b9⟩ := end_eq c S1
    have hM0 : M = 0 := by simp at hM2; omega
    subst hM0
    simp only [List.map_nil, List.length_nil] at *
    have hl0 : loopX (gN 1) (lb_law_3 c) (rngD 0 0) [some (.rl []), none, none, none, none, none, none, none, none, none, none, none, none] [] = .ok (.nx [some (.rl []), f1, f2, f3, f4, f5, f6, f7, f8, f9, f10, none, none]) S1 := hloop
    have c12 : ¬ (12 : Int) < ((0 : Nat) : Int) := by decide
    have z0 : ((0 : Nat) : Int) = 0 := rfl
    unfold F_law b_law
    simp only [ap_fVar, varK_some, ap_fC, ap_fBin, ap_binK, ap_fApp, ap_fNil, ap_fCons, ap_consK, ap_consK2, ap_fLst, ap_lstK, ap_fTest, ap_testK, ap_fAnd, ap_andK, ap_fSkip, ap_fSeq, ap_seqK_nx, ap_fIf, ap_ifK, ap_fRet, ap_retK, ap_fAsg, ap_asgK, ap_asgK2, ap_gN, ap_fIx, ap_ixK, isDict_rl, getL_rl, ap_fCall, ap_callK, ap_fnF, ap_fnK_rt, o_gt, o_min2, o_len, lenK_some, lenD_rl, ap_fFor, ap_forK_fix, ap_fRng1, ap_rng1K, o_getD, ap_fDictN0, R.bind_ok, R.nox_ok, List.map_cons, List.map_nil, List.length_cons, List.length_nil, List.cons_append, List.nil_append, Nat.zero_add, Nat.reduceSub, List.replicate_succ, List.replicate_zero, List.getElem?_cons_zero, List.set_cons_zero, List.set_cons_succ, List.append_nil, Bool.false_eq_true, if_true, if_false, decide_false, Nat.add_zero, Nat.reduceLeDiff, Int.reduceLT, Int.reduceLE, Int.reduceNeg, Int.reducePow, and_self, Int.reduceToNat, c12, z0, Int.lt_irrefl, Int.sub_zero, hl0, a9, b9, isTrue1]
  · have hx1' : (0 : Int) < ((ns.length : Nat) : Int) := by omega
    obtain ⟨s, a2⟩ := stream_eq c x 99 S1 (by decide)
    obtain ⟨u, S3, a3, d3, u0, u1⟩ := nx_d c (n := S1.length) (S := S1 ++ [stC s]) (k := 16) (by decide) (by decide) ⟨s, get_app0⟩
    by_cases hu : u = 0
    · let Q : Nat → Lc → Sto → Prop := fun j e T => ∃ (g : Gr) (f12 : Option D), e = [some (.rl (ns.map D.int)), f1, f2, f3, f4, f5, f6, f7, f8, f9, f10, some (.ref S3.length), f12] ∧ T[S3.length]? = some (.dn c.w (kT.enc (mapV eT g))) ∧ g.length ≤ j
      have qstep : ∀ j e T d, (rngD 0 1200)[j]? = some d → Q j e T → ∃ e1 T2, Turn1 (gN 12) (lb_law_4 c) d e T e1 T2 ∧ Q (j + 1) e1 T2 := by
        rintro j e T d hd ⟨g, f12, rfl, p1, p2⟩
        obtain ⟨hj, rfl⟩ := rngD_get hd
        obtain ⟨T2, g', a1, b1, c1⟩ := long_turn c (p := 0 + (j : Nat)) (some (.rl (ns.map D.int))) f1 f2 f3 f4 f5 f6 f7 f8 f9 f10 (by omega) p1 (by omega)
        refine ⟨_, T2, ?_, g', some (.int (0 + (j : Nat))), rfl, b1, by omega⟩
        unfold Turn1
        simp only [ap_gN, R.bind_ok, List.set_cons_zero, List.set_cons_succ]
        exact a1
      obtain ⟨e2, S4, h4, g, f12, rfl, q1, q2⟩ := loopX_ok Q qstep (e := [some (.rl (ns.map D.int)), f1, f2, f3, f4, f5, f6, f7, f8, f9, f10, some (.ref S3.length), none]) (S := S3 ++ [.dn c.w []]) ⟨[], none, rfl, get_app0, Nat.le_refl _⟩
      rw [rngD_len] at q2
      obtain ⟨S5, a5, fr5⟩ := ringof_eq c (t := (5, 0)) (.inl q1) (by omega)
      obtain ⟨S6, r6, a6, b6, fr6, _⟩ := lawring_eq c (t := (5, 0)) (fr5.get q1 (fun z => z)) (by omega)
      have hq1 : ((lring g (5, 0)).map eT).mapM (toP S6 19) = some ((lring g (5, 0)).map pT) := toP_Ts (k := 14)
      have hq2 : PyData.eqv (.tuple ((lring g (5, 0)).map pT)) (.tuple ((lring g (5, 0)).map pT)) = true := by
        have h : PyData.eqvAll ((lring g (5, 0)).map pT) ((lring g (5, 0)).map pT) = decide (lring g (5, 0) = lring g (5, 0)) := kT.toCod.eqvs
        rw [decide_eq_true rfl] at h
        simp only [PyData.eqv]
        exact h
      have hcap6 : ((lring g (5, 0)).map eT).length ≤ 100000 := by
        rw [List.length_map]
        by_cases e : lring g (5, 0) = []
        · rw [e]; simp
        · have := Rg.of e
          have := len_le this.nd this.ks
          omega
      have ht : oTuple [.ref r6] S6 = .ok (.tup ((lring g (5, 0)).map eT)) S6 := by rw [o_tupR]; unfold seqD; simp only [b6]; rfl
      have e9 : D.tup [.int 5, .int 0] = eT (5, 0) := rfl
      obtain ⟨S9, r9, a9, b9⟩ := end_eq c S6
      subst hu
      unfold F_law b_law
      simp only [ap_fVar, varK_some, ap_fC, ap_fBin, ap_binK, ap_fApp, ap_fNil, ap_fCons, ap_consK, ap_consK2, ap_fTup, ap_fLst, ap_tupK, ap_lstK, ap_fTest, ap_testK, ap_fAnd, ap_andK, ap_fSkip, ap_fSeq, ap_seqK_nx, ap_fIf, ap_ifK, ap_fRet, ap_retK, ap_fAsg, ap_asgK, ap_asgK2, ap_gN, ap_fIx, ap_ixK, isDict_rl, getL_rl, retO_some, ap_fCall, ap_callK, ap_fnF, ap_fnK_rt, o_gt, o_min2, o_eq, o_ne, eqK_some, neK_some, eqv_int, toP_int, toP_tup, o_len, lenK_some, lenD_rl, ap_fFor, ap_forK_fix, ap_fRng1, ap_rng1K, o_getD, ap_fDictN0, o_someMap, R.bind_ok, R.nox_ok, List.map_cons, List.map_nil, List.length_cons, List.length_nil, List.cons_append, List.nil_append, Nat.zero_add, Nat.reduceAdd, Nat.reduceSub, List.replicate_succ, List.replicate_zero, List.getElem?_cons_zero, List.getElem?_cons_succ, List.set_cons_zero, List.set_cons_succ, List.append_nil, Bool.false_eq_true, if_true, if_false, decide_true, Nat.add_zero, Nat.reduceLeDiff, Int.reduceLT, Int.reduceLE, Int.reduceNeg, Int.reducePow, and_self, Bool.not_true, Int.reduceToNat, beq_iff_eq, hcap, List.length_map, hM, hr, Int.sub_zero, Int.toNat_natCast, hloop, hx1', hx2, a2, a3, h4, e9, a5, a6, b6, ht, hcap6, hq1, hq2, a9, b9, isTrue1]
    · obtain ⟨S9, r9, a9, b9⟩ := end_eq c S3
      unfold F_law b_law
      simp only [ap_fVar, varK_some, ap_fC, ap_fBin, ap_binK, ap_fApp, ap_fNil, ap_fCons, ap_consK, ap_consK2, ap_fLst, ap_lstK, ap_fTest, ap_testK, ap_fAnd, ap_andK, ap_fSkip, ap_fSeq, ap_seqK_nx, ap_fIf, ap_ifK, ap_fRet, ap_retK, ap_fAsg, ap_asgK, ap_asgK2, ap_gN, ap_fIx, ap_ixK, isDict_rl, getL_rl, retO_some, ap_fCall, ap_callK, ap_fnF, ap_fnK_rt, o_gt, o_min2, o_eq, eqK_some, eqv_int, toP_int, o_len, lenK_some, lenD_rl, ap_fFor, ap_forK_fix, ap_fRng1, ap_rng1K, o_getD, ap_fDictN0, R.bind_ok, R.nox_ok, List.map_cons, List.map_nil, List.length_cons, List.length_nil, List.cons_append, List.nil_append, Nat.zero_add, Nat.reduceAdd, Nat.reduceSub, List.replicate_succ, List.replicate_zero, List.getElem?_cons_zero, List.set_cons_zero, List.set_cons_succ, List.append_nil, Bool.false_eq_true, if_true, if_false, decide_true, Nat.add_zero, Nat.reduceLeDiff, Int.reduceLT, Int.reduceLE, Int.reduceNeg, Int.reducePow, and_self, Int.reduceToNat, beq_iff_eq, hcap, List.length_map, hM, hr, Int.sub_zero, Int.toNat_natCast, hloop, hx1', hx2, a2, a3, hu, a9, b9, isTrue1]
end Qk34

namespace Qk34
open PySem L2 RF
theorem all_mk {l : PySem.W.OpenLaw} {w : World} {K : PySem.W.Frag} {h : Heap} {mg : Str → Option Value} {fa  : Addr} (X : K.In h) (G : h.Ns mainGlobals mg) (hfa : mg "law" = some (.ref fa))
    {f0 : Addr} {od0 an0 : Option Addr} {sl0 : Array (Option Value)} {oc0 kV0 dc0 pm0 cd0 ct0 : Value}
    {f1 : Addr} {od1 an1 : Option Addr} {sl1 : Array (Option Value)} {oc1 kV1 dc1 pm1 cd1 ct1 : Value}
    {f2 : Addr} {od2 an2 : Option Addr} {sl2 : Array (Option Value)} {oc2 kV2 dc2 pm2 cd2 ct2 : Value}
    {f3 : Addr} {od3 an3 : Option Addr} {sl3 : Array (Option Value)} {oc3 kV3 dc3 pm3 cd3 ct3 : Value}
    {f4 : Addr} {od4 an4 : Option Addr} {sl4 : Array (Option Value)} {oc4 kV4 dc4 pm4 cd4 ct4 : Value}
    {f5 : Addr} {od5 an5 : Option Addr} {sl5 : Array (Option Value)} {oc5 kV5 dc5 pm5 cd5 ct5 : Value}
    {f6 : Addr} {od6 an6 : Option Addr} {sl6 : Array (Option Value)} {oc6 kV6 dc6 pm6 cd6 ct6 : Value}
    (main : ∀ (c : CA) (ns : List Int), ns.length ≤ 63 → (∀ z ∈ ns, Builtin.Int.intBits z ≤ 1048576) → isTrue1 (F_law c [.rl (ns.map D.int)] []))
    (a0 : PySem.W.nsIn K mainGlobals "_law_next" = some (some (.ref f0)))
    (l0 : K.lookup f0 = some ⟨oc0, od0, .func (PySem.W.fnOf "_law_next" "_law_next" (defArgs s_law_next) (defBody s_law_next) (defScope s_law_next) .none kV0 dc0 pm0 an0 cd0 ct0), sl0⟩)
    (c0 : PySem.W.codeIn K cd0 "_law_next" = true)
    (k0 : PySem.W.keepIn K (.ref f0) = true)
    (a1 : PySem.W.nsIn K mainGlobals "_law_drawn" = some (some (.ref f1)))
    (l1 : K.lookup f1 = some ⟨oc1, od1, .func (PySem.W.fnOf "_law_drawn" "_law_drawn" (defArgs s_law_drawn) (defBody s_law_drawn) (defScope s_law_drawn) .none kV1 dc1 pm1 an1 cd1 ct1), sl1⟩)
    (c1 : PySem.W.codeIn K cd1 "_law_drawn" = true)
    (k1 : PySem.W.keepIn K (.ref f1) = true)
    (a2 : PySem.W.nsIn K mainGlobals "_law_stream" = some (some (.ref f2)))
    (l2 : K.lookup f2 = some ⟨oc2, od2, .func (PySem.W.fnOf "_law_stream" "_law_stream" (defArgs s_law_stream) (defBody s_law_stream) (defScope s_law_stream) .none kV2 dc2 pm2 an2 cd2 ct2), sl2⟩)
    (c2 : PySem.W.codeIn K cd2 "_law_stream" = true)
    (k2 : PySem.W.keepIn K (.ref f2) = true)
    (a3 : PySem.W.nsIn K mainGlobals "ring_of" = some (some (.ref f3)))
    (l3 : K.lookup f3 = some ⟨oc3, od3, .func (PySem.W.fnOf "ring_of" "ring_of" (defArgs s_ring_of) (defBody s_ring_of) (defScope s_ring_of) .none kV3 dc3 pm3 an3 cd3 ct3), sl3⟩)
    (c3 : PySem.W.codeIn K cd3 "ring_of" = true)
    (k3 : PySem.W.keepIn K (.ref f3) = true)
    (a4 : PySem.W.nsIn K mainGlobals "_law_ring" = some (some (.ref f4)))
    (l4 : K.lookup f4 = some ⟨oc4, od4, .func (PySem.W.fnOf "_law_ring" "_law_ring" (defArgs s_law_ring) (defBody s_law_ring) (defScope s_law_ring) .none kV4 dc4 pm4 an4 cd4 ct4), sl4⟩)
    (c4 : PySem.W.codeIn K cd4 "_law_ring" = true)
    (k4 : PySem.W.keepIn K (.ref f4) = true)
    (a5 : PySem.W.nsIn K mainGlobals "rings" = some (some (.ref f5)))
    (l5 : K.lookup f5 = some ⟨oc5, od5, .func (PySem.W.fnOf "rings" "rings" (defArgs s_rings) (defBody s_rings) (defScope s_rings) .none kV5 dc5 pm5 an5 cd5 ct5), sl5⟩)
    (c5 : PySem.W.codeIn K cd5 "rings" = true)
    (k5 : PySem.W.keepIn K (.ref f5) = true)
    (a6 : PySem.W.nsIn K mainGlobals "law" = some (some (.ref f6)))
    (l6 : K.lookup f6 = some ⟨oc6, od6, .func (PySem.W.fnOf "law" "law" (defArgs s_law) (defBody s_law) (defScope s_law) .none kV6 dc6 pm6 an6 cd6 ct6), sl6⟩)
    (c6 : PySem.W.codeIn K cd6 "law" = true)
    (k6 : PySem.W.keepIn K (.ref f6) = true)
    (z_dict : PySem.W.nsIn K mainGlobals "dict" = some none)
    (z_int : PySem.W.nsIn K mainGlobals "int" = some none)
    (z_isinstance : PySem.W.nsIn K mainGlobals "isinstance" = some none)
    (z_len : PySem.W.nsIn K mainGlobals "len" = some none)
    (z_list : PySem.W.nsIn K mainGlobals "list" = some none)
    (z_max : PySem.W.nsIn K mainGlobals "max" = some none)
    (z_min : PySem.W.nsIn K mainGlobals "min" = some none)
    (z_range : PySem.W.nsIn K mainGlobals "range" = some none)
    (z_sorted : PySem.W.nsIn K mainGlobals "sorted" = some none)
    (z_tuple : PySem.W.nsIn K mainGlobals "tuple" = some none) :
    ∃ fd : FuncData, (∀ (s : Shared) (v : Value), BindsTo s fd ⟨[v], []⟩ [("script", v)]) ∧ ∀ base : Heap, K.In base → base.Ns mainGlobals mg → FnOk l.prog w K mg base CX0 3 fa fd ["script"] (spLaw K) := by
  have e := hfa.symm.trans (PySem.W.mg_of X G a6)
  cases e
  have GG : Gm K mg { w := w, a_law_next := f0, d_law_next := PySem.W.fnOf "_law_next" "_law_next" (defArgs s_law_next) (defBody s_law_next) (defScope s_law_next) .none kV0 dc0 pm0 an0 cd0 ct0, a_law_drawn := f1, d_law_drawn := PySem.W.fnOf "_law_drawn" "_law_drawn" (defArgs s_law_drawn) (defBody s_law_drawn) (defScope s_law_drawn) .none kV1 dc1 pm1 an1 cd1 ct1, a_law_stream := f2, d_law_stream := PySem.W.fnOf "_law_stream" "_law_stream" (defArgs s_law_stream) (defBody s_law_stream) (defScope s_law_stream) .none kV2 dc2 pm2 an2 cd2 ct2, a_ring_of := f3, d_ring_of := PySem.W.fnOf "ring_of" "ring_of" (defArgs s_ring_of) (defBody s_ring_of) (defScope s_ring_of) .none kV3 dc3 pm3 an3 cd3 ct3, a_law_ring := f4, d_law_ring := PySem.W.fnOf "_law_ring" "_law_ring" (defArgs s_law_ring) (defBody s_law_ring) (defScope s_law_ring) .none kV4 dc4 pm4 an4 cd4 ct4, a_rings := f5, d_rings := PySem.W.fnOf "rings" "rings" (defArgs s_rings) (defBody s_rings) (defScope s_rings) .none kV5 dc5 pm5 an5 cd5 ct5, a_law := fa, d_law := PySem.W.fnOf "law" "law" (defArgs s_law) (defBody s_law) (defScope s_law) .none kV6 dc6 pm6 an6 cd6 ct6 } := { z_dict := PySem.W.mg_none_of X G z_dict, z_int := PySem.W.mg_none_of X G z_int, z_isinstance := PySem.W.mg_none_of X G z_isinstance, z_len := PySem.W.mg_none_of X G z_len, z_list := PySem.W.mg_none_of X G z_list, z_max := PySem.W.mg_none_of X G z_max, z_min := PySem.W.mg_none_of X G z_min, z_range := PySem.W.mg_none_of X G z_range, z_sorted := PySem.W.mg_none_of X G z_sorted, z_tuple := PySem.W.mg_none_of X G z_tuple, F_law_next := fun_mk (st := s_law_next) l0 c0 k0, b_law_next := (fun_mk (st := s_law_next) l0 c0 k0).binds (ps := ["stream", "size"]) fun _ _ _ _ _ _ us hl => match us, hl with | [_, _], _ => rfl, g_law_next := PySem.W.mg_of X G a0, F_law_drawn := fun_mk (st := s_law_drawn) l1 c1 k1, b_law_drawn := (fun_mk (st := s_law_drawn) l1 c1 k1).binds (ps := ["stream", "k"]) fun _ _ _ _ _ _ us hl => match us, hl with | [_, _], _ => rfl, g_law_drawn := PySem.W.mg_of X G a1, F_law_stream := fun_mk (st := s_law_stream) l2 c2 k2, b_law_stream := (fun_mk (st := s_law_stream) l2 c2 k2).binds (ps := ["cell", "k"]) fun _ _ _ _ _ _ us hl => match us, hl with | [_, _], _ => rfl, g_law_stream := PySem.W.mg_of X G a2, F_ring_of := fun_mk (st := s_ring_of) l3 c3 k3, b_ring_of := (fun_mk (st := s_ring_of) l3 c3 k3).binds (ps := ["graph", "transaction"]) fun _ _ _ _ _ _ us hl => match us, hl with | [_, _], _ => rfl, g_ring_of := PySem.W.mg_of X G a3, F_law_ring := fun_mk (st := s_law_ring) l4 c4 k4, b_law_ring := (fun_mk (st := s_law_ring) l4 c4 k4).binds (ps := ["graph", "name"]) fun _ _ _ _ _ _ us hl => match us, hl with | [_, _], _ => rfl, g_law_ring := PySem.W.mg_of X G a4, F_rings := fun_mk (st := s_rings) l5 c5 k5, b_rings := (fun_mk (st := s_rings) l5 c5 k5).binds (ps := ["graph"]) fun _ _ _ _ _ _ us hl => match us, hl with | [_], _ => rfl, g_rings := PySem.W.mg_of X G a5, F_law := fun_mk (st := s_law) l6 c6 k6, b_law := (fun_mk (st := s_law) l6 c6 k6).binds (ps := ["script"]) fun _ _ _ _ _ _ us hl => match us, hl with | [_], _ => rfl, g_law := PySem.W.mg_of X G a6 }
  exact ⟨PySem.W.fnOf "law" "law" (defArgs s_law) (defBody s_law) (defScope s_law) .none kV6 dc6 pm6 an6 cd6 ct6, fun s v => .of_eq rfl, fun base _ _ => law_sp (ok_law GG) (main _)⟩
theorem walk {l : PySem.W.OpenLaw} {q : Program} {loose : List Str} {XP : (Str → Option Value) → Heap → Prop} {YP : World → Heap → Prop} {d : DefRec} {K : Params → PySem.W.Frag} (hn : l.most = some 63) (hdf : d.params.defaults = [])
    (hY : ∀ (w : World) (h : Heap), YP w h → (K w.params).In h)
    (F : ∀ (w : World) (mg : Str → Option Value) (fa : Addr) (h : Heap), (K w.params).In h → h.Ns mainGlobals mg → mg d.name = some (.ref fa) →
      ∃ fd : FuncData, (∀ (s : Shared) (u : Value), BindsTo s fd ⟨[u], []⟩ [("script", u)]) ∧ ∀ base : Heap, (K w.params).In base → base.Ns mainGlobals mg → FnOk l.prog w (K w.params) mg base CX0 3 fa fd ["script"] (spLaw (K w.params))) :
    PySem.W.WalkO q loose XP YP l.row.toRowW d [] (fun f vs => PySem.call f vs) :=
  L2.walk_ofB (n := 63) (k := 3) (x := "script") (CX := fun _ => CX0) (sp := fun w => spLaw (K w.params)) hn (by rw [sizeLine_eq]; decide) hdf ⟨rfl, by decide, by decide⟩ hY F (fun _ _ a ns hl hb hO hS => ⟨a, ns, rfl, hO, hS, hl, hb, fun _ => rfl⟩) fun _ _ _ _ _ z => z
end Qk34
open PySem PySem.W PyProof.Rows in
set_option maxRecDepth 100000 in
set_option maxHeartbeats 0 in
theorem PySem.Challenge.cw_ringloosed_k34_rings_of_waits_holds : PySem.Challenge.rw_ringloosed_k34_rings_of_waits.Holds := by
  w_on; o_law; k_head; (case hw => w_witness2)
  k_fill
  refine Qk34.walk (l := PySem.Challenge.rw_ringloosed_k34_rings_of_waits) rfl rfl (fun w h Y => PySem.W.kIn_of Y) ?F
  case F =>
    intro w mg fa h KX G hmg
    refine' Qk34.all_mk KX G hmg Qk34.main_law ?a0 ?l0 ?c0 ?k0 ?a1 ?l1 ?c1 ?k1 ?a2 ?l2 ?c2 ?k2 ?a3 ?l3 ?c3 ?k3 ?a4 ?l4 ?c4 ?k4 ?a5 ?l5 ?c5 ?k5 ?a6 ?l6 ?c6 ?k6 ?z_dict ?z_int ?z_isinstance ?z_len ?z_list ?z_max ?z_min ?z_range ?z_sorted ?z_tuple
    (case a0 => k_is)
    (case l0 => k_is)
    (case c0 => k_is)
    (case k0 => k_is)
    (case a1 => k_is)
    (case l1 => k_is)
    (case c1 => k_is)
    (case k1 => k_is)
    (case a2 => k_is)
    (case l2 => k_is)
    (case c2 => k_is)
    (case k2 => k_is)
    (case a3 => k_is)
    (case l3 => k_is)
    (case c3 => k_is)
    (case k3 => k_is)
    (case a4 => k_is)
    (case l4 => k_is)
    (case c4 => k_is)
    (case k4 => k_is)
    (case a5 => k_is)
    (case l5 => k_is)
    (case c5 => k_is)
    (case k5 => k_is)
    (case a6 => k_is)
    (case l6 => k_is)
    (case c6 => k_is)
    (case k6 => k_is)
    (case z_dict => k_is)
    (case z_int => k_is)
    (case z_isinstance => k_is)
    (case z_len => k_is)
    (case z_list => k_is)
    (case z_max => k_is)
    (case z_min => k_is)
    (case z_range => k_is)
    (case z_sorted => k_is)
    (case z_tuple => k_is)
