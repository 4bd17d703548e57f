import PyProof.Rows.All
import Wide.All
import OpenK.AllK
import Wide.FinOn
import HandS.ForMost
import KE.KeyNested
import KE.KDictKeyed
import HandS.Wide
import HandS.Flow
import HandS.NoneIn
import HandS.IsInst
import HandS.More
import HandS.Deep
import HandS.Text
import HandS.TupAny
import HandS.TupLen
import HandS.TupLe
import HandS.EndBits
import KE.SortData
import KE.DataMinMax
import KE.DataFind
import HandS.SetFor
import HandS.Defaults
import HandS.MakeKw
import HandS.MakeKwOnly
import HandS.Conv
import HandS.Property
import KE.DataCmp
import KE.KDictSum
import KE.KDictList
import HandS.TupMul
import PySem.Challenge.RW_ringloosed_k17_marks_come_home_round_a_r
set_option Elab.async false
set_option linter.all false
set_option maxRecDepth 100000
set_option maxHeartbeats 4000000
/-! RF: a functional layer over the hand layer: a piece of Python is simulated by a Lean function over data and a store -/
namespace RF
open PySem L2

/-- data: tuples by value, lists, dicts and instances by their place in the store -/
inductive D where
  | non | bl (b : Bool) | int (i : Int) | str (x : Str) | ref (n : Nat) | rl (xs : List D) | tup (xs : List D)
  | kt (xs : List D)
inductive Cell where
  | lst (xs : List D) | dk (kvs : List (Key × D)) | dt (kvs : List (List Key × D)) | ins (C : Addr) (fs : List (Str × D))
  | dn (w : World) (kvs : List (NestedKey × D))
abbrev Sto := List Cell
abbrev Lc := List (Option D)
/-- an outcome: a value and the store; an own exception of the class at c; anything else -/
inductive R (α : Type) where
  | ok (a : α) (S : Sto) | ex (c : Addr) (S : Sto) | bad
def R.bind {α β : Type} (x : R α) (k : α → Sto → R β) : R β := match x with
  | .ok a S => k a S
  | .ex c S => .ex c S
  | .bad => .bad
@[simp] theorem R.bind_ok {α β : Type} (a : α) (S : Sto) (k : α → Sto → R β) : (R.ok a S).bind k = k a S := (rfl)
@[simp] theorem R.bind_ex {α β : Type} (c : Addr) (S : Sto) (k : α → Sto → R β) : (R.ex c S : R α).bind k = .ex c S := (rfl)
@[simp] theorem R.bind_bad {α β : Type} (k : α → Sto → R β) : (R.bad : R α).bind k = .bad := (rfl)

/-! ### what stands for what -/
mutual
inductive RD (K : PySem.W.Frag) (L : List Addr) (H : Hp) : V → D → Prop
  | non : RD K L H .non .non
  | bl (b : Bool) : RD K L H (.bl b) (.bl b)
  | int (i : Int) : RD K L H (.int i) (.int i)
  | str (x : Str) : RD K L H (.str x) (.str x)
  | ref {a : Addr} {n : Nat} : L[n]? = some a → RD K L H (.ref a) (.ref n)
  | rl {a : Addr} {vs : List V} {ds : List D} : (∀ H1 : Hp, (∀ b o u, H b = some (.frz o u) → H1 b = some (.frz o u)) → SqL K H1 a vs) → RDs K L H vs ds → RD K L H (.ref a) (.rl ds)
  | tup {a : Addr} {vs : List V} {ds : List D} : H a = some (.tup vs) → RDs K L H vs ds → RD K L H (.ref a) (.tup ds)
  | kt {a : Addr} {vs : List V} {ds : List D} : (∀ H1 : Hp, SqT K H1 a vs) → RDs K L H vs ds → RD K L H (.ref a) (.kt ds)
inductive RDs (K : PySem.W.Frag) (L : List Addr) (H : Hp) : List V → List D → Prop
  | nil : RDs K L H [] []
  | cons {v : V} {vs : List V} {d : D} {ds : List D} : RD K L H v d → RDs K L H vs ds → RDs K L H (v :: vs) (d :: ds)
end
/-- the store and what is tracked may have grown or changed within the store -/
structure Gr (L : List Addr) (H : Hp) (L1 : List Addr) (H1 : Hp) : Prop where
  px : ∀ (n : Nat) a, L[n]? = some a → L1[n]? = some a
  tp : ∀ a xs, H a = some (.tup xs) → H1 a = some (.tup xs)
  fz : ∀ a o u, H a = some (.frz o u) → H1 a = some (.frz o u)
structure Ex (L : List Addr) (H : Hp) (L1 : List Addr) (H1 : Hp) : Prop where
  px : ∀ (n : Nat) a, L[n]? = some a → L1[n]? = some a
  nw : ∀ a ∈ L1, a ∈ L ∨ H a = none
  fr : ∀ a o, a ∉ L → H a = some o → H1 a = some o
  tp : ∀ a xs, H a = some (.tup xs) → H1 a = some (.tup xs)
  fz : ∀ a o u, H a = some (.frz o u) → H1 a = some (.frz o u)
theorem Ex.gr {L L1 : List Addr} {H H1 : Hp} (e : Ex L H L1 H1) : Gr L H L1 H1 := ⟨e.px, e.tp, e.fz⟩
theorem Ex.refl (L : List Addr) (H : Hp) : Ex L H L H := ⟨fun _ _ h => h, fun _ h => .inl h, fun _ _ _ h => h, fun _ _ h => h, fun _ _ _ h => h⟩
theorem Ex.trans {L L1 L2 : List Addr} {H H1 H2 : Hp} (a : Ex L H L1 H1) (b : Ex L1 H1 L2 H2) : Ex L H L2 H2 where
  px := fun n x h => b.px n x (a.px n x h)
  nw := fun x h => by
    rcases b.nw x h with h | h
    · exact a.nw x h
    · by_cases hx : x ∈ L
      · exact .inl hx
      · refine .inr ?_
        cases q : H x with
        | none => rfl
        | some o => rw [a.fr x o hx q] at h; cases h
  fr := fun x o hx h => by
    refine b.fr x o (fun z => ?_) (a.fr x o hx h)
    rcases a.nw x z with z | z
    · exact hx z
    · rw [h] at z; cases z
  tp := fun x xs h => b.tp x xs (a.tp x xs h)
  fz := fun x o u h => b.fz x o u (a.fz x o u h)
mutual
theorem RD.grow {K : PySem.W.Frag} {L L1 : List Addr} {H H1 : Hp} (e : Gr L H L1 H1) : ∀ {v : V} {d : D}, RD K L H v d → RD K L1 H1 v d
  | _, _, .non => .non
  | _, _, .bl b => .bl b
  | _, _, .int i => .int i
  | _, _, .str x => .str x
  | _, _, .ref h => .ref (e.px _ _ h)
  | _, _, .rl h r => .rl (fun H2 k => h H2 fun b o u q => k b o u (e.fz b o u q)) (RDs.grow e r)
  | _, _, .tup h r => .tup (e.tp _ _ h) (RDs.grow e r)
  | _, _, .kt h r => .kt h (RDs.grow e r)
theorem RDs.grow {K : PySem.W.Frag} {L L1 : List Addr} {H H1 : Hp} (e : Gr L H L1 H1) : ∀ {v : List V} {d : List D}, RDs K L H v d → RDs K L1 H1 v d
  | _, _, .nil => .nil
  | _, _, .cons a b => .cons (RD.grow e a) (RDs.grow e b)
end
theorem RD.mono {K : PySem.W.Frag} {L L1 : List Addr} {H H1 : Hp} (e : Ex L H L1 H1) {v : V} {d : D} (h : RD K L H v d) : RD K L1 H1 v d := RD.grow e.gr h
theorem RDs.mono {K : PySem.W.Frag} {L L1 : List Addr} {H H1 : Hp} (e : Ex L H L1 H1) {v : List V} {d : List D} (h : RDs K L H v d) : RDs K L1 H1 v d := RDs.grow e.gr h
theorem RDs.length {K : PySem.W.Frag} {L : List Addr} {H : Hp} : ∀ {vs : List V} {ds : List D}, RDs K L H vs ds → vs.length = ds.length
  | _, _, .nil => rfl
  | _, _, .cons _ b => by rw [List.length_cons, List.length_cons, b.length]
theorem RDs.get {K : PySem.W.Frag} {L : List Addr} {H : Hp} : ∀ {vs : List V} {ds : List D} {i : Nat} {d : D}, RDs K L H vs ds → ds[i]? = some d → ∃ v, vs[i]? = some v ∧ RD K L H v d
  | _, _, _, _, .nil, h => by simp at h
  | _, _, 0, _, .cons a b, h => by simp at h; subst h; exact ⟨_, rfl, a⟩
  | _, _, i + 1, _, .cons a b, h => by
    obtain ⟨v, h1, h2⟩ := RDs.get (i := i) b (by simpa using h)
    exact ⟨v, by simpa using h1, h2⟩
theorem RDs.getV {K : PySem.W.Frag} {L : List Addr} {H : Hp} : ∀ {vs : List V} {ds : List D} {i : Nat} {v : V}, RDs K L H vs ds → vs[i]? = some v → ∃ d, ds[i]? = some d ∧ RD K L H v d
  | _, _, _, _, .nil, h => by simp at h
  | _, _, 0, _, .cons a b, h => by simp at h; subst h; exact ⟨_, rfl, a⟩
  | _, _, i + 1, _, .cons a b, h => by
    obtain ⟨v, h1, h2⟩ := RDs.getV (i := i) b (by simpa using h)
    exact ⟨v, by simpa using h1, h2⟩
theorem RDs.append {K : PySem.W.Frag} {L : List Addr} {H : Hp} : ∀ {vs ws : List V} {ds es : List D}, RDs K L H vs ds → RDs K L H ws es → RDs K L H (vs ++ ws) (ds ++ es)
  | _, _, _, _, .nil, h => h
  | _, _, _, _, .cons a b, h => .cons a (RDs.append b h)
theorem RDs.set {K : PySem.W.Frag} {L : List Addr} {H : Hp} {v : V} {d : D} (r : RD K L H v d) : ∀ {vs : List V} {ds : List D} (i : Nat), RDs K L H vs ds → RDs K L H (vs.set i v) (ds.set i d)
  | _, _, _, .nil => .nil
  | _, _, 0, .cons _ b => .cons r b
  | _, _, i + 1, .cons a b => .cons a (RDs.set r i b)
theorem RDs.take {K : PySem.W.Frag} {L : List Addr} {H : Hp} : ∀ {vs : List V} {ds : List D} (n : Nat), RDs K L H vs ds → RDs K L H (vs.take n) (ds.take n)
  | _, _, 0, _ => .nil
  | _, _, _ + 1, .nil => .nil
  | _, _, n + 1, .cons a b => .cons a (RDs.take n b)
theorem RDs.drop {K : PySem.W.Frag} {L : List Addr} {H : Hp} : ∀ {vs : List V} {ds : List D} (n : Nat), RDs K L H vs ds → RDs K L H (vs.drop n) (ds.drop n)
  | _, _, 0, h => h
  | _, _, _ + 1, .nil => .nil
  | _, _, n + 1, .cons _ b => RDs.drop n b
theorem RDs.eraseIdx {K : PySem.W.Frag} {L : List Addr} {H : Hp} : ∀ {vs : List V} {ds : List D} (n : Nat), RDs K L H vs ds → RDs K L H (vs.eraseIdx n) (ds.eraseIdx n)
  | _, _, _, .nil => .nil
  | _, _, 0, .cons _ b => b
  | _, _, n + 1, .cons a b => .cons a (RDs.eraseIdx n b)
/-- named parts -/
def RK {κ : Type} (K : PySem.W.Frag) (L : List Addr) (H : Hp) : List (κ × V) → List (κ × D) → Prop
  | [], [] => True
  | p :: ps, q :: qs => p.1 = q.1 ∧ RD K L H p.2 q.2 ∧ RK K L H ps qs
  | _, _ => False
theorem RK.grow {κ : Type} {K : PySem.W.Frag} {L L1 : List Addr} {H H1 : Hp} (e : Gr L H L1 H1) : ∀ {ps : List (κ × V)} {qs : List (κ × D)}, RK K L H ps qs → RK K L1 H1 ps qs
  | [], [], _ => trivial
  | p :: ps, q :: qs, ⟨a, b, c⟩ => ⟨a, b.grow e, RK.grow e c⟩
  | [], _ :: _, h => h.elim
  | _ :: _, [], h => h.elim
theorem RK.mono {κ : Type} {K : PySem.W.Frag} {L L1 : List Addr} {H H1 : Hp} (e : Ex L H L1 H1) {ps : List (κ × V)} {qs : List (κ × D)} (h : RK K L H ps qs) : RK K L1 H1 ps qs := RK.grow e.gr h
theorem RK.length {κ : Type} {K : PySem.W.Frag} {L : List Addr} {H : Hp} : ∀ {ps : List (κ × V)} {qs : List (κ × D)}, RK K L H ps qs → ps.length = qs.length
  | [], [], _ => rfl
  | p :: ps, q :: qs, ⟨_, _, c⟩ => by rw [List.length_cons, List.length_cons, RK.length c]
  | [], _ :: _, h => h.elim
  | _ :: _, [], h => h.elim
theorem RK.lookup {κ : Type} [BEq κ] [LawfulBEq κ] {K : PySem.W.Frag} {L : List Addr} {H : Hp} (k : κ) : ∀ {ps : List (κ × V)} {qs : List (κ × D)}, RK K L H ps qs → (qs.lookup k = none ∧ ps.lookup k = none) ∨ ∃ v d, qs.lookup k = some d ∧ ps.lookup k = some v ∧ RD K L H v d
  | [], [], _ => .inl ⟨rfl, rfl⟩
  | (a, v) :: ps, (b, d) :: qs, ⟨e, r, c⟩ => by
    have e : a = b := e
    subst e
    rw [List.lookup_cons, List.lookup_cons]
    cases q : k == a with
    | true => exact .inr ⟨v, d, rfl, rfl, r⟩
    | false => exact RK.lookup k c
  | [], _ :: _, h => h.elim
  | _ :: _, [], h => h.elim

/-! ### dicts whose keys are tuples, nested -/
mutual
/-- the value is the key, by what is tracked -/
inductive NK (H : Hp) : NestedKey → V → Prop
  | none : NK H .none .non
  | num (i : Int) : NK H (.num i) (.int i)
  | text (x : Str) : NK H (.text x) (.str x)
  | tup {a : Addr} {vs : List V} {ks : List NestedKey} : H a = some (.tup vs) → NKs H ks vs → NK H (.tup ks) (.ref a)
inductive NKs (H : Hp) : List NestedKey → List V → Prop
  | nil : NKs H [] []
  | cons {k : NestedKey} {v : V} {ks : List NestedKey} {vs : List V} : NK H k v → NKs H ks vs → NKs H (k :: ks) (v :: vs)
end
mutual
theorem NK.grow {H H1 : Hp} (e : ∀ a xs, H a = some (.tup xs) → H1 a = some (.tup xs)) : ∀ {k : NestedKey} {v : V}, NK H k v → NK H1 k v
  | _, _, .none => .none
  | _, _, .num i => .num i
  | _, _, .text x => .text x
  | _, _, .tup h r => .tup (e _ _ h) (NKs.grow e r)
theorem NKs.grow {H H1 : Hp} (e : ∀ a xs, H a = some (.tup xs) → H1 a = some (.tup xs)) : ∀ {ks : List NestedKey} {vs : List V}, NKs H ks vs → NKs H1 ks vs
  | _, _, .nil => .nil
  | _, _, .cons a b => .cons (NK.grow e a) (NKs.grow e b)
end
abbrev ZN := NestedKey × Addr × V
def ZX (p : ZN) (q : NestedKey × Addr × Value) : Prop := p.1 = q.1 ∧ p.2.1 = q.2.1 ∧ RelV p.2.2 q.2.2
/-- a dict with such keys, by its one object -/
def dnO (w : World) (a : Addr) (zs : List ZN) : HO := .ext fun h => (a == sysModules) = false ∧ zs.length ≤ sizeLine ∧ ∃ xs : List (NestedKey × Addr × Value), Paired ZX zs xs ∧
  ∃ o es ep, h.get? a = some o ∧ o.ExactDict ∧ o.data = .dict es ep ∧ es.toList = xs.map (fun x => (⟨x.1.hash w, .ref x.2.1, x.2.2⟩ : DictEntry)) ∧ (xs.map (·.1)).Nodup
/-- its entries -/
def RN (K : PySem.W.Frag) (L : List Addr) (H : Hp) : List ZN → List (NestedKey × D) → Prop
  | [], [] => True
  | p :: ps, q :: qs => p.1 = q.1 ∧ (NK H p.1 (.ref p.2.1) ∧ p.1.depth ≤ 8) ∧ RD K L H p.2.2 q.2 ∧ RN K L H ps qs
  | _, _ => False
theorem RN.grow {K : PySem.W.Frag} {L L1 : List Addr} {H H1 : Hp} (e : Gr L H L1 H1) : ∀ {ps : List ZN} {qs : List (NestedKey × D)}, RN K L H ps qs → RN K L1 H1 ps qs
  | [], [], _ => trivial
  | p :: ps, q :: qs, ⟨a, b, c, d⟩ => ⟨a, ⟨b.1.grow e.tp, b.2⟩, c.grow e, RN.grow e d⟩
  | [], _ :: _, h => h.elim
  | _ :: _, [], h => h.elim

/-- what stands at the address of a cell -/
def RC (K : PySem.W.Frag) (L : List Addr) (H : Hp) (a : Addr) : Cell → Prop
  | .lst ds => ∃ vs, H a = some (.lst vs) ∧ RDs K L H vs ds
  | .dk kvs => ∃ ws, H a = some (.dK ws) ∧ RK K L H ws kvs
  | .dt kvs => ∃ ws, H a = some (.dT ws) ∧ RK K L H ws kvs
  | .ins C fs => ∃ dx ws, H a = some (.ins C dx ws) ∧ RK K L H ws fs
  | .dn w kvs => ∃ zs, H a = some (dnO w a zs) ∧ RN K L H zs kvs
structure Rep (K : PySem.W.Frag) (L : List Addr) (H : Hp) (S : Sto) : Prop where
  len : L.length = S.length
  nd : L.Nodup
  cel : ∀ (n : Nat) a c, L[n]? = some a → S[n]? = some c → RC K L H a c
section
variable {K : PySem.W.Frag} {L L1 : List Addr} {H H1 : Hp} {S S1 : Sto} {a p : Addr} {o : HO} {c : Cell} {n : Nat} {E : XK}
theorem RC.some (r : RC K L H a c) : ∃ o, H a = some o ∧ Mut (some o) := by
  cases c with
  | lst _ => obtain ⟨_, h, _⟩ := r; exact ⟨_, h, trivial⟩
  | dk _ => obtain ⟨_, h, _⟩ := r; exact ⟨_, h, trivial⟩
  | dt _ => obtain ⟨_, h, _⟩ := r; exact ⟨_, h, trivial⟩
  | ins _ _ => obtain ⟨_, _, h, _⟩ := r; exact ⟨_, h, trivial⟩
  | dn _ _ => obtain ⟨_, h, _⟩ := r; exact ⟨_, h, trivial⟩
theorem RC.grow (r : RC K L H a c) (e : Gr L H L1 H1) (h : H1 a = H a) : RC K L1 H1 a c := by
  cases c with
  | lst _ => obtain ⟨vs, q, t⟩ := r; exact ⟨vs, h.trans q, t.grow e⟩
  | dk _ => obtain ⟨vs, q, t⟩ := r; exact ⟨vs, h.trans q, t.grow e⟩
  | dt _ => obtain ⟨vs, q, t⟩ := r; exact ⟨vs, h.trans q, t.grow e⟩
  | ins _ _ => obtain ⟨dx, vs, q, t⟩ := r; exact ⟨dx, vs, h.trans q, t.grow e⟩
  | dn _ _ => obtain ⟨vs, q, t⟩ := r; exact ⟨vs, h.trans q, t.grow e⟩
theorem RC.mono (r : RC K L H a c) (e : Ex L H L1 H1) (h : H1 a = H a) : RC K L1 H1 a c := r.grow e.gr h
theorem Rep.adr (r : Rep K L H S) (h : L[n]? = some a) : ∃ c, S[n]? = some c ∧ RC K L H a c := by
  have hn : n < S.length := by rw [← r.len]; exact (List.getElem?_eq_some_iff.mp h).1
  exact ⟨S[n], List.getElem?_eq_getElem hn, r.cel n a _ h (List.getElem?_eq_getElem hn)⟩
theorem Rep.at (r : Rep K L H S) (h : S[n]? = some c) : ∃ a, L[n]? = some a ∧ RC K L H a c := by
  have hn : n < L.length := by rw [r.len]; exact (List.getElem?_eq_some_iff.mp h).1
  exact ⟨L[n], List.getElem?_eq_getElem hn, r.cel n _ c (List.getElem?_eq_getElem hn) h⟩
theorem Rep.there (r : Rep K L H S) (h : a ∈ L) : ∃ o, H a = some o ∧ Mut (some o) := by
  obtain ⟨n, hn, rfl⟩ := List.mem_iff_getElem.mp h
  obtain ⟨c, _, q⟩ := r.adr (List.getElem?_eq_getElem hn)
  exact q.some
theorem Rep.fresh (r : Rep K L H S) (h : H p = none) : p ∉ L := fun z => by
  obtain ⟨o, q, _⟩ := r.there z
  rw [h] at q; cases q
theorem Rep.notup (r : Rep K L H S) (h : a ∈ L) : (∀ xs, H a ≠ some (.tup xs)) ∧ ∀ o u, H a ≠ some (.frz o u) := by
  obtain ⟨o, q, m⟩ := r.there h
  refine ⟨fun xs z => ?_, fun o' u z => ?_⟩
  · rw [q] at z; cases z; exact m
  · rw [q] at z; cases z; exact m
/-- a new object that is no cell -/
theorem Ex.new (h : H p = none) : Ex L H L (upd H p o) :=
  ⟨fun _ _ h => h, fun _ h => .inl h, fun b u _ q => (upd_ne (ne_of_none q h)).trans q, fun b xs q => (upd_ne (ne_of_none q h)).trans q, fun b ob u q => (upd_ne (ne_of_none q h)).trans q⟩
theorem Ex.newc (h : H p = none) : Ex L H (L ++ [p]) (upd H p o) where
  px := fun n b q => by
    have hn := (List.getElem?_eq_some_iff.mp q).1
    rw [List.getElem?_append_left hn]; exact q
  nw := fun b q => by
    rcases List.mem_append.mp q with q | q
    · exact .inl q
    · rw [List.mem_singleton.mp q]; exact .inr h
  fr := fun b u _ q => (upd_ne (ne_of_none q h)).trans q
  tp := fun b xs q => (upd_ne (ne_of_none q h)).trans q
  fz := fun b ob u q => (upd_ne (ne_of_none q h)).trans q
theorem Ex.wr (r : Rep K L H S) (h : a ∈ L) : Ex L H L (upd H a o) where
  px := fun _ _ q => q
  nw := fun _ q => .inl q
  fr := fun b u hb q => (upd_ne (fun z => hb (by rw [z]; exact h))).trans q
  tp := fun b xs q => (upd_ne (fun z => (r.notup h).1 xs (by rw [← z]; exact q))).trans q
  fz := fun b ob u q => (upd_ne (fun z => (r.notup h).2 ob u (by rw [← z]; exact q))).trans q
theorem Rep.new (r : Rep K L H S) (h : H p = none) : Rep K L (upd H p o) S :=
  ⟨r.len, r.nd, fun n b c h1 h2 => (r.cel n b c h1 h2).mono (Ex.new h) (upd_ne fun z => r.fresh h (z ▸ List.mem_of_getElem? h1))⟩
theorem Rep.newc (r : Rep K L H S) (h : H p = none) (hc : RC K (L ++ [p]) (upd H p o) p c) : Rep K (L ++ [p]) (upd H p o) (S ++ [c]) where
  len := by rw [List.length_append, List.length_append, r.len]; rfl
  nd := by
    rw [List.nodup_append]
    refine ⟨r.nd, by simp, fun b hb d hd e => ?_⟩
    rw [List.mem_singleton] at hd
    subst hd; subst e
    exact r.fresh h hb
  cel := fun n b c' h1 h2 => by
    by_cases hn : n < L.length
    · rw [List.getElem?_append_left hn] at h1
      rw [List.getElem?_append_left (by rw [← r.len]; exact hn)] at h2
      exact (r.cel n b c' h1 h2).mono (Ex.newc h) (upd_ne fun z => r.fresh h (z ▸ List.mem_of_getElem? h1))
    · rw [List.getElem?_append_right (Nat.le_of_not_lt hn)] at h1
      rw [List.getElem?_append_right (by rw [← r.len]; exact Nat.le_of_not_lt hn)] at h2
      rw [← r.len] at h2
      have e : n - L.length = 0 := by
        have := (List.getElem?_eq_some_iff.mp h1).1
        simp at this; omega
      rw [e] at h1 h2
      simp at h1 h2
      subst h1; subst h2
      exact hc
theorem Rep.wr (r : Rep K L H S) (h : L[n]? = some a) (hc : RC K L (upd H a o) a c) : Rep K L (upd H a o) (S.set n c) where
  len := by rw [List.length_set, r.len]
  nd := r.nd
  cel := fun m b c' h1 h2 => by
    by_cases hm : n = m
    · subst hm
      rw [h] at h1; cases h1
      have hn : n < S.length := by rw [← r.len]; exact (List.getElem?_eq_some_iff.mp h).1
      rw [List.getElem?_set_self hn] at h2
      cases h2
      exact hc
    · rw [List.getElem?_set_ne hm] at h2
      refine (r.cel m b c' h1 h2).mono (Ex.wr r (List.mem_of_getElem? h)) (upd_ne fun z => hm ?_)
      obtain ⟨l1, e1⟩ := List.getElem?_eq_some_iff.mp h
      obtain ⟨l2, e2⟩ := List.getElem?_eq_some_iff.mp h1
      exact (List.getElem_inj r.nd).mp (e1.trans (z.symm.trans e2.symm))

/-! ### outcomes -/
def End {α : Type} (K : PySem.W.Frag) (E : XK) (L : List Addr) (H : Hp) (Q : α → Sto → List Addr → Hp → Prop) : R α → Prop
  | .ok a S => ∀ L1 H1, Ex L H L1 H1 → Rep K L1 H1 S → Q a S L1 H1
  | .ex c S => ∀ L1 H1, Ex L H L1 H1 → Rep K L1 H1 S → E (.ref c) none H1
  | .bad => False
variable {α β : Type} {Q Q' : α → Sto → List Addr → Hp → Prop} {x : R α}
theorem End.later (h : End K E L H Q x) (e : Ex L H L1 H1) : End K E L1 H1 Q x := by
  cases x with
  | ok b T => exact fun L2 H2 e2 r => h L2 H2 (e.trans e2) r
  | ex b T => exact fun L2 H2 e2 r => h L2 H2 (e.trans e2) r
  | bad => exact h
theorem End.imp (h : End K E L H Q x) (k : ∀ a S1 L1 H1, Ex L H L1 H1 → Rep K L1 H1 S1 → Q a S1 L1 H1 → Q' a S1 L1 H1) : End K E L H Q' x := by
  cases x with
  | ok b T => exact fun L2 H2 e2 r => k _ _ _ _ e2 r (h L2 H2 e2 r)
  | ex b T => exact h
  | bad => exact h
theorem End.imp' (h : End K E L H Q x) (k : ∀ a S1 L1 H1, x = .ok a S1 → Ex L H L1 H1 → Rep K L1 H1 S1 → Q a S1 L1 H1 → Q' a S1 L1 H1) : End K E L H Q' x := by
  cases x with
  | ok b T => exact fun L2 H2 e2 r => k _ _ _ _ rfl e2 r (h L2 H2 e2 r)
  | ex b T => exact h
  | bad => exact h
theorem End.bind {Q : β → Sto → List Addr → Hp → Prop} {k : α → Sto → R β} (h : End K E L H Q (x.bind k)) : End K E L H (fun a S1 L1 H1 => End K E L1 H1 Q (k a S1)) x := by
  cases x with
  | ok b T => exact fun L2 H2 e2 r => End.later h e2
  | ex b T => exact h
  | bad => exact h
/-- a value comes back -/
abbrev EndV (K : PySem.W.Frag) (E : XK) (L : List Addr) (H : Hp) (Q : VK) (x : R D) : Prop := End K E L H (fun d _ L1 H1 => ∀ v, RD K L1 H1 v d → Q v H1) x
theorem EndV.val {Q : VK} {d : D} {v : V} (h : EndV K E L H Q (.ok d S)) (r : Rep K L H S) (rv : RD K L H v d) : Q v H := h L H (Ex.refl L H) r v rv
end

/-- the names' values -/
structure RE (K : PySem.W.Frag) (L : List Addr) (H : Hp) (σ : St) (env : Lc) : Prop where
  len : σ.length = env.length
  val : ∀ (i : Nat) d, env[i]? = some (some d) → ∃ v, σ[i]? = some (some v) ∧ RD K L H v d
section
variable {K : PySem.W.Frag} {L L1 : List Addr} {H H1 : Hp} {σ : St} {env : Lc}
theorem RE.mono (r : RE K L H σ env) (e : Ex L H L1 H1) : RE K L1 H1 σ env := ⟨r.len, fun i d h => let ⟨v, h1, h2⟩ := r.val i d h; ⟨v, h1, h2.mono e⟩⟩
theorem RE.set {i : Nat} {v : V} {d : D} (r : RE K L H σ env) (rv : RD K L H v d) : RE K L H (σ.set i (some v)) (env.set i (some d)) := by
  refine ⟨by rw [List.length_set, List.length_set, r.len], fun j e h => ?_⟩
  by_cases hj : i = j
  · subst hj
    by_cases hi : i < env.length
    · rw [List.getElem?_set_self hi] at h
      cases h
      exact ⟨v, List.getElem?_set_self (by rw [r.len]; exact hi), rv⟩
    · rw [List.getElem?_eq_none (by rw [List.length_set]; exact Nat.le_of_not_lt hi)] at h
      cases h
  · rw [List.getElem?_set_ne hj] at h ⊢
    exact r.val j e h
end
end RF

namespace RF
open PySem L2

abbrev EF := Lc → Sto → R D
abbrev BF := Lc → Sto → R Bool
abbrev AF := Lc → Sto → R (List D)
inductive Fl where
  | nx (e : Lc) | rt (d : D) | bk (e : Lc) | ct (e : Lc)
abbrev SF := Lc → Sto → R Fl

def tE (K : PySem.W.Frag) (E : XK) (f : EF) : TE := fun σ H Q => ∃ L env S, Rep K L H S ∧ RE K L H σ env ∧ EndV K E L H Q (f env S)
def tT (K : PySem.W.Frag) (E : XK) (f : BF) : TT := fun σ H Q => ∃ L env S, Rep K L H S ∧ RE K L H σ env ∧ End K E L H (fun b _ _ H1 => Q b H1) (f env S)
def tA (K : PySem.W.Frag) (E : XK) (f : AF) : TA := fun σ H Q => ∃ L env S, Rep K L H S ∧ RE K L H σ env ∧ End K E L H (fun ds _ L1 H1 => ∀ vs, RDs K L1 H1 vs ds → Q vs H1) (f env S)
def FlQ (K : PySem.W.Frag) (D : Ends) (L : List Addr) (H : Hp) : Fl → Prop
  | .nx env => ∀ σ, RE K L H σ env → D.nx σ H
  | .rt d => ∀ v, RD K L H v d → D.rt v H
  | .bk env => ∀ σ, RE K L H σ env → D.bk σ H
  | .ct env => ∀ σ, RE K L H σ env → D.ct σ H
def tS (K : PySem.W.Frag) (E : XK) (f : SF) : TS := fun D σ H => ∃ L env S, Rep K L H S ∧ RE K L H σ env ∧ End K E L H (fun fl _ L1 H1 => FlQ K D L1 H1 fl) (f env S)

section
variable {X : Cx} {e : Expr} {st : Stmt} {sts : List Stmt} {es : List Expr}
theorem monoE {t t' : TE} (h : PE X e t) (k : ∀ σ H Q, t' σ H Q → t σ H Q) : PE X e t' := ⟨fun pins s σ H Q I q => h.run pins s σ H Q I (k σ H Q q)⟩
theorem monoT {t t' : TT} (h : PT X e t) (k : ∀ σ H Q, t' σ H Q → t σ H Q) : PT X e t' := ⟨fun pins s σ H Q I q => h.run pins s σ H Q I (k σ H Q q)⟩
theorem monoW {t t' : TT} (h : PW X e t) (k : ∀ σ H Q, t' σ H Q → t σ H Q) : PW X e t' := ⟨fun w pins s σ H Q I q => h.run w pins s σ H Q I (k σ H Q q)⟩
theorem monoA {t t' : TA} (h : PA X es t) (k : ∀ σ H Q, t' σ H Q → t σ H Q) : PA X es t' := ⟨fun pos pins s σ H Q I q => h.run pos pins s σ H Q I (k σ H Q q)⟩
theorem monoS {t t' : TS} (h : PS X st t) (k : ∀ D σ H, t' D σ H → t D σ H) : PS X st t' := ⟨fun pins s σ H D I q => h.run pins s σ H D I (k D σ H q)⟩
theorem monoSs {t t' : TS} (h : PSs X sts t) (k : ∀ D σ H, t' D σ H → t D σ H) : PSs X sts t' := ⟨fun pins s σ H D I q => h.run pins s σ H D I (k D σ H q)⟩
end

/-! ### expressions -/
def fVar (i : Nat) : EF := fun env S => match env[i]? with | some (some d) => .ok d S | _ => .bad
def fC (d : D) : EF := fun _ S => .ok d S
abbrev Op2 := D → D → Sto → R D
abbrev Op1 := D → Sto → R D
abbrev OpN := List D → Sto → R D
def fBin (o : Op2) (fa fb : EF) : EF := fun env S => (fa env S).bind fun x S1 => (fb env S1).bind fun y S2 => o x y S2
def fUn (o : Op1) (fa : EF) : EF := fun env S => (fa env S).bind fun x S1 => o x S1
def fApp (o : OpN) (fs : AF) : EF := fun env S => (fs env S).bind fun xs S1 => o xs S1
def fNil : AF := fun _ S => .ok [] S
def fCons (fa : EF) (fs : AF) : AF := fun env S => (fa env S).bind fun x S1 => (fs env S1).bind fun xs S2 => .ok (x :: xs) S2
def fTup (fs : AF) : EF := fun env S => (fs env S).bind fun xs S1 => if xs.length ≤ 100000 then .ok (.tup xs) S1 else .bad
def fLst (fs : AF) : EF := fun env S => (fs env S).bind fun xs S1 => if xs.length ≤ 100000 then .ok (.ref S1.length) (S1 ++ [.lst xs]) else .bad
def fTest (fa : EF) : BF := fun env S => (fa env S).bind fun x S1 => match x with | .bl b => .ok b S1 | _ => .bad
def fVal (ft : BF) : EF := fun env S => (ft env S).bind fun b S1 => .ok (.bl b) S1
def fAnd (f g : BF) : BF := fun env S => (f env S).bind fun b S1 => if b = true then g env S1 else .ok false S1
def fOr (f g : BF) : BF := fun env S => (f env S).bind fun b S1 => if b = true then .ok true S1 else g env S1
def fNot (f : BF) : BF := fun env S => (f env S).bind fun b S1 => .ok (!b) S1
def fAndV (f g : EF) : EF := fun env S => (f env S).bind fun x S1 => match x with | .bl b => (if b = true then g env S1 else .ok (.bl false) S1) | _ => .bad
def fOrV (f g : EF) : EF := fun env S => (f env S).bind fun x S1 => match x with | .bl b => (if b = true then .ok (.bl true) S1 else g env S1) | _ => .bad
def fNotV (f : EF) : EF := fun env S => (f env S).bind fun x S1 => match x with | .bl b => .ok (.bl (!b)) S1 | _ => .bad
def fIfE (c : BF) (f g : EF) : EF := fun env S => (c env S).bind fun b S1 => if b = true then f env S1 else g env S1
def fChain (o o' : Op2) (fa fb fc : EF) : EF := fun env S => (fa env S).bind fun x S1 => (fb env S1).bind fun y S2 => (o x y S2).bind fun z S3 => match z with
  | .bl b => if b = true then (fc env S3).bind fun w S4 => o' y w S4 else .ok (.bl false) S3
  | _ => .bad

/-- an operator by values, simulated -/
def OpF (K : PySem.W.Frag) (E : XK) (r : R2) (o : Op2) : Prop := ∀ L H S x y d1 d2 Q, Rep K L H S → RD K L H x d1 → RD K L H y d2 → EndV K E L H Q (o d1 d2 S) → r x y H Q
def UnF (K : PySem.W.Frag) (E : XK) (r : V → Hp → VK → Prop) (o : Op1) : Prop := ∀ L H S x d1 Q, Rep K L H S → RD K L H x d1 → EndV K E L H Q (o d1 S) → r x H Q
def CaF (K : PySem.W.Frag) (E : XK) (r : List V → Hp → VK → Prop) (o : OpN) : Prop := ∀ L H S xs ds Q, Rep K L H S → RDs K L H xs ds → EndV K E L H Q (o ds S) → r xs H Q
/-- a built-in method by values -/
def MtF (K : PySem.W.Frag) (E : XK) (r : V → List V → Hp → VK → Prop) (o : D → List D → Sto → R D) : Prop := ∀ L H S x xs d ds Q, Rep K L H S → RD K L H x d → RDs K L H xs ds → EndV K E L H Q (o d ds S) → r x xs H Q

theorem sz5 {n : Nat} (h : n ≤ 100000) : n ≤ sizeLine := Nat.le_trans h (by rw [sizeLine_eq]; decide)
theorem sz5l {n : Nat} (h : n < 100000) : n < sizeLine := Nat.lt_of_lt_of_le h (by rw [sizeLine_eq]; decide)

section
variable {X : Cx} {E : XK} {a b c e : Expr} {es : List Expr} {pos : Pos} {fa fb fc : EF} {fs : AF} {ft fu : BF}

theorem xVar (i : Nat) {x : Str} (hN : X.N[i]? = some x := by rfl) (hv : Vis X.env.scope x := by first | exact Or.inl rfl | exact Or.inr (Or.inl rfl) | exact Or.inr (Or.inr rfl)) (hd : (x == ("__debug__" : Str)) = false := by decide)
    (hcd : (x == ("__classdict__" : Str)) = false := by decide) : PE X (.Name x pos) (tE X.K E (fVar i)) :=
  monoE (pe_var (i := i) hN hv hd hcd) fun σ H Q h => by
    obtain ⟨L, env, S, rep, re, h⟩ := h
    unfold fVar at h
    cases q : env[i]? with
    | none => rw [q] at h; exact h.elim
    | some o =>
      cases o with
      | none => rw [q] at h; exact h.elim
      | some d =>
        rw [q] at h
        obtain ⟨v, h1, h2⟩ := re.val i d q
        exact ⟨v, h1, EndV.val h rep h2⟩
theorem xConst {v : V} {d : D} (he : PE X e (tC v)) (h : ∀ L H, RD X.K L H v d) : PE X e (tE X.K E (fC d)) :=
  monoE he fun σ H Q ⟨L, env, S, rep, re, q⟩ => EndV.val q rep (h L H)
theorem xInt {i : Int} {j : Nat} : PE X (.Constant (.int i) j pos) (tE X.K E (fC (.int i))) := xConst pe_int fun _ _ => .int i
theorem xBl {i : Bool} {j : Nat} : PE X (.Constant (.bool i) j pos) (tE X.K E (fC (.bl i))) := xConst pe_bl fun _ _ => .bl i
theorem xNon {j : Nat} : PE X (.Constant .none j pos) (tE X.K E (fC .non)) := xConst pe_non fun _ _ => .non
theorem xStr {x y : Str} {j : Nat} (h : x = y) : PE X (.Constant (.str x) j pos) (tE X.K E (fC (.str y))) := by subst h; exact xConst pe_str fun _ _ => .str x
theorem xGlob {x : Str} {v : V} {u : Value} {d : D} (hg : Gl X x) (hm : X.mg x = some u) (r : RelV v u) (h : ∀ L H, RD X.K L H v d) (hd : (x == ("__debug__" : Str)) = false := by decide) : PE X (.Name x pos) (tE X.K E (fC d)) := xConst (pe_glob hg hm r hd) h

theorem bin_of {K : PySem.W.Frag} {r : R2} {o : Op2} (hf : OpF K E r o) {σ : St} {H : Hp} {Q : VK} (h : tE K E (fBin o fa fb) σ H Q) : tOp r (tE K E fa) (tE K E fb) σ H Q := by
  obtain ⟨L, env, S, rep, re, h⟩ := h
  refine ⟨L, env, S, rep, re, (End.bind h).imp fun x S1 L1 H1 e1 rep1 h1 v rv => ?_⟩
  refine ⟨L1, env, S1, rep1, re.mono e1, (End.bind h1).imp fun y S2 L2 H2 e2 rep2 h2 w rw => ?_⟩
  exact hf L2 H2 S2 _ _ _ _ _ rep2 (rv.mono e2) rw h2
theorem xOp {op : Operator} {r : R2} {o : Op2} (ho : OpR X (binaryOp op) r) (hf : OpF X.K E r o) (ha : PE X a (tE X.K E fa)) (hb : PE X b (tE X.K E fb)) : PE X (.BinOp a op b pos) (tE X.K E (fBin o fa fb)) :=
  monoE (pe_op ho ha hb) fun _ _ _ h => bin_of hf h
theorem xCmp {op : CmpOp} {r : R2} {o : Op2} (ho : OpR X (compareOp op) r) (hf : OpF X.K E r o) (hm : behindInMarks op b = false) (ha : PE X a (tE X.K E fa)) (hb : PE X b (tE X.K E fb)) : PE X (.Compare a [op] [b] pos) (tE X.K E (fBin o fa fb)) :=
  monoE (pe_cmpR ho ha hb hm) fun _ _ _ h => bin_of hf h
theorem test_of {K : PySem.W.Frag} {σ : St} {H : Hp} {Q : Bool → Hp → Prop} (h : tT K E (fTest fa) σ H Q) : tE K E fa σ H fun x H1 => ∃ c, x = .bl c ∧ Q c H1 := by
  obtain ⟨L, env, S, rep, re, h⟩ := h
  refine ⟨L, env, S, rep, re, (End.bind h).imp fun x S1 L1 H1 e1 rep1 h1 v rv => ?_⟩
  cases x with
  | bl c => cases rv; exact ⟨c, rfl, h1 L1 H1 (Ex.refl _ _) rep1⟩
  | _ => exact h1.elim
theorem xCmpT {op : CmpOp} {r : R2} {o : Op2} (ho : OpR X (compareOp op) r) (hf : OpF X.K E r o) (hm : behindInMarks op b = false) (ha : PE X a (tE X.K E fa)) (hb : PE X b (tE X.K E fb)) : PT X (.Compare a [op] [b] pos) (tT X.K E (fTest (fBin o fa fb))) :=
  monoT (pt_cmpR ho ha hb hm) fun _ _ _ h => bin_of hf (test_of h)
theorem xUn {op : UnaryOp} {r : V → Hp → VK → Prop} {o : Op1} (ho : UnR X (unaryOp op) r) (hf : UnF X.K E r o) (ha : PE X a (tE X.K E fa)) : PE X (.UnaryOp op a pos) (tE X.K E (fUn o fa)) :=
  monoE (pe_un ho ha) fun σ H Q h => by
    obtain ⟨L, env, S, rep, re, h⟩ := h
    exact ⟨L, env, S, rep, re, (End.bind h).imp fun x S1 L1 H1 e1 rep1 h1 v rv => hf L1 H1 S1 _ _ _ rep1 rv h1⟩
theorem xVal (he : PE X e (tE X.K E fa)) (hp : ∀ whole, isTrue e X.env whole = (do let v ← whole; standAt e.pos; holding [v] (truthy v)) := by intro _; rfl) : PT X e (tT X.K E (fTest fa)) :=
  monoT (pt_val he hp) fun _ _ _ h => test_of h
theorem xAnd1 (ha : PT X a (tT X.K E ft)) : PW X (.BoolOp .And [a] pos) (tT X.K E ft) := pw_and1 ha
theorem xOr1 (ha : PT X a (tT X.K E ft)) : PW X (.BoolOp .Or [a] pos) (tT X.K E ft) := pw_or1 ha
theorem xAnd (ha : PT X a (tT X.K E ft)) (hb : PW X (.BoolOp .And (b :: es) pos) (tT X.K E fu)) : PW X (.BoolOp .And (a :: b :: es) pos) (tT X.K E (fAnd ft fu)) :=
  monoW (pw_and ha hb) fun σ H Q h => by
    obtain ⟨L, env, S, rep, re, h⟩ := h
    refine ⟨L, env, S, rep, re, (End.bind h).imp fun x S1 L1 H1 e1 rep1 h1 => ?_⟩
    cases x with
    | true => exact iteT ⟨L1, env, S1, rep1, re.mono e1, h1⟩
    | false => exact iteF (h1 L1 H1 (Ex.refl _ _) rep1)
theorem xOr (ha : PT X a (tT X.K E ft)) (hb : PW X (.BoolOp .Or (b :: es) pos) (tT X.K E fu)) : PW X (.BoolOp .Or (a :: b :: es) pos) (tT X.K E (fOr ft fu)) :=
  monoW (pw_or ha hb) fun σ H Q h => by
    obtain ⟨L, env, S, rep, re, h⟩ := h
    refine ⟨L, env, S, rep, re, (End.bind h).imp fun x S1 L1 H1 e1 rep1 h1 => ?_⟩
    cases x with
    | true => exact iteT (h1 L1 H1 (Ex.refl _ _) rep1)
    | false => exact iteF ⟨L1, env, S1, rep1, re.mono e1, h1⟩
theorem xNot (ha : PT X a (tT X.K E ft)) : PT X (.UnaryOp .Not a pos) (tT X.K E (fNot ft)) :=
  monoT (pt_not ha) fun σ H Q h => by
    obtain ⟨L, env, S, rep, re, h⟩ := h
    exact ⟨L, env, S, rep, re, (End.bind h).imp fun x S1 L1 H1 e1 rep1 h1 => h1 L1 H1 (Ex.refl _ _) rep1⟩
theorem xOneV {op : BoolOp} (h : PE X a (tE X.K E fa)) : PE X (.BoolOp op [a] pos) (tE X.K E fa) := pe_one h
theorem xAndV (ha : PE X a (tE X.K E fa)) (hb : PE X (.BoolOp .And (b :: es) pos) (tE X.K E fb)) : PE X (.BoolOp .And (a :: b :: es) pos) (tE X.K E (fAndV fa fb)) :=
  monoE (pe_and ha hb) fun σ H Q h => by
    obtain ⟨L, env, S, rep, re, h⟩ := h
    refine ⟨L, env, S, rep, re, (End.bind h).imp fun x S1 L1 H1 e1 rep1 h1 v rv => ?_⟩
    cases x with
    | bl c =>
      cases rv
      refine ⟨c, rfl, ?_⟩
      cases c with
      | true => exact iteT ⟨L1, env, S1, rep1, re.mono e1, h1⟩
      | false => exact iteF (EndV.val (d := .bl false) h1 rep1 (.bl false))
    | _ => exact h1.elim
theorem xOrV (ha : PE X a (tE X.K E fa)) (hb : PE X (.BoolOp .Or (b :: es) pos) (tE X.K E fb)) : PE X (.BoolOp .Or (a :: b :: es) pos) (tE X.K E (fOrV fa fb)) :=
  monoE (pe_or ha hb) fun σ H Q h => by
    obtain ⟨L, env, S, rep, re, h⟩ := h
    refine ⟨L, env, S, rep, re, (End.bind h).imp fun x S1 L1 H1 e1 rep1 h1 v rv => ?_⟩
    cases x with
    | bl c =>
      cases rv
      refine ⟨c, rfl, ?_⟩
      cases c with
      | true => exact iteT (EndV.val (d := .bl true) h1 rep1 (.bl true))
      | false => exact iteF ⟨L1, env, S1, rep1, re.mono e1, h1⟩
    | _ => exact h1.elim
theorem xNotV (ha : PE X a (tE X.K E fa)) : PE X (.UnaryOp .Not a pos) (tE X.K E (fNotV fa)) :=
  monoE (pe_not ha) fun σ H Q h => by
    obtain ⟨L, env, S, rep, re, h⟩ := h
    refine ⟨L, env, S, rep, re, (End.bind h).imp fun x S1 L1 H1 e1 rep1 h1 v rv => ?_⟩
    cases x with
    | bl c =>
      cases rv
      exact ⟨c, rfl, EndV.val h1 rep1 (.bl _)⟩
    | _ => exact h1.elim
theorem xIfE (hc : PT X c (tT X.K E ft)) (ha : PE X a (tE X.K E fa)) (hb : PE X b (tE X.K E fb)) : PE X (.IfExp c a b pos) (tE X.K E (fIfE ft fa fb)) :=
  monoE (pe_ifExp hc ha hb) fun σ H Q h => by
    obtain ⟨L, env, S, rep, re, h⟩ := h
    refine ⟨L, env, S, rep, re, (End.bind h).imp fun x S1 L1 H1 e1 rep1 h1 => ?_⟩
    cases x with
    | true => exact iteT ⟨L1, env, S1, rep1, re.mono e1, h1⟩
    | false => exact iteF ⟨L1, env, S1, rep1, re.mono e1, h1⟩
theorem chain_of {K : PySem.W.Frag} {r r' : R2} {o o' : Op2} (hf : OpF K E r o) (hf' : OpF K E r' o') {σ : St} {H : Hp} {Q : VK} (h : tE K E (fChain o o' fa fb fc) σ H Q) :
    tChain r r' (tE K E fa) (tE K E fb) (tE K E fc) σ H Q := by
  obtain ⟨L, env, S, rep, re, h⟩ := h
  refine ⟨L, env, S, rep, re, (End.bind h).imp fun x S1 L1 H1 e1 rep1 h1 v rv => ?_⟩
  refine ⟨L1, env, S1, rep1, re.mono e1, (End.bind h1).imp fun y S2 L2 H2 e2 rep2 h2 w rw => ?_⟩
  refine hf L2 H2 S2 _ _ _ _ _ rep2 (rv.mono e2) rw ((End.bind h2).imp fun z S3 L3 H3 e3 rep3 h3 u ru => ?_)
  cases z with
  | bl k =>
    cases ru
    refine ⟨k, rfl, ?_⟩
    cases k with
    | true =>
      refine iteT ⟨L3, env, S3, rep3, re.mono ((e1.trans e2).trans e3), (End.bind h3).imp fun z S4 L4 H4 e4 rep4 h4 t rt => ?_⟩
      exact hf' L4 H4 S4 _ _ _ _ _ rep4 (rw.mono (e3.trans e4)) rt h4
    | false => exact iteF (EndV.val (d := .bl false) h3 rep3 (.bl false))
  | _ => exact h3.elim
theorem xChain {op op' : CmpOp} {r r' : R2} {o o' : Op2} (ho : OpR X (compareOp op) r) (ho' : OpR X (compareOp op') r') (hf : OpF X.K E r o) (hf' : OpF X.K E r' o')
    (ha : PE X a (tE X.K E fa)) (hb : PE X b (tE X.K E fb)) (hc : PE X c (tE X.K E fc)) (hm : lastMarks [op, op'] [b, c] = false := by rfl) : PE X (.Compare a [op, op'] [b, c] pos) (tE X.K E (fChain o o' fa fb fc)) :=
  monoE (pe_chain ho ho' ha hb hc hm) fun _ _ _ h => chain_of hf hf' h
theorem xChainT {op op' : CmpOp} {r r' : R2} {o o' : Op2} (ho : OpR X (compareOp op) r) (ho' : OpR X (compareOp op') r') (hf : OpF X.K E r o) (hf' : OpF X.K E r' o')
    (ha : PE X a (tE X.K E fa)) (hb : PE X b (tE X.K E fb)) (hc : PE X c (tE X.K E fc)) (hm : lastMarks [op, op'] [b, c] = false := by rfl) : PT X (.Compare a [op, op'] [b, c] pos) (tT X.K E (fTest (fChain o o' fa fb fc))) :=
  monoT (pt_chain ho ho' ha hb hc hm) fun _ _ _ h => chain_of hf hf' (test_of h)

/-! ### lists of expressions -/
theorem xNil : PA X [] (tA X.K E fNil) := monoA pa_nil fun σ H Q ⟨L, env, S, rep, re, h⟩ => h L H (Ex.refl _ _) rep [] .nil
theorem xCons (ha : PE X e (tE X.K E fa)) (hr : PA X es (tA X.K E fs)) (hs : starEach (e :: es) X.env = (false, eval e X.env) :: starEach es X.env := by rfl) : PA X (e :: es) (tA X.K E (fCons fa fs)) :=
  monoA (pa_cons ha hr hs) fun σ H Q h => by
    obtain ⟨L, env, S, rep, re, h⟩ := h
    refine ⟨L, env, S, rep, re, (End.bind h).imp fun x S1 L1 H1 e1 rep1 h1 v rv => ?_⟩
    refine ⟨L1, env, S1, rep1, re.mono e1, (End.bind h1).imp fun xs S2 L2 H2 e2 rep2 h2 vs rvs => ?_⟩
    exact h2 L2 H2 (Ex.refl _ _) rep2 _ (.cons (rv.mono e2) rvs)
theorem xTup {x1} (h : PA X es (tA X.K E fs)) : PE X (.Tuple es x1 pos) (tE X.K E (fTup fs)) :=
  monoE (pe_tup h) fun σ H Q h => by
    obtain ⟨L, env, S, rep, re, h⟩ := h
    refine ⟨L, env, S, rep, re, (End.bind h).imp fun xs S1 L1 H1 e1 rep1 h1 vs rvs => ?_⟩
    by_cases hl : xs.length ≤ 100000
    · rw [if_pos hl] at h1
      refine ⟨by rw [rvs.length]; exact sz5 hl, fun p hp => ?_⟩
      exact EndV.val (h1.later (Ex.new hp)) (rep1.new hp) (.tup upd_same (rvs.mono (Ex.new hp)))
    · rw [if_neg hl] at h1; exact h1.elim
theorem newList {K : PySem.W.Frag} {L : List Addr} {H : Hp} {S : Sto} {Q : VK} {vs : List V} {ds : List D} (h : EndV K E L H Q (.ok (.ref S.length) (S ++ [.lst ds]))) (rep : Rep K L H S) (r : RDs K L H vs ds) (p : Addr) (hp : H p = none) : Q (.ref p) (upd H p (.lst vs)) := by
  have ex := Ex.newc (L := L) (o := .lst vs) hp
  refine EndV.val (h.later ex) (rep.newc hp ⟨vs, upd_same, r.mono ex⟩) (.ref ?_)
  rw [← rep.len, List.getElem?_append_right (Nat.le_refl _)]
  simp
theorem xLst (h : PA X es (tA X.K E fs)) : PE X (.List es pos) (tE X.K E (fLst fs)) :=
  monoE (pe_lst h) fun σ H Q h => by
    obtain ⟨L, env, S, rep, re, h⟩ := h
    refine ⟨L, env, S, rep, re, (End.bind h).imp fun xs S1 L1 H1 e1 rep1 h1 vs rvs => ?_⟩
    by_cases hl : xs.length ≤ 100000
    · rw [if_pos hl] at h1
      exact ⟨by rw [rvs.length]; exact sz5 hl, fun p hp => newList h1 rep1 rvs p hp⟩
    · rw [if_neg hl] at h1; exact h1.elim
theorem app_of {K : PySem.W.Frag} {r : List V → Hp → VK → Prop} {o : OpN} (hf : CaF K E r o) {σ : St} {H : Hp} {Q : VK} (h : tE K E (fApp o fs) σ H Q) : tCB r (tA K E fs) σ H Q := by
  obtain ⟨L, env, S, rep, re, h⟩ := h
  exact ⟨L, env, S, rep, re, (End.bind h).imp fun xs S1 L1 H1 e1 rep1 h1 vs rvs => hf L1 H1 S1 _ _ _ rep1 rvs h1⟩
theorem xCB {x : Str} {id : String} {r : List V → Hp → VK → Prop} {o : OpN} {p : Pos} (hc : CallR X (.builtin id) r) (hf : CaF X.K E r o) (hg : Gl X x) (hm : X.mg x = none) (hv : bootBuiltins x = some (.builtin id)) (ha : PA X (e :: es) (tA X.K E fs)) (hn : x ≠ "__name__" := by decide) (hdb : (x == ("__debug__" : Str)) = false := by decide)
    (he : starEach (e :: es) X.env = (false, eval e X.env) :: starEach es X.env := by rfl) (hpl : (backTo pos (starEach es X.env)).any (·.1) = false := by rfl) : PE X (.Call (.Name x p) (e :: es) [] pos) (tE X.K E (fApp o fs)) :=
  monoE (pe_callB hc hg hm hv ha hn hdb he hpl) fun _ _ _ h => app_of hf h
theorem xCT {x : Str} {T : String} {r : List V → Hp → VK → Prop} {o : OpN} {p : Pos} (hc : CallR X (.type T) r) (hf : CaF X.K E r o) (hg : Gl X x) (hm : X.mg x = none) (hv : bootBuiltins x = some (.type T)) (ha : PA X (e :: es) (tA X.K E fs)) (hn : x ≠ "__name__" := by decide) (hdb : (x == ("__debug__" : Str)) = false := by decide)
    (he : starEach (e :: es) X.env = (false, eval e X.env) :: starEach es X.env := by rfl) (hpl : (backTo pos (starEach es X.env)).any (·.1) = false := by rfl) : PE X (.Call (.Name x p) (e :: es) [] pos) (tE X.K E (fApp o fs)) :=
  monoE (pe_callTy hc hg hm hv ha hn hdb he hpl) fun _ _ _ h => app_of hf h
end

/-! ### statements -/
def fSkip : SF := fun env S => .ok (.nx env) S
def fSeq (f g : SF) : SF := fun env S => (f env S).bind fun fl S1 => match fl with | .nx e => g e S1 | .rt d => .ok (.rt d) S1 | .bk e => .ok (.bk e) S1 | .ct e => .ok (.ct e) S1
def fIf (c : BF) (f g : SF) : SF := fun env S => (c env S).bind fun b S1 => if b = true then f env S1 else g env S1
def fRet (f : EF) : SF := fun env S => (f env S).bind fun d S1 => .ok (.rt d) S1
def fRetN : SF := fun _ S => .ok (.rt .non) S
def fDrop (f : EF) : SF := fun env S => (f env S).bind fun _ S1 => .ok (.nx env) S1
abbrev GF := D → Lc → Sto → R Lc
def gN (i : Nat) : GF := fun d env S => .ok (env.set i (some d)) S
def fAsg (f : EF) (g : GF) : SF := fun env S => (f env S).bind fun d S1 => (g d env S1).bind fun env1 S2 => .ok (.nx env1) S2
def fBrk : SF := fun env S => .ok (.bk env) S
def fCnt : SF := fun env S => .ok (.ct env) S
abbrev GsF := List D → Lc → Sto → R Lc
def gNil' : GsF := fun ds env S => match ds with | [] => .ok env S | _ => .bad
def gCons' (g : GF) (gs : GsF) : GsF := fun ds env S => match ds with | d :: r => (g d env S).bind fun env1 S1 => gs r env1 S1 | [] => .bad
def gTup' (n : Nat) (gs : GsF) : GF := fun d env S => match d with | .tup ds => if ds.length = n then gs ds env S else .bad | _ => .bad
/-- a, b = a list of that length -/
def tG (K : PySem.W.Frag) (E : XK) (g : GF) : TG := fun v σ H Q => ∃ L env S d, Rep K L H S ∧ RE K L H σ env ∧ RD K L H v d ∧ End K E L H (fun env1 _ L1 H1 => ∀ σ1, RE K L1 H1 σ1 env1 → Q σ1 H1) (g d env S)
def tGs (K : PySem.W.Frag) (E : XK) (g : GsF) : TGs := fun vs σ H Q => ∃ L env S ds, Rep K L H S ∧ RE K L H σ env ∧ RDs K L H vs ds ∧ End K E L H (fun env1 _ L1 H1 => ∀ σ1, RE K L1 H1 σ1 env1 → Q σ1 H1) (g ds env S)

section
variable {X : Cx} {E : XK} {a b c e : Expr} {es : List Expr} {pos : Pos} {fa fb fc : EF} {fs : AF} {ft fu : BF} {st : Stmt} {rest : List Stmt} {f g : SF}
theorem xSkip : PSs X [] (tS X.K E fSkip) := monoSs pss_nil fun D σ H ⟨L, env, S, rep, re, h⟩ => h L H (Ex.refl _ _) rep σ re
theorem xPass : PS X (.Pass pos) (tS X.K E fSkip) := monoS ps_pass fun D σ H ⟨L, env, S, rep, re, h⟩ => h L H (Ex.refl _ _) rep σ re
theorem xBrk : PS X (.Break pos) (tS X.K E fBrk) := monoS ps_break fun D σ H ⟨L, env, S, rep, re, h⟩ => h L H (Ex.refl _ _) rep σ re
theorem xCnt : PS X (.Continue pos) (tS X.K E fCnt) := monoS ps_continue fun D σ H ⟨L, env, S, rep, re, h⟩ => h L H (Ex.refl _ _) rep σ re
theorem xDoc {x j} {pos' : Pos} : PS X (.Expr (.Constant (.str x) j pos) pos') (tS X.K E fSkip) := monoS ps_doc fun D σ H ⟨L, env, S, rep, re, h⟩ => h L H (Ex.refl _ _) rep σ re
theorem xOne (h : PS X st (tS X.K E f)) : PSs X [st] (tS X.K E f) := pss_one h
theorem xSeq (h1 : PS X st (tS X.K E f)) (h2 : PSs X rest (tS X.K E g)) : PSs X (st :: rest) (tS X.K E (fSeq f g)) :=
  monoSs (pss_cons h1 h2) fun D σ H h => by
    obtain ⟨L, env, S, rep, re, h⟩ := h
    refine ⟨L, env, S, rep, re, (End.bind h).imp fun fl S1 L1 H1 e1 rep1 h1 => ?_⟩
    cases fl with
    | nx env1 => exact fun σ1 r1 => ⟨L1, env1, S1, rep1, r1, h1⟩
    | rt d => exact h1 L1 H1 (Ex.refl _ _) rep1
    | bk d => exact h1 L1 H1 (Ex.refl _ _) rep1
    | ct d => exact h1 L1 H1 (Ex.refl _ _) rep1
theorem xIf {sa sb : List Stmt} (hc : PT X c (tT X.K E ft)) (ha : PSs X sa (tS X.K E f)) (hb : PSs X sb (tS X.K E g)) : PS X (.If c sa sb pos) (tS X.K E (fIf ft f g)) :=
  monoS (ps_if hc ha hb) fun D σ H h => by
    obtain ⟨L, env, S, rep, re, h⟩ := h
    refine ⟨L, env, S, rep, re, (End.bind h).imp fun b S1 L1 H1 e1 rep1 h1 => ?_⟩
    cases b with
    | true => exact iteT ⟨L1, env, S1, rep1, re.mono e1, h1⟩
    | false => exact iteF ⟨L1, env, S1, rep1, re.mono e1, h1⟩
theorem xRet (he : PE X e (tE X.K E fa)) : PS X (.Return (some e) pos) (tS X.K E (fRet fa)) :=
  monoS (ps_ret he) fun D σ H h => by
    obtain ⟨L, env, S, rep, re, h⟩ := h
    exact ⟨L, env, S, rep, re, (End.bind h).imp fun d S1 L1 H1 e1 rep1 h1 v rv => h1 L1 H1 (Ex.refl _ _) rep1 v rv⟩
theorem xRetN : PS X (.Return none pos) (tS X.K E fRetN) := monoS ps_retN fun D σ H ⟨L, env, S, rep, re, h⟩ => h L H (Ex.refl _ _) rep .non .non
theorem xExpr (he : PE X e (tE X.K E fa)) (hs : swapsWith e none pos.line X.env = pure false := by rfl) : PS X (.Expr e pos) (tS X.K E (fDrop fa)) :=
  monoS (ps_expr he hs) fun D σ H h => by
    obtain ⟨L, env, S, rep, re, h⟩ := h
    exact ⟨L, env, S, rep, re, (End.bind h).imp fun d S1 L1 H1 e1 rep1 h1 v rv => h1 L1 H1 (Ex.refl _ _) rep1 σ (re.mono e1)⟩
theorem xgN {i : Nat} {x : Str} (hN : X.N.Nodup) (hi : X.N[i]? = some x) (hx : Loc X.env.scope x) (hf : X.fn x = true ∨ X.env.scope.names.lookup x = some .local := by first | exact .inl rfl | exact .inr rfl | assumption) : PG X (.Name x pos) (tG X.K E (gN i)) := by
  have h := pg_name (pos := pos) hN hi hx hf
  refine ⟨fun pins s σ H v u Q I r q => h.run pins s σ H v u Q I r ?_⟩
  obtain ⟨L, env, S, d, rep, re, rd, q⟩ := q
  exact q L H (Ex.refl _ _) rep _ (re.set rd)
theorem xAsg {tg : Expr} {gf : GF} (he : PE X e (tE X.K E fa)) (hg : PG X tg (tG X.K E gf)) (hs : swapsWithSole [tg] e pos.line X.env = pure false := by rfl) (hw : swappedStores [tg] e X.env = pure none := by rfl) (h1 : (assignEach [tg] X.env).map (·.2) = [assign tg X.env] := by rfl) : PS X (.Assign [tg] e pos) (tS X.K E (fAsg fa gf)) :=
  monoS (ps_asg he hg hs hw h1) fun D σ H h => by
    obtain ⟨L, env, S, rep, re, h⟩ := h
    refine ⟨L, env, S, rep, re, (End.bind h).imp fun d S1 L1 H1 e1 rep1 h1 v rv => ?_⟩
    exact ⟨L1, env, S1, d, rep1, re.mono e1, rv, (End.bind h1).imp fun env1 S2 L2 H2 e2 rep2 h2 σ1 r1 => h2 L2 H2 (Ex.refl _ _) rep2 σ1 r1⟩
theorem xSet {i : Nat} {x : Str} {pos' : Pos} (hN : X.N.Nodup) (hi : X.N[i]? = some x) (hx : Loc X.env.scope x) (he : PE X e (tE X.K E fa)) (hs : swapsWith e (some (.Name x pos')) pos.line X.env = pure false := by rfl) (hf : X.fn x = true ∨ X.env.scope.names.lookup x = some .local := by first | exact .inl rfl | exact .inr rfl | assumption) :
    PS X (.Assign [.Name x pos'] e pos) (tS X.K E (fAsg fa (gN i))) :=
  monoS (ps_set hN hi hx he hs hf) fun D σ H h => by
    obtain ⟨L, env, S, rep, re, h⟩ := h
    refine ⟨L, env, S, rep, re, (End.bind h).imp fun d S1 L1 H1 e1 rep1 h1 v rv => ?_⟩
    exact h1 L1 H1 (Ex.refl _ _) rep1 _ ((re.mono e1).set rv)
theorem xgNil : PGs X [] (tGs X.K E gNil') := by
  refine ⟨fun pins s σ H vs us Q I r q => pgs_nil.run pins s σ H vs us Q I r ?_⟩
  obtain ⟨L, env, S, ds, rep, re, rd, q⟩ := q
  cases rd with
  | nil => exact ⟨rfl, q L H (Ex.refl _ _) rep σ re⟩
  | cons _ _ => exact q.elim
theorem xgCons {g : GF} {gs : GsF} (h1 : PG X e (tG X.K E g)) (h2 : PGs X es (tGs X.K E gs)) (hs : (assignEach (e :: es) X.env).map (·.2) = assign e X.env :: (assignEach es X.env).map (·.2) := by rfl) : PGs X (e :: es) (tGs X.K E (gCons' g gs)) := by
  refine ⟨fun pins s σ H vs us Q I r q => (pgs_cons h1 h2 hs).run pins s σ H vs us Q I r ?_⟩
  obtain ⟨L, env, S, ds, rep, re, rd, q⟩ := q
  cases rd with
  | nil => exact q.elim
  | cons r1 r2 =>
    refine ⟨_, _, rfl, L, env, S, _, rep, re, r1, (End.bind q).imp fun env1 S1 L1 H1 e1 rep1 h1 σ1 rσ => ?_⟩
    exact ⟨L1, env1, S1, _, rep1, rσ, r2.mono e1, h1⟩
theorem xgTup {k n : Nat} {gs : GsF} (hc : X.calm = true) (h : PGs X es (tGs X.K E gs)) (hn : (assignEach es X.env).length = n := by rfl) (hst : (assignEach es X.env).findIdx? (·.1) = none := by rfl) : PG X (.Tuple es k pos) (tG X.K E (gTup' n gs)) := by
  refine ⟨fun pins s σ H v u Q I r q => (pg_tup hc h hn hst).run pins s σ H v u Q I r ?_⟩
  obtain ⟨L, env, S, d, rep, re, rd, q⟩ := q
  cases rd with
  | @tup a vs ds hs rs =>
    have q : End X.K E L H (fun env1 _ L1 H1 => ∀ σ1, RE X.K L1 H1 σ1 env1 → Q σ1 H1) (if ds.length = n then gs ds env S else .bad) := q
    by_cases hl : ds.length = n
    · rw [if_pos hl] at q
      exact ⟨a, vs, rfl, .of hs, by rw [rs.length]; exact hl, L, env, S, ds, rep, re, rs, q⟩
    · rw [if_neg hl] at q; exact q.elim
  | _ => exact q.elim
end
end RF

namespace RF
open PySem L2

/-- what a loop goes over: fixed items, or the list at a place as it stands at each turn -/
inductive It' where
  | fix (xs : List D) | live (n : Nat) (xs : List D)
def ItOk (K : PySem.W.Frag) (L : List Addr) (H : Hp) (J : It) : It' → Prop
  | .fix xs => ∀ (i : Nat) L1 H1 S1, Ex L H L1 H1 → Rep K L1 H1 S1 → (∀ d, xs[i]? = some d → J.go i H1 ∧ ∀ x H2, J.yld i H1 x H2 → Ex L1 H1 L1 H2 ∧ Rep K L1 H2 S1 ∧ RD K L1 H2 x d) ∧ (xs.length ≤ i → J.stop i H1)
  | .live n _ => ∀ (i : Nat) L1 H1 S1 ys, Ex L H L1 H1 → Rep K L1 H1 S1 → S1[n]? = some (.lst ys) → (∀ d, ys[i]? = some d → J.go i H1 ∧ ∀ x H2, J.yld i H1 x H2 → Ex L1 H1 L1 H2 ∧ Rep K L1 H2 S1 ∧ RD K L1 H2 x d) ∧ (ys.length ≤ i → J.stop i H1)
abbrev IF := Lc → Sto → R It'
def tI (K : PySem.W.Frag) (E : XK) (f : IF) : TI := fun σ H R => ∃ L env S, Rep K L H S ∧ RE K L H σ env ∧ End K E L H (fun it _ L1 H1 => ∀ J, ItOk K L1 H1 J it → R J H1) (f env S)

def fIter (fa : EF) : IF := fun env S => (fa env S).bind fun d S1 => match d with
  | .rl xs => .ok (.fix xs) S1
  | .tup xs => .ok (.fix xs) S1
  | .kt xs => .ok (.fix xs) S1
  | .ref n => match S1[n]? with
    | some (.lst xs) => .ok (.live n xs) S1
    | _ => .bad
  | _ => .bad
def rngD (lo : Int) (n : Nat) : List D := (List.range n).map fun k => .int (lo + (k : Nat))
def fRng1 (fs : AF) : IF := fun env S => (fs env S).bind fun ds S1 => match ds with
  | [.int j] => if -(2 ^ 62) ≤ j ∧ j < 2 ^ 62 then .ok (.fix (rngD 0 j.toNat)) S1 else .bad
  | _ => .bad
def fRng2 (fs : AF) : IF := fun env S => (fs env S).bind fun ds S1 => match ds with
  | [.int i, .int j] => if -(2 ^ 62) ≤ i ∧ i < 2 ^ 62 ∧ -(2 ^ 62) ≤ j ∧ j < 2 ^ 62 then .ok (.fix (rngD i (j - i).toNat)) S1 else .bad
  | _ => .bad
def loopX (g : GF) (body : SF) : List D → Lc → Sto → R Fl
  | [], env, S => .ok (.nx env) S
  | d :: xs, env, S => (g d env S).bind fun env1 S1 => (body env1 S1).bind fun fl S2 => match fl with
    | .nx e => loopX g body xs e S2
    | .ct e => loopX g body xs e S2
    | .bk e => .ok (.nx e) S2
    | .rt d => .ok (.rt d) S2
def loopL (n : Nat) (g : GF) (body : SF) : List D → Nat → Lc → Sto → R Fl
  | [], i, env, S => match S[n]? with
    | some (.lst ys) => if ys.length ≤ i then .ok (.nx env) S else .bad
    | _ => .bad
  | _ :: xs, i, env, S => match S[n]? with
    | some (.lst ys) => match ys[i]? with
      | none => .ok (.nx env) S
      | some d => (g d env S).bind fun env1 S1 => (body env1 S1).bind fun fl S2 => match fl with
        | .nx e => loopL n g body xs (i + 1) e S2
        | .ct e => loopL n g body xs (i + 1) e S2
        | .bk e => .ok (.nx e) S2
        | .rt d => .ok (.rt d) S2
    | _ => .bad
def fFor (fi : IF) (g : GF) (body : SF) : SF := fun env S => (fi env S).bind fun it S1 => match it with
  | .fix xs => loopX g body xs env S1
  | .live n xs => loopL n g body xs 0 env S1

section
variable {X : Cx} {E : XK} {tg l iter a b : Expr} {fa fb : EF} {fs : AF} {pos : Pos}
theorem xIter (h : PE X l (tE X.K E fa)) : PI X tg l (tI X.K E (fIter fa)) := by
  have h1 := pi_list (tg := tg) h
  have h2 := pi_tup (tg := tg) h
  refine ⟨fun pins s σ H R I q => ?_⟩
  obtain ⟨L, env, S, rep, re, q⟩ := q
  have key : iList X.K (tE X.K E fa) σ H R ∨ iTup X.K (tE X.K E fa) σ H R := by
    have q' := End.bind q
    cases e : fa env S with
    | bad => rw [e] at q'; exact q'.elim
    | ex c S1 =>
      rw [e] at q'
      refine .inl ⟨L, env, S, rep, re, ?_⟩
      rw [e]; exact q'
    | ok d S1 =>
      rw [e] at q'
      have step : ∀ {Q : VK}, (∀ L1 H1, Ex L H L1 H1 → Rep X.K L1 H1 S1 → ∀ v, RD X.K L1 H1 v d → Q v H1) → tE X.K E fa σ H Q := fun k => ⟨L, env, S, rep, re, by rw [e]; exact k⟩
      cases d with
      | tup xs =>
        refine .inr (step fun L1 H1 e1 rep1 v rv => ?_)
        have q1 := (q' L1 H1 e1 rep1) L1 H1 (Ex.refl _ _) rep1
        cases rv with
        | @tup a vs _ hs rs =>
          refine ⟨a, rfl, ⟨vs, .of hs⟩, q1 _ fun i L2 H2 S2 e2 rep2 => ?_⟩
          have t2 : SqT X.K H2 a vs := .of (e2.tp _ _ hs)
          have r2 := rs.mono e2
          refine ⟨fun d hd => ?_, fun hl => ⟨vs, t2, by rw [rs.length]; exact hl⟩⟩
          obtain ⟨x, hx, rx⟩ := r2.get hd
          refine ⟨⟨vs, x, t2, hx⟩, fun y H3 hy => ?_⟩
          obtain ⟨rfl, hy⟩ := hy
          have := hy vs t2
          rw [hx] at this; cases this
          exact ⟨Ex.refl _ _, rep2, rx⟩
      | kt xs =>
        refine .inr (step fun L1 H1 e1 rep1 v rv => ?_)
        have q1 := (q' L1 H1 e1 rep1) L1 H1 (Ex.refl _ _) rep1
        cases rv with
        | @kt a vs _ hs rs =>
          refine ⟨a, rfl, ⟨vs, hs _⟩, q1 _ fun i L2 H2 S2 e2 rep2 => ?_⟩
          have t2 : SqT X.K H2 a vs := hs _
          have r2 := rs.mono e2
          refine ⟨fun d hd => ?_, fun hl => ⟨vs, t2, by rw [rs.length]; exact hl⟩⟩
          obtain ⟨x, hx, rx⟩ := r2.get hd
          refine ⟨⟨vs, x, t2, hx⟩, fun y H3 hy => ?_⟩
          obtain ⟨rfl, hy⟩ := hy
          have := hy vs t2
          rw [hx] at this; cases this
          exact ⟨Ex.refl _ _, rep2, rx⟩
      | rl xs =>
        refine .inl (step fun L1 H1 e1 rep1 v rv => ?_)
        have q1 := (q' L1 H1 e1 rep1) L1 H1 (Ex.refl _ _) rep1
        cases rv with
        | @rl a vs _ hs rs =>
          refine ⟨a, rfl, ⟨vs, hs _ fun _ _ _ z => z⟩, q1 _ fun i L2 H2 S2 e2 rep2 => ?_⟩
          have t2 : SqL X.K H2 a vs := hs _ e2.fz
          have r2 := rs.mono e2
          refine ⟨fun d hd => ?_, fun hl => ⟨vs, t2, by rw [rs.length]; exact hl⟩⟩
          obtain ⟨x, hx, rx⟩ := r2.get hd
          refine ⟨⟨vs, x, t2, hx⟩, fun y H3 hy => ?_⟩
          obtain ⟨rfl, hy⟩ := hy
          have := hy vs t2
          rw [hx] at this; cases this
          exact ⟨Ex.refl _ _, rep2, rx⟩
      | ref n =>
        refine .inl (step fun L1 H1 e1 rep1 v rv => ?_)
        have q0 := q' L1 H1 e1 rep1
        cases rv with
        | @ref a _ ha =>
          obtain ⟨c, hc, rc⟩ := rep1.adr ha
          simp only [hc] at q0
          cases c with
          | lst xs =>
            have q1 := q0 L1 H1 (Ex.refl _ _) rep1
            obtain ⟨vs, hv, rvs⟩ := rc
            refine ⟨a, rfl, ⟨vs, .of hv⟩, q1 _ fun i L2 H2 S2 ys e2 rep2 hy => ?_⟩
            obtain ⟨a', ha', vs2, hv2, rvs2⟩ := rep2.at hy
            rw [e2.px _ _ ha] at ha'; cases ha'
            refine ⟨fun d hd => ?_, fun hl => ⟨vs2, .of hv2, by rw [rvs2.length]; exact hl⟩⟩
            obtain ⟨x, hx, rx⟩ := rvs2.get hd
            refine ⟨⟨vs2, x, .of hv2, hx⟩, fun y H3 hy => ?_⟩
            obtain ⟨rfl, hy⟩ := hy
            have := hy vs2 (.of hv2)
            rw [hx] at this; cases this
            exact ⟨Ex.refl _ _, rep2, rx⟩
          | _ => exact q0.elim
      | _ => exact .inl (step fun L1 H1 e1 rep1 v rv => False.elim (q' L1 H1 e1 rep1))
  rcases key with k | k
  · exact h1.run pins s σ H R I k
  · exact h2.run pins s σ H R I k
theorem rngD_get {lo : Int} {n i : Nat} {d : D} (h : (rngD lo n)[i]? = some d) : i < n ∧ d = .int (lo + (i : Nat)) := by
  unfold rngD at h
  rw [List.getElem?_map] at h
  by_cases hi : i < n
  · rw [List.getElem?_eq_getElem (by rw [List.length_range]; exact hi)] at h
    simp at h
    exact ⟨hi, h.symm⟩
  · rw [List.getElem?_eq_none (by rw [List.length_range]; omega)] at h
    simp at h
theorem rngD_len {lo : Int} {n : Nat} : (rngD lo n).length = n := by unfold rngD; rw [List.length_map, List.length_range]
theorem itr_ok {K : PySem.W.Frag} {L : List Addr} {H : Hp} (lo : Int) (n : Nat) : ItOk K L H (Itr lo n) (.fix (rngD lo n)) := fun i L1 H1 S1 e1 rep1 => by
  refine ⟨fun d hd => ?_, fun hl => by rw [rngD_len] at hl; exact hl⟩
  obtain ⟨h1, rfl⟩ := rngD_get hd
  refine ⟨h1, fun x H2 y => ?_⟩
  obtain ⟨rfl, rfl⟩ := y
  exact ⟨Ex.refl _ _, rep1, .int _⟩
theorem xRng1 {p : Pos} (hg : Gl X "range") (hm : X.mg "range" = none) (ha : PA X [a] (tA X.K E fs)) (hs : starEach [a] X.env = [(false, eval a X.env)] := by rfl) : PI X tg (.Call (.Name "range" p) [a] [] pos) (tI X.K E (fRng1 fs)) := by
  refine ⟨fun pins s σ H R I q => (pi_range1 hg hm ha hs).run pins s σ H R I ?_⟩
  obtain ⟨L, env, S, rep, re, q⟩ := q
  refine ⟨L, env, S, rep, re, (End.bind q).imp fun ds S1 L1 H1 e1 rep1 h1 vs rvs => ?_⟩
  cases rvs with
  | nil => exact h1.elim
  | cons r1 r2 =>
    cases r1 with
    | int j =>
      cases r2 with
      | cons _ _ => exact h1.elim
      | nil =>
        have h1 : End X.K E L1 H1 (fun it _ L1 H1 => ∀ J, ItOk X.K L1 H1 J it → R J H1) (if -(2 ^ 62) ≤ j ∧ j < 2 ^ 62 then .ok (.fix (rngD 0 j.toNat)) S1 else .bad) := h1
        by_cases hj : -(2 ^ 62) ≤ j ∧ j < 2 ^ 62
        · rw [if_pos hj] at h1
          exact ⟨j, rfl, hj.1, hj.2, h1 L1 H1 (Ex.refl _ _) rep1 _ (itr_ok 0 _)⟩
        · rw [if_neg hj] at h1; exact h1.elim
    | _ => exact h1.elim
theorem xRng2 {p : Pos} (hg : Gl X "range") (hm : X.mg "range" = none) (ha : PA X [a, b] (tA X.K E fs)) (hs : starEach [a, b] X.env = [(false, eval a X.env), (false, eval b X.env)] := by rfl) (hs2 : starEach [b] X.env = [(false, eval b X.env)] := by rfl) : PI X tg (.Call (.Name "range" p) [a, b] [] pos) (tI X.K E (fRng2 fs)) := by
  refine ⟨fun pins s σ H R I q => (pi_range2 hg hm ha hs hs2).run pins s σ H R I ?_⟩
  obtain ⟨L, env, S, rep, re, q⟩ := q
  refine ⟨L, env, S, rep, re, (End.bind q).imp fun ds S1 L1 H1 e1 rep1 h1 vs rvs => ?_⟩
  cases rvs with
  | nil => exact h1.elim
  | cons r1 r2 =>
    cases r1 with
    | int i =>
      cases r2 with
      | nil => exact h1.elim
      | cons r2 r3 =>
        cases r2 with
        | int j =>
          cases r3 with
          | cons _ _ => exact h1.elim
          | nil =>
            have h1 : End X.K E L1 H1 (fun it _ L1 H1 => ∀ J, ItOk X.K L1 H1 J it → R J H1) (if -(2 ^ 62) ≤ i ∧ i < 2 ^ 62 ∧ -(2 ^ 62) ≤ j ∧ j < 2 ^ 62 then .ok (.fix (rngD i (j - i).toNat)) S1 else .bad) := h1
            by_cases hj : -(2 ^ 62) ≤ i ∧ i < 2 ^ 62 ∧ -(2 ^ 62) ≤ j ∧ j < 2 ^ 62
            · rw [if_pos hj] at h1
              exact ⟨i, j, rfl, hj, h1 L1 H1 (Ex.refl _ _) rep1 _ (itr_ok i _)⟩
            · rw [if_neg hj] at h1; exact h1.elim
        | _ => exact h1.elim
    | _ => exact h1.elim
/-- behind a turn -/
theorem turn_of {K : PySem.W.Frag} {D : Ends} {L : List Addr} {H : Hp} {nxt : Lc → Sto → R Fl} {N : St → Hp → Prop} {fl : Fl} {S : Sto} (rep : Rep K L H S) (hN : ∀ env σ, RE K L H σ env → End K E L H (fun fl _ L1 H1 => FlQ K D L1 H1 fl) (nxt env S) → N σ H)
    (h : End K E L H (fun fl _ L1 H1 => FlQ K D L1 H1 fl) (match fl with
      | .nx e => nxt e S
      | .ct e => nxt e S
      | .bk e => .ok (.nx e) S
      | .rt d => .ok (.rt d) S)) : FlQ K { D with nx := N, ct := N, bk := D.nx } L H fl := by
  cases fl with
  | nx e => exact fun σ r => hN e σ r h
  | ct e => exact fun σ r => hN e σ r h
  | bk e => exact fun σ r => h L H (Ex.refl _ _) rep σ r
  | rt d => exact fun v r => h L H (Ex.refl _ _) rep v r
theorem xFor {body : List Stmt} {fi : IF} {g : GF} {fb : SF} (hp : PassesOwn (model X.prog X.w) X.A X.env X.xe) (hc : X.calm = true) (hi : PI X tg iter (tI X.K E fi)) (hg : PG X tg (tG X.K E g)) (hb : PSs X body (tS X.K E fb))
    (hs : ∀ x, foldedSetIterable iter X.env x = pure x := by intro _; rfl) : PS X (.For tg iter body [] pos) (tS X.K E (fFor fi g fb)) :=
  monoS (ps_for hp hc hi hg hb hs) fun D σ H h => by
    obtain ⟨L, env, S, rep, re, h⟩ := h
    refine ⟨L, env, S, rep, re, (End.bind h).imp fun it S1 L1 H1 e1 rep1 h1 J hJ => ?_⟩
    cases it with
    | fix xs =>
      refine ⟨fun i m σ H => m = xs.length - i ∧ i ≤ xs.length ∧ ∃ L2 env S, Ex L1 H1 L2 H ∧ Rep X.K L2 H S ∧ RE X.K L2 H σ env ∧ End X.K E L2 H (fun fl _ L1 H1 => FlQ X.K D L1 H1 fl) (loopX g fb (xs.drop i) env S),
        ⟨xs.length, by simp, Nat.zero_le _, L1, env, S1, Ex.refl _ _, rep1, re.mono e1, h1⟩, ?_⟩
      rintro i m σ2 H2 ⟨rfl, hi, L2, env2, S2, e2, rep2, re2, h2⟩
      have ok := hJ i L2 H2 S2 e2 rep2
      by_cases hlt : i < xs.length
      · have hd : xs[i]? = some xs[i] := List.getElem?_eq_getElem hlt
        obtain ⟨hgo, hy⟩ := ok.1 _ hd
        rw [List.drop_eq_getElem_cons hlt] at h2
        refine .inr ⟨hgo, fun σ3 H3 => ∃ L2 env S, Ex L1 H1 L2 H3 ∧ Rep X.K L2 H3 S ∧ RE X.K L2 H3 σ3 env ∧ End X.K E L2 H3 (fun fl _ L1 H1 => FlQ X.K D L1 H1 fl) (loopX g fb (xs.drop (i + 1)) env S),
          fun σ3 H3 q => ⟨_, by omega, rfl, hlt, q⟩, fun x H3 y => ?_⟩
        obtain ⟨e3, rep3, rx⟩ := hy x H3 y
        refine ⟨L2, env2, S2, _, rep3, re2.mono e3, rx, (End.bind (h2.later e3)).imp fun env4 S4 L4 H4 e4 rep4 h4 σ4 r4 => ?_⟩
        refine ⟨L4, env4, S4, rep4, r4, (End.bind h4).imp fun fl S5 L5 H5 e5 rep5 h5 => ?_⟩
        exact turn_of (nxt := fun e S => loopX g fb (xs.drop (i + 1)) e S) rep5 (fun env6 σ6 r6 h6 => ⟨L5, env6, S5, ((e2.trans e3).trans e4).trans e5, rep5, r6, h6⟩) h5
      · have e : i = xs.length := by omega
        refine .inl ⟨ok.2 (by omega), ?_⟩
        rw [List.drop_eq_nil_of_le (by omega)] at h2
        exact h2 L2 H2 (Ex.refl _ _) rep2 σ2 re2
    | live n xs =>
      refine ⟨fun i m σ H => ∃ rest L2 env S, m = List.length rest ∧ Ex L1 H1 L2 H ∧ Rep X.K L2 H S ∧ RE X.K L2 H σ env ∧ End X.K E L2 H (fun fl _ L1 H1 => FlQ X.K D L1 H1 fl) (loopL n g fb rest i env S),
        ⟨xs.length, xs, L1, env, S1, rfl, Ex.refl _ _, rep1, re.mono e1, h1⟩, ?_⟩
      rintro i m σ2 H2 ⟨rest, L2, env2, S2, rfl, e2, rep2, re2, h2⟩
      have fin : ∀ ys, S2[n]? = some (.lst ys) → ys.length ≤ i → End X.K E L2 H2 (fun fl _ L1 H1 => FlQ X.K D L1 H1 fl) (.ok (.nx env2) S2) → (J.stop i H2 ∧ D.nx σ2 H2) := fun ys q hl h =>
        ⟨(hJ i L2 H2 S2 ys e2 rep2 q).2 hl, h L2 H2 (Ex.refl _ _) rep2 σ2 re2⟩
      cases rest with
      | nil =>
        unfold loopL at h2
        cases q : S2[n]? with
        | none => rw [q] at h2; exact h2.elim
        | some c =>
          cases c with
          | lst ys =>
            rw [q] at h2
            simp only at h2
            by_cases hl : ys.length ≤ i
            · rw [if_pos hl] at h2
              exact .inl (fin ys q hl h2)
            · rw [if_neg hl] at h2; exact h2.elim
          | _ => rw [q] at h2; exact h2.elim
      | cons r0 rest =>
        unfold loopL at h2
        cases q : S2[n]? with
        | none => rw [q] at h2; exact h2.elim
        | some c =>
          cases c with
          | lst ys =>
            rw [q] at h2
            simp only at h2
            cases hd : ys[i]? with
            | none =>
              rw [hd] at h2
              exact .inl (fin ys q (List.getElem?_eq_none_iff.mp hd) h2)
            | some d =>
              rw [hd] at h2
              simp only at h2
              obtain ⟨hgo, hy⟩ := (hJ i L2 H2 S2 ys e2 rep2 q).1 _ hd
              refine .inr ⟨hgo, fun σ3 H3 => ∃ L2 env S, Ex L1 H1 L2 H3 ∧ Rep X.K L2 H3 S ∧ RE X.K L2 H3 σ3 env ∧ End X.K E L2 H3 (fun fl _ L1 H1 => FlQ X.K D L1 H1 fl) (loopL n g fb rest (i + 1) env S),
                fun σ3 H3 ⟨L5, env5, S5, q1, q2, q3, q4⟩ => ⟨_, by simp, rest, L5, env5, S5, rfl, q1, q2, q3, q4⟩, fun x H3 y => ?_⟩
              obtain ⟨e3, rep3, rx⟩ := hy x H3 y
              refine ⟨L2, env2, S2, _, rep3, re2.mono e3, rx, (End.bind (h2.later e3)).imp fun env4 S4 L4 H4 e4 rep4 h4 σ4 r4 => ?_⟩
              refine ⟨L4, env4, S4, rep4, r4, (End.bind h4).imp fun fl S5 L5 H5 e5 rep5 h5 => ?_⟩
              exact turn_of (nxt := fun e S => loopL n g fb rest (i + 1) e S) rep5 (fun env6 σ6 r6 h6 => ⟨L5, env6, S5, ((e2.trans e3).trans e4).trans e5, rep5, r6, h6⟩) h5
          | _ => rw [q] at h2; exact h2.elim
end
end RF

namespace RF
open PySem L2

/-! ### list comprehensions: one name as the target -/
def R.nox {α : Type} : R α → R α
  | .ok a S => .ok a S
  | _ => .bad
@[simp] theorem R.nox_ok {α : Type} (a : α) (S : Sto) : (R.ok a S).nox = .ok a S := (rfl)
abbrev D' := D
abbrev E0' : XK := fun _ _ _ => False
def compX (i : Nat) (ft : BF) (fe : EF) (env : Lc) : List D → List D → Sto → R D
  | [], acc, S => .ok (.ref S.length) (S ++ [.lst acc])
  | d :: xs, acc, S => (ft (env.set i (some d)) S).nox.bind fun b S1 => if b = true then ((fe (env.set i (some d)) S1).nox.bind fun y S2 => if acc.length < 100000 then compX i ft fe env xs (acc ++ [y]) S2 else .bad) else compX i ft fe env xs acc S1
def compL (n i : Nat) (ft : BF) (fe : EF) (env : Lc) : List D → Nat → List D → Sto → R D
  | [], j, acc, S => match S[n]? with
    | some (.lst ys) => if ys.length ≤ j then .ok (.ref S.length) (S ++ [.lst acc]) else .bad
    | _ => .bad
  | _ :: xs, j, acc, S => match S[n]? with
    | some (.lst ys) => match ys[j]? with
      | none => .ok (.ref S.length) (S ++ [.lst acc])
      | some d => (ft (env.set i (some d)) S).nox.bind fun b S1 => if b = true then ((fe (env.set i (some d)) S1).nox.bind fun y S2 => if acc.length < 100000 then compL n i ft fe env xs (j + 1) (acc ++ [y]) S2 else .bad) else compL n i ft fe env xs (j + 1) acc S1
    | _ => .bad
def fComp (fi : IF) (i : Nat) (ft : BF) (fe : EF) : EF := fun env S => (fi env S).bind fun it S1 => match it with
  | .fix xs => compX i ft fe (env.set i none) xs [] S1
  | .live n xs => compL n i ft fe (env.set i none) xs 0 [] S1
def fYes : BF := fun _ S => .ok true S

section
variable {K : PySem.W.Frag} {L L1 : List Addr} {H H1 : Hp} {S S1 : Sto} {E : XK} {α β : Type}
theorem End.keep {Q : β → Sto → List Addr → Hp → Prop} {x : R α} {k : α → Sto → R β} (h : End K E L H Q (x.nox.bind k)) : End K E0' L1 H1 (fun a S2 _ _ => End K E L H Q (k a S2)) x := by
  cases x with
  | ok a S => exact fun _ _ _ _ => h
  | ex c S => exact h.elim
  | bad => exact h.elim
/-- a list that was made outside of the store comes into it -/
theorem Rep.adopt {D : Addr} {vs : List V} {ds : List D'} (r : Rep K L H S) (hD : H D = some (.lst vs)) (hn : D ∉ L) (rd : RDs K L H vs ds) : Rep K (L ++ [D]) H (S ++ [.lst ds]) := by
  have gr : Gr L H (L ++ [D]) H := ⟨fun n a h => by rw [List.getElem?_append_left (List.getElem?_eq_some_iff.mp h).1]; exact h, fun _ _ h => h, fun _ _ _ h => h⟩
  refine ⟨by rw [List.length_append, List.length_append, r.len]; rfl, ?_, fun n b c' h1 h2 => ?_⟩
  · rw [List.nodup_append]
    refine ⟨r.nd, by simp, fun b hb d hd e => ?_⟩
    rw [List.mem_singleton] at hd
    subst hd; subst e
    exact hn hb
  · by_cases hl : n < L.length
    · rw [List.getElem?_append_left hl] at h1
      rw [List.getElem?_append_left (by rw [← r.len]; exact hl)] at h2
      exact (r.cel n b c' h1 h2).grow gr rfl
    · rw [List.getElem?_append_right (Nat.le_of_not_lt hl)] at h1
      rw [List.getElem?_append_right (by rw [← r.len]; exact Nat.le_of_not_lt hl)] at h2
      rw [← r.len] at h2
      have e : n - L.length = 0 := by
        have := (List.getElem?_eq_some_iff.mp h1).1
        simp at this; omega
      rw [e] at h1 h2
      simp at h1 h2
      subst h1; subst h2
      exact ⟨vs, hD, rd.grow gr⟩
theorem adopt_val {D : Addr} {vs : List V} {ds : List D'} {L0 : List Addr} {H0 : Hp} {Q : VK} (h : EndV K E L0 H0 Q (.ok (.ref S.length) (S ++ [.lst ds]))) (r : Rep K L H S) (hD : H D = some (.lst vs)) (hn : D ∉ L) (hf : H0 D = none) (ex : Ex L0 H0 L H) (rd : RDs K L H vs ds) : Q (.ref D) H := by
  refine h (L ++ [D]) H ⟨fun n a q => ?_, fun a q => ?_, ex.fr, ex.tp, ex.fz⟩ (r.adopt hD hn rd) _ (.ref ?_)
  · rw [List.getElem?_append_left (List.getElem?_eq_some_iff.mp (ex.px n a q)).1]; exact ex.px n a q
  · rcases List.mem_append.mp q with q | q
    · exact ex.nw a q
    · rw [List.mem_singleton.mp q]; exact .inr hf
  · rw [← r.len, List.getElem?_append_right (Nat.le_refl _)]; simp
/-- what stands outside of the store stays so -/
theorem Ex.outside {D : Addr} {o : HO} (e : Ex L H L1 H1) (hn : D ∉ L) (h : H D = some o) : D ∉ L1 ∧ H1 D = some o := by
  refine ⟨fun z => ?_, e.fr D o hn h⟩
  rcases e.nw D z with z | z
  · exact hn z
  · rw [h] at z; cases z
/-- an object outside of the store changes -/
theorem Gr.out {D : Addr} {o u : HO} (h : H D = some u) (h1 : ∀ xs, u ≠ .tup xs) (h2 : ∀ o w, u ≠ .frz o w) : Gr L H L (upd H D o) :=
  ⟨fun _ _ q => q, fun b xs q => by rw [upd_ne (fun z => by rw [z, h] at q; exact h1 xs (Option.some.inj q))]; exact q, fun b o' w q => by rw [upd_ne (fun z => by rw [z, h] at q; exact h2 o' w (Option.some.inj q))]; exact q⟩
theorem Rep.out {D : Addr} {o u : HO} (r : Rep K L H S) (hn : D ∉ L) (h : H D = some u) (h1 : ∀ xs, u ≠ .tup xs) (h2 : ∀ o w, u ≠ .frz o w) : Rep K L (upd H D o) S :=
  ⟨r.len, r.nd, fun n b c q1 q2 => (r.cel n b c q1 q2).grow (Gr.out h h1 h2) (upd_ne fun z => hn (z ▸ List.mem_of_getElem? q1))⟩
theorem Ex.out {D : Addr} {o u : HO} {L0 : List Addr} {H0 : Hp} (e : Ex L0 H0 L H) (hf : H0 D = none) (h : H D = some u) : Ex L0 H0 L (upd H D o) :=
  have ne : ∀ {b : Addr} {w : HO}, H0 b = some w → b ≠ D := fun q z => by rw [z, hf] at q; cases q
  ⟨e.px, e.nw, fun b w hb q => (upd_ne (ne q)).trans (e.fr b w hb q), fun b xs q => (upd_ne (ne q)).trans (e.tp b xs q), fun b o' w q => (upd_ne (ne q)).trans (e.fz b o' w q)⟩
end
theorem RE.wipe {K : PySem.W.Frag} {L : List Addr} {H : Hp} {σ : St} {env : Lc} (r : RE K L H σ env) (i : Nat) : RE K L H (wipe σ [i]) (env.set i none) := by
  refine ⟨by rw [wipe_length, List.length_set, r.len], fun j d h => ?_⟩
  by_cases hj : i = j
  · subst hj
    by_cases hi : i < env.length
    · rw [List.getElem?_set_self hi] at h; cases h
    · rw [List.getElem?_eq_none (by rw [List.length_set]; exact Nat.le_of_not_lt hi)] at h; cases h
  · rw [List.getElem?_set_ne hj] at h
    show ∃ v, (σ.set i none)[j]? = _ ∧ _
    rw [List.getElem?_set_ne hj]
    exact r.val j d h
theorem wipe_set {σ : St} {i : Nat} {x : V} : wipe ((wipe σ [i]).set i (some x)) [i] = wipe σ [i] := by
  show (((σ.set i none).set i (some x)).set i none) = σ.set i none
  rw [List.set_set, List.set_set]
section
variable {X : Cx} {E : XK} {tg l iter elt : Expr} {fa fe : EF} {ft : BF} {fi : IF} {pos : Pos}
/-- the turns of a comprehension -/
theorem comp_of {K : PySem.W.Frag} {i : Nat} {σ : St} {H : Hp} {Q : VK} (h : tE K E (fComp fi i ft fe) σ H Q) : tLc (tI K E fi) (gName i) (tT K E0' ft) (tE K E0' fe) [i] σ H Q := by
  obtain ⟨L, env, S, rep, re, h⟩ := h
  refine ⟨L, env, S, rep, re, (End.bind h).imp fun it S1 L1 H1 e1 rep1 h1 J hJ D hD => ?_⟩
  have re1 := (re.mono e1).wipe i
  have exD : Ex L1 H1 L1 (upd H1 D (.lst [])) := Ex.new hD
  have nD : D ∉ L1 := rep1.fresh hD
  -- one turn, whatever follows
  have turn : ∀ {fin : List D' → Sto → R D'} {Nx : Hp → Prop} {L2 : List Addr} {H2 : Hp} {S2 : Sto} {d : D'} {x : V} {H3 : Hp} {acc : List D'} {vs : List V}, Ex L1 H1 L2 H2 → Rep K L2 H2 S2 → D ∉ L2 → H2 D = some (.lst vs) → RDs K L2 H2 vs acc →
      Ex L2 H2 L2 H3 → Rep K L2 H3 S2 → RD K L2 H3 x d →
      (∀ {L4 : List Addr} {H4 : Hp} {S4 : Sto} {ws : List V} {acc2 : List D'}, Ex L1 H1 L4 H4 → Rep K L4 H4 S4 → D ∉ L4 → H4 D = some (.lst ws) → RDs K L4 H4 ws acc2 → EndV K E L1 H1 Q (fin acc2 S4) → Nx H4) →
      EndV K E L1 H1 Q ((ft ((env.set i none).set i (some d)) S2).nox.bind fun b S1 => if b = true then ((fe ((env.set i none).set i (some d)) S1).nox.bind fun y S2 => if acc.length < 100000 then fin (acc ++ [y]) S2 else .bad) else fin acc S1) →
      gName i x (wipe σ [i]) H3 fun σ2 H2 => wipe σ2 [i] = wipe σ [i] ∧ (tT K E0' ft) σ2 H2 fun b H3 =>
        if b = true then (tE K E0' fe) σ2 H3 fun y H4 => ∃ acc, H4 D = some (.lst acc) ∧ acc.length < sizeLine ∧ Nx (upd H4 D (.lst (acc ++ [y]))) else Nx H3 := by
    intro fin Nx L2 H2 S2 d x H3 acc vs e2 rep2 n2 hD2 rd2 e3 rep3 rx hN hq
    refine ⟨wipe_set, ?_⟩
    have re3 : RE K L2 H3 ((wipe σ [i]).set i (some x)) ((env.set i none).set i (some d)) := ((re1.mono e2).mono e3).set rx
    obtain ⟨n3, hD3⟩ := e3.outside n2 hD2
    refine ⟨L2, _, S2, rep3, re3, (End.keep hq).imp fun b S4 L4 H4 e4 rep4 q4 => ?_⟩
    obtain ⟨n4, hD4⟩ := e4.outside n3 hD3
    cases b with
    | false => exact iteF (hN ((e2.trans e3).trans e4) rep4 n4 hD4 ((rd2.mono e3).mono e4) q4)
    | true =>
      refine iteT ⟨L4, _, S4, rep4, re3.mono e4, (End.keep q4).imp fun y S5 L5 H5 e5 rep5 q5 v rv => ?_⟩
      obtain ⟨n5, hD5⟩ := e5.outside n4 hD4
      by_cases hl : acc.length < 100000
      · rw [if_pos hl] at q5
        have rl : vs.length = acc.length := rd2.length
        have gr : Gr L5 H5 L5 (upd H5 D (.lst (vs ++ [v]))) := Gr.out hD5 (fun _ z => nomatch z) (fun _ _ z => nomatch z)
        refine ⟨vs, hD5, by rw [rl]; exact sz5l hl, ?_⟩
        refine hN (Ex.out (((e2.trans e3).trans e4).trans e5) hD hD5) (rep5.out n5 hD5 (fun _ z => nomatch z) (fun _ _ z => nomatch z)) n5 upd_same ?_ q5
        exact RDs.append ((((rd2.mono e3).mono e4).mono e5).grow gr) (.cons (rv.grow gr) .nil)
      · rw [if_neg hl] at q5; exact q5.elim
  cases it with
  | fix xs =>
    refine ⟨fun j m H => m = xs.length - j ∧ j ≤ xs.length ∧ ∃ L2 S2 acc vs, Ex L1 H1 L2 H ∧ Rep K L2 H S2 ∧ D ∉ L2 ∧ H D = some (.lst vs) ∧ RDs K L2 H vs acc ∧ EndV K E L1 H1 Q (compX i ft fe (env.set i none) (xs.drop j) acc S2),
      ⟨xs.length, by simp, Nat.zero_le _, L1, S1, [], [], exD, rep1.new hD, nD, upd_same, .nil, h1⟩, ?_⟩
    rintro j m H2 ⟨rfl, hj, L2, S2, acc, vs, e2, rep2, n2, hD2, rd2, h2⟩
    have ok := hJ j L2 H2 S2 e2 rep2
    by_cases hlt : j < xs.length
    · have hd : xs[j]? = some xs[j] := List.getElem?_eq_getElem hlt
      obtain ⟨hgo, hy⟩ := ok.1 _ hd
      rw [List.drop_eq_getElem_cons hlt] at h2
      refine .inr ⟨hgo, fun H3 => ∃ L2 S2 acc vs, Ex L1 H1 L2 H3 ∧ Rep K L2 H3 S2 ∧ D ∉ L2 ∧ H3 D = some (.lst vs) ∧ RDs K L2 H3 vs acc ∧ EndV K E L1 H1 Q (compX i ft fe (env.set i none) (xs.drop (j + 1)) acc S2),
        fun H3 q => ⟨_, by omega, rfl, hlt, q⟩, fun x H3 y => ?_⟩
      obtain ⟨e3, rep3, rx⟩ := hy x H3 y
      exact turn (fin := fun a s => compX i ft fe (env.set i none) (xs.drop (j + 1)) a s) e2 rep2 n2 hD2 rd2 e3 rep3 rx (fun q1 q2 q3 q4 q5 q6 => ⟨_, _, _, _, q1, q2, q3, q4, q5, q6⟩) h2
    · refine .inl ⟨ok.2 (by omega), ?_⟩
      rw [List.drop_eq_nil_of_le (by omega)] at h2
      exact adopt_val h2 rep2 hD2 n2 hD e2 rd2
  | live n xs =>
    refine ⟨fun j m H => ∃ rest L2 S2 acc vs, m = List.length rest ∧ Ex L1 H1 L2 H ∧ Rep K L2 H S2 ∧ D ∉ L2 ∧ H D = some (.lst vs) ∧ RDs K L2 H vs acc ∧ EndV K E L1 H1 Q (compL n i ft fe (env.set i none) rest j acc S2),
      ⟨xs.length, xs, L1, S1, [], [], rfl, exD, rep1.new hD, nD, upd_same, .nil, h1⟩, ?_⟩
    rintro j m H2 ⟨rest, L2, S2, acc, vs, rfl, e2, rep2, n2, hD2, rd2, h2⟩
    cases rest with
    | nil =>
      unfold compL at h2
      cases q : S2[n]? with
      | none => rw [q] at h2; exact h2.elim
      | some c =>
        cases c with
        | lst ys =>
          rw [q] at h2
          simp only at h2
          by_cases hl : ys.length ≤ j
          · rw [if_pos hl] at h2
            exact .inl ⟨(hJ j L2 H2 S2 ys e2 rep2 q).2 hl, adopt_val h2 rep2 hD2 n2 hD e2 rd2⟩
          · rw [if_neg hl] at h2; exact h2.elim
        | _ => rw [q] at h2; exact h2.elim
    | cons r0 rest =>
      unfold compL at h2
      cases q : S2[n]? with
      | none => rw [q] at h2; exact h2.elim
      | some c =>
        cases c with
        | lst ys =>
          rw [q] at h2
          simp only at h2
          cases hd : ys[j]? with
          | none =>
            rw [hd] at h2
            exact .inl ⟨(hJ j L2 H2 S2 ys e2 rep2 q).2 (List.getElem?_eq_none_iff.mp hd), adopt_val h2 rep2 hD2 n2 hD e2 rd2⟩
          | some d =>
            rw [hd] at h2
            simp only at h2
            obtain ⟨hgo, hy⟩ := (hJ j L2 H2 S2 ys e2 rep2 q).1 _ hd
            refine .inr ⟨hgo, fun H3 => ∃ L2 S2 acc vs, Ex L1 H1 L2 H3 ∧ Rep K L2 H3 S2 ∧ D ∉ L2 ∧ H3 D = some (.lst vs) ∧ RDs K L2 H3 vs acc ∧ EndV K E L1 H1 Q (compL n i ft fe (env.set i none) rest (j + 1) acc S2),
              fun H3 ⟨q0, q1, q2, q3, q4⟩ => ⟨_, by simp, rest, q0, q1, q2, q3, rfl, q4⟩, fun x H3 y => ?_⟩
            obtain ⟨e3, rep3, rx⟩ := hy x H3 y
            exact turn (fin := fun a s => compL n i ft fe (env.set i none) rest (j + 1) a s) e2 rep2 n2 hD2 rd2 e3 rep3 rx (fun q1 q2 q3 q4 q5 q6 => ⟨_, _, _, _, q1, q2, q3, q4, q5, q6⟩) h2
        | _ => rw [q] at h2; exact h2.elim
theorem xYes {Y : Cx} : PTs Y [] (tT Y.K E fYes) := ⟨fun pins s σ H Q I ⟨L, env, S, rep, re, h⟩ => pts_nil.run pins s σ H Q I (h L H (Ex.refl _ _) rep)⟩
theorem xTst {Y : Cx} {c : Expr} (h : PT Y c (tT Y.K E ft)) : PTs Y [c] (tT Y.K E ft) := pts_one h
/-- [elt for x in iter], [elt for x in iter if c], x in slot i -/
theorem xComp {x : Str} {i : Nat} {px : Pos} {ifs : List Expr} {scope : Scope} (hc : X.calm = true) (hN : X.N.Nodup) (hi : PI X (.Name x px) iter (tI X.K E fi)) (ok : BlkOk X.N X.env.scope scope [(x, i)])
    (hg : ∀ (s : Shared) (H : Hp) (C : Addr) (cl : List (Str × Addr)) (fp : List Addr), PG (X.blk s H scope (compEnvC scope cl C X.env) fp) (.Name x px) (gName i)) (ht : ∀ (s : Shared) (H : Hp) (C : Addr) (cl : List (Str × Addr)) (fp : List Addr), PTs (X.blk s H scope (compEnvC scope cl C X.env) fp) ifs (tT X.K E0' ft))
    (he : ∀ (s : Shared) (H : Hp) (C : Addr) (cl : List (Str × Addr)) (fp : List Addr), PE (X.blk s H scope (compEnvC scope cl C X.env) fp) elt (tE X.K E0' fe)) (hs : ∀ x, foldedSetIterable iter X.env x = pure x := by intro _; rfl) :
    PE X (.ListComp elt [⟨.Name x px, iter, ifs, 0⟩] scope pos) (tE X.K E (fComp fi i ft fe)) :=
  monoE (pe_lc (own := [(x, i)]) hc hN hi ok hg ht he hs) fun σ H Q h => comp_of h
/-- y = [..] -/
theorem xSetComp {x y : Str} {i j : Nat} {px py spos : Pos} {ifs : List Expr} {scope : Scope} (hc : X.calm = true) (hN : X.N.Nodup) (hy : X.N[j]? = some y) (hyl : X.env.scope.names.lookup y = some .local)
    (hsw : swapsWith (.ListComp elt [⟨.Name x px, iter, ifs, 0⟩] scope pos) (some (.Name y py)) spos.line X.env = pure true) (hi : PI X (.Name x px) iter (tI X.K E fi)) (ok : BlkOk X.N X.env.scope scope [(x, i)])
    (hg : ∀ (s : Shared) (H : Hp) (C : Addr) (cl : List (Str × Addr)) (fp : List Addr), PG (X.blk s H scope (compEnvC scope cl C X.env) fp) (.Name x px) (gName i)) (ht : ∀ (s : Shared) (H : Hp) (C : Addr) (cl : List (Str × Addr)) (fp : List Addr), PTs (X.blk s H scope (compEnvC scope cl C X.env) fp) ifs (tT X.K E0' ft))
    (he : ∀ (s : Shared) (H : Hp) (C : Addr) (cl : List (Str × Addr)) (fp : List Addr), PE (X.blk s H scope (compEnvC scope cl C X.env) fp) elt (tE X.K E0' fe)) (hs : ∀ x, foldedSetIterable iter X.env x = pure x := by intro _; rfl) :
    PS X (.Assign [.Name y py] (.ListComp elt [⟨.Name x px, iter, ifs, 0⟩] scope pos) spos) (tS X.K E (fAsg (fComp fi i ft fe) (gN j))) :=
  monoS (ps_setLc (own := [(x, i)]) hc hN hy hyl hsw hi ok hg ht he hs) fun D σ H h => by
    obtain ⟨L, env, S, rep, re, h⟩ := h
    refine comp_of ⟨L, env, S, rep, re, (End.bind h).imp fun d S1 L1 H1 e1 rep1 h1 v rv => ?_⟩
    exact h1 L1 H1 (Ex.refl _ _) rep1 _ ((re.mono e1).set rv)
end
end RF

namespace RF
open PySem L2

/-! ### subscripts -/
def keyD : D → Option Key
  | .int i => some (.inl i)
  | .str x => some (.inr x)
  | _ => none
def keysD : D → Option (List Key)
  | .tup ds => ds.mapM keyD
  | _ => none
def valK {κ β : Type} [DecidableEq κ] (kvs : List (κ × β)) (k : κ) : Option β := (kvs.find? fun kv => decide (kv.1 = k)).map (·.2)
def putKD {κ β : Type} [DecidableEq κ] (kvs : List (κ × β)) (k : κ) (v : β) : List (κ × β) :=
  if (kvs.any fun kv => decide (kv.1 = k)) = true then kvs.map (fun kv => if kv.1 = k then (kv.1, v) else kv) else kvs ++ [(k, v)]
def dropKD {κ β : Type} [DecidableEq κ] (kvs : List (κ × β)) (k : κ) : List (κ × β) := kvs.filter fun kv => decide (kv.1 ≠ k)
def isDict (S : Sto) : D → Bool
  | .ref n => match S[n]? with
    | some (.dk _) => true
    | some (.dt _) => true
    | _ => false
  | _ => false
def retO (S : Sto) : Option D → R D
  | some d => .ok d S
  | none => .bad
def oGetL (x y : D) (S : Sto) : R D := match x, y with
  | .tup xs, .int i => retO S (atI xs i)
  | .rl xs, .int i => retO S (atI xs i)
  | .str z, .int i => if z.length ≤ 100000 then retO S ((atI z.cps.toList i).map fun c => .str ⟨#[c]⟩) else .bad
  | .ref n, .int i => match S[n]? with
    | some (.lst xs) => retO S (atI xs i)
    | _ => .bad
  | _, _ => .bad
/-- what a dict holds: none if it is no dict or no key -/
def lookD (S : Sto) (x y : D) : Option (Option D) := match x with
  | .ref n => match S[n]? with
    | some (.dk kvs) => (keyD y).map fun k => valK kvs k
    | some (.dt kvs) => (keysD y).map fun k => valK kvs k
    | _ => none
  | _ => none
def oGetD (x y : D) (S : Sto) : R D := match lookD S x y with
  | some (some d) => .ok d S
  | _ => .bad
def fIx (fa fb : EF) : EF := fun env S => (fa env S).bind fun x S1 => if isDict S1 x = true then (fb env S1).bind fun y S2 => oGetD x y S2 else (fb env S1).bind fun y S2 => oGetL x y S2
def oSet (x y d : D) (S : Sto) : R Unit := match x with
  | .ref n => match S[n]? with
    | some (.lst xs) => match y with
      | .int i => match ixN xs.length i with
        | some j => .ok () (S.set n (.lst (xs.set j d)))
        | none => .bad
      | _ => .bad
    | some (.dk kvs) => match keyD y with
      | some k => if kvs.length < 100000 then .ok () (S.set n (.dk (putKD kvs k d))) else .bad
      | none => .bad
    | some (.dt kvs) => match keysD y with
      | some k => if kvs.length < 100000 then .ok () (S.set n (.dt (putKD kvs k d))) else .bad
      | none => .bad
    | _ => .bad
  | _ => .bad
def gSub' (fo fi : EF) : GF := fun d env S => (fo env S).bind fun x S1 => (fi env S1).bind fun y S2 => (oSet x y d S2).bind fun _ S3 => .ok env S3

section
variable {K : PySem.W.Frag} {L : List Addr} {H : Hp} {S : Sto}
theorem RD.key {v : V} {d : D} {k : Key} (r : RD K L H v d) (h : keyD d = some k) : v = kV k := by
  cases r with
  | int i => cases h; rfl
  | str i => cases h; rfl
  | _ => cases h
theorem RDs.keys : ∀ {vs : List V} {ds : List D} {ks : List Key}, RDs K L H vs ds → ds.mapM keyD = some ks → vs = ks.map kV
  | _, _, _, .nil, h => by
    simp at h
    subst h; rfl
  | _, _, ks, .cons (d := d) a b, h => by
    rw [List.mapM_cons] at h
    cases q : keyD d with
    | none => rw [q] at h; cases h
    | some k =>
      rw [q] at h
      cases q2 : (List.mapM keyD _ : Option (List Key)) with
      | none => rw [q2] at h; cases h
      | some ks' =>
        rw [q2] at h
        cases h
        rw [List.map_cons, ← a.key q, ← RDs.keys b q2]
theorem RD.keys {v : V} {d : D} {ks : List Key} (r : RD K L H v d) (h : keysD d = some ks) : ∃ b, v = .ref b ∧ H b = some (.tup (ks.map kV)) := by
  cases r with
  | tup hs rs => exact ⟨_, rfl, by rw [hs, rs.keys h]⟩
  | _ => cases h
theorem RK.valK {κ : Type} [DecidableEq κ] (k : κ) : ∀ {ps : List (κ × V)} {qs : List (κ × D)}, RK K L H ps qs → (RF.valK qs k = none ∧ valV ps k = none) ∨ ∃ v d, RF.valK qs k = some d ∧ valV ps k = some v ∧ RD K L H v d
  | [], [], _ => .inl ⟨rfl, rfl⟩
  | (a, v) :: ps, (b, d) :: qs, ⟨e, r, c⟩ => by
    have e : a = b := e
    subst e
    unfold RF.valK valV
    rw [List.find?_cons, List.find?_cons]
    cases q : decide (a = k) with
    | true => exact .inr ⟨v, d, rfl, rfl, r⟩
    | false => exact RK.valK k c
  | [], _ :: _, h => h.elim
  | _ :: _, [], h => h.elim
theorem RK.any {κ : Type} (p : κ → Bool) : ∀ {ps : List (κ × V)} {qs : List (κ × D)}, RK K L H ps qs → (ps.any fun kv => p kv.1) = qs.any fun kv => p kv.1
  | [], [], _ => rfl
  | (a, v) :: ps, (b, d) :: qs, ⟨e, r, c⟩ => by
    have e : a = b := e
    subst e
    rw [List.any_cons, List.any_cons, RK.any p c]
  | [], _ :: _, h => h.elim
  | _ :: _, [], h => h.elim
theorem RK.mapput {κ : Type} [DecidableEq κ] {k : κ} {v : V} {d : D} (rv : RD K L H v d) : ∀ {ps : List (κ × V)} {qs : List (κ × D)}, RK K L H ps qs → RK K L H (ps.map fun kv => if kv.1 = k then (kv.1, v) else kv) (qs.map fun kv => if kv.1 = k then (kv.1, d) else kv)
  | [], [], _ => trivial
  | (a, w) :: ps, (b, x) :: qs, ⟨e, r, c⟩ => by
    have e : a = b := e
    subst e
    rw [List.map_cons, List.map_cons]
    by_cases h : a = k
    · simp only [if_pos h]
      exact ⟨rfl, rv, RK.mapput rv c⟩
    · simp only [if_neg h]
      exact ⟨rfl, r, RK.mapput rv c⟩
  | [], _ :: _, h => h.elim
  | _ :: _, [], h => h.elim
theorem RK.append {κ : Type} {ps2 : List (κ × V)} {qs2 : List (κ × D)} (h2 : RK K L H ps2 qs2) : ∀ {ps : List (κ × V)} {qs : List (κ × D)}, RK K L H ps qs → RK K L H (ps ++ ps2) (qs ++ qs2)
  | [], [], _ => h2
  | (a, w) :: ps, (b, x) :: qs, ⟨e, r, c⟩ => ⟨e, r, RK.append h2 c⟩
  | [], _ :: _, h => h.elim
  | _ :: _, [], h => h.elim
theorem RK.put {κ : Type} [DecidableEq κ] {k : κ} {v : V} {d : D} (rv : RD K L H v d) {ps : List (κ × V)} {qs : List (κ × D)} (h : RK K L H ps qs) : RK K L H (putK ps k v) (putKD qs k d) := by
  unfold putK putKD
  rw [RK.any (fun x => decide (x = k)) h]
  split
  · exact RK.mapput rv h
  · exact RK.append (ps2 := [(k, v)]) (qs2 := [(k, d)]) ⟨rfl, rv, trivial⟩ h
theorem RK.drop {κ : Type} [DecidableEq κ] {k : κ} : ∀ {ps : List (κ × V)} {qs : List (κ × D)}, RK K L H ps qs → RK K L H (dropK ps k) (dropKD qs k)
  | [], [], _ => trivial
  | (a, w) :: ps, (b, x) :: qs, ⟨e, r, c⟩ => by
    have e : a = b := e
    subst e
    unfold dropK dropKD
    rw [List.filter_cons, List.filter_cons]
    by_cases h : a = k
    · simp only [h, ne_eq, not_true_eq_false, decide_false, Bool.false_eq_true, if_false]
      exact RK.drop c
    · have e : decide (¬ a = k) = true := decide_eq_true h
      simp only [ne_eq, e, if_true]
      exact ⟨rfl, r, RK.drop c⟩
  | [], _ :: _, h => h.elim
  | _ :: _, [], h => h.elim
theorem RDs.atI {vs : List V} {ds : List D} {i : Int} {d : D} (r : RDs K L H vs ds) (h : L2.atI ds i = some d) : ∃ v, L2.atI vs i = some v ∧ RD K L H v d := by
  unfold L2.atI at h ⊢
  rw [r.length]
  cases q : ixN ds.length i with
  | none => rw [q] at h; cases h
  | some j =>
    rw [q] at h
    exact r.get h
theorem lookD_of {x y : D} {v w : V} {o : Option D} (rep : Rep K L H S) (rx : RD K L H v x) (ry : RD K L H w y) (h : lookD S x y = some o) : ∃ a, v = .ref a ∧ ((o = none ∧ DGet H a w none) ∨ ∃ d u, o = some d ∧ DGet H a w (some u) ∧ RD K L H u d) := by
  unfold lookD at h
  cases rx with
  | @ref a n ha =>
    obtain ⟨c, hc, rc⟩ := rep.adr ha
    simp only [hc] at h
    refine ⟨a, rfl, ?_⟩
    cases c with
    | dk kvs =>
      simp only at h
      cases q : keyD y with
      | none => rw [q] at h; cases h
      | some k =>
        rw [q] at h
        obtain ⟨ws, hw, rk⟩ := rc
        obtain rfl := ry.key q
        have h : RF.valK kvs k = o := Option.some.inj h
        rcases rk.valK k with ⟨h1, h2⟩ | ⟨u, d, h1, h2, r⟩
        · exact .inl ⟨h.symm.trans h1, by rw [← h2]; exact DGet.k hw⟩
        · exact .inr ⟨d, u, h.symm.trans h1, by rw [← h2]; exact DGet.k hw, r⟩
    | dt kvs =>
      simp only at h
      cases q : keysD y with
      | none => rw [q] at h; cases h
      | some k =>
        rw [q] at h
        obtain ⟨ws, hw, rk⟩ := rc
        obtain ⟨b, rfl, hb⟩ := ry.keys q
        have h : RF.valK kvs k = o := Option.some.inj h
        rcases rk.valK k with ⟨h1, h2⟩ | ⟨u, d, h1, h2, r⟩
        · exact .inl ⟨h.symm.trans h1, by rw [← h2]; exact DGet.t hw hb⟩
        · exact .inr ⟨d, u, h.symm.trans h1, by rw [← h2]; exact DGet.t hw hb, r⟩
    | _ => cases h
  | _ => cases h
variable {E : XK}
theorem retO_of {Q : VK} {o : Option D} (rep : Rep K L H S) (h : EndV K E L H Q (retO S o)) : ∃ d, o = some d ∧ ∀ v, RD K L H v d → Q v H := by
  cases o with
  | none => exact h.elim
  | some d => exact ⟨d, rfl, fun v rv => EndV.val h rep rv⟩
theorem opF_getL : OpF K E (rIx K) oGetL := by
  intro L H S x y d1 d2 Q rep r1 r2 h
  cases r1 with
  | tup hs rs =>
    cases r2 with
    | int i =>
      obtain ⟨d, e, k⟩ := retO_of rep h
      obtain ⟨v, hv, rv⟩ := rs.atI e
      exact .inr (.inl ⟨_, _, i, v, rfl, rfl, .of hs, hv, k v rv⟩)
    | _ => exact h.elim
  | rl hs rs =>
    cases r2 with
    | int i =>
      obtain ⟨d, e, k⟩ := retO_of rep h
      obtain ⟨v, hv, rv⟩ := rs.atI e
      exact .inl ⟨_, _, i, v, rfl, rfl, hs H fun _ _ _ z => z, hv, k v rv⟩
    | _ => exact h.elim
  | str z =>
    cases r2 with
    | int i =>
      have h : EndV K E L H Q (if z.length ≤ 100000 then retO S ((atI z.cps.toList i).map fun c => .str ⟨#[c]⟩) else .bad) := h
      by_cases hl : z.length ≤ 100000
      · rw [if_pos hl] at h
        obtain ⟨d, e, k⟩ := retO_of rep h
        obtain ⟨c, hc, rfl⟩ := Option.map_eq_some_iff.mp e
        exact .inr (.inr ⟨z, i, c, rfl, rfl, sz5 hl, hc, k _ (.str _)⟩)
      · rw [if_neg hl] at h; exact h.elim
    | _ => exact h.elim
  | ref ha =>
    cases r2 with
    | int i =>
      obtain ⟨c, hc, rc⟩ := rep.adr ha
      unfold oGetL at h
      simp only [hc] at h
      cases c with
      | lst xs =>
        obtain ⟨d, e, k⟩ := retO_of rep h
        obtain ⟨vs, hv, rvs⟩ := rc
        obtain ⟨v, hv2, rv⟩ := rvs.atI e
        exact .inl ⟨_, _, i, v, rfl, rfl, .of hv, hv2, k v rv⟩
      | _ => exact h.elim
    | _ => exact h.elim
  | _ => exact h.elim
/-- a cell is written -/
theorem Rep.write {n : Nat} {a : Addr} {c : Cell} {o : HO} (rep : Rep K L H S) (ha : L[n]? = some a) (hc : RC K L (upd H a o) a c) : Ex L H L (upd H a o) ∧ Rep K L (upd H a o) (S.set n c) := ⟨Ex.wr rep (List.mem_of_getElem? ha), rep.wr ha hc⟩
theorem Gr.wr {n : Nat} {a : Addr} {o : HO} (rep : Rep K L H S) (ha : L[n]? = some a) : Gr L H L (upd H a o) := (Ex.wr rep (List.mem_of_getElem? ha)).gr
theorem setF {Q : Hp → Prop} {x y d : D} {v w u : V} (rep : Rep K L H S) (rx : RD K L H v x) (ry : RD K L H w y) (rd : RD K L H u d) (h : End K E L H (fun _ _ _ H1 => Q H1) (oSet x y d S)) : rSetL v w u H Q ∨ ∃ a H1, v = .ref a ∧ DPut H a w u H1 ∧ Q H1 := by
  unfold oSet at h
  cases rx with
  | @ref a n ha =>
    obtain ⟨c, hc, rc⟩ := rep.adr ha
    simp only [hc] at h
    cases c with
    | lst xs =>
      simp only at h
      cases ry with
      | int i =>
        simp only at h
        cases q : ixN xs.length i with
        | none => rw [q] at h; exact h.elim
        | some j =>
          rw [q] at h
          obtain ⟨vs, hv, rvs⟩ := rc
          have gr : Gr L H L (upd H a (.lst (vs.set j u))) := Gr.wr rep ha
          obtain ⟨ex, rep2⟩ := rep.write (o := .lst (vs.set j u)) (c := .lst (xs.set j d)) ha ⟨_, upd_same, (rvs.set rd j).grow gr⟩
          exact .inl ⟨a, vs, i, j, rfl, rfl, hv, by rw [rvs.length]; exact q, h _ _ ex rep2⟩
      | _ => exact h.elim
    | dk kvs =>
      simp only at h
      cases q : keyD y with
      | none => rw [q] at h; exact h.elim
      | some k =>
        rw [q] at h
        obtain ⟨ws, hw, rk⟩ := rc
        obtain rfl := ry.key q
        by_cases hl : kvs.length < 100000
        · simp only [if_pos hl] at h
          have gr : Gr L H L (upd H a (.dK (putK ws k u))) := Gr.wr rep ha
          obtain ⟨ex, rep2⟩ := rep.write (o := .dK (putK ws k u)) (c := .dk (putKD kvs k d)) ha ⟨_, upd_same, (rk.put rd).grow gr⟩
          exact .inr ⟨a, _, rfl, DPut.k hw (by rw [rk.length]; exact sz5l hl), h _ _ ex rep2⟩
        · simp only [if_neg hl] at h; exact h.elim
    | dt kvs =>
      simp only at h
      cases q : keysD y with
      | none => rw [q] at h; exact h.elim
      | some k =>
        rw [q] at h
        obtain ⟨ws, hw, rk⟩ := rc
        obtain ⟨b, rfl, hb⟩ := ry.keys q
        by_cases hl : kvs.length < 100000
        · simp only [if_pos hl] at h
          have gr : Gr L H L (upd H a (.dT (putK ws k u))) := Gr.wr rep ha
          obtain ⟨ex, rep2⟩ := rep.write (o := .dT (putK ws k u)) (c := .dt (putKD kvs k d)) ha ⟨_, upd_same, (rk.put rd).grow gr⟩
          exact .inr ⟨a, _, rfl, DPut.t hw hb (by rw [rk.length]; exact sz5l hl), h _ _ ex rep2⟩
        · simp only [if_neg hl] at h; exact h.elim
    | _ => exact h.elim
  | _ => exact h.elim
end
section
variable {X : Cx} {E : XK} {a b o i : Expr} {fa fb fo fi : EF} {pos : Pos}
theorem xIx (hu : X.A.units + 1 < cLine) (ha : PE X a (tE X.K E fa)) (hb : PE X b (tE X.K E fb)) (hs : PlainIx b) : PE X (.Subscript a b pos) (tE X.K E (fIx fa fb)) := by
  have h1 := pe_ix (pos := pos) ix_seq ha hb hs
  have h2 := pe_dget (pos := pos) hu ha hb hs
  refine ⟨fun pins s σ H Q I q => ?_⟩
  have key : tOp (rIx X.K) (tE X.K E fa) (tE X.K E fb) σ H Q ∨ tDGet (tE X.K E fa) (tE X.K E fb) σ H Q := by
    obtain ⟨L, env, S, rep, re, q⟩ := q
    have q' := End.bind q
    by_cases hd : ∃ x S1, fa env S = .ok x S1 ∧ isDict S1 x = true
    · refine .inr ⟨L, env, S, rep, re, q'.imp' fun x S1 L1 H1 e0 e1 rep1 h1 v rv => ?_⟩
      have hx : isDict S1 x = true := by
        obtain ⟨x', S1', e, hx'⟩ := hd
        rw [e0] at e; cases e; exact hx'
      rw [if_pos hx] at h1
      refine ⟨L1, env, S1, rep1, re.mono e1, (End.bind h1).imp fun y S2 L2 H2 e2 rep2 h2 w rw' => ?_⟩
      unfold oGetD at h2
      cases q2 : lookD S2 x y with
      | none => rw [q2] at h2; exact h2.elim
      | some r =>
        rw [q2] at h2
        cases r with
        | none => exact h2.elim
        | some d =>
          obtain ⟨a, rfl, k⟩ := lookD_of rep2 (rv.mono e2) rw' q2
          rcases k with ⟨k, _⟩ | ⟨d', u, k1, k2, k3⟩
          · cases k
          · cases k1
            exact ⟨a, u, rfl, k2, EndV.val h2 rep2 k3⟩
    · refine .inl ⟨L, env, S, rep, re, q'.imp' fun x S1 L1 H1 e0 e1 rep1 h1 v rv => ?_⟩
      have hx : ¬ isDict S1 x = true := fun z => hd ⟨x, S1, e0, z⟩
      rw [if_neg hx] at h1
      refine ⟨L1, env, S1, rep1, re.mono e1, (End.bind h1).imp fun y S2 L2 H2 e2 rep2 h2 w rw' => ?_⟩
      exact opF_getL L2 H2 S2 _ _ _ _ _ rep2 (rv.mono e2) rw' h2
  rcases key with k | k
  · exact h1.run pins s σ H Q I k
  · exact h2.run pins s σ H Q I k
theorem pset_dict (hu : X.A.units + 1 < cLine) : PSet X (fun o i v H Q => ∃ a H1, o = .ref a ∧ DPut H a i v H1 ∧ Q H1) := by
  intro pins s σ H o i v ov iv r Q I ro ri rv h
  obtain ⟨a, H1, rfl, g, q⟩ := h
  obtain rfl : ov = Value.ref a := ro
  exact d_setItem hu I g ri rv fun s1 I1 => ⟨H1, I1, q⟩
theorem pset_both (hu : X.A.units + 1 < cLine) : PSet X (fun o i v H Q => rSetL o i v H Q ∨ ∃ a H1, o = .ref a ∧ DPut H a i v H1 ∧ Q H1) := by
  intro pins s σ H o i v ov iv r Q I ro ri rv h
  rcases h with h | h
  · exact set_list pins s σ H o i v ov iv r Q I ro ri rv h
  · exact pset_dict hu pins s σ H o i v ov iv r Q I ro ri rv h
theorem xgSub (hu : X.A.units + 1 < cLine) (ho : PE X o (tE X.K E fo)) (hi : PE X i (tE X.K E fi)) (ha : ∀ v, assign (.Subscript o i pos) X.env v = (do
      let ov ← holding [v] (eval o X.env)
      let iv ← holding [v, ov] (eval i X.env)
      standAt pos
      holding [v, ov, iv] (setItem ov iv v)
      release [v, ov, iv] []) := by intro _; rfl) : PG X (.Subscript o i pos) (tG X.K E (gSub' fo fi)) := by
  refine ⟨fun pins s σ H v u Q I r q => (pg_sub ho hi (pset_both hu) ha).run pins s σ H v u Q I r ?_⟩
  obtain ⟨L, env, S, d, rep, re, rd, q⟩ := q
  refine ⟨L, env, S, rep, re, (End.bind q).imp fun x S1 L1 H1 e1 rep1 h1 v rv => ?_⟩
  refine ⟨L1, env, S1, rep1, re.mono e1, (End.bind h1).imp fun y S2 L2 H2 e2 rep2 h2 w rw' => ?_⟩
  refine setF rep2 (rv.mono e2) rw' ((rd.mono e1).mono e2) ((End.bind h2).imp fun _ S3 L3 H3 e3 rep3 h3 => ?_)
  exact h3 L3 H3 (Ex.refl _ _) rep3 σ (((re.mono e1).mono e2).mono e3)

/-! ### instances -/
def putD (f : Str) (v : D) : List (Str × D) → List (Str × D)
  | [] => [(f, v)]
  | (g, x) :: r => if g = f then (g, v) :: r else (g, x) :: putD f v r
def fldsOf (C : Addr) (S : Sto) : D → Option (Nat × List (Str × D))
  | .ref n => match S[n]? with
    | some (.ins C' fs) => if C' = C then some (n, fs) else none
    | _ => none
  | _ => none
def fFld (C : Addr) (f : Str) (fo : EF) : EF := fun env S => (fo env S).bind fun x S1 => match fldsOf C S1 x with
  | some (_, fs) => retO S1 (fs.lookup f)
  | none => .bad
def oPut (C : Addr) (f : Str) (x d : D) (S : Sto) : R Unit := match fldsOf C S x with
  | some (n, fs) => if fs.length < 900 then .ok () (S.set n (.ins C (putD f d fs))) else .bad
  | none => .bad
def fSetFld (C : Addr) (f : Str) (fo fv : EF) : SF := fun env S => (fv env S).bind fun d S1 => (fo env S1).bind fun x S2 => (oPut C f x d S2).bind fun _ S3 => .ok (.nx env) S3
end
section
variable {K : PySem.W.Frag} {L : List Addr} {H : Hp} {S : Sto} {E : XK} {C : Addr}
theorem fldsOf_of {x : D} {v : V} {n : Nat} {fs : List (Str × D)} (rep : Rep K L H S) (rx : RD K L H v x) (h : fldsOf C S x = some (n, fs)) : ∃ a dx ws, v = .ref a ∧ L[n]? = some a ∧ H a = some (.ins C dx ws) ∧ RK K L H ws fs := by
  unfold fldsOf at h
  cases rx with
  | @ref a m ha =>
    obtain ⟨c, hc, rc⟩ := rep.adr ha
    simp only [hc] at h
    cases c with
    | ins C' fs' =>
      simp only at h
      by_cases e : C' = C
      · rw [if_pos e] at h
        cases h
        subst e
        obtain ⟨dx, ws, h1, h2⟩ := rc
        exact ⟨a, dx, ws, rfl, ha, h1, h2⟩
      · rw [if_neg e] at h; cases h
    | _ => cases h
  | _ => cases h
theorem RK.putF {f : Str} {v : V} {d : D} (rv : RD K L H v d) : ∀ {ps : List (Str × V)} {qs : List (Str × D)}, RK K L H ps qs → RK K L H (L2.putF f v ps) (putD f d qs)
  | [], [], _ => ⟨rfl, rv, trivial⟩
  | (a, w) :: ps, (b, x) :: qs, ⟨e, r, c⟩ => by
    have e : a = b := e
    subst e
    unfold L2.putF putD
    by_cases h : a = f
    · simp only [if_pos h]
      exact ⟨rfl, rv, c⟩
    · simp only [if_neg h]
      exact ⟨rfl, r, RK.putF rv c⟩
  | [], _ :: _, h => h.elim
  | _ :: _, [], h => h.elim
end
section
variable {X : Cx} {E : XK} {o e : Expr} {fo fv : EF} {pos pos' : Pos} {C : Addr} {f : Str}
theorem xFld (T : Cls X.K C) (N : NoAttr X.K C f) (he : PE X e (tE X.K E fo)) (hb : attributeBase e f X.env (eval e X.env) = eval e X.env := by rfl) : PE X (.Attribute e f pos) (tE X.K E (fFld C f fo)) :=
  monoE (pe_fld he hb) fun σ H Q h => by
    obtain ⟨L, env, S, rep, re, h⟩ := h
    refine ⟨L, env, S, rep, re, (End.bind h).imp fun x S1 L1 H1 e1 rep1 h1 v rv => ?_⟩
    cases q : fldsOf C S1 x with
    | none => rw [q] at h1; exact h1.elim
    | some r =>
      obtain ⟨n, fs⟩ := r
      rw [q] at h1
      obtain ⟨a, dx, ws, rfl, ha, h2, rk⟩ := fldsOf_of rep1 rv q
      obtain ⟨d, hd, k⟩ := retO_of rep1 h1
      rcases rk.lookup f with ⟨z, _⟩ | ⟨u, d', z1, z2, z3⟩
      · rw [hd] at z; cases z
      · rw [hd] at z1; cases z1
        exact ⟨a, C, dx, ws, u, rfl, h2, T, N, z2, k u z3⟩
theorem putFld_of {K : PySem.W.Frag} {L : List Addr} {H : Hp} {S : Sto} {x d : D} {v u : V} {Q : Hp → Prop} (rep : Rep K L H S) (rx : RD K L H v x) (rd : RD K L H u d) (h : End K E L H (fun _ _ _ H1 => Q H1) (oPut C f x d S)) :
    ∃ a dx ws, v = .ref a ∧ H a = some (.ins C dx ws) ∧ ws.length < 1000 ∧ Q (upd H a (.ins C dx (putF f u ws))) := by
  unfold oPut at h
  cases q : fldsOf C S x with
  | none => rw [q] at h; exact h.elim
  | some r =>
    obtain ⟨n, fs⟩ := r
    rw [q] at h
    obtain ⟨a, dx, ws, rfl, ha, h2, rk⟩ := fldsOf_of rep rx q
    by_cases hl : fs.length < 900
    · simp only [if_pos hl] at h
      have gr : Gr L H L (upd H a (.ins C dx (putF f u ws))) := Gr.wr rep ha
      obtain ⟨ex, rep2⟩ := rep.write (o := .ins C dx (putF f u ws)) (c := .ins C (putD f d fs)) ha ⟨dx, _, upd_same, (rk.putF rd).grow gr⟩
      exact ⟨a, dx, ws, rfl, h2, by rw [rk.length]; omega, h _ _ ex rep2⟩
    · simp only [if_neg hl] at h; exact h.elim
theorem xSetFld (T : Cls X.K C) (N : NoAttr X.K C f) (ho : PE X o (tE X.K E fo)) (hv : PE X e (tE X.K E fv)) (hs : swapsWith e (some (.Attribute o f pos')) pos.line X.env = pure false := by rfl) : PS X (.Assign [.Attribute o f pos'] e pos) (tS X.K E (fSetFld C f fo fv)) :=
  monoS (ps_fld ho hv hs) fun D σ H h => by
    obtain ⟨L, env, S, rep, re, h⟩ := h
    refine ⟨L, env, S, rep, re, (End.bind h).imp fun d S1 L1 H1 e1 rep1 h1 u ru => ?_⟩
    refine ⟨L1, env, S1, rep1, re.mono e1, (End.bind h1).imp fun x S2 L2 H2 e2 rep2 h2 v rv => ?_⟩
    obtain ⟨a, dx, ws, h3, h4, h5, h6⟩ := putFld_of (Q := fun H3 => D.nx σ H3) rep2 rv (ru.mono e2) ((End.bind h2).imp fun _ S3 L3 H3 e3 rep3 h3 => h3 L3 H3 (Ex.refl _ _) rep3 σ (((re.mono e1).mono e2).mono e3))
    exact ⟨a, C, dx, ws, h3, h4, T, N, h5, h6⟩
end

/-! ### calls -/
abbrev FF := List D → Sto → R D
def spF (K : PySem.W.Frag) (n : Nat) (F : FF) : Sp := fun vs H Q _ => vs.length = n ∧ ∃ L ds S, Rep K L H S ∧ RDs K L H vs ds ∧ EndV K E0' L H Q (F ds S)
def fCall (F : FF) (n : Nat) (dds : List D) (fs : AF) : EF := fun env S => (fs env S).bind fun ds S1 => if ds.length + dds.length = n then (F (ds ++ dds) S1).nox else .bad
def fMeth (C : Addr) (m : Str) (F : FF) (n : Nat) (dds : List D) (fo : EF) (fs : AF) : EF := fun env S => (fo env S).bind fun x S1 => match fldsOf C S1 x with
  | some (_, fl) => if (fl.lookup m).isNone = true then (fs env S1).bind fun ds S2 => if ds.length + 1 + dds.length = n then (F (x :: (ds ++ dds)) S2).nox else .bad else .bad
  | none => .bad
def fMake (C : Addr) (F : FF) (n : Nat) (dds : List D) (fs : AF) : EF := fun env S => (fs env S).bind fun ds S1 => if ds.length + 1 + dds.length = n then (F (.ref S1.length :: (ds ++ dds)) (S1 ++ [.ins C []])).nox.bind fun r S2 => match r with
  | .non => .ok (.ref S1.length) S2
  | _ => .bad
  else .bad
def fProp (C : Addr) (F : FF) (n : Nat) (fo : EF) : EF := fun env S => (fo env S).bind fun x S1 => match fldsOf C S1 x with
  | some _ => if 1 = n then (F [x] S1).nox else .bad
  | none => .bad
def fnF (m : Nat) (fb : SF) : FF := fun ds S => (fb (ds.map some ++ List.replicate (m - ds.length) none) S).bind fun fl S1 => match fl with
  | .nx _ => .ok .non S1
  | .rt d => .ok d S1
  | _ => .bad
section
variable {K : PySem.W.Frag} {L : List Addr} {H : Hp} {S : Sto} {E : XK}
theorem EndV.nox {Q : VK} {x : R D} (h : EndV K E L H Q x.nox) : EndV K E0' L H Q x := by
  cases x with
  | ok a S => exact h
  | ex c S => exact h.elim
  | bad => exact h.elim
theorem RE.start : ∀ {vs : List V} {ds : List D} (N : List Str), RDs K L H vs ds → RE K L H (L2.start N vs) (ds.map some ++ List.replicate (N.length - ds.length) none) := by
  intro vs ds N r
  refine ⟨by show (vs.map some ++ List.replicate (N.length - vs.length) none).length = _; simp [r.length], fun i d h => ?_⟩
  by_cases hi : i < ds.length
  · rw [List.getElem?_append_left (by simpa using hi), List.getElem?_map] at h
    cases q : ds[i]? with
    | none => rw [q] at h; cases h
    | some d' =>
      rw [q] at h
      have e : d' = d := by simpa using h
      subst e
      obtain ⟨v, h1, h2⟩ := r.get q
      refine ⟨v, ?_, h2⟩
      show (vs.map some ++ List.replicate (N.length - vs.length) none)[i]? = some (some v)
      rw [List.getElem?_append_left (by rw [List.length_map, r.length]; exact hi), List.getElem?_map, h1]
      rfl
  · rw [List.getElem?_append_right (by simpa using hi)] at h
    by_cases hj : i - (ds.map some).length < N.length - ds.length
    · rw [List.getElem?_replicate_of_lt hj] at h; cases h
    · rw [List.getElem?_eq_none (by rw [List.length_replicate]; omega)] at h; cases h
end
section
variable {P : Program} {w : World} {K : PySem.W.Frag} {mg : Str → Option Value} {base : Heap}
/-- a def, from its body -/
theorem fn_ok {x qual : Str} {st : Stmt} {f : Addr} {fd : FuncData} {N ps : List Str} {k m : Nat} {fb : SF} (F : Fun K x qual st f fd) (Sc : FnScope N ps (defScope st)) (hm : N.length = m)
    (hb : ∀ (cdv : Value) (A : Around) (outer : List PySem.Env) (s : Shared) (H : Hp) (E : XK), Room k (A.deeper (PyProof.Rows.envOfC qual (defScope st) s.heap.objs.size f cdv)) →
      PSs (cxOf CX0 P w K mg base N qual (defScope st) f cdv A outer s H E).nox (defBody st) (tS K E0' fb)) : FnOk P w K mg base CX0 (k + 1) f fd ps (spF K ps.length (fnF m fb)) := by
  subst hm
  refine F.ok Sc (fun vs H Q E h => h.1) (fun cdv A outer s H vs Q E hr h => ⟨_, hb cdv A outer s H E hr, ?_⟩)
  obtain ⟨hl, L, ds, S, rep, rd, h⟩ := h
  refine ⟨L, _, S, rep, RE.start N rd, (End.bind h).imp fun fl S1 L1 H1 e1 rep1 h1 => ?_⟩
  cases fl with
  | nx e => exact fun σ _ => EndV.val h1 rep1 .non
  | rt d => exact fun v rv => EndV.val h1 rep1 rv
  | bk e => exact h1.elim
  | ct e => exact h1.elim
end
section
variable {X : Cx} {E : XK} {k n : Nat} {f C : Addr} {fd : FuncData} {ps : List Str} {F : FF} {dvs : List V} {ds : List Value} {dds : List D} {x m : Str} {p pos apos : Pos} {e o : Expr} {es : List Expr} {fo : EF} {fs : AF}
theorem call_of {K : PySem.W.Frag} {σ : St} {H : Hp} {Q : VK} (hdd : ∀ L H, RDs K L H dvs dds) (h : tE K E (fCall F n dds fs) σ H Q) : tCall (spF K n F) dvs E0 (tA K E fs) σ H Q := by
  obtain ⟨L, env, S, rep, re, h⟩ := h
  refine ⟨L, env, S, rep, re, (End.bind h).imp fun xs S1 L1 H1 e1 rep1 h1 vs rvs => ?_⟩
  by_cases hl : xs.length + dds.length = n
  · rw [if_pos hl] at h1
    exact ⟨by rw [List.length_append, rvs.length, (hdd L1 H1).length]; exact hl, L1, xs ++ dds, S1, rep1, rvs.append (hdd L1 H1), EndV.nox h1⟩
  · rw [if_neg hl] at h1; exact h1.elim
theorem xCallD (Fo : FnOk X.prog X.w X.K X.mg X.base CX0 k f fd ps (spF X.K n F)) (hr : Room k X.A) (hg : Gl X x) (hm : X.mg x = some (.ref f)) (hk : PySem.W.keepIn X.K (.ref f) = true) (hb : Binds X.K fd ps ds) (hd : Vals dvs ds) (hdd : ∀ L H, RDs X.K L H dvs dds)
    (ha : PA X (e :: es) (tA X.K E fs)) (hdb : (x == ("__debug__" : Str)) = false := by decide) (he : starEach (e :: es) X.env = (false, eval e X.env) :: starEach es X.env := by rfl) (hpl : (backTo pos (starEach es X.env)).any (·.1) = false := by rfl) :
    PE X (.Call (.Name x p) (e :: es) [] pos) (tE X.K E (fCall F n dds fs)) := monoE (pe_call Fo hr hg hm hk hb hd pass0 ha hdb he hpl) fun _ _ _ h => call_of hdd h
theorem xCall (Fo : FnOk X.prog X.w X.K X.mg X.base CX0 k f fd ps (spF X.K n F)) (hr : Room k X.A) (hg : Gl X x) (hm : X.mg x = some (.ref f)) (hk : PySem.W.keepIn X.K (.ref f) = true) (hb : Binds X.K fd ps [])
    (ha : PA X (e :: es) (tA X.K E fs)) (hdb : (x == ("__debug__" : Str)) = false := by decide) (he : starEach (e :: es) X.env = (false, eval e X.env) :: starEach es X.env := by rfl) (hpl : (backTo pos (starEach es X.env)).any (·.1) = false := by rfl) :
    PE X (.Call (.Name x p) (e :: es) [] pos) (tE X.K E (fCall F n [] fs)) := xCallD Fo hr hg hm hk hb .nil (fun _ _ => .nil) ha hdb he hpl
theorem xCall0 (Fo : FnOk X.prog X.w X.K X.mg X.base CX0 k f fd ps (spF X.K n F)) (hr : Room k X.A) (hg : Gl X x) (hm : X.mg x = some (.ref f)) (hk : PySem.W.keepIn X.K (.ref f) = true) (hb : Binds X.K fd ps ds) (hd : Vals dvs ds) (hdd : ∀ L H, RDs X.K L H dvs dds)
    (hdb : (x == ("__debug__" : Str)) = false := by decide) : PE X (.Call (.Name x p) [] [] pos) (tE X.K E (fCall F n dds fNil)) := monoE (pe_call0 Fo hr hg hm hk hb hd pass0 hdb) fun σ H Q h => by
      have q : tCall (spF X.K n F) dvs E0 (tA X.K E fNil) σ H Q := call_of hdd h
      obtain ⟨L, env, S, rep, re, q⟩ := q
      exact q L H (Ex.refl _ _) rep [] .nil
theorem meth_of {K : PySem.W.Frag} {σ : St} {H : Hp} {Q : VK} (hdd : ∀ L H, RDs K L H dvs dds) (h : tE K E (fMeth C m F n dds fo fs) σ H Q) : tMeth C m (spF K n F) dvs E0 (tE K E fo) (tA K E fs) σ H Q := by
  obtain ⟨L, env, S, rep, re, h⟩ := h
  refine ⟨L, env, S, rep, re, (End.bind h).imp fun x S1 L1 H1 e1 rep1 h1 v rv => ?_⟩
  cases q : fldsOf C S1 x with
  | none => rw [q] at h1; exact h1.elim
  | some r =>
    obtain ⟨i, fl⟩ := r
    rw [q] at h1
    simp only at h1
    obtain ⟨a, dx, ws, rfl, ha, h2, rk⟩ := fldsOf_of rep1 rv q
    by_cases hn : (fl.lookup m).isNone = true
    · rw [if_pos hn] at h1
      have hw : ws.lookup m = none := by
        rcases rk.lookup m with ⟨_, z⟩ | ⟨_, d, z, _⟩
        · exact z
        · rw [z] at hn; cases hn
      refine ⟨a, dx, ws, rfl, h2, hw, L1, env, S1, rep1, re.mono e1, (End.bind h1).imp fun xs S2 L2 H2 e2 rep2 h3 vs rvs => ?_⟩
      by_cases hl : xs.length + 1 + dds.length = n
      · rw [if_pos hl] at h3
        exact ⟨by rw [List.length_cons, List.length_append, rvs.length, (hdd L2 H2).length]; omega, L2, x :: (xs ++ dds), S2, rep2, .cons (rv.mono e2) (rvs.append (hdd L2 H2)), EndV.nox h3⟩
      · rw [if_neg hl] at h3; exact h3.elim
    · rw [if_neg hn] at h1; exact h1.elim
theorem xMethD {pl : Sem Bool} (c : Cls X.K C) (hm : Meth X.K C m f) (Fo : FnOk X.prog X.w X.K X.mg X.base CX0 k f fd ps (spF X.K n F)) (hr : Room k X.A) (hb : Binds X.K fd ps ds) (hd : Vals dvs ds) (hdd : ∀ L H, RDs X.K L H dvs dds)
    (he : PE X o (tE X.K E fo)) (ha : PA X (e :: es) (tA X.K E fs))
    (hst : starEach (e :: es) X.env = (false, eval e X.env) :: starEach es X.env := by rfl) (hpl : (backTo pos (starEach es X.env)).any (·.1) = false := by rfl)
    (ht : eval (.Call (.Attribute o m apos) (e :: es) [] pos) X.env = (do
      let ov ← eval o X.env
      standAt apos.atName
      let (f, first) ← holding [ov] (getMethod ov m pl)
      callWith pos f first (backTo pos (starEach (e :: es) X.env)) (backToKw pos (keywordEach [] X.env))) := by rfl) :
    PE X (.Call (.Attribute o m apos) (e :: es) [] pos) (tE X.K E (fMeth C m F n dds fo fs)) := monoE (pe_meth he c hm Fo hr hb hd pass0 ha hst hpl ht) fun _ _ _ h => meth_of hdd h
theorem xMeth {pl : Sem Bool} (c : Cls X.K C) (hm : Meth X.K C m f) (Fo : FnOk X.prog X.w X.K X.mg X.base CX0 k f fd ps (spF X.K n F)) (hr : Room k X.A) (hb : Binds X.K fd ps [])
    (he : PE X o (tE X.K E fo)) (ha : PA X (e :: es) (tA X.K E fs))
    (hst : starEach (e :: es) X.env = (false, eval e X.env) :: starEach es X.env := by rfl) (hpl : (backTo pos (starEach es X.env)).any (·.1) = false := by rfl)
    (ht : eval (.Call (.Attribute o m apos) (e :: es) [] pos) X.env = (do
      let ov ← eval o X.env
      standAt apos.atName
      let (f, first) ← holding [ov] (getMethod ov m pl)
      callWith pos f first (backTo pos (starEach (e :: es) X.env)) (backToKw pos (keywordEach [] X.env))) := by rfl) :
    PE X (.Call (.Attribute o m apos) (e :: es) [] pos) (tE X.K E (fMeth C m F n [] fo fs)) := xMethD c hm Fo hr hb .nil (fun _ _ => .nil) he ha hst hpl ht
theorem xMeth0 {pl : Sem Bool} (c : Cls X.K C) (hm : Meth X.K C m f) (Fo : FnOk X.prog X.w X.K X.mg X.base CX0 k f fd ps (spF X.K n F)) (hr : Room k X.A) (hb : Binds X.K fd ps ds) (hd : Vals dvs ds) (hdd : ∀ L H, RDs X.K L H dvs dds)
    (he : PE X o (tE X.K E fo))
    (ht : eval (.Call (.Attribute o m apos) [] [] pos) X.env = (do
      let ov ← eval o X.env
      standAt apos.atName
      let (f, first) ← holding [ov] (getMethod ov m pl)
      callWith pos f first (backTo pos (starEach [] X.env)) (backToKw pos (keywordEach [] X.env))) := by rfl) :
    PE X (.Call (.Attribute o m apos) [] [] pos) (tE X.K E (fMeth C m F n dds fo fNil)) := monoE (pe_meth0 he c hm Fo hr hb hd pass0 ht) fun σ H Q h => by
      have q : tMeth C m (spF X.K n F) dvs E0 (tE X.K E fo) (tA X.K E fNil) σ H Q := meth_of hdd h
      obtain ⟨L, env, S, rep, re, q⟩ := q
      refine ⟨L, env, S, rep, re, q.imp fun x S1 L1 H1 e1 rep1 q v rv => ?_⟩
      obtain ⟨a, dx, ws, h1, h2, h3, L2, env2, S2, rep2, re2, q⟩ := q v rv
      exact ⟨a, dx, ws, h1, h2, h3, q L2 H1 (Ex.refl _ _) rep2 [] .nil⟩
theorem make_of {K : PySem.W.Frag} {σ : St} {H : Hp} {Q : VK} (hdd : ∀ L H, RDs K L H dvs dds) (h : tE K E (fMake C F n dds fs) σ H Q) : tMake C (spF K n F) dvs E0 (tA K E fs) σ H Q := by
  obtain ⟨L, env, S, rep, re, h⟩ := h
  refine ⟨L, env, S, rep, re, (End.bind h).imp fun xs S1 L1 H1 e1 rep1 h1 vs rvs x dx hx hdx hne => ?_⟩
  by_cases hl : xs.length + 1 + dds.length = n
  · rw [if_pos hl] at h1
    have hx1 : (upd H1 dx (.own x)) x = none := (upd_ne (fun z => hne z.symm)).trans hx
    have e2 : Ex L1 H1 (L1 ++ [x]) (upd (upd H1 dx (.own x)) x (.ins C dx [])) := (Ex.new hdx).trans (Ex.newc hx1)
    have rep2 : Rep K (L1 ++ [x]) (upd (upd H1 dx (.own x)) x (.ins C dx [])) (S1 ++ [.ins C []]) := (rep1.new hdx).newc hx1 ⟨dx, [], upd_same, trivial⟩
    have hn : (L1 ++ [x])[S1.length]? = some x := by rw [← rep1.len, List.getElem?_append_right (Nat.le_refl _)]; simp
    refine ⟨by rw [List.length_cons, List.length_append, rvs.length, (hdd L1 H1).length]; omega, _, .ref S1.length :: (xs ++ dds), _, rep2, .cons (.ref hn) ((rvs.mono e2).append (hdd _ _)), ?_⟩
    refine (End.keep (L1 := L1 ++ [x]) (h1.later e2)).imp fun r S3 L3 H3 e3 rep3 h3 v rv => ?_
    have h3 := h3.later e3
    cases rv with
    | non => exact ⟨rfl, EndV.val (d := .ref S1.length) h3 rep3 (.ref (e3.px _ _ hn))⟩
    | _ => exact h3.elim
  · rw [if_neg hl] at h1; exact h1.elim
theorem xMake (M : Mk X.K C f) (Fo : FnOk X.prog X.w X.K X.mg X.base CX0 k f fd ps (spF X.K n F)) (hr : Room (k + 1) X.A) (hg : Gl X x) (hm : X.mg x = some (.ref C)) (hb : Binds X.K fd ps ds) (hd : Vals dvs ds) (hdd : ∀ L H, RDs X.K L H dvs dds)
    (ha : PA X (e :: es) (tA X.K E fs)) (hdb : (x == ("__debug__" : Str)) = false := by decide) (he : starEach (e :: es) X.env = (false, eval e X.env) :: starEach es X.env := by rfl) (hpl : (backTo pos (starEach es X.env)).any (·.1) = false := by rfl) :
    PE X (.Call (.Name x p) (e :: es) [] pos) (tE X.K E (fMake C F n dds fs)) := monoE (pe_make M Fo hr hg hm hb hd pass0 ha hdb he hpl) fun _ _ _ h => make_of hdd h
theorem xMake0 (M : Mk X.K C f) (Fo : FnOk X.prog X.w X.K X.mg X.base CX0 k f fd ps (spF X.K n F)) (hr : Room (k + 1) X.A) (hg : Gl X x) (hm : X.mg x = some (.ref C)) (hb : Binds X.K fd ps ds) (hd : Vals dvs ds) (hdd : ∀ L H, RDs X.K L H dvs dds)
    (hdb : (x == ("__debug__" : Str)) = false := by decide) : PE X (.Call (.Name x p) [] [] pos) (tE X.K E (fMake C F n dds fNil)) := monoE (pe_make0 M Fo hr hg hm hb hd pass0 hdb) fun σ H Q h => by
      have q : tMake C (spF X.K n F) dvs E0 (tA X.K E fNil) σ H Q := make_of hdd h
      obtain ⟨L, env, S, rep, re, q⟩ := q
      exact q L H (Ex.refl _ _) rep [] .nil
end
end RF

namespace RF
open PySem L2

/-! ### whole numbers -/
def oI (C : Int → Int → Bool) (g : Int → Int → Int) : Op2 := fun x y S => match x, y with
  | .int i, .int j => if C i j = true then .ok (.int (g i j)) S else .bad
  | _, _ => .bad
def oC (g : Int → Int → Bool) : Op2 := fun x y S => match x, y with
  | .int i, .int j => .ok (.bl (g i j)) S
  | _, _ => .bad
section
variable {K : PySem.W.Frag} {L : List Addr} {H : Hp} {S : Sto} {E : XK}
theorem opF_I {C : Int → Int → Bool} {P : Int → Int → Prop} {g : Int → Int → Int} (h : ∀ i j, C i j = true → P i j) : OpF K E (rI P fun i j => .int (g i j)) (oI C g) := by
  intro L H S x y d1 d2 Q rep r1 r2 q
  cases r1 with
  | int i =>
    cases r2 with
    | int j =>
      have q : EndV K E L H Q (if C i j = true then .ok (.int (g i j)) S else .bad) := q
      by_cases hc : C i j = true
      · rw [if_pos hc] at q
        exact ⟨i, j, rfl, rfl, h i j hc, EndV.val q rep (.int _)⟩
      · rw [if_neg hc] at q; exact q.elim
    | _ => exact q.elim
  | _ => exact q.elim
theorem opF_I0 {g : Int → Int → Int} : OpF K E (rI0 fun i j => .int (g i j)) (oI (fun _ _ => true) g) := by
  intro L H S x y d1 d2 Q rep r1 r2 q
  cases r1 with
  | int i =>
    cases r2 with
    | int j => exact ⟨i, j, rfl, rfl, EndV.val (d := .int (g i j)) q rep (.int _)⟩
    | _ => exact q.elim
  | _ => exact q.elim
theorem opF_C {g : Int → Int → Bool} : OpF K E (rI0 fun i j => .bl (g i j)) (oC g) := by
  intro L H S x y d1 d2 Q rep r1 r2 q
  cases r1 with
  | int i =>
    cases r2 with
    | int j => exact ⟨i, j, rfl, rfl, EndV.val (d := .bl (g i j)) q rep (.bl _)⟩
    | _ => exact q.elim
  | _ => exact q.elim
end
def oSub : Op2 := oI (fun _ _ => true) fun i j => i - j
def cMul (i j : Int) : Bool := decide ((-(2 ^ 64) < i ∧ i < 2 ^ 64) ∨ (-(2 ^ 64) < j ∧ j < 2 ^ 64))
def oMul : Op2 := oI cMul fun i j => i * j
def oMod : Op2 := oI (fun _ j => decide (0 < j)) fun i j => i % j
def cDiv (_ j : Int) : Bool := decide (0 < j ∧ j < 2 ^ 100)
def oDiv : Op2 := oI cDiv fun i j => i / j
def cPow (i j : Int) : Bool := decide (0 ≤ j ∧ j ≤ 1000 ∧ i.natAbs < 2 ^ 64)
def oPow : Op2 := oI cPow fun i j => i ^ j.toNat
def oLt : Op2 := oC fun i j => decide (i < j)
def oLe : Op2 := oC fun i j => decide (i ≤ j)
def oGt : Op2 := oC fun i j => decide (j < i)
def oGe : Op2 := oC fun i j => decide (j ≤ i)
def oNeg : Op1 := fun x S => match x with | .int i => .ok (.int (-i)) S | _ => .bad
section
variable {X : Cx} {K : PySem.W.Frag} {E : XK}
theorem f_sub : OpF K E (rI0 fun i j => .int (i - j)) oSub := opF_I0
theorem f_mul : OpF K E (rI CMul fun i j => .int (i * j)) oMul := opF_I fun i j h => by
  have h : (-(2 ^ 64) < i ∧ i < 2 ^ 64) ∨ (-(2 ^ 64) < j ∧ j < 2 ^ 64) := of_decide_eq_true h
  exact h
theorem f_mod : OpF K E (rI (fun _ j => 0 < j) fun i j => .int (i % j)) oMod := opF_I fun _ _ h => of_decide_eq_true h
theorem f_div : OpF K E (rI CDivW fun i j => .int (i / j)) oDiv := opF_I fun i j h => by
  have h : 0 < j ∧ j < 2 ^ 100 := of_decide_eq_true h
  exact wide_div (b := 100) h.1 (by omega) (by decide) (by decide)
theorem f_pow : OpF K E (rI CPow fun i j => .int (i ^ j.toNat)) oPow := opF_I fun i j h => by
  have h : 0 ≤ j ∧ j ≤ 1000 ∧ i.natAbs < 2 ^ 64 := of_decide_eq_true h
  exact ⟨h.1, by omega, h.2.2⟩
theorem f_lt : OpF K E (rI0 fun i j => .bl (decide (i < j))) oLt := opF_C
theorem f_le : OpF K E (rI0 fun i j => .bl (decide (i ≤ j))) oLe := opF_C
theorem f_gt : OpF K E (rI0 fun i j => .bl (decide (j < i))) oGt := opF_C
theorem f_ge : OpF K E (rI0 fun i j => .bl (decide (j ≤ i))) oGe := opF_C
theorem f_neg : UnF K E (rU fun i => .int (-i)) oNeg := by
  intro L H S x d Q rep r q
  cases r with
  | int i => exact ⟨i, rfl, EndV.val (d := .int (-i)) q rep (.int _)⟩
  | _ => exact q.elim
end

/-! ### sums of whole numbers, texts, tuples, lists -/
def oAdd : Op2 := fun x y S => match x, y with
  | .int i, .int j => .ok (.int (i + j)) S
  | .str i, .str j => if i.length + j.length ≤ 100000 then .ok (.str (i ++ j)) S else .bad
  | .tup xs, .tup ys => if xs.length + ys.length ≤ 100000 then .ok (.tup (xs ++ ys)) S else .bad
  | .ref n, .ref m => match S[n]?, S[m]? with
    | some (.lst xs), some (.lst ys) => if xs.length + ys.length ≤ 100000 then .ok (.ref S.length) (S ++ [.lst (xs ++ ys)]) else .bad
    | _, _ => .bad
  | _, _ => .bad
def rAddS : R2 := fun x y H Q => ∃ i j, x = .str i ∧ y = .str j ∧ i.length + j.length ≤ sizeLine ∧ Q (.str (i ++ j)) H
def rAddA (K : PySem.W.Frag) : R2 := fun x y H Q => (rI0 (fun i j => .int (i + j)) x y H Q ∨ rAddS x y H Q) ∨ (rCatA K x y H Q ∨ rCat x y H Q)
theorem op_addA {X : Cx} : OpR X (binaryOp .Add) (rAddA X.K) := (op_add.or op_add_str).or (op_catA.or op_cat)
theorem f_add {K : PySem.W.Frag} {E : XK} : OpF K E (rAddA K) oAdd := by
  intro L H S x y d1 d2 Q rep r1 r2 q
  cases r1 with
  | int i =>
    cases r2 with
    | int j => exact .inl (.inl ⟨i, j, rfl, rfl, EndV.val (d := .int (i + j)) q rep (.int _)⟩)
    | _ => exact q.elim
  | str i =>
    cases r2 with
    | str j =>
      have q : EndV K E L H Q (if i.length + j.length ≤ 100000 then .ok (.str (i ++ j)) S else .bad) := q
      by_cases hl : i.length + j.length ≤ 100000
      · rw [if_pos hl] at q
        exact .inl (.inr ⟨i, j, rfl, rfl, sz5 hl, EndV.val q rep (.str _)⟩)
      · rw [if_neg hl] at q; exact q.elim
    | _ => exact q.elim
  | @tup a vs xs hs rs =>
    cases r2 with
    | @tup b ws ys hs2 rs2 =>
      have q : EndV K E L H Q (if xs.length + ys.length ≤ 100000 then .ok (.tup (xs ++ ys)) S else .bad) := q
      by_cases hl : xs.length + ys.length ≤ 100000
      · rw [if_pos hl] at q
        refine .inr (.inl ⟨a, b, vs, ws, rfl, rfl, .of hs, .of hs2, by rw [rs.length, rs2.length]; exact sz5 hl, ?_, ?_, ?_⟩)
        · intro z
          subst z
          cases rs
          exact EndV.val q rep (.tup hs2 rs2)
        · intro _ z
          subst z
          cases rs2
          rw [List.append_nil] at q
          exact EndV.val q rep (.tup hs rs)
        · intro _ _ p hp
          exact EndV.val (q.later (Ex.new hp)) (rep.new hp) (.tup upd_same ((rs.append rs2).mono (Ex.new hp)))
      · rw [if_neg hl] at q; exact q.elim
    | _ => exact q.elim
  | @ref a n ha =>
    cases r2 with
    | @ref b m hb =>
      obtain ⟨c, hc, rc⟩ := rep.adr ha
      obtain ⟨c2, hc2, rc2⟩ := rep.adr hb
      unfold oAdd at q
      simp only [hc, hc2] at q
      cases c with
      | lst xs =>
        cases c2 with
        | lst ys =>
          simp only at q
          obtain ⟨vs, hv, rv⟩ := rc
          obtain ⟨ws, hw, rw'⟩ := rc2
          by_cases hl : xs.length + ys.length ≤ 100000
          · rw [if_pos hl] at q
            exact .inr (.inr ⟨a, b, vs, ws, rfl, rfl, hv, hw, by rw [rv.length, rw'.length]; exact sz5 hl, fun p hp => newList q rep (rv.append rw') p hp⟩)
          · rw [if_neg hl] at q; exact q.elim
        | _ => exact q.elim
      | _ => exact q.elim
    | _ => exact q.elim
  | _ => exact q.elim

/-! ### == of data -/
def leafP : D → Option PyData
  | .non => some .none
  | .bl b => some (.bool b)
  | .int i => some (.int i)
  | .str x => if PyData.strOk x = true then some (.str x) else none
  | _ => none
def toP (S : Sto) : Nat → D → Option PyData
  | 0, d => leafP d
  | k + 1, d => match d with
    | .tup xs => (xs.mapM (toP S k)).map .tuple
    | .rl xs => (xs.mapM (toP S k)).map .list
    | .ref n => match S[n]? with
      | some (.lst xs) => (xs.mapM (toP S k)).map .list
      | _ => none
    | d => leafP d
def P1 (k : Nat) (p : PyData) : Prop := p.canLay0 = true ∧ p.depth ≤ k
section
variable {K : PySem.W.Frag} {L : List Addr} {H : Hp} {S : Sto} {E : XK}
theorem leafP_of {v : V} {d : D} {p : PyData} (k : Nat) (r : RD K L H v d) (h : leafP d = some p) : Dp K H v p ∧ P1 k p := by
  cases r with
  | non => cases h; exact ⟨.non, by simp [P1, PyData.canLay0, PyData.depth]⟩
  | bl b => cases h; exact ⟨.bl b, by simp [P1, PyData.canLay0, PyData.depth]⟩
  | int b => cases h; exact ⟨.int b, by simp [P1, PyData.canLay0, PyData.depth]⟩
  | str b =>
    have h : (if PyData.strOk b = true then some (PyData.str b) else none) = some p := h
    by_cases hb : PyData.strOk b = true
    · rw [if_pos hb] at h
      cases h
      exact ⟨.str b, by simp [P1, PyData.canLay0, PyData.depth, hb]⟩
    · rw [if_neg hb] at h; cases h
  | _ => cases h
theorem mapM_cons_some {α β : Type} {f : α → Option β} {a : α} {as : List α} {bs : List β} (h : (a :: as).mapM f = some bs) : ∃ b bs', f a = some b ∧ as.mapM f = some bs' ∧ bs = b :: bs' := by
  rw [List.mapM_cons] at h
  cases q : f a with
  | none => rw [q] at h; cases h
  | some b =>
    rw [q] at h
    cases q2 : as.mapM f with
    | none => rw [q2] at h; cases h
    | some bs' =>
      rw [q2] at h
      exact ⟨b, bs', rfl, rfl, (Option.some.inj h).symm⟩
def PA1 (k : Nat) (ps : List PyData) : Prop := PyData.canLayAll0 ps = true ∧ PyData.depthAll ps ≤ k
theorem toPs_of (k : Nat) (ih : ∀ v d p, RD K L H v d → toP S k d = some p → Dp K H v p ∧ P1 k p) : ∀ {vs : List V} {ds : List D} {ps : List PyData}, RDs K L H vs ds → ds.mapM (toP S k) = some ps → DpAll K H vs ps ∧ PA1 k ps
  | _, _, _, .nil, h => by
    simp at h
    subst h
    exact ⟨.nil, by simp [PA1, PyData.canLayAll0, PyData.depthAll]⟩
  | _, _, _, .cons a b, h => by
    obtain ⟨p, ps, h1, h2, rfl⟩ := mapM_cons_some h
    obtain ⟨x1, x2, x3⟩ := ih _ _ _ a h1
    obtain ⟨y1, y2, y3⟩ := toPs_of k ih b h2
    exact ⟨.cons x1 y1, by simp [PyData.canLayAll0, x2, y2], by simp only [PyData.depthAll]; omega⟩
theorem toP_of (rep : Rep K L H S) : ∀ (k : Nat) (v : V) (d : D) (p : PyData), RD K L H v d → toP S k d = some p → Dp K H v p ∧ P1 k p
  | 0, _, _, _, r, h => leafP_of 0 r h
  | k + 1, _, _, _, r, h => by
    have many : ∀ {vs : List V} {ds : List D} {ps : List PyData}, RDs K L H vs ds → ds.mapM (toP S k) = some ps → DpAll K H vs ps ∧ PA1 k ps := toPs_of k fun v d p r h => toP_of rep k v d p r h
    cases r with
    | @tup a vs ds hs rs =>
      obtain ⟨ps, h1, rfl⟩ := Option.map_eq_some_iff.mp (show (ds.mapM (toP S k)).map PyData.tuple = some _ from h)
      obtain ⟨x1, x2, x3⟩ := many rs h1
      exact ⟨.tup (.of hs) x1, by simp only [PyData.canLay0]; exact x2, by simp only [PyData.depth]; omega⟩
    | @rl a vs ds hs rs =>
      obtain ⟨ps, h1, rfl⟩ := Option.map_eq_some_iff.mp (show (ds.mapM (toP S k)).map PyData.list = some _ from h)
      obtain ⟨x1, x2, x3⟩ := many rs h1
      exact ⟨.lst (hs H fun _ _ _ z => z) x1, by simp only [PyData.canLay0]; exact x2, by simp only [PyData.depth]; omega⟩
    | @ref a n ha =>
      obtain ⟨c, hc, rc⟩ := rep.adr ha
      unfold toP at h
      simp only [hc] at h
      cases c with
      | lst xs =>
        obtain ⟨ps, h1, rfl⟩ := Option.map_eq_some_iff.mp h
        obtain ⟨vs, hv, rv⟩ := rc
        obtain ⟨x1, x2, x3⟩ := many rv h1
        exact ⟨.lst (.of hv) x1, by simp only [PyData.canLay0]; exact x2, by simp only [PyData.depth]; omega⟩
      | _ => cases h
    | kt hs rs => exact nomatch (show (none : Option PyData) = some _ from h)
    | non => exact leafP_of (L := L) (k + 1) .non h
    | bl b => exact leafP_of (L := L) (k + 1) (.bl b) h
    | int b => exact leafP_of (L := L) (k + 1) (.int b) h
    | str b => exact leafP_of (L := L) (k + 1) (.str b) h
theorem P1.shaped {k : Nat} {p : PyData} (h : P1 k p) (hk : k ≤ 64) : SeqAt.shaped p = true := by
  unfold SeqAt.shaped
  rw [h.1, decide_eq_true (Nat.le_trans h.2 hk)]
  rfl
end
def oEq : Op2 := fun x y S => match toP S 20 x, toP S 20 y with
  | some p, some q => .ok (.bl (PyData.eqv p q)) S
  | _, _ => .bad
def oNe : Op2 := fun x y S => match toP S 20 x, toP S 20 y with
  | some p, some q => .ok (.bl (!PyData.eqv p q)) S
  | _, _ => .bad
def oInL (neg : Bool) : Op2 := fun x y S => match toP S 20 x, toP S 20 y with
  | some p, some (.list qs) => .ok (.bl (if neg = true then !(qs.any fun z => PyData.eqv z p) else qs.any fun z => PyData.eqv z p)) S
  | _, _ => .bad
def isNonD : D → Bool
  | .non => true
  | _ => false
def oIsN : Op2 := fun x y S => match y with
  | .non => .ok (.bl (isNonD x)) S
  | _ => .bad
def oNotN : Op2 := fun x y S => match y with
  | .non => .ok (.bl (!isNonD x)) S
  | _ => .bad
def oIsB : Op2 := fun x y S => match x, y with
  | .bl a, .bl b => .ok (.bl (decide (a = b))) S
  | _, _ => .bad
/-- one sign in a text -/
def oInS (neg : Bool) : Op2 := fun x y S => match x, y with
  | .str ⟨⟨[c]⟩⟩, .str z => .ok (.bl (if neg = true then !decide (c ∈ z.cps.toList) else decide (c ∈ z.cps.toList))) S
  | _, _ => .bad
def oLeS : Op2 := fun x y S => match x, y with
  | .str i, .str j => .ok (.bl (!decide (j.cps.toList < i.cps.toList))) S
  | _, _ => .bad
section
variable {X : Cx} {K : PySem.W.Frag} {E : XK}
theorem f_eq : OpF K E (rEqD K) oEq := by
  intro L H S x y d1 d2 Q rep r1 r2 q
  unfold oEq at q
  cases h1 : toP S 20 d1 with
  | none => rw [h1] at q; exact q.elim
  | some p1 =>
    cases h2 : toP S 20 d2 with
    | none => rw [h1, h2] at q; exact q.elim
    | some p2 =>
      rw [h1, h2] at q
      obtain ⟨a1, a2⟩ := toP_of rep 20 _ _ _ r1 h1
      obtain ⟨b1, b2⟩ := toP_of rep 20 _ _ _ r2 h2
      exact ⟨p1, p2, a1, b1, a2.shaped (by decide), b2.shaped (by decide), EndV.val q rep (.bl _)⟩
theorem f_ne : OpF K E (rNeD K) oNe := by
  intro L H S x y d1 d2 Q rep r1 r2 q
  unfold oNe at q
  cases h1 : toP S 20 d1 with
  | none => rw [h1] at q; exact q.elim
  | some p1 =>
    cases h2 : toP S 20 d2 with
    | none => rw [h1, h2] at q; exact q.elim
    | some p2 =>
      rw [h1, h2] at q
      obtain ⟨a1, a2⟩ := toP_of rep 20 _ _ _ r1 h1
      obtain ⟨b1, b2⟩ := toP_of rep 20 _ _ _ r2 h2
      exact ⟨p1, p2, a1, b1, a2.shaped (by decide), b2.shaped (by decide), EndV.val q rep (.bl _)⟩
theorem f_inL : OpF K E (rInD K) (oInL false) := by
  intro L H S x y d1 d2 Q rep r1 r2 q
  unfold oInL at q
  cases h1 : toP S 20 d1 with
  | none => rw [h1] at q; exact q.elim
  | some p1 =>
    cases h2 : toP S 20 d2 with
    | none => rw [h1, h2] at q; exact q.elim
    | some p2 =>
      rw [h1, h2] at q
      obtain ⟨a1, a2⟩ := toP_of rep 20 _ _ _ r1 h1
      obtain ⟨b1, b2⟩ := toP_of rep 20 _ _ _ r2 h2
      cases p2 with
      | list ps => exact ⟨p1, ps, a1, b1, a2.shaped (by decide), b2.shaped (by decide), EndV.val q rep (.bl _)⟩
      | _ => exact q.elim
theorem f_notInL : OpF K E (rNotInD K) (oInL true) := by
  intro L H S x y d1 d2 Q rep r1 r2 q
  unfold oInL at q
  cases h1 : toP S 20 d1 with
  | none => rw [h1] at q; exact q.elim
  | some p1 =>
    cases h2 : toP S 20 d2 with
    | none => rw [h1, h2] at q; exact q.elim
    | some p2 =>
      rw [h1, h2] at q
      obtain ⟨a1, a2⟩ := toP_of rep 20 _ _ _ r1 h1
      obtain ⟨b1, b2⟩ := toP_of rep 20 _ _ _ r2 h2
      cases p2 with
      | list ps => exact ⟨p1, ps, a1, b1, a2.shaped (by decide), b2.shaped (by decide), EndV.val q rep (.bl _)⟩
      | _ => exact q.elim
theorem RD.isN {K : PySem.W.Frag} {L : List Addr} {H : Hp} {v : V} {d : D} (r : RD K L H v d) : decide (v = .non) = isNonD d := by
  cases r <;> rfl
theorem f_isN : OpF K E (fun x y H Q => y = .non ∧ Q (.bl (decide (x = .non))) H) oIsN := by
  intro L H S x y d1 d2 Q rep r1 r2 q
  cases r2 with
  | non => exact ⟨rfl, EndV.val (d := .bl _) q rep (by rw [r1.isN]; exact .bl _)⟩
  | _ => exact q.elim
theorem f_notN : OpF K E (fun x y H Q => y = .non ∧ Q (.bl (!decide (x = .non))) H) oNotN := by
  intro L H S x y d1 d2 Q rep r1 r2 q
  cases r2 with
  | non =>
    refine ⟨rfl, EndV.val (d := .bl _) q rep ?_⟩
    rw [r1.isN]
    exact .bl _
  | _ => exact q.elim
theorem f_inS : OpF K E (fun x y H Q => ∃ (c : Nat) (z : Str), x = .str ⟨#[c]⟩ ∧ y = .str z ∧ Q (.bl (decide (c ∈ z.cps.toList))) H) (oInS false) := by
  intro L H S x y d1 d2 Q rep r1 r2 q
  unfold oInS at q
  cases r1 with
  | str i =>
    cases r2 with
    | str z =>
      obtain ⟨⟨l⟩⟩ := i
      match l, q with
      | [c], q => exact ⟨c, z, rfl, rfl, EndV.val (d := .bl _) q rep (.bl _)⟩
      | [], q => exact q.elim
      | _ :: _ :: _, q => exact q.elim
    | _ => split at q <;> first | exact q.elim | (rename_i h1 h2; cases h2)
  | _ => exact q.elim
theorem f_notInS : OpF K E (fun x y H Q => ∃ (c : Nat) (z : Str), x = .str ⟨#[c]⟩ ∧ y = .str z ∧ Q (.bl (!decide (c ∈ z.cps.toList))) H) (oInS true) := by
  intro L H S x y d1 d2 Q rep r1 r2 q
  unfold oInS at q
  cases r1 with
  | str i =>
    cases r2 with
    | str z =>
      obtain ⟨⟨l⟩⟩ := i
      match l, q with
      | [c], q => exact ⟨c, z, rfl, rfl, EndV.val (d := .bl _) q rep (.bl _)⟩
      | [], q => exact q.elim
      | _ :: _ :: _, q => exact q.elim
    | _ => split at q <;> first | exact q.elim | (rename_i h1 h2; cases h2)
  | _ => exact q.elim
theorem f_leS : OpF K E (fun x y H Q => ∃ i j, x = .str i ∧ y = .str j ∧ Q (.bl (!decide (j.cps.toList < i.cps.toList))) H) oLeS := by
  intro L H S x y d1 d2 Q rep r1 r2 q
  cases r1 with
  | str i =>
    cases r2 with
    | str j => exact ⟨i, j, rfl, rfl, EndV.val (d := .bl _) q rep (.bl _)⟩
    | _ => exact q.elim
  | _ => exact q.elim
theorem f_isB : OpF K E (fun x y H Q => ∃ a b, x = .bl a ∧ y = .bl b ∧ Q (.bl (decide (a = b))) H) oIsB := by
  intro L H S x y d1 d2 Q rep r1 r2 q
  cases r1 with
  | bl i =>
    cases r2 with
    | bl j => exact ⟨i, j, rfl, rfl, EndV.val (d := .bl _) q rep (.bl _)⟩
    | _ => exact q.elim
  | _ => exact q.elim
end
end RF

namespace RF
open PySem L2

/-! ### built-in functions -/
def lenD (S : Sto) : D → Option Nat
  | .tup xs => some xs.length
  | .rl xs => some xs.length
  | .str z => if z.length ≤ 100000 then some z.length else none
  | .ref n => match S[n]? with
    | some (.lst xs) => some xs.length
    | some (.dk kvs) => some kvs.length
    | some (.dt kvs) => some kvs.length
    | _ => none
  | _ => none
def oLen : OpN := fun ds S => match ds with
  | [x] => match lenD S x with
    | some n => .ok (.int (n : Nat)) S
    | none => .bad
  | _ => .bad
def oMin2 : OpN := fun ds S => match ds with
  | [.int i, .int j] => .ok (.int (if j < i then j else i)) S
  | _ => .bad
def oMax2 : OpN := fun ds S => match ds with
  | [.int i, .int j] => .ok (.int (if j > i then j else i)) S
  | _ => .bad
def oInt : OpN := fun ds S => match ds with
  | [.int i] => .ok (.int i) S
  | [.bl k] => .ok (.int (if k = true then 1 else 0)) S
  | _ => .bad
def seqD (S : Sto) : D → Option (List D)
  | .tup xs => some xs
  | .rl xs => some xs
  | .ref n => match S[n]? with
    | some (.lst xs) => some xs
    | _ => none
  | _ => none
def oList : OpN := fun ds S => match ds with
  | [x] => match seqD S x with
    | some xs => .ok (.ref S.length) (S ++ [.lst xs])
    | none => .bad
  | _ => .bad
def oTuple : OpN := fun ds S => match ds with
  | [x] => match seqD S x with
    | some xs => .ok (.tup xs) S
    | none => .bad
  | _ => .bad
def blsD : List D → Option (List Bool)
  | [] => some []
  | .bl b :: ds => (blsD ds).map (b :: ·)
  | _ => none
def lstD (S : Sto) : D → Option (List D)
  | .rl xs => some xs
  | .ref n => match S[n]? with
    | some (.lst xs) => some xs
    | _ => none
  | _ => none
def oAll : OpN := fun ds S => match ds with
  | [x] => match lstD S x with
    | some xs => match blsD xs with
      | some bs => .ok (.bl (bs.all id)) S
      | none => .bad
    | none => .bad
  | _ => .bad
def oAny : OpN := fun ds S => match ds with
  | [x] => match lstD S x with
    | some xs => match blsD xs with
      | some bs => .ok (.bl (bs.any id)) S
      | none => .bad
    | none => .bad
  | _ => .bad
def rLenA (K : PySem.W.Frag) : List V → Hp → VK → Prop := fun xs H Q => (∃ x n, xs = [x] ∧ LenV K x H n ∧ Q (.int n) H) ∨ ((∃ a kvs, xs = [V.ref a] ∧ H a = some (.dK kvs) ∧ Q (.int kvs.length) H) ∨ rLenT xs H Q)
theorem call_lenA {X : Cx} : CallR X (.builtin "len") (rLenA X.K) := call_len.or (call_lenD.or call_len_dT)
section
variable {X : Cx} {K : PySem.W.Frag} {E : XK} {L : List Addr} {H : Hp} {S : Sto}
theorem RDs.one {xs : List V} {d : D} (r : RDs K L H xs [d]) : ∃ x, xs = [x] ∧ RD K L H x d := by
  cases r with
  | cons a b => cases b; exact ⟨_, rfl, a⟩
theorem RDs.two {xs : List V} {d e : D} (r : RDs K L H xs [d, e]) : ∃ x y, xs = [x, y] ∧ RD K L H x d ∧ RD K L H y e := by
  cases r with
  | cons a b =>
    obtain ⟨y, rfl, r2⟩ := b.one
    exact ⟨_, _, rfl, a, r2⟩
theorem f_len : CaF K E (rLenA K) oLen := by
  intro L H S xs ds Q rep rs q
  match ds, rs, q with
  | [], _, q => exact q.elim
  | _ :: _ :: _, _, q => exact q.elim
  | [d], rs, q =>
    obtain ⟨x, rfl, r⟩ := rs.one
    unfold oLen at q
    simp only at q
    cases h : lenD S d with
    | none => rw [h] at q; exact q.elim
    | some n =>
      rw [h] at q
      have fin : Q (.int (n : Nat)) H := EndV.val q rep (.int _)
      cases r with
      | tup hs rs2 => cases h; exact .inl ⟨_, _, rfl, .inr ⟨_, .of hs, rfl⟩, by rw [rs2.length]; exact fin⟩
      | rl hs rs2 => cases h; exact .inl ⟨_, _, rfl, .inl ⟨_, hs H fun _ _ _ z => z, rfl⟩, by rw [rs2.length]; exact fin⟩
      | str z =>
        have h : (if z.length ≤ 100000 then some z.length else none) = some n := h
        by_cases hz : z.length ≤ 100000
        · rw [if_pos hz] at h
          cases h
          exact .inl ⟨_, _, rfl, ⟨sz5 hz, rfl⟩, fin⟩
        · rw [if_neg hz] at h; cases h
      | @ref a m ha =>
        obtain ⟨c, hc, rc⟩ := rep.adr ha
        unfold lenD at h
        simp only [hc] at h
        cases c with
        | lst ys =>
          cases h
          obtain ⟨vs, hv, rv⟩ := rc
          exact .inl ⟨_, _, rfl, .inl ⟨_, .of hv, rfl⟩, by rw [rv.length]; exact fin⟩
        | dk kvs =>
          cases h
          obtain ⟨ws, hw, rk⟩ := rc
          exact .inr (.inl ⟨_, _, rfl, hw, by rw [rk.length]; exact fin⟩)
        | dt kvs =>
          cases h
          obtain ⟨ws, hw, rk⟩ := rc
          exact .inr (.inr ⟨_, _, rfl, hw, by rw [rk.length]; exact fin⟩)
        | _ => cases h
      | _ => cases h
theorem int2 {xs : List V} {i j : Int} (r : RDs K L H xs [.int i, .int j]) : xs = [.int i, .int j] := by
  obtain ⟨x, y, rfl, r1, r2⟩ := r.two
  cases r1; cases r2; rfl
theorem f_min2 : CaF K E (fun xs H Q => ∃ i j, xs = [.int i, .int j] ∧ Q (.int (if j < i then j else i)) H) oMin2 := by
  intro L H S xs ds Q rep rs q
  unfold oMin2 at q
  split at q
  · exact ⟨_, _, int2 rs, EndV.val q rep (.int _)⟩
  · exact q.elim
theorem f_max2 : CaF K E (fun xs H Q => ∃ i j, xs = [.int i, .int j] ∧ Q (.int (if j > i then j else i)) H) oMax2 := by
  intro L H S xs ds Q rep rs q
  unfold oMax2 at q
  split at q
  · exact ⟨_, _, int2 rs, EndV.val q rep (.int _)⟩
  · exact q.elim
theorem f_int : CaF K E (fun xs H Q => (∃ i, xs = [.int i] ∧ Q (.int i) H) ∨ ∃ k, xs = [.bl k] ∧ Q (.int (if k then 1 else 0)) H) oInt := by
  intro L H S xs ds Q rep rs q
  unfold oInt at q
  split at q
  · obtain ⟨x, rfl, r⟩ := rs.one
    cases r
    exact .inl ⟨_, rfl, EndV.val q rep (.int _)⟩
  · obtain ⟨x, rfl, r⟩ := rs.one
    cases r
    exact .inr ⟨_, rfl, EndV.val q rep (.int _)⟩
  · exact q.elim
theorem seqD_of {v : V} {d : D} {xs : List D} (rep : Rep K L H S) (r : RD K L H v d) (h : seqD S d = some xs) : ∃ a vs, v = .ref a ∧ RDs K L H vs xs ∧ ((SqL K H a vs ∧ d ≠ .tup xs) ∨ (H a = some (.tup vs) ∧ d = .tup xs)) := by
  cases r with
  | tup hs rs => cases h; exact ⟨_, _, rfl, rs, .inr ⟨hs, rfl⟩⟩
  | rl hs rs => cases h; exact ⟨_, _, rfl, rs, .inl ⟨hs H fun _ _ _ z => z, fun z => nomatch z⟩⟩
  | @ref a m ha =>
    obtain ⟨c, hc, rc⟩ := rep.adr ha
    unfold seqD at h
    simp only [hc] at h
    cases c with
    | lst ys =>
      cases h
      obtain ⟨vs, hv, rv⟩ := rc
      exact ⟨_, _, rfl, rv, .inl ⟨.of hv, fun z => nomatch z⟩⟩
    | _ => cases h
  | _ => cases h
theorem f_list : CaF K E (fun xs H Q => ∃ p ys, xs = [.ref p] ∧ (SqL K H p ys ∨ SqT K H p ys) ∧ ∀ l, H l = none → Q (.ref l) (upd H l (.lst ys))) oList := by
  intro L H S xs ds Q rep rs q
  match ds, rs, q with
  | [], _, q => exact q.elim
  | _ :: _ :: _, _, q => exact q.elim
  | [d], rs, q =>
    obtain ⟨x, rfl, r⟩ := rs.one
    unfold oList at q
    simp only at q
    cases h : seqD S d with
    | none => rw [h] at q; exact q.elim
    | some ys =>
      rw [h] at q
      obtain ⟨a, vs, rfl, rv, k⟩ := seqD_of rep r h
      refine ⟨a, vs, rfl, ?_, fun p hp => newList q rep rv p hp⟩
      rcases k with ⟨k, _⟩ | ⟨k, _⟩
      · exact .inl k
      · exact .inr (.of k)
theorem f_tuple : CaF K E (fun xs H Q => ∃ p ys, xs = [.ref p] ∧ ((SqL K H p ys ∧ ∀ l, H l = none → Q (.ref l) (upd H l (.tup ys))) ∨ (SqT K H p ys ∧ Q (.ref p) H))) oTuple := by
  intro L H S xs ds Q rep rs q
  match ds, rs, q with
  | [], _, q => exact q.elim
  | _ :: _ :: _, _, q => exact q.elim
  | [d], rs, q =>
    obtain ⟨x, rfl, r⟩ := rs.one
    unfold oTuple at q
    simp only at q
    cases h : seqD S d with
    | none => rw [h] at q; exact q.elim
    | some ys =>
      rw [h] at q
      obtain ⟨a, vs, rfl, rv, k⟩ := seqD_of rep r h
      refine ⟨a, vs, rfl, ?_⟩
      rcases k with ⟨k, _⟩ | ⟨k, _⟩
      · exact .inl ⟨k, fun p hp => EndV.val (q.later (Ex.new hp)) (rep.new hp) (.tup upd_same (rv.mono (Ex.new hp)))⟩
      · exact .inr ⟨.of k, EndV.val q rep (.tup k rv)⟩
theorem bls_of : ∀ {ds : List D} {vs : List V} {bs : List Bool}, RDs K L H vs ds → blsD ds = some bs → vs = bs.map V.bl
  | [], _, _, .nil, h => by cases h; rfl
  | .bl b :: ds, _, _, .cons a r, h => by
    obtain ⟨bs', h1, rfl⟩ := Option.map_eq_some_iff.mp (show (blsD ds).map (b :: ·) = some _ from h)
    cases a
    rw [bls_of r h1]
    rfl
  | .non :: _, _, _, _, h => by cases h
  | .int _ :: _, _, _, _, h => by cases h
  | .str _ :: _, _, _, _, h => by cases h
  | .ref _ :: _, _, _, _, h => by cases h
  | .rl _ :: _, _, _, _, h => by cases h
  | .tup _ :: _, _, _, _, h => by cases h
theorem lstD_of {v : V} {d : D} {xs : List D} (rep : Rep K L H S) (r : RD K L H v d) (h : lstD S d = some xs) : ∃ a vs, v = .ref a ∧ RDs K L H vs xs ∧ SqL K H a vs := by
  cases r with
  | rl hs rs => cases h; exact ⟨_, _, rfl, rs, hs H fun _ _ _ z => z⟩
  | @ref a m ha =>
    obtain ⟨c, hc, rc⟩ := rep.adr ha
    unfold lstD at h
    simp only [hc] at h
    cases c with
    | lst ys =>
      cases h
      obtain ⟨vs, hv, rv⟩ := rc
      exact ⟨_, _, rfl, rv, .of hv⟩
    | _ => cases h
  | _ => cases h
theorem f_all : CaF K E (rAll K) oAll := by
  intro L H S xs ds Q rep rs q
  match ds, rs, q with
  | [], _, q => exact q.elim
  | _ :: _ :: _, _, q => exact q.elim
  | [d], rs, q =>
    obtain ⟨x, rfl, r⟩ := rs.one
    unfold oAll at q
    simp only at q
    cases h : lstD S d with
    | none => rw [h] at q; exact q.elim
    | some ys =>
      rw [h] at q
      simp only at q
      cases h2 : blsD ys with
      | none => rw [h2] at q; exact q.elim
      | some bs =>
        rw [h2] at q
        obtain ⟨a, vs, rfl, rv, k⟩ := lstD_of rep r h
        obtain rfl := bls_of rv h2
        exact ⟨a, bs, rfl, k, EndV.val q rep (.bl _)⟩
theorem f_any : CaF K E (rAny K) oAny := by
  intro L H S xs ds Q rep rs q
  match ds, rs, q with
  | [], _, q => exact q.elim
  | _ :: _ :: _, _, q => exact q.elim
  | [d], rs, q =>
    obtain ⟨x, rfl, r⟩ := rs.one
    unfold oAny at q
    simp only at q
    cases h : lstD S d with
    | none => rw [h] at q; exact q.elim
    | some ys =>
      rw [h] at q
      simp only at q
      cases h2 : blsD ys with
      | none => rw [h2] at q; exact q.elim
      | some bs =>
        rw [h2] at q
        obtain ⟨a, vs, rfl, rv, k⟩ := lstD_of rep r h
        obtain rfl := bls_of rv h2
        exact ⟨a, bs, rfl, k, EndV.val q rep (.bl _)⟩
end

/-! ### types -/
/-- the built-in type of a value -/
def tyD (S : Sto) : D → Option String
  | .non => some "NoneType"
  | .bl _ => some "bool"
  | .int _ => some "int"
  | .str _ => some "str"
  | .tup _ => some "tuple"
  | .rl _ => some "list"
  | .kt _ => none
  | .ref n => match S[n]? with
    | some (.lst _) => some "list"
    | some (.dk _) => some "dict"
    | some (.dt _) => some "dict"
    | _ => none
/-- isinstance of one of the types by which we ask -/
def isiD (t T : String) : Option Bool :=
  if T = "int" then some (decide (t = "int" ∨ t = "bool")) else if T = "bool" ∨ T = "str" ∨ T = "tuple" ∨ T = "list" ∨ T = "dict" then some (decide (t = T)) else none
def fIsi (T : String) (fa : EF) : EF := fun env S => (fa env S).bind fun x S1 => match tyD S1 x with
  | some t => match isiD t T with
    | some b => .ok (.bl b) S1
    | none => .bad
  | none => .bad
def fTyIs (T : String) (neg : Bool) (fa : EF) : EF := fun env S => (fa env S).bind fun x S1 => match tyD S1 x with
  | some t => .ok (.bl (if neg = true then !decide (t = T) else decide (t = T))) S1
  | none => .bad
section
variable {X : Cx} {K : PySem.W.Frag} {E : XK} {L : List Addr} {H : Hp} {S : Sto}
theorem tyD_of {v : V} {d : D} {t : String} (rep : Rep K L H S) (r : RD K L H v d) (h : tyD S d = some t) : TyX K H v (.type t) := by
  cases r with
  | kt hs rs => exact nomatch (show (none : Option String) = some _ from h)
  | non => cases h; exact .base .non
  | bl b => cases h; exact .base (.bl b)
  | int b => cases h; exact .base (.int b)
  | str b => cases h; exact .base (.str b)
  | tup hs rs => cases h; exact .base (.tup hs)
  | rl hs rs =>
    cases h
    rcases hs H fun _ _ _ z => z with (z | ⟨o, z⟩) | ⟨o, its, n, z1, z2, _⟩
    · exact .base (.lst z)
    · exact .base (.frz z)
    · exact .kList z1 z2
  | @ref a n ha =>
    obtain ⟨c, hc, rc⟩ := rep.adr ha
    unfold tyD at h
    simp only [hc] at h
    cases c with
    | lst ys =>
      cases h
      obtain ⟨vs, hv, rv⟩ := rc
      exact .base (.lst hv)
    | dk ys =>
      cases h
      obtain ⟨vs, hv, rv⟩ := rc
      exact .base (.dK hv)
    | dt ys =>
      cases h
      obtain ⟨vs, hv, rv⟩ := rc
      exact .base (.dT hv)
    | _ => cases h
theorem tyD_mem {d : D} {t : String} (h : tyD S d = some t) : t = "NoneType" ∨ t = "bool" ∨ t = "int" ∨ t = "str" ∨ t = "tuple" ∨ t = "list" ∨ t = "dict" := by
  cases d with
  | ref n =>
    unfold tyD at h
    simp only at h
    split at h <;> cases h <;> simp
  | kt xs => exact nomatch (show (none : Option String) = some _ from h)
  | _ => cases h; simp
theorem isi_all : ∀ t ∈ ["NoneType", "bool", "int", "str", "tuple", "list", "dict"], ∀ T ∈ ["int", "bool", "str", "tuple", "list", "dict"], kitB t T = isiD t T := by decide +kernel
theorem isi_kit {t T : String} {b : Bool} (ht : t = "NoneType" ∨ t = "bool" ∨ t = "int" ∨ t = "str" ∨ t = "tuple" ∨ t = "list" ∨ t = "dict") (h : isiD t T = some b) : PySem.W.kitOne K (.type t) (.type T) = some b := by
  refine kit_ty ?_
  have hT : T ∈ ["int", "bool", "str", "tuple", "list", "dict"] := by
    unfold isiD at h
    by_cases h1 : T = "int"
    · rw [h1]; simp
    · rw [if_neg h1] at h
      by_cases h2 : T = "bool" ∨ T = "str" ∨ T = "tuple" ∨ T = "list" ∨ T = "dict"
      · simp only [List.mem_cons, List.not_mem_nil, or_false]
        exact .inr h2
      · rw [if_neg h2] at h; cases h
  rw [isi_all t (by simpa using ht) T hT]
  exact h
theorem xIsi {e : Expr} {fa : EF} {T : String} {x : Str} {p q pos : Pos} (he : PE X e (tE X.K E fa)) (hT : bootBuiltins x = some (.type T)) (hgT : Gl X x) (hmT : X.mg x = none) (hg : Gl X "isinstance") (hm : X.mg "isinstance" = none)
    (hn : x ≠ "__name__" := by decide) (hd : (x == ("__debug__" : Str)) = false := by decide)
    (s1 : starEach [e, .Name x q] X.env = (false, eval e X.env) :: starEach [.Name x q] X.env := by rfl) (s2 : starEach [.Name x q] X.env = (false, eval (.Name x q) X.env) :: starEach [] X.env := by rfl) (hpl : (backTo pos (starEach [.Name x q] X.env)).any (·.1) = false := by rfl) :
    PE X (.Call (.Name "isinstance" p) [e, .Name x q] [] pos) (tE X.K E (fIsi T fa)) :=
  monoE (pe_callB call_isi hg hm (by decide +kernel) (pa_cons he (pa_cons (pe_bltn (v := .ty T) hgT hmT hT rfl hn hd) pa_nil s2) s1) (he := s1) (hpl := hpl)) fun σ H Q h => by
    obtain ⟨L, env, S, rep, re, h⟩ := h
    refine ⟨L, env, S, rep, re, (End.bind h).imp fun x S1 L1 H1 e1 rep1 h1 v rv => ?_⟩
    cases h2 : tyD S1 x with
    | none => rw [h2] at h1; exact h1.elim
    | some t =>
      rw [h2] at h1
      simp only at h1
      cases h3 : isiD t T with
      | none => rw [h3] at h1; exact h1.elim
      | some b =>
        rw [h3] at h1
        exact ⟨v, .ty T, _, _, b, rfl, .ty T, tyD_of rep1 rv h2, isi_kit (tyD_mem h2) h3, EndV.val h1 rep1 (.bl b)⟩
def rTyX (K : PySem.W.Frag) : List V → Hp → VK → Prop := fun xs H Q => (rTyp K xs H Q) ∨ ∃ a kvs, xs = [.ref a] ∧ H a = some (.dT kvs) ∧ Q (.ty "dict") H
theorem call_typeX : CallR X (.type "type") (rTyX X.K) := by
  refine call_type1.or ?_
  intro pins s σ H xs us Q I r h
  obtain ⟨a, kvs, rfl, ha, q⟩ := h
  obtain ⟨u, rfl, rx⟩ := vals1 r
  cases (show u = Value.ref a from rx)
  obtain ⟨_, _, xs, _, o, es, ep, h1, h2, _⟩ := (show ObjOk X.prog X.w H s.heap a (.dT kvs) from I.hok a _ ha)
  exact PySem.call_type_of (Tx := "dict") ⟨o, h1, h2.1⟩ (by decide +kernel) ⟨.ty "dict", H, I, rfl, q⟩
theorem type_of {v : V} {d : D} {t : String} {Q : VK} (rep : Rep K L H S) (r : RD K L H v d) (h : tyD S d = some t) (q : Q (.ty t) H) : rTyX K [v] H Q := by
  cases r with
  | kt hs rs => exact nomatch (show (none : Option String) = some _ from h)
  | non => cases h; exact .inl ⟨_, _, rfl, .non, q⟩
  | bl b => cases h; exact .inl ⟨_, _, rfl, .bl b, q⟩
  | int b => cases h; exact .inl ⟨_, _, rfl, .int b, q⟩
  | str b => cases h; exact .inl ⟨_, _, rfl, .str b, q⟩
  | tup hs rs => cases h; exact .inl ⟨_, _, rfl, .tup (.of hs), q⟩
  | rl hs rs => cases h; exact .inl ⟨_, _, rfl, .lst (hs H fun _ _ _ z => z), q⟩
  | @ref a n ha =>
    obtain ⟨c, hc, rc⟩ := rep.adr ha
    unfold tyD at h
    simp only [hc] at h
    cases c with
    | lst ys =>
      cases h
      obtain ⟨vs, hv, rv⟩ := rc
      exact .inl ⟨_, _, rfl, .lst (.of hv), q⟩
    | dk ys =>
      cases h
      obtain ⟨vs, hv, rv⟩ := rc
      exact .inl ⟨_, _, rfl, .dK hv, q⟩
    | dt ys =>
      cases h
      obtain ⟨vs, hv, rv⟩ := rc
      exact .inr ⟨_, _, rfl, hv, q⟩
    | _ => cases h
/-- type(e) is T -/
theorem xTyIs {e : Expr} {fa : EF} {T : String} {x : Str} {p q pos pos' : Pos} (he : PE X e (tE X.K E fa)) (hT : bootBuiltins x = some (.type T)) (hgT : Gl X x) (hmT : X.mg x = none) (hg : Gl X "type") (hm : X.mg "type" = none)
    (hn : x ≠ "__name__" := by decide) (hd : (x == ("__debug__" : Str)) = false := by decide)
    (s1 : starEach [e] X.env = (false, eval e X.env) :: starEach [] X.env := by rfl) :
    PE X (.Compare (.Call (.Name "type" p) [e] [] pos) [.Is] [.Name x q] pos') (tE X.K E (fTyIs T false fa)) :=
  monoE (pe_cmpR op_isTyB (pe_callTy call_typeX hg hm (by decide +kernel) (pa_cons he pa_nil s1) (he := s1)) (pe_bltn (v := .ty T) hgT hmT hT rfl hn hd) (nomark _)) fun σ H Q h => by
    obtain ⟨L, env, S, rep, re, h⟩ := h
    refine ⟨L, env, S, rep, re, (End.bind h).imp fun x S1 L1 H1 e1 rep1 h1 v rv => ?_⟩
    cases h2 : tyD S1 x with
    | none => rw [h2] at h1; exact h1.elim
    | some t =>
      rw [h2] at h1
      exact type_of rep1 rv h2 ⟨t, T, rfl, rfl, EndV.val h1 rep1 (.bl _)⟩
theorem xTyNot {e : Expr} {fa : EF} {T : String} {x : Str} {p q pos pos' : Pos} (he : PE X e (tE X.K E fa)) (hT : bootBuiltins x = some (.type T)) (hgT : Gl X x) (hmT : X.mg x = none) (hg : Gl X "type") (hm : X.mg "type" = none)
    (hn : x ≠ "__name__" := by decide) (hd : (x == ("__debug__" : Str)) = false := by decide)
    (s1 : starEach [e] X.env = (false, eval e X.env) :: starEach [] X.env := by rfl) :
    PE X (.Compare (.Call (.Name "type" p) [e] [] pos) [.IsNot] [.Name x q] pos') (tE X.K E (fTyIs T true fa)) :=
  monoE (pe_cmpR op_notTyB (pe_callTy call_typeX hg hm (by decide +kernel) (pa_cons he pa_nil s1) (he := s1)) (pe_bltn (v := .ty T) hgT hmT hT rfl hn hd) (nomark _)) fun σ H Q h => by
    obtain ⟨L, env, S, rep, re, h⟩ := h
    refine ⟨L, env, S, rep, re, (End.bind h).imp fun x S1 L1 H1 e1 rep1 h1 v rv => ?_⟩
    cases h2 : tyD S1 x with
    | none => rw [h2] at h1; exact h1.elim
    | some t =>
      rw [h2] at h1
      exact type_of rep1 rv h2 ⟨t, T, rfl, rfl, EndV.val h1 rep1 (.bl _)⟩
end

/-! ### slices -/
abbrev PF := Lc → Sto → R (Option Int)
def pNo : PF := fun _ S => .ok none S
def pSo (fa : EF) : PF := fun env S => (fa env S).bind fun x S1 => match x with
  | .int i => .ok (some i) S1
  | _ => .bad
def cutD {α : Type} (xs : List α) (lo hi : Option Int) : List α := (xs.drop (HT.sIx xs.length 0 lo)).take (HT.sIx xs.length xs.length hi - HT.sIx xs.length 0 lo)
def oSl (x : D) (lo hi : Option Int) (S : Sto) : R D := match x with
  | .tup xs => .ok (.tup (cutD xs lo hi)) S
  | .str z => if z.length ≤ 100000 then .ok (.str ⟨(cutD z.cps.toList lo hi).toArray⟩) S else .bad
  | .rl xs => .ok (.ref S.length) (S ++ [.lst (cutD xs lo hi)])
  | .ref n => match S[n]? with
    | some (.lst xs) => .ok (.ref S.length) (S ++ [.lst (cutD xs lo hi)])
    | _ => .bad
  | _ => .bad
def fSl (fa : EF) (pl ph : PF) : EF := fun env S => (fa env S).bind fun x S1 => (pl env S1).bind fun l S2 => (ph env S2).bind fun h S3 => oSl x l h S3
def tP (K : PySem.W.Frag) (E : XK) (f : PF) : TO := fun σ H Q => ∃ L env S, Rep K L H S ∧ RE K L H σ env ∧ End K E L H (fun o _ _ H1 => Q o H1) (f env S)
def rSlA' (K : PySem.W.Frag) : V → Option Int → Option Int → Hp → VK → Prop := fun x lo hi H Q => (rSlA K x lo hi H Q ∨ rSlS x lo hi H Q) ∨ rSlL K x lo hi H Q
section
variable {X : Cx} {K : PySem.W.Frag} {E : XK} {L : List Addr} {H : Hp} {S : Sto}
theorem xPNo : PO X none (tP X.K E pNo) := ⟨fun pins s σ H Q I ⟨L, env, S, rep, re, h⟩ => po_none.run pins s σ H Q I (h L H (Ex.refl _ _) rep)⟩
theorem xPSo {e : Expr} {fa : EF} (he : PE X e (tE X.K E fa)) : PO X (some e) (tP X.K E (pSo fa)) := ⟨fun pins s σ H Q I ⟨L, env, S, rep, re, h⟩ => (po_some he).run pins s σ H Q I ⟨L, env, S, rep, re, (End.bind h).imp fun x S1 L1 H1 e1 rep1 h1 v rv => by
  cases rv with
  | int i => exact ⟨i, rfl, h1 L1 H1 (Ex.refl _ _) rep1⟩
  | _ => exact h1.elim⟩⟩
theorem cut_rd {vs : List V} {ds : List D} {lo hi : Option Int} (r : RDs K L H vs ds) : RDs K L H (cutV vs lo hi) (cutD ds lo hi) := by
  unfold cutV cutD
  rw [r.length]
  exact (r.drop _).take _
theorem cut_all {ds : List D} {lo hi : Option Int} (h1 : HT.sIx ds.length 0 lo = 0) (h2 : HT.sIx ds.length ds.length hi = ds.length) : cutD ds lo hi = ds := by
  unfold cutD
  rw [h1, h2]
  simp
theorem slF {x : V} {d : D} {lo hi : Option Int} {Q : VK} (rep : Rep K L H S) (r : RD K L H x d) (q : EndV K E L H Q (oSl d lo hi S)) : rSlA' K x lo hi H Q := by
  cases r with
  | @tup a vs ds hs rs =>
    refine .inl (.inl ⟨a, vs, rfl, .of hs, fun ⟨h1, h2⟩ => ?_, fun _ p hp => ?_⟩)
    · rw [rs.length] at h1 h2
      have q : EndV K E L H Q (.ok (.tup (cutD ds lo hi)) S) := q
      rw [cut_all h1 h2] at q
      exact EndV.val q rep (.tup hs rs)
    · have q : EndV K E L H Q (.ok (.tup (cutD ds lo hi)) S) := q
      exact EndV.val (q.later (Ex.new hp)) (rep.new hp) (.tup upd_same ((cut_rd rs).mono (Ex.new hp)))
  | str z =>
    have q : EndV K E L H Q (if z.length ≤ 100000 then .ok (.str ⟨(cutD z.cps.toList lo hi).toArray⟩) S else .bad) := q
    by_cases hz : z.length ≤ 100000
    · rw [if_pos hz] at q
      exact .inl (.inr ⟨z, rfl, sz5 hz, EndV.val (d := .str (cutS z lo hi)) (by
        have e : (⟨(cutD z.cps.toList lo hi).toArray⟩ : Str) = cutS z lo hi := by
          unfold cutD cutS
          rw [show z.cps.toList.length = z.length from by simp [Str.length]]
        rw [← e]; exact q) rep (.str _)⟩)
    · rw [if_neg hz] at q; exact q.elim
  | @rl a vs ds hs rs =>
    exact .inr ⟨a, vs, rfl, hs H fun _ _ _ z => z, fun p hp => newList q rep (cut_rd rs) p hp⟩
  | @ref a n ha =>
    obtain ⟨c, hc, rc⟩ := rep.adr ha
    unfold oSl at q
    simp only [hc] at q
    cases c with
    | lst ys =>
      obtain ⟨vs, hv, rv⟩ := rc
      exact .inr ⟨a, vs, rfl, .of hv, fun p hp => newList q rep (cut_rd rv) p hp⟩
    | _ => exact q.elim
  | _ => exact q.elim
theorem xSl {e : Expr} {lo hi : Option Expr} {fa : EF} {pl ph : PF} {p2 pos : Pos} (he : PE X e (tE X.K E fa)) (hl : PO X lo (tP X.K E pl)) (hh : PO X hi (tP X.K E ph)) : PE X (.Subscript e (.Slice lo hi none p2) pos) (tE X.K E (fSl fa pl ph)) :=
  monoE (pe_slice (r := rSlA' X.K) ((sl_tupA.or sl_str).or sl_list) he hl hh) fun σ H Q h => by
    obtain ⟨L, env, S, rep, re, h⟩ := h
    refine ⟨L, env, S, rep, re, (End.bind h).imp fun x S1 L1 H1 e1 rep1 h1 v rv => ?_⟩
    refine ⟨L1, env, S1, rep1, re.mono e1, (End.bind h1).imp fun l S2 L2 H2 e2 rep2 h2 => ?_⟩
    refine ⟨L2, env, S2, rep2, (re.mono e1).mono e2, (End.bind h2).imp fun h S3 L3 H3 e3 rep3 h3 => ?_⟩
    exact slF rep3 ((rv.mono e2).mono e3) h3
end

/-! ### methods of lists, texts, dicts -/
def tyIn (T : String) (S : Sto) : D → Bool
  | .str _ => decide (T = "str")
  | .rl _ => decide (T = "list")
  | .ref n => match S[n]? with
    | some (.lst _) => decide (T = "list")
    | some (.dk _) => decide (T = "dict")
    | some (.dt _) => decide (T = "dict")
    | _ => false
  | _ => false
abbrev OpM := D → List D → Sto → R D
def fBm (T : String) (o : OpM) (fo : EF) (fs : AF) : EF := fun env S => (fo env S).bind fun x S1 => if tyIn T S1 x = true then (fs env S1).bind fun ds S2 => o x ds S2 else .bad
def fBm0 (T : String) (o : OpM) (fo : EF) : EF := fun env S => (fo env S).bind fun x S1 => if tyIn T S1 x = true then o x [] S1 else .bad
section
variable {X : Cx} {K : PySem.W.Frag} {E : XK} {L : List Addr} {H : Hp} {S : Sto} {T : String}
theorem tyIn_of {v : V} {d : D} (rep : Rep K L H S) (r : RD K L H v d) (h : tyIn T S d = true) : tyV K T v H := by
  cases r with
  | str z =>
    have h : decide (T = "str") = true := h
    show T = "str"
    exact of_decide_eq_true h
  | rl hs rs => exact .inl ⟨of_decide_eq_true h, _, hs H fun _ _ _ z => z⟩
  | @ref a n ha =>
    obtain ⟨c, hc, rc⟩ := rep.adr ha
    unfold tyIn at h
    simp only [hc] at h
    cases c with
    | lst ys =>
      obtain ⟨vs, hv, rv⟩ := rc
      exact .inl ⟨of_decide_eq_true h, vs, .of hv⟩
    | dk ys =>
      obtain ⟨vs, hv, rv⟩ := rc
      exact .inr (.inr (.inl ⟨of_decide_eq_true h, .inl ⟨_, hv⟩⟩))
    | dt ys =>
      obtain ⟨vs, hv, rv⟩ := rc
      exact .inr (.inr (.inl ⟨of_decide_eq_true h, .inr ⟨_, hv⟩⟩))
    | _ => cases h
  | _ => cases h
theorem xBm {o e : Expr} {es : List Expr} {name : Str} {id : String} {r : V → List V → Hp → VK → Prop} {om : OpM} {fo : EF} {fs : AF} {apos cpos : Pos} (pa : PlainAttrs T) (slot : Slot T name id) (hty : typeOf (.builtin id) = pure (.type "method_descriptor")) (hm : MtR X id r) (hf : MtF X.K E r om)
    (ho : PE X o (tE X.K E fo)) (ha : PA X (e :: es) (tA X.K E fs))
    (hbase : attributeBase o name X.env (eval o X.env) = eval o X.env := by rfl)
    (hfew : ((backTo cpos (starEach (e :: es) X.env)).all (fun x => !x.1) && (backToKw cpos (keywordEach [] X.env)).all (fun x => x.1.isSome)
      && decide ((e :: es).length + ([] : List Keyword).length + (if ([] : List Keyword).isEmpty then 0 else 1) < 30)) = true := by rfl)
    (hline : (apos.endLine == cpos.line) = true := by rfl) (hs : starEach (e :: es) X.env = (false, eval e X.env) :: starEach es X.env := by rfl) (hplain : (backTo cpos (starEach es X.env)).any (·.1) = false := by rfl) :
    PE X (.Call (.Attribute o name apos) (e :: es) [] cpos) (tE X.K E (fBm T om fo fs)) :=
  monoE (pe_bm pa slot hty hm ho ha hbase hfew hline hs hplain) fun σ H Q h => by
    obtain ⟨L, env, S, rep, re, h⟩ := h
    refine ⟨L, env, S, rep, re, (End.bind h).imp fun x S1 L1 H1 e1 rep1 h1 v rv => ?_⟩
    by_cases ht : tyIn T S1 x = true
    · rw [if_pos ht] at h1
      exact ⟨tyIn_of rep1 rv ht, L1, env, S1, rep1, re.mono e1, (End.bind h1).imp fun xs S2 L2 H2 e2 rep2 h2 vs rvs => hf L2 H2 S2 _ _ _ _ _ rep2 (rv.mono e2) rvs h2⟩
    · rw [if_neg ht] at h1; exact h1.elim
theorem xBm0 {o : Expr} {name : Str} {id : String} {r : V → List V → Hp → VK → Prop} {om : OpM} {fo : EF} {apos cpos : Pos} (pa : PlainAttrs T) (slot : Slot T name id) (hty : typeOf (.builtin id) = pure (.type "method_descriptor")) (hm : MtR X id r) (hf : MtF X.K E r om)
    (ho : PE X o (tE X.K E fo)) (hbase : attributeBase o name X.env (eval o X.env) = eval o X.env := by rfl) (hline : (apos.endLine == cpos.line) = true := by rfl) :
    PE X (.Call (.Attribute o name apos) [] [] cpos) (tE X.K E (fBm0 T om fo)) :=
  monoE (pe_bm0 pa slot hty hm ho hbase hline) fun σ H Q h => by
    obtain ⟨L, env, S, rep, re, h⟩ := h
    refine ⟨L, env, S, rep, re, (End.bind h).imp fun x S1 L1 H1 e1 rep1 h1 v rv => ?_⟩
    by_cases ht : tyIn T S1 x = true
    · rw [if_pos ht] at h1
      exact ⟨tyIn_of rep1 rv ht, hf L1 H1 S1 _ _ _ _ _ rep1 rv .nil h1⟩
    · rw [if_neg ht] at h1; exact h1.elim
def mAppend : OpM := fun x ds S => match x, ds with
  | .ref n, [d] => match S[n]? with
    | some (.lst xs) => if xs.length < 100000 then .ok .non (S.set n (.lst (xs ++ [d]))) else .bad
    | _ => .bad
  | _, _ => .bad
theorem f_append : MtF K E rAppend mAppend := by
  intro L H S x xs d ds Q rep r rs q
  unfold mAppend at q
  split at q
  · rename_i n y
    cases r with
    | @ref a _ ha =>
      obtain ⟨w, rfl, rw'⟩ := rs.one
      obtain ⟨c, hc, rc⟩ := rep.adr ha
      simp only [hc] at q
      cases c with
      | lst ys =>
        simp only at q
        obtain ⟨vs, hv, rv⟩ := rc
        by_cases hl : ys.length < 100000
        · rw [if_pos hl] at q
          have gr : Gr L H L (upd H a (.lst (vs ++ [w]))) := Gr.wr rep ha
          obtain ⟨ex, rep2⟩ := rep.write (o := .lst (vs ++ [w])) (c := .lst (ys ++ [y])) ha ⟨_, upd_same, (rv.append (.cons rw' .nil)).grow gr⟩
          exact ⟨a, vs, w, rfl, rfl, hv, by rw [rv.length]; exact sz5l hl, q L _ ex rep2 _ .non⟩
        · rw [if_neg hl] at q; exact q.elim
      | _ => exact q.elim
  · exact q.elim
def strsD : List D → Option (List Str)
  | [] => some []
  | .str b :: ds => (strsD ds).map (b :: ·)
  | _ => none
def mJoin : OpM := fun x ds S => match x, ds with
  | .str a, [y] => match seqD S y with
    | some xs => match strsD xs with
      | some ys => if (ys.map (·.length)).sum + ys.length * a.length ≤ 100000 then .ok (.str (Txt.join a ys)) S else .bad
      | none => .bad
    | none => .bad
  | _, _ => .bad
theorem strs_of : ∀ {ds : List D} {vs : List V} {bs : List Str}, RDs K L H vs ds → strsD ds = some bs → vs = bs.map V.str
  | [], _, _, .nil, h => by cases h; rfl
  | .str b :: ds, _, _, .cons a r, h => by
    obtain ⟨bs', h1, rfl⟩ := Option.map_eq_some_iff.mp (show (strsD ds).map (b :: ·) = some _ from h)
    cases a
    rw [strs_of r h1]
    rfl
  | .non :: _, _, _, _, h => by cases h
  | .int _ :: _, _, _, _, h => by cases h
  | .bl _ :: _, _, _, _, h => by cases h
  | .ref _ :: _, _, _, _, h => by cases h
  | .rl _ :: _, _, _, _, h => by cases h
  | .tup _ :: _, _, _, _, h => by cases h
theorem f_join : MtF K E (fun x xs H Q => ∃ a p, ∃ ys : List Str, x = .str a ∧ xs = [.ref p] ∧ (SqL K H p (ys.map V.str) ∨ SqT K H p (ys.map V.str)) ∧ (ys.map (·.length)).sum + ys.length * a.length ≤ 16777216 ∧ Q (.str (Txt.join a ys)) H) mJoin := by
  intro L H S x xs d ds Q rep r rs q
  unfold mJoin at q
  split at q
  · rename_i a y
    cases r
    obtain ⟨w, rfl, rw'⟩ := rs.one
    cases h : seqD S y with
    | none => rw [h] at q; exact q.elim
    | some zs =>
      rw [h] at q
      simp only at q
      cases h2 : strsD zs with
      | none => rw [h2] at q; exact q.elim
      | some ys =>
        rw [h2] at q
        simp only at q
        obtain ⟨p, vs, rfl, rv, k⟩ := seqD_of rep rw' h
        obtain rfl := strs_of rv h2
        by_cases hl : (ys.map (·.length)).sum + ys.length * a.length ≤ 100000
        · rw [if_pos hl] at q
          refine ⟨a, p, ys, rfl, rfl, ?_, Nat.le_trans hl (by decide), EndV.val q rep (.str _)⟩
          rcases k with ⟨k, _⟩ | ⟨k, _⟩
          · exact .inl k
          · exact .inr (.of k)
        · rw [if_neg hl] at q; exact q.elim
  · exact q.elim
end
/-- a text, sign by sign -/
def sgnD (z : Str) : List D := z.cps.toList.map fun c => .str ⟨#[c]⟩
def fIterS (fa : EF) : IF := fun env S => (fa env S).bind fun x S1 => match x with
  | .str z => .ok (.fix (sgnD z)) S1
  | _ => .bad
theorem xIterS {X : Cx} {E : XK} {tg e : Expr} {fa : EF} (he : PE X e (tE X.K E fa)) : PI X tg e (tI X.K E (fIterS fa)) := by
  refine ⟨fun pins s σ H R I q => (pi_str he).run pins s σ H R I ?_⟩
  obtain ⟨L, env, S, rep, re, q⟩ := q
  refine ⟨L, env, S, rep, re, (End.bind q).imp fun x S1 L1 H1 e1 rep1 h1 v rv => ?_⟩
  cases rv with
  | str z =>
    refine ⟨z, rfl, h1 L1 H1 (Ex.refl _ _) rep1 _ fun i L2 H2 S2 e2 rep2 => ⟨fun d hd => ?_, fun hl => ?_⟩⟩
    · unfold sgnD at hd
      rw [List.getElem?_map] at hd
      obtain ⟨c, hc, rfl⟩ := Option.map_eq_some_iff.mp hd
      have hs : i < z.cps.size := by
        have := (List.getElem?_eq_some_iff.mp hc).1
        simpa using this
      refine ⟨hs, fun y H3 hy => ?_⟩
      obtain ⟨rfl, c', hc', rfl⟩ := hy
      have e : c' = c := by
        rw [← Array.getElem?_toList] at hc'
        rw [hc] at hc'
        exact (Option.some.inj hc').symm
      subst e
      exact ⟨Ex.refl _ _, rep2, .str _⟩
    · show z.cps.size ≤ i
      unfold sgnD at hl
      simpa using hl
  | _ => exact h1.elim
end RF

namespace RF
open PySem L2
theorem hu65 {A : Around} {k : Nat} (hr : Room k A) : A.units + 65 < cLine := by have := hr.un; omega
section
variable {X : Cx} {E : XK} {o e : Expr} {fo fv fa : EF} {pos pos' : Pos} {C : Addr} {f g : Str}
theorem xFldE (hf : f = g) (T : Cls X.K C) (N : NoAttr X.K C g) (he : PE X e (tE X.K E fo)) (hb : attributeBase e f X.env (eval e X.env) = eval e X.env := by rfl) : PE X (.Attribute e f pos) (tE X.K E (fFld C g fo)) := by
  subst hf; exact xFld T N he hb
theorem xSetFldE (hf : f = g) (T : Cls X.K C) (N : NoAttr X.K C g) (ho : PE X o (tE X.K E fo)) (hv : PE X e (tE X.K E fv)) (hs : swapsWith e (some (.Attribute o f pos')) pos.line X.env = pure false := by rfl) : PS X (.Assign [.Attribute o f pos'] e pos) (tS X.K E (fSetFld C g fo fv)) := by
  subst hf; exact xSetFld T N ho hv hs
/-- a module's constant int -/
theorem xGlobI {x : Str} {i : Int} (hg : Gl X x) (hm : ∃ t, X.mg x = some (.int i t)) (hd : (x == ("__debug__" : Str)) = false := by decide) : PE X (.Name x pos) (tE X.K E (fC (.int i))) := by
  obtain ⟨t, h⟩ := hm
  exact xGlob (v := .int i) hg h ⟨t, rfl⟩ (fun _ _ => .int i) hd
end
/-- a, b = a tuple or a list of that length -/
def gUnp (n : Nat) (gs : GsF) : GF := fun d env S => match seqD S d with
  | some ds => if ds.length = n then gs ds env S else .bad
  | none => .bad
theorem xgUnp {X : Cx} {E : XK} {es : List Expr} {pos : Pos} {k n : Nat} {gs : GsF} (hc : X.calm = true) (h : PGs X es (tGs X.K E gs)) (hn : (assignEach es X.env).length = n := by rfl) (hst : (assignEach es X.env).findIdx? (·.1) = none := by rfl) : PG X (.Tuple es k pos) (tG X.K E (gUnp n gs)) := by
  refine ⟨fun pins s σ H v u Q I r q => ?_⟩
  obtain ⟨L, env, S, d, rep, re, rd, q⟩ := q
  unfold gUnp at q
  cases h1 : seqD S d with
  | none => rw [h1] at q; exact q.elim
  | some ds =>
    rw [h1] at q
    simp only at q
    by_cases hl : ds.length = n
    · rw [if_pos hl] at q
      obtain ⟨a, vs, rfl, rs, k1⟩ := seqD_of rep rd h1
      rcases k1 with ⟨k1, _⟩ | ⟨k1, _⟩
      · exact (pg_unl hc h hn hst).run pins s σ H _ u Q I r ⟨a, vs, rfl, k1, by rw [rs.length]; exact hl, L, env, S, ds, rep, re, rs, q⟩
      · exact (pg_tup hc h hn hst).run pins s σ H _ u Q I r ⟨a, vs, rfl, .of k1, by rw [rs.length]; exact hl, L, env, S, ds, rep, re, rs, q⟩
    · rw [if_neg hl] at q; exact q.elim
theorem xTyIsT {X : Cx} {E : XK} {e : Expr} {fa : EF} {T : String} {x : Str} {p q pos pos' : Pos} (he : PE X e (tE X.K E fa)) (hT : bootBuiltins x = some (.type T)) (hgT : Gl X x) (hmT : X.mg x = none) (hg : Gl X "type") (hm : X.mg "type" = none)
    (hn : x ≠ "__name__" := by decide) (hd : (x == ("__debug__" : Str)) = false := by decide)
    (s1 : starEach [e] X.env = (false, eval e X.env) :: starEach [] X.env := by rfl) :
    PT X (.Compare (.Call (.Name "type" p) [e] [] pos) [.Is] [.Name x q] pos') (tT X.K E (fTest (fTyIs T false fa))) :=
  monoT (pt_cmpR op_isTyB (pe_callTy call_typeX hg hm (by decide +kernel) (pa_cons he pa_nil s1) (he := s1)) (pe_bltn (v := .ty T) hgT hmT hT rfl hn hd) (nomark _)) fun σ H Q h => by
    obtain ⟨L, env, S, rep, re, h⟩ := test_of h
    refine ⟨L, env, S, rep, re, (End.bind h).imp fun x S1 L1 H1 e1 rep1 h1 v rv => ?_⟩
    cases h2 : tyD S1 x with
    | none => rw [h2] at h1; exact h1.elim
    | some t =>
      rw [h2] at h1
      exact type_of rep1 rv h2 ⟨t, T, rfl, rfl, EndV.val h1 rep1 (.bl _)⟩
theorem xTyNotT {X : Cx} {E : XK} {e : Expr} {fa : EF} {T : String} {x : Str} {p q pos pos' : Pos} (he : PE X e (tE X.K E fa)) (hT : bootBuiltins x = some (.type T)) (hgT : Gl X x) (hmT : X.mg x = none) (hg : Gl X "type") (hm : X.mg "type" = none)
    (hn : x ≠ "__name__" := by decide) (hd : (x == ("__debug__" : Str)) = false := by decide)
    (s1 : starEach [e] X.env = (false, eval e X.env) :: starEach [] X.env := by rfl) :
    PT X (.Compare (.Call (.Name "type" p) [e] [] pos) [.IsNot] [.Name x q] pos') (tT X.K E (fTest (fTyIs T true fa))) :=
  monoT (pt_cmpR op_notTyB (pe_callTy call_typeX hg hm (by decide +kernel) (pa_cons he pa_nil s1) (he := s1)) (pe_bltn (v := .ty T) hgT hmT hT rfl hn hd) (nomark _)) fun σ H Q h => by
    obtain ⟨L, env, S, rep, re, h⟩ := test_of h
    refine ⟨L, env, S, rep, re, (End.bind h).imp fun x S1 L1 H1 e1 rep1 h1 v rv => ?_⟩
    cases h2 : tyD S1 x with
    | none => rw [h2] at h1; exact h1.elim
    | some t =>
      rw [h2] at h1
      exact type_of rep1 rv h2 ⟨t, T, rfl, rfl, EndV.val h1 rep1 (.bl _)⟩
/-- {} -/
def fDict0 : EF := fun _ S => .ok (.ref S.length) (S ++ [.dk []])
def fDictT0 : EF := fun _ S => .ok (.ref S.length) (S ++ [.dt []])
theorem xDict0 {X : Cx} {E : XK} {pos : Pos} : PE X (.Dict [] [] pos) (tE X.K E fDict0) :=
  monoE pe_dnewK fun σ H Q ⟨L, env, S, rep, re, h⟩ p hp => by
    have ex := Ex.newc (L := L) (o := .dK []) hp
    refine EndV.val (h.later ex) (rep.newc hp ⟨[], upd_same, trivial⟩) (.ref ?_)
    rw [← rep.len, List.getElem?_append_right (Nat.le_refl _)]
    simp
theorem xDictT0 {X : Cx} {E : XK} {pos : Pos} : PE X (.Dict [] [] pos) (tE X.K E fDictT0) :=
  monoE pe_dnewT fun σ H Q ⟨L, env, S, rep, re, h⟩ p hp => by
    have ex := Ex.newc (L := L) (o := .dT []) hp
    refine EndV.val (h.later ex) (rep.newc hp ⟨[], upd_same, trivial⟩) (.ref ?_)
    rw [← rep.len, List.getElem?_append_right (Nat.le_refl _)]
    simp
/-- the law's promise -/
def spLaw (K : PySem.W.Frag) : Sp := fun vs H Q _ => ∃ (a : Addr) (ns : List Int), vs = [.ref a] ∧ Only H ∧ SqL K H a (ns.map V.int) ∧ ns.length ≤ 63 ∧ (∀ z ∈ ns, Builtin.Int.intBits z ≤ 1048576) ∧ ∀ H1, Q (.bl true) H1
def isTrue1 : R D → Prop
  | .ok d _ => d = .bl true
  | _ => False
theorem ints_rd {K : PySem.W.Frag} {L : List Addr} {H : Hp} : ∀ ns : List Int, RDs K L H (ns.map V.int) (ns.map D.int)
  | [] => .nil
  | n :: ns => .cons (.int n) (ints_rd ns)
theorem law_sp {P : Program} {w : World} {K : PySem.W.Frag} {mg : Str → Option Value} {base : Heap} {k : Nat} {f : Addr} {fd : FuncData} {ps : List Str} {F : FF} (Fo : FnOk P w K mg base CX0 k f fd ps (spF K 1 F))
    (h : ∀ ns : List Int, ns.length ≤ 63 → (∀ z ∈ ns, Builtin.Int.intBits z ≤ 1048576) → isTrue1 (F [.rl (ns.map D.int)] [])) : FnOk P w K mg base CX0 k f fd ps (spLaw K) :=
  have key : ∀ vs H Q E, spLaw K vs H Q E → spF K 1 F vs H Q E := fun vs H Q E q => by
    obtain ⟨a, ns, rfl, hO, hS, hl, hb, k⟩ := q
    refine ⟨rfl, [], [.rl (ns.map D.int)], [], ⟨rfl, .nil, fun n a c h => by simp at h⟩, .cons (.rl (fun H1 hf => ?_) (ints_rd ns)) .nil, ?_⟩
    · rcases hS with (z | ⟨o, z⟩) | z
      · rcases hO a with z2 | ⟨o, xs, z2⟩ <;> rw [z] at z2 <;> cases z2
      · exact .inl (.inr ⟨o, hf _ _ _ z⟩)
      · exact .inr z
    · have t := h ns hl hb
      cases q : F [.rl (ns.map D.int)] [] with
      | ok d S =>
        rw [q] at t
        have t : d = .bl true := t
        subst t
        intro L1 H1 _ _ v rv
        cases rv
        exact k H1
      | ex c S => rw [q] at t; exact t.elim
      | bad => rw [q] at t; exact t.elim
  ⟨fun vs H Q E q => Fo.len vs H Q E (key _ _ _ _ q), fun A outer s H args us vs Q E hr he hb hv q => Fo.run A outer s H args us vs Q E hr he hb hv (key _ _ _ _ q)⟩
end RF

/-! running the functions by rewriting -/
namespace RF
open PySem L2

theorem bind_congr' {α β : Type} {x y : R α} {k : α → Sto → R β} (h : x = y) : x.bind k = y.bind k := by rw [h]
theorem nox_congr' {α : Type} {x y : R α} (h : x = y) : x.nox = y.nox := by rw [h]
theorem nox_bad' {α : Type} : (R.bad : R α).nox = .bad := (rfl)

section
variable {α : Type} {i n m : Nat} {env : Lc} {S : Sto} {d x y z : D} {ds xs : List D} {f g fa fb fc fo : EF} {fs : AF} {ft fu : BF} {sf sg : SF} {gf : GF} {gs : GsF} {o o' : Op2} {u : Op1} {b : Bool} {C : Addr} {nm : Str} {F : FF} {dds : List D} {fi : IF} {e : Lc} {fl : Fl}
def varK : Option (Option D) → Sto → R D
  | some (some d), S => .ok d S
  | _, _ => .bad
theorem ap_fVar : fVar i env S = varK env[i]? S := by
  unfold fVar varK
  cases env[i]? with
  | none => rfl
  | some o => cases o <;> rfl
theorem varK_some : varK (some (some d)) S = .ok d S := (rfl)
theorem ap_fC : fC d env S = .ok d S := (rfl)
def binK (o : Op2) (fb : EF) (env : Lc) : D → Sto → R D := fun x S1 => (fb env S1).bind fun y S2 => o x y S2
theorem ap_fBin : fBin o fa fb env S = (fa env S).bind (binK o fb env) := (rfl)
theorem ap_binK : binK o fb env x S = (fb env S).bind (o x) := (rfl)
theorem ap_fUn : fUn u fa env S = (fa env S).bind u := (rfl)
theorem ap_fApp {oN : OpN} : fApp oN fs env S = (fs env S).bind oN := (rfl)
theorem ap_fNil : fNil env S = .ok [] S := (rfl)
def consK (fs : AF) (env : Lc) : D → Sto → R (List D) := fun x S1 => (fs env S1).bind fun xs S2 => .ok (x :: xs) S2
def consK2 (x : D) : List D → Sto → R (List D) := fun xs S2 => .ok (x :: xs) S2
theorem ap_fCons : fCons fa fs env S = (fa env S).bind (consK fs env) := (rfl)
theorem ap_consK : consK fs env x S = (fs env S).bind (consK2 x) := (rfl)
theorem ap_consK2 : consK2 x xs S = .ok (x :: xs) S := (rfl)
def tupK : List D → Sto → R D := fun xs S1 => if xs.length ≤ 100000 then .ok (.tup xs) S1 else .bad
def lstK : List D → Sto → R D := fun xs S1 => if xs.length ≤ 100000 then .ok (.ref S1.length) (S1 ++ [.lst xs]) else .bad
theorem ap_fTup : fTup fs env S = (fs env S).bind tupK := (rfl)
theorem ap_fLst : fLst fs env S = (fs env S).bind lstK := (rfl)
theorem ap_tupK : tupK xs S = if xs.length ≤ 100000 then .ok (.tup xs) S else .bad := (rfl)
theorem ap_lstK : lstK xs S = if xs.length ≤ 100000 then .ok (.ref S.length) (S ++ [.lst xs]) else .bad := (rfl)
def testK : D → Sto → R Bool := fun x S1 => match x with | .bl b => .ok b S1 | _ => .bad
theorem ap_fTest : fTest fa env S = (fa env S).bind testK := (rfl)
theorem ap_testK : testK (.bl b) S = .ok b S := (rfl)
def valK' : Bool → Sto → R D := fun b S1 => .ok (.bl b) S1
theorem ap_fVal : fVal ft env S = (ft env S).bind valK' := (rfl)
theorem ap_valK : valK' b S = .ok (.bl b) S := (rfl)
def andK (g : BF) (env : Lc) : Bool → Sto → R Bool := fun b S1 => if b = true then g env S1 else .ok false S1
def orK (g : BF) (env : Lc) : Bool → Sto → R Bool := fun b S1 => if b = true then .ok true S1 else g env S1
def notK : Bool → Sto → R Bool := fun b S1 => .ok (!b) S1
theorem ap_fAnd : fAnd ft fu env S = (ft env S).bind (andK fu env) := (rfl)
theorem ap_fOr : fOr ft fu env S = (ft env S).bind (orK fu env) := (rfl)
theorem ap_fNot : fNot ft env S = (ft env S).bind notK := (rfl)
theorem ap_andK : andK fu env b S = if b = true then fu env S else .ok false S := (rfl)
theorem ap_orK : orK fu env b S = if b = true then .ok true S else fu env S := (rfl)
theorem ap_notK : notK b S = .ok (!b) S := (rfl)
def andVK (g : EF) (env : Lc) : D → Sto → R D := fun x S1 => match x with | .bl b => (if b = true then g env S1 else .ok (.bl false) S1) | _ => .bad
def orVK (g : EF) (env : Lc) : D → Sto → R D := fun x S1 => match x with | .bl b => (if b = true then .ok (.bl true) S1 else g env S1) | _ => .bad
def notVK : D → Sto → R D := fun x S1 => match x with | .bl b => .ok (.bl (!b)) S1 | _ => .bad
theorem ap_fAndV : fAndV fa fb env S = (fa env S).bind (andVK fb env) := (rfl)
theorem ap_fOrV : fOrV fa fb env S = (fa env S).bind (orVK fb env) := (rfl)
theorem ap_fNotV : fNotV fa env S = (fa env S).bind notVK := (rfl)
theorem ap_andVK : andVK fb env (.bl b) S = if b = true then fb env S else .ok (.bl false) S := (rfl)
theorem ap_orVK : orVK fb env (.bl b) S = if b = true then .ok (.bl true) S else fb env S := (rfl)
theorem ap_notVK : notVK (.bl b) S = .ok (.bl (!b)) S := (rfl)
def ifEK (f g : EF) (env : Lc) : Bool → Sto → R D := fun b S1 => if b = true then f env S1 else g env S1
theorem ap_fIfE : fIfE ft fa fb env S = (ft env S).bind (ifEK fa fb env) := (rfl)
theorem ap_ifEK : ifEK fa fb env b S = if b = true then fa env S else fb env S := (rfl)
def chK1 (o o' : Op2) (fb fc : EF) (env : Lc) : D → Sto → R D := fun x S1 => (fb env S1).bind fun y S2 => (o x y S2).bind fun z S3 => match z with
  | .bl b => if b = true then (fc env S3).bind fun w S4 => o' y w S4 else .ok (.bl false) S3
  | _ => .bad
def chK2 (o o' : Op2) (fc : EF) (env : Lc) (x : D) : D → Sto → R D := fun y S2 => (o x y S2).bind fun z S3 => match z with
  | .bl b => if b = true then (fc env S3).bind fun w S4 => o' y w S4 else .ok (.bl false) S3
  | _ => .bad
def chK3 (o' : Op2) (fc : EF) (env : Lc) (y : D) : D → Sto → R D := fun z S3 => match z with
  | .bl b => if b = true then (fc env S3).bind fun w S4 => o' y w S4 else .ok (.bl false) S3
  | _ => .bad
theorem ap_fChain : fChain o o' fa fb fc env S = (fa env S).bind (chK1 o o' fb fc env) := (rfl)
theorem ap_chK1 : chK1 o o' fb fc env x S = (fb env S).bind (chK2 o o' fc env x) := (rfl)
theorem ap_chK2 : chK2 o o' fc env x y S = (o x y S).bind (chK3 o' fc env y) := (rfl)
theorem ap_chK3 : chK3 o' fc env y (.bl b) S = if b = true then (fc env S).bind (o' y) else .ok (.bl false) S := (rfl)

/-! statements -/
theorem ap_fSkip : fSkip env S = .ok (.nx env) S := (rfl)
theorem ap_fBrk : fBrk env S = .ok (.bk env) S := (rfl)
theorem ap_fCnt : fCnt env S = .ok (.ct env) S := (rfl)
def seqK (g : SF) : Fl → Sto → R Fl := fun fl S1 => match fl with | .nx e => g e S1 | .rt d => .ok (.rt d) S1 | .bk e => .ok (.bk e) S1 | .ct e => .ok (.ct e) S1
theorem ap_fSeq : fSeq sf sg env S = (sf env S).bind (seqK sg) := (rfl)
theorem ap_seqK_nx : seqK sg (.nx e) S = sg e S := (rfl)
theorem ap_seqK_rt : seqK sg (.rt d) S = .ok (.rt d) S := (rfl)
theorem ap_seqK_bk : seqK sg (.bk e) S = .ok (.bk e) S := (rfl)
theorem ap_seqK_ct : seqK sg (.ct e) S = .ok (.ct e) S := (rfl)
def ifK (f g : SF) (env : Lc) : Bool → Sto → R Fl := fun b S1 => if b = true then f env S1 else g env S1
theorem ap_fIf : fIf ft sf sg env S = (ft env S).bind (ifK sf sg env) := (rfl)
theorem ap_ifK : ifK sf sg env b S = if b = true then sf env S else sg env S := (rfl)
def retK : D → Sto → R Fl := fun d S1 => .ok (.rt d) S1
theorem ap_fRet : fRet fa env S = (fa env S).bind retK := (rfl)
theorem ap_retK : retK d S = .ok (.rt d) S := (rfl)
theorem ap_fRetN : fRetN env S = .ok (.rt .non) S := (rfl)
def dropK' (env : Lc) : D → Sto → R Fl := fun _ S1 => .ok (.nx env) S1
theorem ap_fDrop : fDrop fa env S = (fa env S).bind (dropK' env) := (rfl)
theorem ap_dropK : dropK' env d S = .ok (.nx env) S := (rfl)
def asgK (g : GF) (env : Lc) : D → Sto → R Fl := fun d S1 => (g d env S1).bind fun env1 S2 => .ok (.nx env1) S2
def asgK2 : Lc → Sto → R Fl := fun env1 S2 => .ok (.nx env1) S2
theorem ap_fAsg : fAsg fa gf env S = (fa env S).bind (asgK gf env) := (rfl)
theorem ap_asgK : asgK gf env d S = (gf d env S).bind asgK2 := (rfl)
theorem ap_asgK2 : asgK2 env S = .ok (.nx env) S := (rfl)
theorem ap_gN : gN i d env S = .ok (env.set i (some d)) S := (rfl)
theorem ap_gNil : gNil' [] env S = .ok env S := (rfl)
def gsK (gs : GsF) (r : List D) : Lc → Sto → R Lc := fun env1 S1 => gs r env1 S1
theorem ap_gCons : gCons' gf gs (d :: ds) env S = (gf d env S).bind (gsK gs ds) := (rfl)
theorem ap_gsK : gsK gs ds env S = gs ds env S := (rfl)
def unpK (n : Nat) (gs : GsF) (env : Lc) : Option (List D) → Sto → R Lc
  | some ds, S => if ds.length = n then gs ds env S else .bad
  | none, _ => .bad
theorem ap_gUnp : gUnp n gs d env S = unpK n gs env (seqD S d) S := by unfold gUnp; cases seqD S d <;> rfl
theorem ap_unpK : unpK n gs env (some ds) S = if ds.length = n then gs ds env S else .bad := (rfl)
def subK1 (fi : EF) (d : D) (env : Lc) : D → Sto → R Lc := fun x S1 => (fi env S1).bind fun y S2 => (oSet x y d S2).bind fun _ S3 => .ok env S3
def subK2 (x d : D) (env : Lc) : D → Sto → R Lc := fun y S2 => (oSet x y d S2).bind fun _ S3 => .ok env S3
def subK3 (env : Lc) : Unit → Sto → R Lc := fun _ S3 => .ok env S3
theorem ap_gSub : gSub' fo fa d env S = (fo env S).bind (subK1 fa d env) := (rfl)
theorem ap_subK1 : subK1 fa d env x S = (fa env S).bind (subK2 x d env) := (rfl)
theorem ap_subK2 : subK2 x d env y S = (oSet x y d S).bind (subK3 env) := (rfl)
theorem ap_subK3 {u : Unit} : subK3 env u S = .ok env S := (rfl)

/-! subscripts -/
def ixK (fb : EF) (env : Lc) : D → Sto → R D := fun x S1 => if isDict S1 x = true then (fb env S1).bind fun y S2 => oGetD x y S2 else (fb env S1).bind fun y S2 => oGetL x y S2
theorem ap_fIx : fIx fa fb env S = (fa env S).bind (ixK fb env) := (rfl)
theorem ap_ixK : ixK fb env x S = if isDict S x = true then (fb env S).bind (oGetD x) else (fb env S).bind (oGetL x) := (rfl)
def isDictC : Option Cell → Bool
  | some (.dk _) => true
  | some (.dt _) => true
  | _ => false
theorem isDict_ref : isDict S (.ref n) = isDictC S[n]? := by unfold isDict isDictC; rfl
theorem isDict_tup : isDict S (.tup xs) = false := (rfl)
theorem isDict_rl : isDict S (.rl xs) = false := (rfl)
theorem isDict_str {t : Str} : isDict S (.str t) = false := (rfl)
theorem isDictC_lst : isDictC (some (.lst xs)) = false := (rfl)
theorem isDictC_dk {kvs : List (Key × D)} : isDictC (some (.dk kvs)) = true := (rfl)
theorem isDictC_dt {kvs : List (List Key × D)} : isDictC (some (.dt kvs)) = true := (rfl)
theorem getL_tup {j : Int} : oGetL (.tup xs) (.int j) S = retO S (atI xs j) := (rfl)
theorem getL_rl {j : Int} : oGetL (.rl xs) (.int j) S = retO S (atI xs j) := (rfl)
theorem getL_str {t : Str} {j : Int} : oGetL (.str t) (.int j) S = if t.length ≤ 100000 then retO S ((atI t.cps.toList j).map fun c => .str ⟨#[c]⟩) else .bad := (rfl)
def getLC (S : Sto) (j : Int) : Option Cell → R D
  | some (.lst xs) => retO S (atI xs j)
  | _ => .bad
theorem getL_ref {j : Int} : oGetL (.ref n) (.int j) S = getLC S j S[n]? := by unfold oGetL getLC; rfl
theorem getLC_lst {j : Int} : getLC S j (some (.lst xs)) = retO S (atI xs j) := (rfl)
theorem retO_some : retO S (some d) = .ok d S := (rfl)
theorem atI_0 {a : α} {l : List α} : atI (a :: l) 0 = some a := by
  have h := L2.atI_nat (xs := a :: l) (j := 0) (v := a) rfl
  exact h
theorem atI_1 {a b : α} {l : List α} : atI (a :: b :: l) 1 = some b := by
  have h := L2.atI_nat (xs := a :: b :: l) (j := 1) (v := b) rfl
  exact h
theorem atI_2 {a b c : α} {l : List α} : atI (a :: b :: c :: l) 2 = some c := by
  have h := L2.atI_nat (xs := a :: b :: c :: l) (j := 2) (v := c) rfl
  exact h
theorem atI_3 {a b c d : α} {l : List α} : atI (a :: b :: c :: d :: l) 3 = some d := by
  have h := L2.atI_nat (xs := a :: b :: c :: d :: l) (j := 3) (v := d) rfl
  exact h
theorem atI_nn {l : List α} {j : Int} (h0 : 0 ≤ j) : atI l j = l[j.toNat]? := by
  unfold atI ixN
  by_cases h : j < l.length
  · simp [h0, h]
  · simp [h0, h]
def setC (S : Sto) (n : Nat) (y d : D) : Option Cell → R Unit
  | some (.lst xs) => match y with
      | .int i => match ixN xs.length i with
        | some j => .ok () (S.set n (.lst (xs.set j d)))
        | none => .bad
      | _ => .bad
  | some (.dk kvs) => match keyD y with
      | some k => if kvs.length < 100000 then .ok () (S.set n (.dk (putKD kvs k d))) else .bad
      | none => .bad
  | some (.dt kvs) => match keysD y with
      | some k => if kvs.length < 100000 then .ok () (S.set n (.dt (putKD kvs k d))) else .bad
      | none => .bad
  | _ => .bad
theorem oSet_ref : oSet (.ref n) y d S = setC S n y d S[n]? := by unfold oSet setC; rfl
def setLK (S : Sto) (n : Nat) (xs : List D) (d : D) : Option Nat → R Unit
  | some j => .ok () (S.set n (.lst (xs.set j d)))
  | none => .bad
theorem setC_lst {j : Int} : setC S n (.int j) d (some (.lst xs)) = setLK S n xs d (ixN xs.length j) := by unfold setC setLK; rfl
theorem setLK_some {j : Nat} : setLK S n xs d (some j) = .ok () (S.set n (.lst (xs.set j d))) := (rfl)
theorem ixN_0 {k : Nat} : ixN (k + 1) 0 = some 0 := by unfold ixN; simp
theorem ixN_1 {k : Nat} : ixN (k + 2) 1 = some 1 := by unfold ixN; simp; omega

/-! calls -/
def callK (F : FF) (n : Nat) (dds : List D) : List D → Sto → R D := fun ds S1 => if ds.length + dds.length = n then (F (ds ++ dds) S1).nox else .bad
theorem ap_fCall : fCall F n dds fs env S = (fs env S).bind (callK F n dds) := (rfl)
theorem ap_callK : callK F n dds ds S = if ds.length + dds.length = n then (F (ds ++ dds) S).nox else .bad := (rfl)
def fnK : Fl → Sto → R D := fun fl S1 => match fl with
  | .nx _ => .ok .non S1
  | .rt d => .ok d S1
  | _ => .bad
theorem ap_fnF : fnF m sf ds S = (sf (ds.map some ++ List.replicate (m - ds.length) none) S).bind fnK := (rfl)
theorem ap_fnK_nx : fnK (.nx e) S = .ok .non S := (rfl)
theorem ap_fnK_rt : fnK (.rt d) S = .ok d S := (rfl)
end

/-! operators -/
section
variable {i j : Int} {S : Sto} {x y d : D} {b c : Bool} {xs ys ds : List D} {n m : Nat}
theorem o_add : oAdd (.int i) (.int j) S = .ok (.int (i + j)) S := (rfl)
def addC (S : Sto) : Option Cell → Option Cell → R D
  | some (.lst xs), some (.lst ys) => if xs.length + ys.length ≤ 100000 then .ok (.ref S.length) (S ++ [.lst (xs ++ ys)]) else .bad
  | _, _ => .bad
theorem o_addR : oAdd (.ref n) (.ref m) S = addC S S[n]? S[m]? := by unfold oAdd addC; rfl
theorem o_addC : addC S (some (.lst xs)) (some (.lst ys)) = if xs.length + ys.length ≤ 100000 then .ok (.ref S.length) (S ++ [.lst (xs ++ ys)]) else .bad := (rfl)
theorem o_addS {z w : Str} : oAdd (.str z) (.str w) S = if z.length + w.length ≤ 100000 then .ok (.str (z ++ w)) S else .bad := (rfl)
theorem o_addT : oAdd (.tup xs) (.tup ys) S = if xs.length + ys.length ≤ 100000 then .ok (.tup (xs ++ ys)) S else .bad := (rfl)
theorem o_sub : oSub (.int i) (.int j) S = .ok (.int (i - j)) S := (rfl)
theorem o_mul : oMul (.int i) (.int j) S = if (-(2 ^ 64) < i ∧ i < 2 ^ 64) ∨ (-(2 ^ 64) < j ∧ j < 2 ^ 64) then .ok (.int (i * j)) S else .bad := by
  show (if cMul i j = true then _ else _) = _
  unfold cMul
  by_cases h : (-(2 ^ 64) < i ∧ i < 2 ^ 64) ∨ (-(2 ^ 64) < j ∧ j < 2 ^ 64)
  · rw [decide_eq_true h, if_pos rfl, if_pos h]
  · rw [decide_eq_false h, if_neg h]; rfl
theorem o_mod : oMod (.int i) (.int j) S = if 0 < j then .ok (.int (i % j)) S else .bad := by
  show (if decide (0 < j) = true then _ else _) = _
  by_cases h : 0 < j
  · rw [decide_eq_true h, if_pos rfl, if_pos h]
  · rw [decide_eq_false h, if_neg h]; rfl
theorem o_div : oDiv (.int i) (.int j) S = if 0 < j ∧ j < 1267650600228229401496703205376 then .ok (.int (i / j)) S else .bad := by
  rw [show (1267650600228229401496703205376 : Int) = 2 ^ 100 from by decide]
  show (if cDiv i j = true then _ else _) = _
  unfold cDiv
  by_cases h : 0 < j ∧ j < 2 ^ 100
  · rw [decide_eq_true h, if_pos rfl, if_pos h]
  · rw [decide_eq_false h, if_neg h]; rfl
theorem o_pow : oPow (.int i) (.int j) S = if 0 ≤ j ∧ j ≤ 1000 ∧ -18446744073709551616 < i ∧ i < 18446744073709551616 then .ok (.int (i ^ j.toNat)) S else .bad := by
  show (if cPow i j = true then _ else _) = _
  have e : (0 ≤ j ∧ j ≤ 1000 ∧ i.natAbs < 2 ^ 64) = (0 ≤ j ∧ j ≤ 1000 ∧ -18446744073709551616 < i ∧ i < 18446744073709551616) := by
    have e1 : (i.natAbs < 2 ^ 64) = (-18446744073709551616 < i ∧ i < 18446744073709551616) := propext ⟨fun h => ⟨by omega, by omega⟩, fun h => by omega⟩
    rw [e1]
  unfold cPow
  simp only [e, decide_eq_true_eq]
theorem o_neg : oNeg (.int i) S = .ok (.int (-i)) S := (rfl)
theorem o_lt : oLt (.int i) (.int j) S = .ok (.bl (decide (i < j))) S := (rfl)
theorem o_le : oLe (.int i) (.int j) S = .ok (.bl (decide (i ≤ j))) S := (rfl)
theorem o_gt : oGt (.int i) (.int j) S = .ok (.bl (decide (j < i))) S := (rfl)
theorem o_ge : oGe (.int i) (.int j) S = .ok (.bl (decide (j ≤ i))) S := (rfl)
theorem o_int : oInt [.int i] S = .ok (.int i) S := (rfl)
theorem o_min2 : oMin2 [.int i, .int j] S = .ok (.int (if j < i then j else i)) S := (rfl)
theorem o_max2 : oMax2 [.int i, .int j] S = .ok (.int (if j > i then j else i)) S := (rfl)
theorem o_leS1 {a b : Nat} : oLeS (.str ⟨#[a]⟩) (.str ⟨#[b]⟩) S = .ok (.bl (decide (a ≤ b))) S := by
  have e : (!decide (([b] : List Nat) < [a])) = decide (a ≤ b) := by
    rw [← decide_not]
    congr 1
    simp [List.cons_lt_cons_iff]
  show R.ok (D.bl (!decide (([b] : List Nat) < [a]))) S = _
  rw [e]
theorem o_inS1 {k : Nat} {z : Str} {neg : Bool} : oInS neg (.str ⟨#[k]⟩) (.str z) S = .ok (.bl (if neg = true then !decide (k ∈ z.cps.toList) else decide (k ∈ z.cps.toList))) S := (rfl)
theorem o_isB : oIsB (.bl b) (.bl c) S = .ok (.bl (decide (b = c))) S := (rfl)
def eqK (S : Sto) : Option PyData → Option PyData → R D
  | some p, some q => .ok (.bl (PyData.eqv p q)) S
  | _, _ => .bad
def neK (S : Sto) : Option PyData → Option PyData → R D
  | some p, some q => .ok (.bl (!PyData.eqv p q)) S
  | _, _ => .bad
theorem o_eq : oEq x y S = eqK S (toP S 20 x) (toP S 20 y) := by unfold oEq eqK; rfl
theorem o_ne : oNe x y S = neK S (toP S 20 x) (toP S 20 y) := by unfold oNe neK; rfl
theorem eqK_some {p q : PyData} : eqK S (some p) (some q) = .ok (.bl (PyData.eqv p q)) S := (rfl)
theorem neK_some {p q : PyData} : neK S (some p) (some q) = .ok (.bl (!PyData.eqv p q)) S := (rfl)
theorem eqv_int : PyData.eqv (.int i) (.int j) = (i == j) := by simp only [PyData.eqv]
theorem eqv_bool : PyData.eqv (.bool b) (.bool c) = (b == c) := by simp only [PyData.eqv]
theorem toP_int {k : Nat} : toP S k (.int i) = some (.int i) := by cases k <;> rfl
theorem toP_bl {k : Nat} : toP S k (.bl b) = some (.bool b) := by cases k <;> rfl
theorem toP_non {k : Nat} : toP S k .non = some .none := by cases k <;> rfl
theorem toP_str {k : Nat} {t : Str} : toP S k (.str t) = if PyData.strOk t = true then some (.str t) else none := by cases k <;> rfl
theorem toP_tup {k : Nat} : toP S (k + 1) (.tup xs) = (xs.mapM (toP S k)).map .tuple := (rfl)
theorem toP_rl {k : Nat} : toP S (k + 1) (.rl xs) = (xs.mapM (toP S k)).map .list := (rfl)
def toPC (S : Sto) (k : Nat) : Option Cell → Option PyData
  | some (.lst xs) => (xs.mapM (toP S k)).map .list
  | _ => none
theorem toP_ref {k : Nat} : toP S (k + 1) (.ref n) = toPC S k S[n]? := by unfold toP toPC; rfl
theorem toPC_lst {k : Nat} : toPC S k (some (.lst xs)) = (xs.mapM (toP S k)).map .list := (rfl)
theorem toP_mapM_nil {f : D → Option PyData} : List.mapM f [] = some [] := (rfl)
def consO (a : Option PyData) (l : Option (List PyData)) : Option (List PyData) := match a, l with
  | some x, some xs => some (x :: xs)
  | _, _ => none
theorem toP_mapM_cons {f : D → Option PyData} : List.mapM f (d :: ds) = consO (f d) (ds.mapM f) := by
  rw [List.mapM_cons]
  cases f d with
  | none => rfl
  | some p => cases ds.mapM f <;> rfl
theorem toP_consO {p : PyData} {ps : List PyData} : consO (some p) (some ps) = some (p :: ps) := (rfl)
def lenK (S : Sto) : Option Nat → R D
  | some n => .ok (.int (n : Nat)) S
  | none => .bad
theorem o_len : oLen [x] S = lenK S (lenD S x) := by unfold oLen lenK; rfl
theorem lenK_some {k : Nat} : lenK S (some k) = .ok (.int (k : Nat)) S := (rfl)
theorem lenD_tup : lenD S (.tup xs) = some xs.length := (rfl)
theorem lenD_rl : lenD S (.rl xs) = some xs.length := (rfl)
theorem lenD_str {t : Str} : lenD S (.str t) = if t.length ≤ 100000 then some t.length else none := (rfl)
def lenC : Option Cell → Option Nat
  | some (.lst xs) => some xs.length
  | some (.dk kvs) => some kvs.length
  | some (.dt kvs) => some kvs.length
  | _ => none
theorem lenD_ref : lenD S (.ref n) = lenC S[n]? := by unfold lenD lenC; rfl
theorem lenC_lst : lenC (some (.lst xs)) = some xs.length := (rfl)
end

/-! types, loops, texts -/
section
variable {S : Sto} {d x : D} {xs ds acc : List D} {env e : Lc} {fa el : EF} {T t : String} {neg b : Bool} {g : GF} {body : SF} {fi : IF} {n i : Nat} {fs : AF} {ft : BF}
def isiK2 (S : Sto) : Option Bool → R D
  | some b => .ok (.bl b) S
  | none => .bad
def isiK (T : String) (S : Sto) : Option String → R D
  | some t => isiK2 S (isiD t T)
  | none => .bad
def isiK0 (T : String) : D → Sto → R D := fun x S1 => match tyD S1 x with
  | some t => match isiD t T with
    | some b => .ok (.bl b) S1
    | none => .bad
  | none => .bad
theorem ap_fIsi : fIsi T fa env S = (fa env S).bind (isiK0 T) := (rfl)
theorem ap_isiK0 : isiK0 T x S = isiK T S (tyD S x) := by unfold isiK0 isiK isiK2; cases tyD S x with
  | none => rfl
  | some t => cases isiD t T <;> rfl
theorem ap_isiK : isiK T S (some t) = isiK2 S (isiD t T) := (rfl)
theorem ap_isiK2 : isiK2 S (some b) = .ok (.bl b) S := (rfl)
def tyK (T : String) (neg : Bool) (S : Sto) : Option String → R D
  | some t => .ok (.bl (if neg = true then !decide (t = T) else decide (t = T))) S
  | none => .bad
def tyK0 (T : String) (neg : Bool) : D → Sto → R D := fun x S1 => match tyD S1 x with
  | some t => .ok (.bl (if neg = true then !decide (t = T) else decide (t = T))) S1
  | none => .bad
theorem ap_fTyIs : fTyIs T neg fa env S = (fa env S).bind (tyK0 T neg) := (rfl)
theorem ap_tyK0 : tyK0 T neg x S = tyK T neg S (tyD S x) := by unfold tyK0 tyK; cases tyD S x <;> rfl
theorem ap_tyK : tyK T neg S (some t) = .ok (.bl (if neg = true then !decide (t = T) else decide (t = T))) S := (rfl)
def forK (g : GF) (body : SF) (env : Lc) : It' → Sto → R Fl := fun it S1 => match it with
  | .fix xs => loopX g body xs env S1
  | .live n xs => loopL n g body xs 0 env S1
theorem ap_fFor : fFor fi g body env S = (fi env S).bind (forK g body env) := (rfl)
theorem ap_forK_fix : forK g body env (.fix xs) S = loopX g body xs env S := (rfl)
theorem ap_forK_live : forK g body env (.live n xs) S = loopL n g body xs 0 env S := (rfl)
theorem loopX_nil : loopX g body [] env S = .ok (.nx env) S := (rfl)
def turnK (g : GF) (body : SF) (xs : List D) : Fl → Sto → R Fl := fun fl S2 => match fl with
    | .nx e => loopX g body xs e S2
    | .ct e => loopX g body xs e S2
    | .bk e => .ok (.nx e) S2
    | .rt d => .ok (.rt d) S2
def turnK0 (g : GF) (body : SF) (xs : List D) : Lc → Sto → R Fl := fun env1 S1 => (body env1 S1).bind (turnK g body xs)
theorem loopX_cons : loopX g body (d :: xs) env S = (g d env S).bind (turnK0 g body xs) := (rfl)
theorem ap_turnK0 : turnK0 g body xs env S = (body env S).bind (turnK g body xs) := (rfl)
theorem ap_turnK_nx : turnK g body xs (.nx e) S = loopX g body xs e S := (rfl)
theorem ap_turnK_ct : turnK g body xs (.ct e) S = loopX g body xs e S := (rfl)
theorem ap_turnK_bk : turnK g body xs (.bk e) S = .ok (.nx e) S := (rfl)
theorem ap_turnK_rt : turnK g body xs (.rt d) S = .ok (.rt d) S := (rfl)
def rng1K : List D → Sto → R It' := fun ds S1 => match ds with
  | [.int j] => if -(2 ^ 62) ≤ j ∧ j < 2 ^ 62 then .ok (.fix (rngD 0 j.toNat)) S1 else .bad
  | _ => .bad
theorem ap_fRng1 : fRng1 fs env S = (fs env S).bind rng1K := (rfl)
theorem ap_rng1K {j : Int} : rng1K [.int j] S = if -(2 ^ 62) ≤ j ∧ j < 2 ^ 62 then .ok (.fix (rngD 0 j.toNat)) S else .bad := (rfl)
def iterC (S : Sto) (n : Nat) : Option Cell → R It'
  | some (.lst xs) => .ok (.live n xs) S
  | _ => .bad
def iterK : D → Sto → R It' := fun d S1 => match d with
  | .rl xs => .ok (.fix xs) S1
  | .tup xs => .ok (.fix xs) S1
  | .kt xs => .ok (.fix xs) S1
  | .ref n => match S1[n]? with
    | some (.lst xs) => .ok (.live n xs) S1
    | _ => .bad
  | _ => .bad
theorem ap_fIter : fIter fa env S = (fa env S).bind iterK := (rfl)
theorem ap_iterK_rl : iterK (.rl xs) S = .ok (.fix xs) S := (rfl)
theorem ap_iterK_kt : iterK (.kt xs) S = .ok (.fix xs) S := (rfl)
theorem ap_iterK_tup : iterK (.tup xs) S = .ok (.fix xs) S := (rfl)
theorem ap_iterK_ref : iterK (.ref n) S = iterC S n S[n]? := by unfold iterK iterC; rfl
theorem iterC_lst : iterC S n (some (.lst xs)) = .ok (.live n xs) S := (rfl)
def iterSK : D → Sto → R It' := fun x S1 => match x with
  | .str z => .ok (.fix (sgnD z)) S1
  | _ => .bad
theorem ap_fIterS : fIterS fa env S = (fa env S).bind iterSK := (rfl)
theorem ap_iterSK {z : Str} : iterSK (.str z) S = .ok (.fix (sgnD z)) S := (rfl)
def compK (i : Nat) (ft : BF) (fe : EF) (env : Lc) : It' → Sto → R D := fun it S1 => match it with
  | .fix xs => compX i ft fe (env.set i none) xs [] S1
  | .live n xs => compL n i ft fe (env.set i none) xs 0 [] S1
theorem ap_fComp : fComp fi i ft el env S = (fi env S).bind (compK i ft el env) := (rfl)
theorem ap_compK_fix : compK i ft el env (.fix xs) S = compX i ft el (env.set i none) xs [] S := (rfl)
theorem ap_compK_live : compK i ft el env (.live n xs) S = compL n i ft el (env.set i none) xs 0 [] S := (rfl)
theorem compX_nil : compX i ft el env [] acc S = .ok (.ref S.length) (S ++ [.lst acc]) := (rfl)
def compTK (i : Nat) (ft : BF) (el : EF) (env : Lc) (d : D) (xs acc : List D) : Bool → Sto → R D := fun b S1 => if b = true then ((el (env.set i (some d)) S1).nox.bind fun y S2 => if acc.length < 100000 then compX i ft el env xs (acc ++ [y]) S2 else .bad) else compX i ft el env xs acc S1
def compEK (i : Nat) (ft : BF) (el : EF) (env : Lc) (xs acc : List D) : D → Sto → R D := fun y S2 => if acc.length < 100000 then compX i ft el env xs (acc ++ [y]) S2 else .bad
theorem compX_cons : compX i ft el env (d :: xs) acc S = (ft (env.set i (some d)) S).nox.bind (compTK i ft el env d xs acc) := (rfl)
theorem ap_compTK : compTK i ft el env d xs acc b S = if b = true then ((el (env.set i (some d)) S).nox.bind (compEK i ft el env xs acc)) else compX i ft el env xs acc S := (rfl)
theorem ap_compEK : compEK i ft el env xs acc d S = if acc.length < 100000 then compX i ft el env xs (acc ++ [d]) S else .bad := (rfl)
theorem ap_fYes : fYes env S = .ok true S := (rfl)
theorem ap_fDict0 : fDict0 env S = .ok (.ref S.length) (S ++ [.dk []]) := (rfl)
theorem ap_fDictT0 : fDictT0 env S = .ok (.ref S.length) (S ++ [.dt []]) := (rfl)
def slK1 (pl ph : PF) (env : Lc) : D → Sto → R D := fun x S1 => (pl env S1).bind fun l S2 => (ph env S2).bind fun h S3 => oSl x l h S3
def slK2 (ph : PF) (env : Lc) (x : D) : Option Int → Sto → R D := fun l S2 => (ph env S2).bind fun h S3 => oSl x l h S3
theorem ap_fSl {pl ph : PF} : fSl fa pl ph env S = (fa env S).bind (slK1 pl ph env) := (rfl)
theorem ap_slK1 {pl ph : PF} : slK1 pl ph env x S = (pl env S).bind (slK2 ph env x) := (rfl)
theorem ap_slK2 {ph : PF} {l : Option Int} : slK2 ph env x l S = (ph env S).bind (oSl x l) := (rfl)
theorem ap_pNo : pNo env S = .ok none S := (rfl)
def pSoK : D → Sto → R (Option Int) := fun x S1 => match x with
  | .int i => .ok (some i) S1
  | _ => .bad
theorem ap_pSo : pSo fa env S = (fa env S).bind pSoK := (rfl)
theorem ap_pSoK {j : Int} : pSoK (.int j) S = .ok (some j) S := (rfl)
theorem oSl_tup {l h : Option Int} : oSl (.tup xs) l h S = .ok (.tup (cutD xs l h)) S := (rfl)
theorem oSl_str {z : Str} {l h : Option Int} : oSl (.str z) l h S = if z.length ≤ 100000 then .ok (.str ⟨(cutD z.cps.toList l h).toArray⟩) S else .bad := (rfl)
def bmK (T : String) (o : OpM) (fs : AF) (env : Lc) : D → Sto → R D := fun x S1 => if tyIn T S1 x = true then (fs env S1).bind fun ds S2 => o x ds S2 else .bad
theorem ap_fBm {o : OpM} {fo : EF} : fBm T o fo fs env S = (fo env S).bind (bmK T o fs env) := (rfl)
theorem ap_bmK {o : OpM} : bmK T o fs env x S = if tyIn T S x = true then (fs env S).bind (o x) else .bad := (rfl)
theorem tyIn_str {z : Str} : tyIn T S (.str z) = decide (T = "str") := (rfl)
def tyInC (T : String) : Option Cell → Bool
  | some (.lst _) => decide (T = "list")
  | some (.dk _) => decide (T = "dict")
  | some (.dt _) => decide (T = "dict")
  | _ => false
theorem tyIn_ref : tyIn T S (.ref n) = tyInC T S[n]? := by unfold tyIn tyInC; rfl
theorem tyInC_lst : tyInC T (some (.lst xs)) = decide (T = "list") := (rfl)
def tyC : Option Cell → Option String
  | some (.lst _) => some "list"
  | some (.dk _) => some "dict"
  | some (.dt _) => some "dict"
  | _ => none
theorem tyD_ref : tyD S (.ref n) = tyC S[n]? := by unfold tyD tyC; rfl
end
theorem app_get {α : Type} {S T : List α} {n : Nat} {c : α} (h : S[n]? = some c) : (S ++ T)[n]? = some c := by
  rw [List.getElem?_append_left (List.getElem?_eq_some_iff.mp h).1]; exact h
theorem app_set {α : Type} {S T : List α} {n : Nat} {c d : α} (h : S[n]? = some c) : (S ++ T).set n d = S.set n d ++ T := List.set_append_left _ _ (List.getElem?_eq_some_iff.mp h).1
theorem get_end {α : Type} {S : List α} {c : α} : (S ++ [c])[S.length]? = some c := by rw [List.getElem?_append_right (Nat.le_refl _)]; simp
theorem set_end {α : Type} {S : List α} {c d : α} : (S ++ [c]).set S.length d = S ++ [d] := by rw [List.set_append_right _ _ (Nat.le_refl _)]; simp
theorem set_self {α : Type} {S : List α} {n : Nat} {c : α} (h : S[n]? = some c) : S.set n c = S := by
  apply List.ext_getElem?
  intro i
  by_cases hi : n = i
  · subst hi
    rw [List.getElem?_set_self (List.getElem?_eq_some_iff.mp h).1, h]
  · rw [List.getElem?_set_ne hi]
theorem get_end_set {α : Type} {S : List α} {n : Nat} {c d : α} : (S.set n d ++ [c])[S.length]? = some c := by
  have h := get_end (S := S.set n d) (c := c)
  rw [List.length_set] at h
  exact h
theorem o_join {z : Str} {m : Nat} {S : Sto} {ds : List D} {ys : List Str} (h : S[m]? = some (.lst ds)) (h1 : strsD ds = some ys) (h2 : (ys.map (·.length)).sum + ys.length * z.length ≤ 100000) : mJoin (.str z) [.ref m] S = .ok (.str (Txt.join z ys)) S := by
  unfold mJoin
  simp only [seqD, h, h1, if_pos h2]
theorem get_app {α : Type} {S T : List α} {k : Nat} : (S ++ T)[S.length + k]? = T[k]? := by
  rw [List.getElem?_append_right (Nat.le_add_right _ _), Nat.add_sub_cancel_left]
theorem get_app0 {α : Type} {S T : List α} : (S ++ T)[S.length]? = T[0]? := get_app (k := 0)
theorem get_apps {α : Type} {S T : List α} {k n : Nat} {d : α} : (S.set n d ++ T)[S.length + k]? = T[k]? := by
  have h := get_app (S := S.set n d) (T := T) (k := k)
  rw [List.length_set] at h
  exact h
theorem get_apps0 {α : Type} {S T : List α} {n : Nat} {d : α} : (S.set n d ++ T)[S.length]? = T[0]? := get_apps (k := 0)
theorem set_app {α : Type} {S T : List α} {k : Nat} {d : α} : (S ++ T).set (S.length + k) d = S ++ T.set k d := by
  rw [List.set_append_right _ _ (Nat.le_add_right _ _), Nat.add_sub_cancel_left]
theorem set_app0 {α : Type} {S T : List α} {d : α} : (S ++ T).set S.length d = S ++ T.set 0 d := set_app (k := 0)
theorem set_apps {α : Type} {S T : List α} {k n : Nat} {c d : α} : (S.set n c ++ T).set (S.length + k) d = S.set n c ++ T.set k d := by
  have h := set_app (S := S.set n c) (T := T) (k := k) (d := d)
  rw [List.length_set] at h
  exact h
theorem set_apps0 {α : Type} {S T : List α} {n : Nat} {c d : α} : (S.set n c ++ T).set S.length d = S.set n c ++ T.set 0 d := set_apps (k := 0)
theorem get_end2 {α : Type} {S T : List α} {n : Nat} {c d : α} : (S.set n d ++ (T ++ [c]))[S.length + T.length]? = some c := by
  rw [get_apps]; exact get_end
theorem set_get {α : Type} {S : List α} {n : Nat} {c d : α} (h : S[n]? = some c) : (S.set n d)[n]? = some d := List.getElem?_set_self (List.getElem?_eq_some_iff.mp h).1
end RF

namespace RF
open PySem L2

/-! ### sorted of data -/
abbrev VDP := V × (D × PyData)
def leP : PyData → PyData → Bool := PySem.W.dataLe false id
def rSortD (K : PySem.W.Frag) : List V → Hp → VK → Prop := fun vs H Q => ∃ (a : Addr) (bs : List VDP), vs = [V.ref a] ∧ SqL K H a (bs.map (·.1)) ∧ DpAll K H (bs.map (·.1)) (bs.map (·.2.2)) ∧ PySem.W.AllAlike (bs.map (·.2.2)) ∧ PySem.W.Sortable (bs.map (·.2.2)) ∧ bs.length ≤ sizeLine ∧
  (∀ b ∈ bs, b.2.2.depth ≤ 60) ∧ ∀ p, H p = none → Q (.ref p) (upd H p (.lst ((bs.mergeSort (PySem.W.dataLe false (fun b => b.2.2))).map (·.1))))
theorem vals_each {R : V → Value → Prop} : ∀ {out : List Value} {bs : List VDP}, PySem.W.EachIs (fun v (b : VDP) => RelV b.1 v) out bs → Vals (bs.map (·.1)) out
  | [], [], .nil => .nil
  | _ :: _, _ :: _, .cons h t => .cons h (vals_each (R := R) t)
theorem each_vals : ∀ {out : List Value} {bs : List VDP}, Vals (bs.map (·.1)) out → PySem.W.EachIs (fun v (b : VDP) => RelV b.1 v) out bs
  | out, [], r => by
    rw [List.map_nil] at r
    cases r; exact .nil
  | out, b :: bs, r => by
    rw [List.map_cons] at r
    cases r with
    | cons h t => exact .cons h (each_vals t)
theorem call_sortedD {X : Cx} (hu : X.A.units + 65 < cLine) : CallR X (.builtin "sorted") (rSortD X.K) := by
  intro pins s σ H vs us Q I r h
  obtain ⟨a, bs, rfl, hs, hd, hal, hk, hL, hdep, q⟩ := h
  obtain ⟨its, rv, hl, _⟩ := I.list hs
  rw [Vals.ref1 r]
  obtain ⟨as, hr⟩ := Dp.readsAll I _ _ its hd rv
  refine PySem.W.sorted_data (A := X.A) (enc := fun b : VDP => b.2.2) (R := fun v (b : VDP) => RelV b.1 v) (vs := its) hl.isList (each_vals rv) (PySem.W.readsAll_each (fun b : VDP => b.2.2) hr) hal hk hL (fun b hb => ?_) fun out h1 h2 => ?_
  · have := hdep b hb; omega
  · obtain ⟨ep, he'⟩ := PyProof.Rows.sortedAll_at s.heap its out.toArray
    have hlen : ((bs.mergeSort (PySem.W.dataLe false fun b => b.2.2)).map (·.1)).length ≤ sizeLine := by rw [List.length_map, (List.mergeSort_perm _ _).length_eq]; exact hL
    exact ⟨.ref _, upd H (s.heap.objs.size + 1) (.lst ((bs.mergeSort (PySem.W.dataLe false fun b => b.2.2)).map (·.1))), I.laid (t' := s.toks) (fun _ _ => PyProof.Rows.sortedAll_old) (Nat.le_succ _) ⟨hlen, out, ep, vals_each (R := RelV) h2, he'⟩, rfl, q _ (I.hok.fresh (Nat.le_succ _))⟩

def isTupP : PyData → Bool
  | .tuple (_ :: _) => true
  | _ => false
def isOthP : PyData → Bool
  | .none => false
  | .tuple _ => false
  | _ => true
def likeB (ps : List PyData) : Bool := ps.all fun a => ps.all fun b => PySem.W.alike a b
def sortB (ps : List PyData) : Bool := likeB ps && (ps.all isTupP || ps.all isOthP)
def sortDs (xs : List D) (ps : List PyData) : List D := ((xs.zip ps).mergeSort (PySem.W.dataLe false Prod.snd)).map Prod.fst
def oSorted : OpN := fun ds S => match ds with
  | [x] => match lstD S x with
    | some xs => match xs.mapM (toP S 20) with
      | some ps => if sortB ps = true ∧ xs.length ≤ 100000 then .ok (.ref S.length) (S ++ [.lst (sortDs xs ps)]) else .bad
      | none => .bad
    | none => .bad
  | _ => .bad
theorem likeB_of {ps : List PyData} (h : likeB ps = true) : PySem.W.AllAlike ps := fun d hd d' hd' => List.all_eq_true.mp (List.all_eq_true.mp h d hd) d' hd'
theorem sortB_of {ps : List PyData} (h : sortB ps = true) : PySem.W.AllAlike ps ∧ PySem.W.Sortable ps := by
  unfold sortB at h
  rw [Bool.and_eq_true, Bool.or_eq_true] at h
  refine ⟨likeB_of h.1, ?_⟩
  rcases h.2 with h | h
  · refine .inl fun d hd => ?_
    have := List.all_eq_true.mp h d hd
    unfold isTupP at this
    split at this
    · exact ⟨_, _, rfl⟩
    · cases this
  · refine .inr fun d hd => ?_
    have := List.all_eq_true.mp h d hd
    unfold isOthP at this
    split at this
    · cases this
    · cases this
    · rename_i h1 h2
      exact ⟨fun e => h1 e, fun xs e => h2 xs e⟩
theorem triples {K : PySem.W.Frag} {L : List Addr} {H : Hp} : ∀ {vs : List V} {xs : List D} {ps : List PyData}, RDs K L H vs xs → xs.length = ps.length → ∃ bs : List VDP, bs.map (·.1) = vs ∧ bs.map (·.2) = xs.zip ps ∧ bs.map (·.2.2) = ps ∧ ∀ b ∈ bs, RD K L H b.1 b.2.1
  | _, _, [], .nil, _ => ⟨[], rfl, rfl, rfl, fun b hb => by cases hb⟩
  | _, _, _ :: _, .nil, h => by simp at h
  | _, _, [], .cons _ _, h => by simp at h
  | v :: vs, x :: xs, p :: ps, .cons a r, h => by
    obtain ⟨bs, h1, h2, h3, h4⟩ := triples r (ps := ps) (by simpa using h)
    refine ⟨(v, x, p) :: bs, by simp [h1], by simp [h2], by simp [h3], fun b hb => ?_⟩
    rcases List.mem_cons.mp hb with rfl | hb
    · exact a
    · exact h4 b hb
theorem rds_of {K : PySem.W.Frag} {L : List Addr} {H : Hp} : ∀ (bs : List VDP), (∀ b ∈ bs, RD K L H b.1 b.2.1) → RDs K L H (bs.map (·.1)) (bs.map (·.2.1))
  | [], _ => .nil
  | b :: bs, h => .cons (h b (List.mem_cons_self ..)) (rds_of bs fun c hc => h c (List.mem_cons_of_mem _ hc))
theorem dpAll_len {K : PySem.W.Frag} {H : Hp} : ∀ {vs : List V} {ps : List PyData}, DpAll K H vs ps → vs.length = ps.length
  | _, _, .nil => rfl
  | _, _, .cons _ b => by rw [List.length_cons, List.length_cons, dpAll_len b]
theorem depth_mem : ∀ {ps : List PyData} {k : Nat}, PyData.depthAll ps ≤ k → ∀ p ∈ ps, p.depth ≤ k
  | [], _, _, p, hp => by cases hp
  | q :: ps, k, h, p, hp => by
    simp only [PyData.depthAll] at h
    rcases List.mem_cons.mp hp with rfl | hp
    · omega
    · exact depth_mem (ps := ps) (k := k) (by omega) p hp
section
variable {K : PySem.W.Frag} {E : XK}
theorem f_sorted : CaF K E (rSortD K) oSorted := by
  intro L H S xs ds Q rep rs q
  match ds, rs, q with
  | [], _, q => exact q.elim
  | _ :: _ :: _, _, q => exact q.elim
  | [d], rs, q =>
    obtain ⟨x, rfl, r⟩ := rs.one
    unfold oSorted at q
    simp only at q
    cases h : lstD S d with
    | none => rw [h] at q; exact q.elim
    | some ys =>
      rw [h] at q
      simp only at q
      cases h2 : ys.mapM (toP S 20) with
      | none => rw [h2] at q; exact q.elim
      | some ps =>
        rw [h2] at q
        simp only at q
        by_cases hc : sortB ps = true ∧ ys.length ≤ 100000
        · rw [if_pos hc] at q
          obtain ⟨a, vs, rfl, rv, k⟩ := lstD_of rep r h
          obtain ⟨hdp, _, hdep⟩ := toPs_of 20 (toP_of rep 20) rv h2
          have hlen : ys.length = ps.length := by
            rw [← rv.length]
            exact dpAll_len hdp
          obtain ⟨bs, e1, e2, e3, e4⟩ := triples rv hlen
          have hbl : bs.length = ys.length := by rw [← rv.length, ← e1, List.length_map]
          obtain ⟨hal, hso⟩ := sortB_of hc.1
          refine ⟨a, bs, rfl, by rw [e1]; exact k, by rw [e1, e3]; exact hdp, by rw [e3]; exact hal, by rw [e3]; exact hso, by rw [hbl]; exact sz5 hc.2, fun b hb => ?_, fun p hp => newList q rep ?_ p hp⟩
          · have hm : b.2.2 ∈ ps := by rw [← e3]; exact List.mem_map_of_mem (f := fun b : VDP => b.2.2) hb
            have := depth_mem hdep _ hm
            omega
          · have e5 : sortDs ys ps = (bs.mergeSort (PySem.W.dataLe false fun b => b.2.2)).map (·.2.1) := by
              unfold sortDs
              rw [← e2, ← List.map_mergeSort (r := PySem.W.dataLe false fun b : VDP => b.2.2) (s := PySem.W.dataLe false Prod.snd) (f := fun b : VDP => b.2) (l := bs) (fun _ _ _ _ => rfl), List.map_map]
              rfl
            rw [e5]
            exact rds_of _ fun b hb => e4 b ((List.mergeSort_perm _ _).mem_iff.mp hb)
        · rw [if_neg hc] at q; exact q.elim
end
end RF

namespace RF
open PySem L2

/-! ### min of data -/
def rMinD (K : PySem.W.Frag) : List V → Hp → VK → Prop := fun vs H Q => ∃ (a : Addr) (bs : List VDP) (x : PyData) (ps : List PyData), vs = [V.ref a] ∧ SqL K H a (bs.map (·.1)) ∧ DpAll K H (bs.map (·.1)) (bs.map (·.2.2)) ∧ bs.map (·.2.2) = x :: ps ∧ PySem.W.AlikeAll (x :: ps) ∧
  PyData.depthAll (x :: ps) ≤ 60 ∧ PyData.canLayAll0 (x :: ps) = true ∧ ∀ b ∈ bs, b.2.2 = PySem.W.minD x ps → Q b.1 H
theorem lay_mem : ∀ {ps : List PyData}, PyData.canLayAll0 ps = true → ∀ p ∈ ps, p.canLay0 = true
  | [], _, p, hp => by cases hp
  | q :: ps, h, p, hp => by
    simp only [PyData.canLayAll0, Bool.and_eq_true] at h
    rcases List.mem_cons.mp hp with rfl | hp
    · exact h.1
    · exact lay_mem h.2 p hp
theorem vals_at : ∀ {vs : List V} {us : List Value} {i : Nat} {u : Value}, Vals vs us → us[i]? = some u → ∃ v, vs[i]? = some v ∧ RelV v u
  | _, _, i, _, .nil, h => by simp at h
  | _, _, 0, _, .cons a b, h => by simp at h; subst h; exact ⟨_, rfl, a⟩
  | _, _, i + 1, _, .cons a b, h => by
    obtain ⟨v, h1, h2⟩ := vals_at (i := i) b (by simpa using h)
    exact ⟨v, by simpa using h1, h2⟩
theorem call_min1D {X : Cx} (hc : X.calm = true) (hu : X.A.units + 65 < cLine) : CallR X (.builtin "min") (rMinD X.K) := by
  intro pins s σ H vs us Q I r h
  obtain ⟨a, bs, x, ps, rfl, hs, hd, e, hal, hdep, hlay, q⟩ := h
  obtain ⟨its, rv, hl, _⟩ := I.list hs
  rw [Vals.ref1 r]
  rw [e] at hd
  obtain ⟨as, hr⟩ := Dp.readsAll I _ _ its hd rv
  refine PySem.W.min_list_data (I.ok.hd hc) hl.isList (vs := its.toArray) hr hal (by omega) fun i v h' tk bs' hv hr2 hk => ?_
  have hv' : its[i]? = some v := by simpa using hv
  obtain ⟨y, hy, ry⟩ := vals_at rv hv'
  rw [List.getElem?_map] at hy
  obtain ⟨b, hb, rfl⟩ := Option.map_eq_some_iff.mp hy
  obtain ⟨cs, r3, hi, hm, _⟩ := PySem.W.readsAll_atA (vs := its.toArray) hr i v hv
  have e1 : (x :: ps).getD i .none = b.2.2 := by
    rw [← e, List.getD_eq_getElem?_getD, List.getElem?_map, hb]; rfl
  rw [e1] at r3 hm
  refine ⟨b.1, H, I.kept hk, ry, q b (List.mem_of_getElem? hb) ?_⟩
  exact PySem.SeqAt.Reads.unique _ _ v _ _ (lay_mem hlay _ hm) (PySem.W.reads_keeps hk r3) hr2
-- data of atoms and tuples, back
mutual
def toD : PyData → D
  | .none => .non
  | .bool b => .bl b
  | .int i => .int i
  | .str x => .str x
  | .tuple xs => .tup (toDs xs)
  | _ => .non
def toDs : List PyData → List D
  | [] => []
  | x :: xs => toD x :: toDs xs
end
mutual
def pureT : D → Bool
  | .non => true
  | .bl _ => true
  | .int _ => true
  | .str _ => true
  | .tup xs => pureTs xs
  | _ => false
def pureTs : List D → Bool
  | [] => true
  | x :: xs => pureT x && pureTs xs
end
theorem leafP_back {d : D} {p : PyData} (h : leafP d = some p) : toD p = d := by
  cases d with
  | str b =>
    have h : (if PyData.strOk b = true then some (PyData.str b) else none) = some p := h
    by_cases hb : PyData.strOk b = true
    · rw [if_pos hb] at h
      cases h
      simp [toD]
    · rw [if_neg hb] at h; cases h
  | non => cases h; simp [toD]
  | bl b => cases h; simp [toD]
  | int b => cases h; simp [toD]
  | _ => cases h
theorem toPs_back {S : Sto} {k : Nat} (ih : ∀ d p, pureT d = true → toP S k d = some p → toD p = d) : ∀ (ds : List D) (ps : List PyData), pureTs ds = true → ds.mapM (toP S k) = some ps → toDs ps = ds
  | [], ps, _, h => by
    simp at h
    subst h
    simp [toDs]
  | d :: ds, ps, hp, h => by
    simp only [pureTs, Bool.and_eq_true] at hp
    obtain ⟨p, ps', h1, h2, rfl⟩ := mapM_cons_some h
    simp only [toDs]
    rw [ih d p hp.1 h1, toPs_back ih ds ps' hp.2 h2]
theorem toP_back {S : Sto} : ∀ (k : Nat) (d : D) (p : PyData), pureT d = true → toP S k d = some p → toD p = d
  | 0, d, p, _, h => leafP_back h
  | k + 1, d, p, hp, h => by
    cases d with
    | tup xs =>
      obtain ⟨ps, h1, rfl⟩ := Option.map_eq_some_iff.mp (show (xs.mapM (toP S k)).map PyData.tuple = some _ from h)
      simp only [pureT] at hp
      simp only [toD]
      rw [toPs_back (fun d p => toP_back k d p) xs ps hp h1]
    | rl xs => simp [pureT] at hp
    | kt xs => simp [pureT] at hp
    | ref n => simp [pureT] at hp
    | non => exact leafP_back h
    | bl b => exact leafP_back h
    | int b => exact leafP_back h
    | str b => exact leafP_back h
def notNoneB (ps : List PyData) : Bool := ps.all fun p => match p with | .none => false | _ => true
def oMin1 : OpN := fun ds S => match ds with
  | [x] => match lstD S x with
    | some xs => match xs.mapM (toP S 20) with
      | some (p :: ps) => if likeB (p :: ps) = true ∧ notNoneB (p :: ps) = true ∧ pureTs xs = true then .ok (toD (PySem.W.minD p ps)) S else .bad
      | _ => .bad
    | none => .bad
  | _ => .bad
theorem pureTs_mem : ∀ {xs : List D}, pureTs xs = true → ∀ d ∈ xs, pureT d = true
  | [], _, d, hd => by cases hd
  | x :: xs, h, d, hd => by
    simp only [pureTs, Bool.and_eq_true] at h
    rcases List.mem_cons.mp hd with rfl | hd
    · exact h.1
    · exact pureTs_mem h.2 d hd
theorem mapM_zip {f : D → Option PyData} : ∀ {xs : List D} {ps : List PyData}, xs.mapM f = some ps → ∀ z ∈ xs.zip ps, f z.1 = some z.2
  | [], ps, h, z, hz => by
    simp at hz
  | x :: xs, ps, h, z, hz => by
    obtain ⟨p, ps', h1, h2, rfl⟩ := mapM_cons_some h
    rw [List.zip_cons_cons] at hz
    rcases List.mem_cons.mp hz with rfl | hz
    · exact h1
    · exact mapM_zip h2 z hz
section
variable {K : PySem.W.Frag} {E : XK}
theorem f_min1 : CaF K E (rMinD K) oMin1 := by
  intro L H S xs ds Q rep rs q
  match ds, rs, q with
  | [], _, q => exact q.elim
  | _ :: _ :: _, _, q => exact q.elim
  | [d], rs, q =>
    obtain ⟨x, rfl, r⟩ := rs.one
    unfold oMin1 at q
    simp only at q
    cases h : lstD S d with
    | none => rw [h] at q; exact q.elim
    | some ys =>
      rw [h] at q
      simp only at q
      cases h2 : ys.mapM (toP S 20) with
      | none => rw [h2] at q; exact q.elim
      | some ps =>
        rw [h2] at q
        cases ps with
        | nil => exact q.elim
        | cons p ps =>
          simp only at q
          by_cases hc : likeB (p :: ps) = true ∧ notNoneB (p :: ps) = true ∧ pureTs ys = true
          · rw [if_pos hc] at q
            obtain ⟨a, vs, rfl, rv, k⟩ := lstD_of rep r h
            obtain ⟨hdp, hlay, hdep⟩ := toPs_of 20 (toP_of rep 20) rv h2
            have hlen : ys.length = (p :: ps).length := by
              rw [← rv.length]; exact dpAll_len hdp
            obtain ⟨bs, e1, e2, e3, e4⟩ := triples rv hlen
            refine ⟨a, bs, p, ps, rfl, by rw [e1]; exact k, by rw [e1, e3]; exact hdp, e3, ⟨likeB_of hc.1, fun z hz => ?_⟩, by omega, hlay, fun b hb hm => ?_⟩
            · have := List.all_eq_true.mp hc.2.1 z hz
              intro e
              rw [e] at this
              cases this
            · have hz : b.2 ∈ ys.zip (p :: ps) := by rw [← e2]; exact List.mem_map_of_mem (f := fun b : VDP => b.2) hb
              have ht := mapM_zip h2 _ hz
              have hpu : pureT b.2.1 = true := pureTs_mem hc.2.2 _ (List.of_mem_zip hz).1
              have e5 := toP_back 20 _ _ hpu ht
              rw [← hm, e5] at q
              exact EndV.val q rep (e4 b hb)
          · rw [if_neg hc] at q; exact q.elim
end

/-! ### l.remove(x) -/
def rRemD (K : PySem.W.Frag) : V → List V → Hp → VK → Prop := fun x xs H Q => ∃ (a : Addr) (y : V) (vs : List V) (d : PyData) (ds : List PyData) (j : Nat), x = V.ref a ∧ xs = [y] ∧ H a = some (.lst vs) ∧ DpAll K H vs ds ∧ Dp K H y d ∧ PyData.canLayAll0 ds = true ∧ d.canLay0 = true ∧ d.depth ≤ 60 ∧
  PySem.SeqAt.dataPlace ds d = some j ∧ Q .non (upd H a (.lst (vs.eraseIdx j)))
theorem Vals.eraseIdx' : ∀ {vs : List V} {us : List Value} (j : Nat), Vals vs us → Vals (vs.eraseIdx j) (us.eraseIdx j)
  | _, _, _, .nil => .nil
  | _, _, 0, .cons a b => b
  | _, _, j + 1, .cons a b => .cons a (Vals.eraseIdx' j b)
theorem mt_removeD {X : Cx} (hu : X.A.units + 65 < cLine) : MtR X "list.remove" (rRemD X.K) := by
  intro pins s σ H x xs v us Q I rx rxs h
  obtain ⟨a, y, vs, d, ds, j, rfl, rfl, ha, hds, hy, lds, ld, hdep, hp, q⟩ := h
  cases rx
  obtain ⟨uy, rfl, ry⟩ := rxs.one
  obtain ⟨bs, r1⟩ := Dp.reads I d y uy hy ry
  obtain ⟨hz, its, n, rv, hln, ho⟩ := I.lstM ha
  obtain ⟨as, h4⟩ := Dp.readsAll I ds _ its hds rv
  have hn : its.length = ds.length := SeqAt.ReadsAll.length ds its as h4
  have hmap : its.map (SeqAt.readOf s.heap) = ds := SeqAt.readsAll_map ds its as lds h4
  obtain ⟨hjd, hit, hno⟩ := List.findIdx?_eq_some_iff_getElem.mp hp
  have hjl : j < its.length := by omega
  have hj : j < its.toArray.size := by simpa using hjl
  have at_ : ∀ (m : Nat) (hm : m < its.toArray.size) (hm2 : m < ds.length), SeqAt.readOf s.heap its.toArray[m] = ds[m] := by
    intro m hm hm2
    have hml : m < its.length := by simpa using hm
    have e1 : ds[m]? = some ds[m] := List.getElem?_eq_getElem hm2
    have e3 : (its.map (SeqAt.readOf s.heap))[m]? = some ds[m] := by rw [hmap]; exact e1
    rw [List.getElem?_map, List.getElem?_eq_getElem hml] at e3
    have e2 : SeqAt.readOf s.heap its[m] = ds[m] := Option.some.inj e3
    simpa using e2
  refine call_meets PySem.F.slot_list_remove ⟨_, ho, rfl⟩ PySem.F.entry_list_remove (PySem.F.args_list_remove_2 _ _)
    (PySem.SeqAt.list_removeAt a its.toArray n none #[] uy (fun u => PyData.eqv (SeqAt.readOf s.heap u) d) j hj ?_ ?_ (by rw [List.size_toArray]; omega)) ⟨ho, SeqAt.items_eqAt (vs := its.toArray) (show ReadsAll s.heap its.toArray.toList ds as from h4) r1 lds ld (by
      have := Nat.min_le_right (PyData.depthAll ds) d.depth
      omega), ?_⟩
  · show PyData.eqv (SeqAt.readOf s.heap its.toArray[j]) d = true
    rw [at_ j hj hjd]
    exact hit
  · intro m hm hmj
    show PyData.eqv (SeqAt.readOf s.heap its.toArray[m]) d = false
    rw [at_ m hm (by omega)]
    simpa using hno m hmj
  · refine ⟨.non, _, I.lset (its' := its.eraseIdx j) (t' := s.toks) ha ho ?_ (Vals.eraseIdx' j rv) ?_, rfl, q⟩
    · show its.toArray.eraseIdxIfInBounds j = (its.eraseIdx j).toArray
      rw [List.eraseIdxIfInBounds_toArray]
    · have := List.length_eraseIdx_le vs j
      omega
def mRemove : OpM := fun x ds S => match x, ds with
  | .ref n, [y] => match S[n]? with
    | some (.lst xs) => match xs.mapM (toP S 20), toP S 20 y with
      | some ps, some p => match PySem.SeqAt.dataPlace ps p with
        | some j => .ok .non (S.set n (.lst (xs.eraseIdx j)))
        | none => .bad
      | _, _ => .bad
    | _ => .bad
  | _, _ => .bad
section
variable {K : PySem.W.Frag} {E : XK}
theorem f_remove : MtF K E (rRemD K) mRemove := by
  intro L H S x xs d ds Q rep r rs q
  unfold mRemove at q
  split at q
  · rename_i n y
    cases r with
    | @ref a _ ha =>
      obtain ⟨w, rfl, rw'⟩ := rs.one
      obtain ⟨c, hc, rc⟩ := rep.adr ha
      simp only [hc] at q
      cases c with
      | lst ys =>
        simp only at q
        obtain ⟨vs, hv, rv⟩ := rc
        cases h1 : ys.mapM (toP S 20) with
        | none => rw [h1] at q; exact q.elim
        | some ps =>
          cases h2 : toP S 20 y with
          | none => rw [h1, h2] at q; exact q.elim
          | some p =>
            rw [h1, h2] at q
            simp only at q
            cases h3 : PySem.SeqAt.dataPlace ps p with
            | none => rw [h3] at q; exact q.elim
            | some j =>
              rw [h3] at q
              obtain ⟨a1, a2, a3⟩ := toPs_of 20 (toP_of rep 20) rv h1
              obtain ⟨b1, b2, b3⟩ := toP_of rep 20 _ _ _ rw' h2
              have gr : Gr L H L (upd H a (.lst (vs.eraseIdx j))) := Gr.wr rep ha
              obtain ⟨ex, rep2⟩ := rep.write (o := .lst (vs.eraseIdx j)) (c := .lst (ys.eraseIdx j)) ha ⟨_, upd_same, (rv.eraseIdx j).grow gr⟩
              exact ⟨a, w, vs, p, ps, j, rfl, rfl, hv, a1, b1, a2, b2, by omega, h3, q L _ ex rep2 _ .non⟩
      | _ => exact q.elim
  · exact q.elim
end
end RF

namespace RF
open PySem L2

/-! ### a value's truth -/
def truD (S : Sto) : D → Option Bool
  | .non => some false
  | .bl b => some b
  | .int i => some (i != 0)
  | .tup xs => some (!xs.isEmpty)
  | .rl xs => some (!xs.isEmpty)
  | .ref n => match S[n]? with
    | some (.lst xs) => some (!xs.isEmpty)
    | some (.dk kvs) => some (!kvs.isEmpty)
    | _ => none
  | _ => none
def fTru (fa : EF) : BF := fun env S => (fa env S).bind fun x S1 => match truD S1 x with
  | some b => .ok b S1
  | none => .bad
theorem RDs.isEmpty {K : PySem.W.Frag} {L : List Addr} {H : Hp} : ∀ {vs : List V} {ds : List D}, RDs K L H vs ds → vs.isEmpty = ds.isEmpty
  | _, _, .nil => rfl
  | _, _, .cons _ _ => rfl
theorem RK.isEmpty {κ : Type} {K : PySem.W.Frag} {L : List Addr} {H : Hp} : ∀ {ps : List (κ × V)} {qs : List (κ × D)}, RK K L H ps qs → ps.isEmpty = qs.isEmpty
  | [], [], _ => rfl
  | _ :: _, _ :: _, _ => rfl
  | [], _ :: _, h => h.elim
  | _ :: _, [], h => h.elim
section
variable {X : Cx} {K : PySem.W.Frag} {E : XK} {L : List Addr} {H : Hp} {S : Sto}
theorem truD_of {v : V} {d : D} {b : Bool} (rep : Rep K L H S) (r : RD K L H v d) (h : truD S d = some b) : TruV K v H b := by
  cases r with
  | non => cases h; rfl
  | bl b => cases h; rfl
  | int b => cases h; rfl
  | str b => cases h
  | kt hs rs => exact nomatch (show (none : Option Bool) = some _ from h)
  | tup hs rs => cases h; exact .inr (.inl ⟨_, .of hs, by rw [rs.isEmpty]⟩)
  | rl hs rs => cases h; exact .inl ⟨_, hs H fun _ _ _ z => z, by rw [rs.isEmpty]⟩
  | @ref a n ha =>
    obtain ⟨c, hc, rc⟩ := rep.adr ha
    unfold truD at h
    simp only [hc] at h
    cases c with
    | lst ys =>
      cases h
      obtain ⟨vs, hv, rv⟩ := rc
      exact .inl ⟨_, .of hv, by rw [rv.isEmpty]⟩
    | dk ys =>
      cases h
      obtain ⟨vs, hv, rv⟩ := rc
      exact .inr (.inr ⟨_, hv, by rw [rv.isEmpty]⟩)
    | _ => cases h
theorem xTru {e : Expr} {fa : EF} (he : PE X e (tE X.K E fa)) (hp : ∀ whole, isTrue e X.env whole = (do let v ← whole; standAt e.pos; holding [v] (truthy v))) : PT X e (tT X.K E (fTru fa)) :=
  monoT (pt_truth he hp) fun σ H Q h => by
    obtain ⟨L, env, S, rep, re, h⟩ := h
    refine ⟨L, env, S, rep, re, (End.bind h).imp fun x S1 L1 H1 e1 rep1 h1 v rv => ?_⟩
    cases h2 : truD S1 x with
    | none => rw [h2] at h1; exact h1.elim
    | some b =>
      rw [h2] at h1
      exact ⟨b, truD_of rep1 rv h2, h1 L1 H1 (Ex.refl _ _) rep1⟩
end

/-! ### o.f += e -/
def fFldAug (C : Addr) (f : Str) (o : Op2) (fo fv : EF) : SF := fun env S => (fo env S).bind fun x S1 => match fldsOf C S1 x with
  | some (_, fs) => (retO S1 (fs.lookup f)).bind fun y S2 => (fv env S2).bind fun z S3 => (o y z S3).bind fun d S4 => (oPut C f x d S4).bind fun _ S5 => .ok (.nx env) S5
  | none => .bad
def oAddI : Op2 := oI (fun _ _ => true) fun i j => i + j
theorem f_addI {K : PySem.W.Frag} {E : XK} : OpF K E rAdd oAddI := opF_I0
theorem f_subI {K : PySem.W.Frag} {E : XK} : OpF K E rSub oSub := opF_I0
section
variable {X : Cx} {E : XK} {o e : Expr} {fo fv : EF} {pos tpos : Pos} {C : Addr} {f g : Str}
theorem xFldAugE {op : Operator} {rd : V → V → Hp → VK → Prop} {o2 : Op2} (hf : f = g) (T : Cls X.K C) (N : NoAttr X.K C g) (hop : InOp X op rd) (ho2 : OpF X.K E rd o2) (ho : PE X o (tE X.K E fo)) (hv : PE X e (tE X.K E fv)) :
    PS X (.AugAssign (.Attribute o f tpos) op e pos) (tS X.K E (fFldAug C g o2 fo fv)) := by
  subst hf
  exact monoS (ps_fldaug ho hv hop) fun D σ H h => by
    obtain ⟨L, env, S, rep, re, h⟩ := h
    refine ⟨L, env, S, rep, re, (End.bind h).imp fun x S1 L1 H1 e1 rep1 h1 v rv => ?_⟩
    cases q : fldsOf C S1 x with
    | none => rw [q] at h1; exact h1.elim
    | some r =>
      obtain ⟨n, fs⟩ := r
      rw [q] at h1
      simp only at h1
      obtain ⟨a, dx, ws, rfl, ha, h2, rk⟩ := fldsOf_of rep1 rv q
      cases hl : fs.lookup f with
      | none => rw [hl] at h1; exact h1.elim
      | some y =>
        rw [hl] at h1
        have h1 := End.bind h1
        rcases rk.lookup f with ⟨z, _⟩ | ⟨u, d', z1, z2, z3⟩
        · rw [hl] at z; cases z
        · rw [hl] at z1; cases z1
          refine ⟨a, C, dx, ws, u, rfl, h2, T, N, z2, L1, env, S1, rep1, re.mono e1, ?_⟩
          have h1 := h1 L1 H1 (Ex.refl _ _) rep1
          refine (End.bind h1).imp fun z S3 L3 H3 e3 rep3 h3 w rw' => ?_
          refine ho2 L3 H3 S3 _ _ _ _ _ rep3 (z3.mono e3) rw' ((End.bind h3).imp fun d S4 L4 H4 e4 rep4 h4 t rt => ?_)
          obtain ⟨a', dx', ws', ea, h5, h6, h7⟩ := putFld_of (Q := fun H5 => D.nx σ H5) rep4 (rv.mono (e3.trans e4)) rt ((End.bind h4).imp fun _ S5 L5 H5 e5 rep5 h5 => h5 L5 H5 (Ex.refl _ _) rep5 σ (((re.mono e1).mono (e3.trans e4)).mono e5))
          cases ea
          exact ⟨dx', ws', h5, h6, h7⟩
end

/-! ### methods, by a name that is equal -/
section
variable {X : Cx} {E : XK} {k n : Nat} {f C : Addr} {fd : FuncData} {ps : List Str} {F : FF} {dvs : List V} {ds : List Value} {dds : List D} {m m' : Str} {pos apos : Pos} {e o : Expr} {es : List Expr} {fo : EF} {fs : AF}
theorem xMethE {pl : Sem Bool} (hm' : m = m') (c : Cls X.K C) (hm : Meth X.K C m' f) (Fo : FnOk X.prog X.w X.K X.mg X.base CX0 k f fd ps (spF X.K n F)) (hr : Room k X.A) (hb : Binds X.K fd ps [])
    (he : PE X o (tE X.K E fo)) (ha : PA X (e :: es) (tA X.K E fs))
    (hst : starEach (e :: es) X.env = (false, eval e X.env) :: starEach es X.env := by rfl) (hpl : (backTo pos (starEach es X.env)).any (·.1) = false := by rfl)
    (ht : eval (.Call (.Attribute o m apos) (e :: es) [] pos) X.env = (do
      let ov ← eval o X.env
      standAt apos.atName
      let (f, first) ← holding [ov] (getMethod ov m pl)
      callWith pos f first (backTo pos (starEach (e :: es) X.env)) (backToKw pos (keywordEach [] X.env))) := by rfl) :
    PE X (.Call (.Attribute o m apos) (e :: es) [] pos) (tE X.K E (fMeth C m' F n [] fo fs)) := by
  subst hm'
  exact xMeth c hm Fo hr hb he ha hst hpl ht
theorem xMeth0E {pl : Sem Bool} (hm' : m = m') (c : Cls X.K C) (hm : Meth X.K C m' f) (Fo : FnOk X.prog X.w X.K X.mg X.base CX0 k f fd ps (spF X.K n F)) (hr : Room k X.A) (hb : Binds X.K fd ps ds) (hd : Vals dvs ds) (hdd : ∀ L H, RDs X.K L H dvs dds)
    (he : PE X o (tE X.K E fo))
    (ht : eval (.Call (.Attribute o m apos) [] [] pos) X.env = (do
      let ov ← eval o X.env
      standAt apos.atName
      let (f, first) ← holding [ov] (getMethod ov m pl)
      callWith pos f first (backTo pos (starEach [] X.env)) (backToKw pos (keywordEach [] X.env))) := by rfl) :
    PE X (.Call (.Attribute o m apos) [] [] pos) (tE X.K E (fMeth C m' F n dds fo fNil)) := by
  subst hm'
  exact xMeth0 c hm Fo hr hb hd hdd he ht
end

/-! ### a def with defaults -/
section
variable {P : Program} {w : World} {K : PySem.W.Frag} {mg : Str → Option Value} {base : Heap}
theorem fn_okD {x qual : Str} {st : Stmt} {f : Addr} {fd : FuncData} {N ps : List Str} {k m : Nat} {fb : SF} {dvs : List V} {kws : List (Str × V)} (F : FunD K x qual (defArgs st) (defBody st) (defScope st) dvs kws f fd) (Sc : FnScope N ps (defScope st)) (hm : N.length = m)
    (hb : ∀ (cdv : Value) (A : Around) (outer : List PySem.Env) (s : Shared) (H : Hp) (E : XK), Room k (A.deeper (PyProof.Rows.envOfC qual (defScope st) s.heap.objs.size f cdv)) →
      PSs (cxOf CX0 P w K mg base N qual (defScope st) f cdv A outer s H E).nox (defBody st) (tS K E0' fb)) : FnOk P w K mg base CX0 (k + 1) f fd ps (spF K ps.length (fnF m fb)) := by
  subst hm
  refine F.ok Sc (fun vs H Q E h => h.1) (fun cdv A outer s H vs Q E hr h => ⟨_, (hb cdv A outer s H E hr).nox, ?_⟩)
  obtain ⟨hl, L, ds, S, rep, rd, h⟩ := h
  refine ⟨L, _, S, rep, RE.start N rd, (End.bind h).imp fun fl S1 L1 H1 e1 rep1 h1 => ?_⟩
  cases fl with
  | nx e => exact fun σ _ => EndV.val h1 rep1 .non
  | rt d => exact fun v rv => EndV.val h1 rep1 rv
  | bk e => exact h1.elim
  | ct e => exact h1.elim
theorem funD_mk {x qual : Str} {st : Stmt} {f T : Addr} {oc tc : Value} {od an td : Option Addr} {osl tsl : Array (Option Value)} {kV doc pm cdv ct : Value} {its : List Value} {n : Nat} {dvs : List V} (l : K.lookup f = some ⟨oc, od, .func (PySem.W.fnOf x qual (defArgs st) (defBody st) (defScope st) (.ref T) kV doc pm an cdv ct), osl⟩)
    (lT : K.lookup T = some ⟨tc, td, .seq its.toArray n, tsl⟩) (hv : Vals dvs its) (h0 : dvs ≠ [])
    (c : PySem.W.codeIn K cdv qual = true) (k : PySem.W.keepIn K (.ref f) = true) : FunD K x qual (defArgs st) (defBody st) (defScope st) dvs [] f (PySem.W.fnOf x qual (defArgs st) (defBody st) (defScope st) (.ref T) kV doc pm an cdv ct) :=
  ⟨⟨oc, od, .ref T, kV, doc, pm, an, cdv, ct, osl, rfl, l, c, .inr ⟨h0, T, _, its, n, rfl, lT, rfl, hv⟩, .inl rfl⟩, k⟩
end
end RF

namespace RF
open PySem L2

/-! ### {k: e, ..} with texts and ints as keys -/
abbrev PrF := Lc → Sto → R (List (D × D))
def prNil : PrF := fun _ S => .ok [] S
def prCons (fk fv : EF) (r : PrF) : PrF := fun env S => (fk env S).bind fun x S1 => (fv env S1).bind fun y S2 => (r env S2).bind fun ps S3 => .ok ((x, y) :: ps) S3
def keyPs : List (D × D) → Option (List (Key × D))
  | [] => some []
  | (x, y) :: r => match keyD x with
    | some k => match keyPs r with
      | some kvs => some ((k, y) :: kvs)
      | none => none
    | none => none
def mergeKD (kvs more : List (Key × D)) : List (Key × D) := more.foldl (fun acc kv => putKD acc kv.1 kv.2) kvs
def fDisp (r : PrF) : EF := fun env S => (r env (S ++ [.dk []])).bind fun ps S1 => match keyPs ps with
  | some kvs => match S1[S.length]? with
    | some (.dk []) => if kvs.length ≤ 15 then .ok (.ref S.length) (S1.set S.length (.dk (mergeKD [] kvs))) else .bad
    | _ => .bad
  | none => .bad
def RPs (K : PySem.W.Frag) (L : List Addr) (H : Hp) : List (V × V) → List (D × D) → Prop
  | [], [] => True
  | p :: ps, q :: qs => RD K L H p.1 q.1 ∧ RD K L H p.2 q.2 ∧ RPs K L H ps qs
  | _, _ => False
theorem RPs.keys {K : PySem.W.Frag} {L : List Addr} {H : Hp} : ∀ {ps : List (V × V)} {qs : List (D × D)} {kvs : List (Key × D)}, RPs K L H ps qs → keyPs qs = some kvs → ∃ ws : List (Key × V), ps = ws.map (fun kv => (kV kv.1, kv.2)) ∧ RK K L H ws kvs
  | [], [], _, _, h => by cases h; exact ⟨[], rfl, trivial⟩
  | p :: ps, (x, y) :: qs, kvs, ⟨a, b, c⟩, h => by
    unfold keyPs at h
    cases h1 : keyD x with
    | none => rw [h1] at h; cases h
    | some k =>
      rw [h1] at h
      simp only at h
      cases h2 : keyPs qs with
      | none => rw [h2] at h; cases h
      | some r =>
        rw [h2] at h
        cases h
        obtain ⟨ws, e, rk⟩ := RPs.keys c h2
        refine ⟨(k, p.2) :: ws, ?_, rfl, b, rk⟩
        have := a.key h1
        rw [List.map_cons, e]
        obtain ⟨p1, p2⟩ := p
        simp only at this
        rw [this]
  | [], _ :: _, _, h, _ => h.elim
  | _ :: _, [], _, h, _ => h.elim
theorem RK.merge {K : PySem.W.Frag} {L : List Addr} {H : Hp} : ∀ {ms : List (Key × V)} {ns : List (Key × D)} {ps : List (Key × V)} {qs : List (Key × D)}, RK K L H ms ns → RK K L H ps qs → RK K L H (mergeK ps ms) (mergeKD qs ns)
  | [], [], _, _, _, h => h
  | (a, v) :: ms, (b, d) :: ns, ps, qs, ⟨e, r, c⟩, h => by
    have e : a = b := e
    subst e
    exact RK.merge (ms := ms) (ns := ns) (ps := putK ps a v) (qs := putKD qs a d) c (RK.put (κ := Key) (k := a) r h)
  | [], _ :: _, _, _, h, _ => h.elim
  | _ :: _, [], _, _, h, _ => h.elim
/-- the pairs of a display and their readings -/
structure PrX (X : Cx) (E : XK) (pos : Pos) (keys : List (Option Expr)) (values : List Expr) (r : PrF) : Prop where
  ex : ∃ trs, PPs X pos keys values trs ∧ ∀ σ H (Q : List (V × V) → Hp → Prop) L env S, Rep X.K L H S → RE X.K L H σ env → End X.K E L H (fun ps S1 L1 H1 => ∀ vs, RPs X.K L1 H1 vs ps → Q vs H1) (r env S) → tPairs trs σ H Q
theorem RPs.mono {K : PySem.W.Frag} {L L1 : List Addr} {H H1 : Hp} (e : Ex L H L1 H1) : ∀ {ps : List (V × V)} {qs : List (D × D)}, RPs K L H ps qs → RPs K L1 H1 ps qs
  | [], [], _ => trivial
  | _ :: _, _ :: _, ⟨a, b, c⟩ => ⟨a.mono e, b.mono e, RPs.mono e c⟩
  | [], _ :: _, h => h.elim
  | _ :: _, [], h => h.elim
section
variable {X : Cx} {E : XK} {pos : Pos} {k v : Expr} {ks : List (Option Expr)} {vs : List Expr} {fk fv : EF} {r : PrF}
theorem xPrNil : PrX X E pos [] [] prNil := ⟨[], pps_nil, fun σ H Q L env S rep re h => h L H (Ex.refl _ _) rep [] trivial⟩
theorem xPrCons (hk : PE X k (tE X.K E fk)) (hv : PE X v (tE X.K E fv)) (hr : PrX X E pos ks vs r) : PrX X E pos (some k :: ks) (v :: vs) (prCons fk fv r) := by
  obtain ⟨trs, h1, h2⟩ := hr.ex
  refine ⟨_, pps_cons hk hv h1, fun σ H Q L env S rep re h => ?_⟩
  refine ⟨L, env, S, rep, re, (End.bind h).imp fun x S1 L1 H1 e1 rep1 h3 u ru => ?_⟩
  refine ⟨L1, env, S1, rep1, re.mono e1, (End.bind h3).imp fun y S2 L2 H2 e2 rep2 h4 w rw' => ?_⟩
  refine h2 σ H2 _ L2 env S2 rep2 ((re.mono e1).mono e2) ((End.bind h4).imp fun ps S3 L3 H3 e3 rep3 h5 vs rvs => ?_)
  exact h5 L3 H3 (Ex.refl _ _) rep3 _ ⟨(ru.mono e2).mono e3, rw'.mono e3, rvs⟩
theorem xDisp {keys : List (Option Expr)} {values : List Expr} (h : PrX X E pos keys values r) (hall : keys.all (·.isSome) = true := by rfl) (hl : keys.length = values.length := by rfl) (h0 : keys ≠ [] := by intro z; cases z) (h15 : keys.length ≤ 15 := by decide) :
    PE X (.Dict keys values pos) (tE X.K E (fDisp r)) := by
  obtain ⟨trs, h1, h2⟩ := h.ex
  exact monoE (pe_disp h1 hall hl h0 h15) fun σ H Q q => by
    obtain ⟨L, env, S, rep, re, q⟩ := q
    intro p hp
    have ex := Ex.newc (L := L) (o := .dK []) hp
    have rep1 : Rep X.K (L ++ [p]) (upd H p (.dK [])) (S ++ [.dk []]) := rep.newc hp ⟨[], upd_same, trivial⟩
    have hn : (L ++ [p])[S.length]? = some p := by rw [← rep.len, List.getElem?_append_right (Nat.le_refl _)]; simp
    refine h2 σ _ _ _ env _ rep1 (re.mono ex) ((End.bind (q.later ex)).imp fun ps S1 L1 H1 e1 rep2 h3 vs rvs => ?_)
    cases hk : keyPs ps with
    | none => rw [hk] at h3; exact h3.elim
    | some kvs =>
      rw [hk] at h3
      simp only at h3
      have hn1 := e1.px _ _ hn
      obtain ⟨c, hc, rc⟩ := rep2.adr hn1
      rw [hc] at h3
      cases c with
      | dk ls =>
        cases ls with
        | nil =>
          simp only at h3
          by_cases hz : kvs.length ≤ 15
          · rw [if_pos hz] at h3
            obtain ⟨ws0, hw, rk0⟩ := rc
            cases ws0 with
            | cons _ _ => exact rk0.elim
            | nil =>
              obtain ⟨ws, e, rk⟩ := rvs.keys hk
              refine ⟨hw, ws, e, by rw [rk.length]; exact hz, ?_⟩
              have gr : Gr L1 H1 L1 (upd H1 p (.dK (mergeK [] ws))) := Gr.wr rep2 hn1
              obtain ⟨ex2, rep3⟩ := rep2.write (o := .dK (mergeK [] ws)) (c := .dk (mergeKD [] kvs)) hn1 ⟨_, upd_same, (RK.merge (ps := []) (qs := []) rk trivial).grow gr⟩
              exact h3 L1 _ ex2 rep3 _ (.ref hn1)
          · rw [if_neg hz] at h3; exact h3.elim
        | cons _ _ => exact h3.elim
      | _ => exact h3.elim
end
end RF

/-! running by rewriting: instances, dicts, methods -/
namespace RF
open PySem L2
section
variable {C : Addr} {n k : Nat} {S : Sto} {x y z d : D} {ds xs : List D} {fs : List (Str × D)} {f m : Str} {env : Lc} {fo fa fv : EF} {aa : AF} {o : Op2} {F : FF} {dds : List D} {b : Bool} {kvs : List (Key × D)} {t : Str}
def fldC (C : Addr) (n : Nat) : Option Cell → Option (Nat × List (Str × D))
  | some (.ins C' fs) => if C' = C then some (n, fs) else none
  | _ => none
theorem fldsOf_ref : fldsOf C S (.ref n) = fldC C n S[n]? := by unfold fldsOf fldC; rfl
theorem fldC_ins : fldC C n (some (.ins C fs)) = some (n, fs) := by unfold fldC; simp
def fldK2 (f : Str) (S : Sto) : Option (Nat × List (Str × D)) → R D
  | some (_, fs) => retO S (fs.lookup f)
  | none => .bad
def fldK (C : Addr) (f : Str) : D → Sto → R D := fun x S1 => match fldsOf C S1 x with
  | some (_, fs) => retO S1 (fs.lookup f)
  | none => .bad
theorem ap_fFld : fFld C f fo env S = (fo env S).bind (fldK C f) := (rfl)
theorem ap_fldK : fldK C f x S = fldK2 f S (fldsOf C S x) := by unfold fldK fldK2; rfl
theorem ap_fldK2 : fldK2 f S (some (n, fs)) = retO S (fs.lookup f) := (rfl)
def sfK1 (C : Addr) (f : Str) (fo : EF) (env : Lc) : D → Sto → R Fl := fun d S1 => (fo env S1).bind fun x S2 => (oPut C f x d S2).bind fun _ S3 => .ok (.nx env) S3
def sfK2 (C : Addr) (f : Str) (env : Lc) (d : D) : D → Sto → R Fl := fun x S2 => (oPut C f x d S2).bind fun _ S3 => .ok (.nx env) S3
def sfK3 (env : Lc) : Unit → Sto → R Fl := fun _ S3 => .ok (.nx env) S3
theorem ap_fSetFld : fSetFld C f fo fv env S = (fv env S).bind (sfK1 C f fo env) := (rfl)
theorem ap_sfK1 : sfK1 C f fo env d S = (fo env S).bind (sfK2 C f env d) := (rfl)
theorem ap_sfK2 : sfK2 C f env d x S = (oPut C f x d S).bind (sfK3 env) := (rfl)
theorem ap_sfK3 {u : Unit} : sfK3 env u S = .ok (.nx env) S := (rfl)
def putK' (C : Addr) (f : Str) (d : D) (S : Sto) : Option (Nat × List (Str × D)) → R Unit
  | some (n, fs) => if fs.length < 900 then .ok () (S.set n (.ins C (putD f d fs))) else .bad
  | none => .bad
theorem o_put : oPut C f x d S = putK' C f d S (fldsOf C S x) := by unfold oPut putK'; rfl
theorem ap_putK : putK' C f d S (some (n, fs)) = if fs.length < 900 then .ok () (S.set n (.ins C (putD f d fs))) else .bad := (rfl)
def faK2 (C : Addr) (f : Str) (o : Op2) (fv : EF) (env : Lc) (x : D) (S1 : Sto) : Option (Nat × List (Str × D)) → R Fl
  | some (_, fs) => (retO S1 (fs.lookup f)).bind fun y S2 => (fv env S2).bind fun z S3 => (o y z S3).bind fun d S4 => (oPut C f x d S4).bind fun _ S5 => .ok (.nx env) S5
  | none => .bad
def faK1 (C : Addr) (f : Str) (o : Op2) (fv : EF) (env : Lc) : D → Sto → R Fl := fun x S1 => match fldsOf C S1 x with
  | some (_, fs) => (retO S1 (fs.lookup f)).bind fun y S2 => (fv env S2).bind fun z S3 => (o y z S3).bind fun d S4 => (oPut C f x d S4).bind fun _ S5 => .ok (.nx env) S5
  | none => .bad
def faK3 (C : Addr) (f : Str) (o : Op2) (fv : EF) (env : Lc) (x : D) : D → Sto → R Fl := fun y S2 => (fv env S2).bind fun z S3 => (o y z S3).bind fun d S4 => (oPut C f x d S4).bind fun _ S5 => .ok (.nx env) S5
def faK4 (C : Addr) (f : Str) (o : Op2) (env : Lc) (x y : D) : D → Sto → R Fl := fun z S3 => (o y z S3).bind fun d S4 => (oPut C f x d S4).bind fun _ S5 => .ok (.nx env) S5
def faK5 (C : Addr) (f : Str) (env : Lc) (x : D) : D → Sto → R Fl := fun d S4 => (oPut C f x d S4).bind fun _ S5 => .ok (.nx env) S5
theorem ap_fFldAug : fFldAug C f o fo fv env S = (fo env S).bind (faK1 C f o fv env) := (rfl)
theorem ap_faK1 : faK1 C f o fv env x S = faK2 C f o fv env x S (fldsOf C S x) := by unfold faK1 faK2; rfl
theorem ap_faK2 : faK2 C f o fv env x S (some (n, fs)) = (retO S (fs.lookup f)).bind (faK3 C f o fv env x) := (rfl)
theorem ap_faK3 : faK3 C f o fv env x y S = (fv env S).bind (faK4 C f o env x y) := (rfl)
theorem ap_faK4 : faK4 C f o env x y z S = (o y z S).bind (faK5 C f env x) := (rfl)
theorem ap_faK5 : faK5 C f env x d S = (oPut C f x d S).bind (sfK3 env) := (rfl)
theorem o_addI {i j : Int} : oAddI (.int i) (.int j) S = .ok (.int (i + j)) S := (rfl)
def meK2 (m : Str) (F : FF) (n : Nat) (dds : List D) (aa : AF) (env : Lc) (x : D) (S1 : Sto) : Option (Nat × List (Str × D)) → R D
  | some (_, fl) => if (fl.lookup m).isNone = true then (aa env S1).bind fun ds S2 => if ds.length + 1 + dds.length = n then (F (x :: (ds ++ dds)) S2).nox else .bad else .bad
  | none => .bad
def meK1 (C : Addr) (m : Str) (F : FF) (n : Nat) (dds : List D) (aa : AF) (env : Lc) : D → Sto → R D := fun x S1 => match fldsOf C S1 x with
  | some (_, fl) => if (fl.lookup m).isNone = true then (aa env S1).bind fun ds S2 => if ds.length + 1 + dds.length = n then (F (x :: (ds ++ dds)) S2).nox else .bad else .bad
  | none => .bad
def meK3 (F : FF) (n : Nat) (dds : List D) (x : D) : List D → Sto → R D := fun ds S2 => if ds.length + 1 + dds.length = n then (F (x :: (ds ++ dds)) S2).nox else .bad
theorem ap_fMeth : fMeth C m F n dds fo aa env S = (fo env S).bind (meK1 C m F n dds aa env) := (rfl)
theorem ap_meK1 : meK1 C m F n dds aa env x S = meK2 m F n dds aa env x S (fldsOf C S x) := by unfold meK1 meK2; rfl
theorem ap_meK2 : meK2 m F n dds aa env x S (some (k, fs)) = if (fs.lookup m).isNone = true then (aa env S).bind (meK3 F n dds x) else .bad := (rfl)
theorem ap_meK3 : meK3 F n dds x ds S = if ds.length + 1 + dds.length = n then (F (x :: (ds ++ dds)) S).nox else .bad := (rfl)
def mkK2 (k : Nat) : D → Sto → R D := fun r S2 => match r with
  | .non => .ok (.ref k) S2
  | _ => .bad
def mkK (C : Addr) (F : FF) (n : Nat) (dds : List D) : List D → Sto → R D := fun ds S1 => if ds.length + 1 + dds.length = n then (F (.ref S1.length :: (ds ++ dds)) (S1 ++ [.ins C []])).nox.bind fun r S2 => match r with
  | .non => .ok (.ref S1.length) S2
  | _ => .bad
  else .bad
theorem ap_fMake : fMake C F n dds aa env S = (aa env S).bind (mkK C F n dds) := (rfl)
theorem ap_mkK : mkK C F n dds ds S = if ds.length + 1 + dds.length = n then (F (.ref S.length :: (ds ++ dds)) (S ++ [.ins C []])).nox.bind (mkK2 S.length) else .bad := (rfl)
theorem ap_mkK2 : mkK2 k .non S = .ok (.ref k) S := (rfl)
/-! truth -/
def truK2 (S : Sto) : Option Bool → R Bool
  | some b => .ok b S
  | none => .bad
def truK : D → Sto → R Bool := fun x S1 => match truD S1 x with
  | some b => .ok b S1
  | none => .bad
theorem ap_fTru : fTru fa env S = (fa env S).bind truK := (rfl)
theorem ap_truK : truK x S = truK2 S (truD S x) := by unfold truK truK2; rfl
theorem ap_truK2 : truK2 S (some b) = .ok b S := (rfl)
def truC : Option Cell → Option Bool
  | some (.lst xs) => some (!xs.isEmpty)
  | some (.dk kvs) => some (!kvs.isEmpty)
  | _ => none
theorem truD_ref : truD S (.ref n) = truC S[n]? := by unfold truD truC; rfl
theorem truC_lst : truC (some (.lst xs)) = some (!xs.isEmpty) := (rfl)
/-! dicts -/
def getDK (S : Sto) : Option (Option D) → R D
  | some (some d) => .ok d S
  | _ => .bad
theorem o_getD : oGetD x y S = getDK S (lookD S x y) := by unfold oGetD getDK; rfl
theorem o_getDK : getDK S (some (some d)) = .ok d S := (rfl)
def lookC (y : D) : Option Cell → Option (Option D)
  | some (.dk kvs) => (keyD y).map fun k => valK kvs k
  | some (.dt kvs) => (keysD y).map fun k => valK kvs k
  | _ => none
theorem lookD_ref : lookD S (.ref n) y = lookC y S[n]? := by unfold lookD lookC; rfl
theorem lookC_dk : lookC (.str t) (some (.dk kvs)) = some (valK kvs (.inr t)) := (rfl)
theorem setC_dk : setC S n (.str t) d (some (.dk kvs)) = if kvs.length < 100000 then .ok () (S.set n (.dk (putKD kvs (.inr t) d))) else .bad := (rfl)
def dispK2 (k : Nat) (S1 : Sto) : Option (List (Key × D)) → Option Cell → R D
  | some kvs, some (.dk []) => if kvs.length ≤ 15 then .ok (.ref k) (S1.set k (.dk (mergeKD [] kvs))) else .bad
  | _, _ => .bad
def dispK (k : Nat) : List (D × D) → Sto → R D := fun ps S1 => match keyPs ps with
  | some kvs => match S1[k]? with
    | some (.dk []) => if kvs.length ≤ 15 then .ok (.ref k) (S1.set k (.dk (mergeKD [] kvs))) else .bad
    | _ => .bad
  | none => .bad
theorem ap_fDisp {r : PrF} : fDisp r env S = (r env (S ++ [.dk []])).bind (dispK S.length) := (rfl)
theorem ap_dispK {ps : List (D × D)} : dispK k ps S = dispK2 k S (keyPs ps) S[k]? := by
  unfold dispK dispK2
  cases keyPs ps with
  | none => rfl
  | some kvs => cases S[k]? with
    | none => rfl
    | some c => cases c with
      | dk l => cases l <;> rfl
      | _ => rfl
theorem ap_dispK2 {S1 : Sto} : dispK2 k S1 (some kvs) (some (.dk [])) = if kvs.length ≤ 15 then .ok (.ref k) (S1.set k (.dk (mergeKD [] kvs))) else .bad := (rfl)
def prK (fv : EF) (r : PrF) (env : Lc) : D → Sto → R (List (D × D)) := fun x S1 => (fv env S1).bind fun y S2 => (r env S2).bind fun ps S3 => .ok ((x, y) :: ps) S3
def prK2 (x : D) (r : PrF) (env : Lc) : D → Sto → R (List (D × D)) := fun y S2 => (r env S2).bind fun ps S3 => .ok ((x, y) :: ps) S3
def prK3 (x y : D) : List (D × D) → Sto → R (List (D × D)) := fun ps S3 => .ok ((x, y) :: ps) S3
theorem ap_prNil : prNil env S = .ok [] S := (rfl)
theorem ap_prCons {r : PrF} : prCons fa fv r env S = (fa env S).bind (prK fv r env) := (rfl)
theorem ap_prK {r : PrF} : prK fv r env x S = (fv env S).bind (prK2 x r env) := (rfl)
theorem ap_prK2 {r : PrF} : prK2 x r env y S = (r env S).bind (prK3 x y) := (rfl)
theorem ap_prK3 {ps : List (D × D)} : prK3 x y ps S = .ok ((x, y) :: ps) S := (rfl)
/-! operators -/
def appC (S : Sto) (n : Nat) (d : D) : Option Cell → R D
  | some (.lst xs) => if xs.length < 100000 then .ok .non (S.set n (.lst (xs ++ [d]))) else .bad
  | _ => .bad
theorem o_append : mAppend (.ref n) [d] S = appC S n d S[n]? := by unfold mAppend appC; rfl
theorem o_appC : appC S n d (some (.lst xs)) = if xs.length < 100000 then .ok .non (S.set n (.lst (xs ++ [d]))) else .bad := (rfl)
theorem o_isN : oIsN x .non S = .ok (.bl (isNonD x)) S := (rfl)
theorem o_notN : oNotN x .non S = .ok (.bl (!isNonD x)) S := (rfl)
theorem o_nonD : isNonD .non = true := (rfl)
theorem o_nonT : isNonD (.tup xs) = false := (rfl)
theorem o_nonR : isNonD (.ref n) = false := (rfl)
theorem o_nonI {i : Int} : isNonD (.int i) = false := (rfl)
end
/-! a comprehension that only filters -/
theorem comp_filter {n i : Nat} {ft : BF} {fe : EF} {env : Lc} {S : Sto} {ys : List D} {p : D → Bool} (h : S[n]? = some (.lst ys)) (h1 : ∀ d ∈ ys, ft (env.set i (some d)) S = .ok (p d) S) (h2 : ∀ d ∈ ys, fe (env.set i (some d)) S = .ok d S) (hl : ys.length < 100000) :
    ∀ (r j : Nat) (xs acc : List D), r = ys.length - j → xs.length = r → acc.length ≤ j → compL n i ft fe env xs j acc S = .ok (.ref S.length) (S ++ [.lst (acc ++ (ys.drop j).filter p)])
  | 0, j, xs, acc, hr, hx, ha => by
    have hx : xs = [] := List.length_eq_zero_iff.mp hx
    subst hx
    unfold compL
    rw [h]
    simp only
    rw [if_pos (by omega), List.drop_eq_nil_of_le (by omega)]
    simp
  | r + 1, j, [], acc, hr, hx, ha => by simp at hx
  | r + 1, j, x :: xs, acc, hr, hx, ha => by
    have hj : j < ys.length := by omega
    unfold compL
    rw [h]
    simp only
    rw [List.getElem?_eq_getElem hj]
    simp only
    rw [h1 _ (List.getElem_mem hj), List.drop_eq_getElem_cons hj, List.filter_cons]
    simp only [R.nox_ok, R.bind_ok]
    have hx' : xs.length = r := by simpa using hx
    cases p ys[j] with
    | false =>
      simp only [Bool.false_eq_true, if_false]
      exact comp_filter h h1 h2 hl r (j + 1) xs acc (by omega) hx' (by omega)
    | true =>
      simp only [if_true]
      rw [h2 _ (List.getElem_mem hj)]
      simp only [R.nox_ok, R.bind_ok]
      rw [if_pos (by omega), comp_filter h h1 h2 hl r (j + 1) xs _ (by omega) hx' (by rw [List.length_append, List.length_singleton]; omega)]
      simp
theorem comp_filter0 {n i : Nat} {ft : BF} {fe : EF} {env : Lc} {S : Sto} {ys : List D} {p : D → Bool} (h : S[n]? = some (.lst ys)) (h1 : ∀ d ∈ ys, ft (env.set i (some d)) S = .ok (p d) S) (h2 : ∀ d ∈ ys, fe (env.set i (some d)) S = .ok d S) (hl : ys.length < 100000) :
    compL n i ft fe env ys 0 [] S = .ok (.ref S.length) (S ++ [.lst (ys.filter p)]) := by
  have h := comp_filter h h1 h2 hl ys.length 0 ys [] (by omega) rfl (Nat.le_refl _)
  simpa using h
end RF

/-! whos: ((house, count), attempt) -/
namespace RF
open PySem L2
abbrev Who := (Int × Int) × Int
def eT (t : Int × Int) : D := .tup [.int t.1, .int t.2]
def eW (w : Who) : D := .tup [eT w.1, .int w.2]
def pT (t : Int × Int) : PyData := .tuple [.int t.1, .int t.2]
def pW (w : Who) : PyData := .tuple [pT w.1, .int w.2]
def eH : Option Who → D
  | none => .non
  | some w => eW w
def pH : Option Who → PyData
  | none => .none
  | some w => pW w
def eWs (ws : List Who) : List D := ws.map eW
section
variable {S : Sto} {k n : Nat} {u w : Who} {t t' : Int × Int} {ws vs : List Who}
theorem fT_eT : toP S (k + 1) (eT t) = some (pT t) := by cases k <;> rfl
theorem fT_eW : toP S (k + 2) (eW w) = some (pW w) := by cases k <;> rfl
theorem fT_eH {h : Option Who} : toP S (k + 2) (eH h) = some (pH h) := by cases h with
  | none => cases k <;> rfl
  | some w => exact fT_eW
theorem mapM_eW : (eWs ws).mapM (toP S (k + 2)) = some (ws.map pW) := by
  induction ws with
  | nil => rfl
  | cons w ws ih =>
    show List.mapM (toP S (k + 2)) (eW w :: eWs ws) = _
    rw [toP_mapM_cons, ih, fT_eW]; rfl
theorem eqv_T : PyData.eqv (pT t) (pT t') = decide (t = t') := by
  unfold pT
  simp only [PyData.eqv, PyData.eqvAll]
  obtain ⟨a, b⟩ := t
  obtain ⟨c, d⟩ := t'
  simp only [Prod.mk.injEq]
  by_cases h1 : a = c <;> by_cases h2 : b = d <;> simp [h1, h2]
theorem eqv_W : PyData.eqv (pW u) (pW w) = decide (u = w) := by
  unfold pW
  simp only [PyData.eqv, PyData.eqvAll, eqv_T]
  obtain ⟨a, b⟩ := u
  obtain ⟨c, d⟩ := w
  simp only [Prod.mk.injEq]
  by_cases h1 : a = c <;> by_cases h2 : b = d <;> simp [h1, h2]
theorem eqv_H {g h : Option Who} : PyData.eqv (pH g) (pH h) = decide (g = h) := by
  cases g with
  | none => cases h with
    | none => simp [pH, PyData.eqv]
    | some w => simp [pH, pW, PyData.eqv]
  | some u => cases h with
    | none => simp [pH, pW, PyData.eqv]
    | some w => simp only [pH, eqv_W, Option.some.injEq]
theorem eqv_Ws : PyData.eqv (.list (ws.map pW)) (.list (vs.map pW)) = decide (ws = vs) := by
  simp only [PyData.eqv]
  induction ws generalizing vs with
  | nil => cases vs <;> simp [PyData.eqvAll]
  | cons w ws ih => cases vs with
    | nil => simp [PyData.eqvAll]
    | cons v vs =>
      simp only [List.map_cons, PyData.eqvAll, ih, eqv_W, List.cons.injEq]
      by_cases h1 : w = v <;> by_cases h2 : ws = vs <;> simp [h1, h2]
theorem o_eqW : oEq (eW u) (eW w) S = .ok (.bl (decide (u = w))) S := by rw [o_eq, fT_eW, fT_eW, eqK_some, eqv_W]
theorem o_neW : oNe (eW u) (eW w) S = .ok (.bl (!decide (u = w))) S := by rw [o_ne, fT_eW, fT_eW, neK_some, eqv_W]
theorem o_neH {g h : Option Who} : oNe (eH g) (eH h) S = .ok (.bl (!decide (g = h))) S := by rw [o_ne, fT_eH, fT_eH, neK_some, eqv_H]
theorem o_neHW {g : Option Who} : oNe (eH g) (eW w) S = .ok (.bl (!decide (g = some w))) S := o_neH (h := some w)
theorem o_eqT : oEq (eT t) (eT t') S = .ok (.bl (decide (t = t'))) S := by rw [o_eq, fT_eT, fT_eT, eqK_some, eqv_T]
theorem o_neT : oNe (eT t) (eT t') S = .ok (.bl (!decide (t = t'))) S := by rw [o_ne, fT_eT, fT_eT, neK_some, eqv_T]
theorem o_neR {m : Nat} (h1 : S[n]? = some (.lst (eWs ws))) (h2 : S[m]? = some (.lst (eWs vs))) : oNe (.ref n) (.ref m) S = .ok (.bl (!decide (ws = vs))) S := by
  rw [o_ne, toP_ref, toP_ref, h1, h2, toPC_lst, toPC_lst, mapM_eW, mapM_eW]
  show neK S (some (.list (ws.map pW))) (some (.list (vs.map pW))) = _
  rw [neK_some, eqv_Ws]
theorem o_eqR {m : Nat} (h1 : S[n]? = some (.lst (eWs ws))) (h2 : S[m]? = some (.lst (eWs vs))) : oEq (.ref n) (.ref m) S = .ok (.bl (decide (ws = vs))) S := by
  rw [o_eq, toP_ref, toP_ref, h1, h2, toPC_lst, toPC_lst, mapM_eW, mapM_eW]
  show eqK S (some (.list (ws.map pW))) (some (.list (vs.map pW))) = _
  rw [eqK_some, eqv_Ws]
theorem any_W : ((ws.map pW).any fun z => PyData.eqv z (pW u)) = decide (u ∈ ws) := by
  induction ws with
  | nil => simp
  | cons w ws ih =>
    rw [List.map_cons, List.any_cons, ih, eqv_W]
    by_cases h1 : w = u
    · simp [h1]
    · by_cases h2 : u ∈ ws
      · simp [h2]
      · have h3 : ¬ u = w := fun e => h1 e.symm
        simp [h1, h2, h3]
theorem o_inR (h1 : S[n]? = some (.lst (eWs ws))) : oInL true (eW u) (.ref n) S = .ok (.bl (!decide (u ∈ ws))) S := by
  unfold oInL
  rw [fT_eW, toP_ref, h1, toPC_lst, mapM_eW]
  show R.ok (D.bl (!((ws.map pW).any fun z => PyData.eqv z (pW u)))) S = _
  rw [any_W]
/-! order -/
def ltW (a b : Who) : Prop := a.1.1 < b.1.1 ∨ (a.1.1 = b.1.1 ∧ (a.1.2 < b.1.2 ∨ (a.1.2 = b.1.2 ∧ a.2 < b.2)))
instance (a b : Who) : Decidable (ltW a b) := inferInstanceAs (Decidable (_ ∨ _))
theorem lt_W : PySem.W.dataLt (pW u) (pW w) = decide (ltW u w) := by
  have e : PySem.W.dataLt (PyData.int u.2) (.int w.2) = decide (u.2 < w.2) := by
    have h := PySem.W.dataLt_ii 0 u.2 0 w.2
    rw [PySem.W.dataLt_pair (by simp [PySem.W.alike]) (by simp [PySem.W.alike])] at h
    by_cases hc : u.2 = w.2
    · rw [hc]
      have h2 := PySem.W.dataLt_ii w.2 0 w.2 0
      rw [PySem.W.dataLt_pair (by simp [PySem.W.alike]) (by simp [PySem.W.alike])] at h2
      have h3 := PySem.W.dataLe_int (β := Int) (fun x => x)
      have h4 := congrFun (congrFun h3 w.2) w.2
      rw [PySem.W.dataLe_eq] at h4
      simpa using h4
    · have hb : PyData.eqv (.int u.2) (.int w.2) = false := by simp [PyData.eqv, hc]
      simpa [PyData.eqv, hc] using h
  have hT : PySem.W.dataLt (pT u.1) (pT w.1) = decide (u.1.1 < w.1.1 ∨ (u.1.1 = w.1.1 ∧ u.1.2 < w.1.2)) := PySem.W.dataLt_ii _ _ _ _
  have ha : PySem.W.alike (pT u.1) (pT w.1) = true := by simp [pT, PySem.W.alike, PySem.W.alikeAll]
  have hm : PySem.W.dataLt (pW u) (pW w) = _ := PySem.W.dataLt_pair ha (by simp [PySem.W.alike])
  rw [hm, eqv_T, hT, e]
  unfold ltW
  obtain ⟨⟨a, b⟩, c⟩ := u
  obtain ⟨⟨a', b'⟩, c'⟩ := w
  simp only [Prod.mk.injEq, PyData.eqv]
  by_cases h1 : a = a'
  · by_cases h2 : b = b'
    · by_cases h3 : c = c'
      · simp [h1, h2, h3]
      · simp [h1, h2, h3]
    · simp [h1, h2]
  · simp [h1]
theorem ltW_irr (a : Who) : ¬ ltW a a := by unfold ltW; omega
theorem ltW_anti {a b : Who} (h1 : ¬ ltW a b) (h2 : ¬ ltW b a) : a = b := by
  unfold ltW at h1 h2
  obtain ⟨⟨a, b'⟩, c⟩ := a
  obtain ⟨⟨d, e⟩, f⟩ := b
  simp only at h1 h2
  have : a = d := by omega
  have : b' = e := by omega
  have : c = f := by omega
  subst_vars; rfl
def leW (a b : Who) : Bool := !decide (ltW b a)
theorem leW_iff {a b : Who} : leW a b = true ↔ ¬ ltW b a := by unfold leW; simp
theorem leW_trans (a b c : Who) (h1 : leW a b = true) (h2 : leW b c = true) : leW a c = true := by
  rw [leW_iff] at *
  unfold ltW at *
  omega
theorem leW_total (a b : Who) : (leW a b || leW b a) = true := by
  rw [Bool.or_eq_true, leW_iff, leW_iff]
  unfold ltW
  omega
def sortW (ws : List Who) : List Who := ws.mergeSort leW
theorem like_W : likeB (ws.map pW) = true := by
  unfold likeB
  simp only [List.all_map, List.all_eq_true, Function.comp]
  intro a _ b _
  simp [pW, pT, PySem.W.alike, PySem.W.alikeAll]
theorem sort_W : sortB (ws.map pW) = true := by
  unfold sortB
  rw [like_W, Bool.true_and, Bool.or_eq_true]
  refine .inl ?_
  simp only [List.all_map, List.all_eq_true, Function.comp]
  intro a _
  simp [pW, isTupP]
theorem zip_W : (eWs ws).zip (ws.map pW) = ws.map fun w => (eW w, pW w) := by
  induction ws with
  | nil => rfl
  | cons w ws ih => show (eW w, pW w) :: (eWs ws).zip (ws.map pW) = _; rw [ih]; rfl
theorem sortDs_W : sortDs (eWs ws) (ws.map pW) = eWs (sortW ws) := by
  unfold sortDs sortW eWs
  have := zip_W (ws := ws)
  unfold eWs at this
  rw [this, ← List.map_mergeSort (r := leW) (s := PySem.W.dataLe false Prod.snd) (f := fun w => (eW w, pW w)) (l := ws) (fun a _ b _ => ?_), List.map_map]
  · rfl
  · rw [PySem.W.dataLe_eq]
    show leW a b = !PySem.W.dataLt (pW b) (pW a)
    rw [lt_W]; rfl
theorem lenWs : (eWs ws).length = ws.length := List.length_map ..
theorem o_sortR (h1 : S[n]? = some (.lst (eWs ws))) (hl : ws.length ≤ 100000) : oSorted [.ref n] S = .ok (.ref S.length) (S ++ [.lst (eWs (sortW ws))]) := by
  unfold oSorted
  simp only
  have e : lstD S (.ref n) = some (eWs ws) := by unfold lstD; simp only [h1]
  rw [e]
  simp only
  rw [show (20 : Nat) = 18 + 2 from rfl, mapM_eW]
  simp only
  rw [if_pos ⟨sort_W, by rw [lenWs]; exact hl⟩, sortDs_W]
def minW (a : Who) (r : List Who) : Who := r.foldl (fun a y => if ltW y a then y else a) a
theorem min_W (a : Who) (r : List Who) : PySem.W.minD (pW a) (r.map pW) = pW (minW a r) := by
  unfold PySem.W.minD minW
  induction r generalizing a with
  | nil => rfl
  | cons y r ih =>
    rw [List.map_cons, List.foldl_cons, List.foldl_cons, lt_W]
    by_cases h : ltW y a
    · rw [decide_eq_true h, if_pos rfl, if_pos h, ih]
    · rw [decide_eq_false h, if_neg (by decide), if_neg h, ih]
theorem toD_W : toD (pW w) = eW w := by simp [pW, pT, toD, toDs, eW, eT]
theorem pure_W : pureTs (eWs ws) = true := by
  induction ws with
  | nil => rfl
  | cons w ws ih => show (pureT (eW w) && pureTs (eWs ws)) = true; rw [ih]; simp [eW, eT, pureT, pureTs]
theorem o_minR {a : Who} (h1 : S[n]? = some (.lst (eWs (a :: ws)))) : oMin1 [.ref n] S = .ok (eW (minW a ws)) S := by
  unfold oMin1
  simp only
  have e : lstD S (.ref n) = some (eWs (a :: ws)) := by unfold lstD; simp only [h1]
  rw [e]
  simp only
  rw [show (20 : Nat) = 18 + 2 from rfl, mapM_eW]
  simp only [List.map_cons]
  have hn : notNoneB (pW a :: ws.map pW) = true := by
    unfold notNoneB
    simp only [List.all_cons, List.all_map, Bool.and_eq_true, List.all_eq_true, Function.comp]
    exact ⟨rfl, fun _ _ => rfl⟩
  rw [if_pos ⟨like_W (ws := a :: ws), hn, pure_W⟩, min_W, toD_W]
theorem minW_mem (a : Who) (r : List Who) : minW a r ∈ a :: r := by
  unfold minW
  induction r generalizing a with
  | nil => simp
  | cons y r ih =>
    rw [List.foldl_cons]
    by_cases h : ltW y a
    · rw [if_pos h]
      have := ih y
      simp only [List.mem_cons] at this ⊢
      rcases this with e | e
      · exact .inr (.inl e)
      · exact .inr (.inr e)
    · rw [if_neg h]
      have := ih a
      simp only [List.mem_cons] at this ⊢
      rcases this with e | e
      · exact .inl e
      · exact .inr (.inr e)
theorem minW_le (a : Who) (r : List Who) : ∀ x ∈ a :: r, ¬ ltW x (minW a r) := by
  unfold minW
  induction r generalizing a with
  | nil =>
    intro x hx
    rw [List.mem_singleton.mp hx]
    exact ltW_irr _
  | cons y r ih =>
    intro x hx
    rw [List.foldl_cons]
    by_cases h : ltW y a
    · rw [if_pos h]
      have hy := ih y
      rcases List.mem_cons.mp hx with rfl | hx
      · have := hy y (List.mem_cons_self ..)
        intro z
        refine this ?_
        unfold ltW at h z ⊢
        omega
      · exact hy x hx
    · rw [if_neg h]
      have ha := ih a
      rcases List.mem_cons.mp hx with rfl | hx
      · exact ha x (List.mem_cons_self ..)
      · rcases List.mem_cons.mp hx with rfl | hx
        · have := ha a (List.mem_cons_self ..)
          intro z
          unfold ltW at h z this
          omega
        · exact ha x (List.mem_cons_of_mem _ hx)
theorem sortW_head {a : Who} : ∃ r, sortW (a :: ws) = minW a ws :: r := by
  have hp := List.mergeSort_perm (a :: ws) leW
  have hs := List.pairwise_mergeSort (le := leW) leW_trans leW_total (a :: ws)
  unfold sortW
  cases h : (a :: ws).mergeSort leW with
  | nil => rw [h] at hp; exact absurd hp.length_eq (by simp)
  | cons x r =>
    rw [h] at hp hs
    refine ⟨r, ?_⟩
    have hm : minW a ws ∈ x :: r := hp.mem_iff.mpr (minW_mem a ws)
    have hx : x ∈ a :: ws := hp.mem_iff.mp (List.mem_cons_self ..)
    have h1 := minW_le a ws x hx
    have h2 : ¬ ltW (minW a ws) x := by
      rcases List.mem_cons.mp hm with e | e
      · rw [e]; exact ltW_irr _
      · have := (List.pairwise_cons.mp hs).1 _ e
        unfold leW at this
        simpa using this
    rw [ltW_anti h1 h2]
theorem erase_map : ∀ (l : List Who) (j : Nat), (eWs l).eraseIdx j = (l.eraseIdx j).map eW
  | [], _ => rfl
  | _ :: _, 0 => rfl
  | w :: l, j + 1 => congrArg (eW w :: ·) (erase_map l j)
theorem place_W : PySem.SeqAt.dataPlace (ws.map pW) (pW u) = ws.findIdx? (fun w => decide (w = u)) := by
  unfold PySem.SeqAt.dataPlace
  rw [List.findIdx?_map]
  congr 1
  funext w
  exact eqv_W
theorem erase_W {ws : List Who} (hn : ws.Nodup) : ∀ (j : Nat), ws.findIdx? (fun w => decide (w = u)) = some j → ws.eraseIdx j = ws.filter fun w => !decide (w = u) := by
  induction ws with
  | nil => intro j h; simp at h
  | cons w ws ih =>
    intro j h
    rw [List.nodup_cons] at hn
    rw [List.findIdx?_cons] at h
    by_cases hw : w = u
    · rw [decide_eq_true hw, if_pos rfl] at h
      cases h
      rw [List.eraseIdx_cons_zero, List.filter_cons]
      rw [decide_eq_true hw]
      simp only [Bool.not_true, Bool.false_eq_true, if_false]
      refine (List.filter_eq_self.mpr fun x hx => ?_).symm
      have : x ≠ u := fun e => hn.1 (by rw [hw, ← e]; exact hx)
      simp [this]
    · rw [decide_eq_false hw] at h
      simp only [Bool.false_eq_true, if_false] at h
      obtain ⟨i, hi, rfl⟩ := Option.map_eq_some_iff.mp h
      rw [List.eraseIdx_cons_succ, ih hn.2 i hi, List.filter_cons, decide_eq_false hw]
      rfl
theorem o_remR (h1 : S[n]? = some (.lst (eWs ws))) (hn : ws.Nodup) (hu : u ∈ ws) : mRemove (.ref n) [eW u] S = .ok .non (S.set n (.lst (eWs (ws.filter fun w => !decide (w = u))))) := by
  unfold mRemove
  simp only [h1]
  rw [show (20 : Nat) = 18 + 2 from rfl, mapM_eW, fT_eW]
  simp only
  rw [place_W]
  cases hj : ws.findIdx? (fun w => decide (w = u)) with
  | none =>
    rw [List.findIdx?_eq_none_iff] at hj
    have := hj u hu
    simp at this
  | some j =>
    simp only
    rw [← erase_W hn j hj]
    rw [erase_map]; rfl
end
end RF

/-! the lock and its model in the store -/
namespace RF
open PySem L2
section
variable {S : Sto} {w u : Who} {v t h d : D} {n : Nat} {C : Addr} {t2 : Int × Int} {g : Option Who}
theorem isDict_eW : isDict S (eW w) = false := (rfl)
theorem getL_eW0 : oGetL (eW w) (.int 0) S = .ok (eT w.1) S := by unfold eW; rw [getL_tup, atI_0, retO_some]
theorem getL_eW1 : oGetL (eW w) (.int 1) S = .ok (.int w.2) S := by unfold eW; rw [getL_tup, atI_1, retO_some]
theorem o_seqW : seqD S (eW w) = some [eT w.1, .int w.2] := (rfl)
theorem o_nonW : isNonD (eW w) = false := (rfl)
theorem o_nonH : isNonD (eH g) = g.isNone := by cases g <;> rfl
theorem eqv_Ln : PyData.eqv (.list []) (.list []) = true := by simp [PyData.eqv, PyData.eqvAll]
theorem eqv_Lc {x : PyData} {xs : List PyData} : PyData.eqv (.list (x :: xs)) (.list []) = false := by simp [PyData.eqv, PyData.eqvAll]
theorem o_eH0 : eH none = .non := (rfl)
theorem o_eH1 : eH (some w) = eW w := (rfl)
def nV : Str := ⟨#[118, 97, 108, 117, 101]⟩
def nT : Str := ⟨#[116, 117, 114, 110]⟩
def nH : Str := ⟨#[104, 111, 108, 100, 101, 114]⟩
def nW : Str := ⟨#[95, 119, 104, 111, 115]⟩
def nA : Str := ⟨#[119, 97, 105, 116, 105, 110, 103]⟩
def lkF (v t h : D) (n : Nat) : List (Str × D) := [(nV, v), (nT, t), (nH, h), (nW, .ref n)]
def lkC (C : Addr) (v t h : D) (n : Nat) : Cell := .ins C (lkF v t h n)
def mdF (v t h : D) (n : Nat) : List (Key × D) := [(.inr nV, v), (.inr nT, t), (.inr nH, h), (.inr nA, .ref n)]
def mdC (v t h : D) (n : Nat) : Cell := .dk (mdF v t h n)
theorem fldC_lk {l : Nat} : fldC C l (some (lkC C v t h n)) = some (l, lkF v t h n) := fldC_ins
theorem fld_lkv : (lkF v t h n).lookup ⟨#[118, 97, 108, 117, 101]⟩ = some v := (rfl)
theorem fld_lkt : (lkF v t h n).lookup ⟨#[116, 117, 114, 110]⟩ = some t := (rfl)
theorem fld_lkh : (lkF v t h n).lookup ⟨#[104, 111, 108, 100, 101, 114]⟩ = some h := (rfl)
theorem fld_lkw : (lkF v t h n).lookup ⟨#[95, 119, 104, 111, 115]⟩ = some (.ref n) := (rfl)
theorem fld_lkm1 : ((lkF v t h n).lookup ⟨#[119, 97, 105, 116, 105, 110, 103]⟩).isNone = true := (rfl)
theorem fld_lkm2 : ((lkF v t h n).lookup ⟨#[97, 115, 107]⟩).isNone = true := (rfl)
theorem fld_lkm3 : ((lkF v t h n).lookup ⟨#[102, 114, 101, 101]⟩).isNone = true := (rfl)
theorem fld_lkm4 : ((lkF v t h n).lookup ⟨#[102, 105, 110, 105, 115, 104]⟩).isNone = true := (rfl)
theorem fld_lkm5 : ((lkF v t h n).lookup ⟨#[95, 103, 114, 97, 110, 116]⟩).isNone = true := (rfl)
theorem fld_lklen : (lkF v t h n).length = 4 := (rfl)
theorem fld_lkpv : Cell.ins C (putD ⟨#[118, 97, 108, 117, 101]⟩ d (lkF v t h n)) = lkC C d t h n := (rfl)
theorem fld_lkpt : Cell.ins C (putD ⟨#[116, 117, 114, 110]⟩ d (lkF v t h n)) = lkC C v d h n := (rfl)
theorem fld_lkph : Cell.ins C (putD ⟨#[104, 111, 108, 100, 101, 114]⟩ d (lkF v t h n)) = lkC C v t d n := (rfl)
theorem fld_lkpw {m : Nat} : Cell.ins C (putD ⟨#[95, 119, 104, 111, 115]⟩ (.ref m) (lkF v t h n)) = lkC C v t h m := (rfl)
theorem isDictC_md : isDictC (some (mdC v t h n)) = true := (rfl)
theorem isDictC_lk : isDictC (some (lkC C v t h n)) = false := (rfl)
theorem lookC_mdv : lookC (.str ⟨#[118, 97, 108, 117, 101]⟩) (some (mdC v t h n)) = some (some v) := (rfl)
theorem lookC_mdt : lookC (.str ⟨#[116, 117, 114, 110]⟩) (some (mdC v t h n)) = some (some t) := (rfl)
theorem lookC_mdh : lookC (.str ⟨#[104, 111, 108, 100, 101, 114]⟩) (some (mdC v t h n)) = some (some h) := (rfl)
theorem lookC_mdw : lookC (.str ⟨#[119, 97, 105, 116, 105, 110, 103]⟩) (some (mdC v t h n)) = some (some (.ref n)) := (rfl)
theorem setC_mdv {m : Nat} : setC S m (.str ⟨#[118, 97, 108, 117, 101]⟩) d (some (mdC v t h n)) = .ok () (S.set m (mdC d t h n)) := (rfl)
theorem setC_mdt {m : Nat} : setC S m (.str ⟨#[116, 117, 114, 110]⟩) d (some (mdC v t h n)) = .ok () (S.set m (mdC v d h n)) := (rfl)
theorem setC_mdh {m : Nat} : setC S m (.str ⟨#[104, 111, 108, 100, 101, 114]⟩) d (some (mdC v t h n)) = .ok () (S.set m (mdC v t d n)) := (rfl)
theorem setC_mdw {m k : Nat} : setC S m (.str ⟨#[119, 97, 105, 116, 105, 110, 103]⟩) (.ref k) (some (mdC v t h n)) = .ok () (S.set m (mdC v t h k)) := (rfl)
theorem tyInC_md {T : String} : tyInC T (some (mdC v t h n)) = decide (T = "dict") := (rfl)
end
def upW (tr : Int × Int) (att : Int) (w : Who) : Bool := decide (w.1 = tr) && decide (w.2 ≤ att)
structure LSt where
  v : Int
  t : Int
  h : Option Who
  ws : List Who
def keepS (st : LSt) (tr : Int × Int) (att : Int) : List Who := st.ws.filter fun w => !upW tr att w
def goneS (st : LSt) (tr : Int × Int) (att : Int) : Bool := match st.h with
  | none => false
  | some x => upW tr att x
def freeS (st : LSt) (tr : Int × Int) (att : Int) : LSt × List Who :=
  if goneS st tr att = false then (⟨st.v, st.t, st.h, keepS st tr att⟩, [])
  else match keepS st tr att with
    | [] => (⟨st.v, st.t, none, []⟩, [])
    | a :: r => (⟨st.v, st.t + 1, some (minW a r), (a :: r).filter fun w => !decide (w = minW a r)⟩, [minW a r])
def askS (st : LSt) (u : Who) : LSt × List Who :=
  let p := freeS st u.1 (u.2 - 1)
  match p.1.h with
  | none => (⟨p.1.v, p.1.t + 1, some u, p.1.ws⟩, [u])
  | some x => if x ≠ u ∧ u ∉ p.1.ws then (⟨p.1.v, p.1.t, p.1.h, p.1.ws ++ [u]⟩, p.2) else p
def finS (st : LSt) (u : Who) (z : Int) : LSt × List Who :=
  if st.h ≠ some u then (st, []) else freeS ⟨z, st.t, st.h, st.ws⟩ u.1 u.2
def lkS (C : Addr) (st : LSt) (n : Nat) : Cell := lkC C (.int st.v) (.int st.t) (eH st.h) n
def mdS (st : LSt) (n : Nat) : Cell := mdC (.int st.v) (.int st.t) (eH st.h) n
/-- what keeps: all wait once; nobody waits where nobody holds -/
structure Okay (st : LSt) : Prop where
  nd : st.ws.Nodup
  no : st.h = none → st.ws = []
theorem keep_len {st : LSt} {tr : Int × Int} {att : Int} : (keepS st tr att).length ≤ st.ws.length := List.length_filter_le ..
theorem Okay.free {st : LSt} (o : Okay st) (tr : Int × Int) (att : Int) : Okay (freeS st tr att).1 ∧ (freeS st tr att).1.ws.length ≤ st.ws.length := by
  have hn : (keepS st tr att).Nodup := o.nd.filter _
  have hk := keep_len (st := st) (tr := tr) (att := att)
  unfold freeS
  split
  · refine ⟨⟨hn, fun e => ?_⟩, hk⟩
    have e : st.h = none := e
    show st.ws.filter _ = []
    rw [o.no e]; rfl
  · split
    · exact ⟨⟨List.nodup_nil, fun _ => rfl⟩, Nat.zero_le _⟩
    · rename_i a r h
      rw [h] at hn hk
      exact ⟨⟨show (List.filter (fun w => !decide (w = minW a r)) (a :: r)).Nodup from List.Pairwise.filter _ hn, fun e => by cases e⟩, Nat.le_trans (List.length_filter_le ..) hk⟩
theorem Okay.ask {st : LSt} (o : Okay st) (u : Who) : Okay (askS st u).1 ∧ (askS st u).1.ws.length ≤ st.ws.length + 1 := by
  obtain ⟨o1, hl⟩ := o.free u.1 (u.2 - 1)
  unfold askS
  simp only
  split
  · rename_i h
    exact ⟨⟨o1.nd, fun e => by cases e⟩, by show (freeS st u.1 (u.2 - 1)).1.ws.length ≤ _; omega⟩
  · rename_i x h
    split
    · rename_i h2
      refine ⟨⟨?_, fun e => ?_⟩, ?_⟩
      · show (_ ++ [u]).Nodup
        rw [List.nodup_append]
        refine ⟨o1.nd, by simp, fun a ha b hb e => ?_⟩
        rw [List.mem_singleton] at hb
        rw [e.trans hb] at ha
        exact h2.2 ha
      · have e : (freeS st u.1 (u.2 - 1)).1.h = none := e
        rw [h] at e; cases e
      · show (_ ++ [u]).length ≤ _
        rw [List.length_append, List.length_singleton]; omega
    · exact ⟨o1, by omega⟩
theorem Okay.fin {st : LSt} (o : Okay st) (u : Who) (z : Int) : Okay (finS st u z).1 ∧ (finS st u z).1.ws.length ≤ st.ws.length := by
  unfold finS
  split
  · exact ⟨o, Nat.le_refl _⟩
  · exact Okay.free (st := ⟨z, st.t, st.h, st.ws⟩) ⟨o.nd, o.no⟩ u.1 u.2
end RF

namespace RF
open PySem L2
/-! draws -/
abbrev Sd := Int × Int
def stC (s : Sd) : Cell := .lst [.int s.1, .int s.2]
def dNext (size : Int) (s : Sd) : Int × Sd :=
  if 0 < s.1 then (s.1 % size, (s.1 / size, s.2)) else
    let b := (s.2 * 48271 + 12820163) % 2147483647
    ((b * 16807 + 5) % 2147483399 / 3 % size, (s.1, b))
theorem dNext_lo {size : Int} (h : 0 < size) (s : Sd) : 0 ≤ (dNext size s).1 := by
  unfold dNext; split <;> exact Int.emod_nonneg _ (by omega)
theorem dNext_hi {size : Int} (h : 0 < size) (s : Sd) : (dNext size s).1 < size := by
  unfold dNext; split <;> exact Int.emod_lt_of_pos _ h
def dWho (s : Sd) : Who × Sd :=
  let (a, s) := dNext 5 s
  let (b, s) := dNext 3 s
  let (k, s) := dNext 8 s
  if k = 0 then
    let (a, s) := dNext (10 ^ 12) s
    let (b, s) := dNext (10 ^ 12) s
    let (x, s) := dNext 3 s
    (((1 + a, b), 1 + x), s)
  else
    let (x, s) := dNext 3 s
    (((1 + a, b), 1 + x), s)
/-- what an operation leaves: its object at l, its list, the list that it returns -/
structure Aft (X : Nat → Cell) (A B : Cell) (l : Nat) (S S1 : Sto) (r : Nat) : Prop where
  ex : ∃ w, S1[l]? = some (X w) ∧ S1[w]? = some A ∧ w ≠ r ∧ S.length ≤ w ∧ w < S1.length
  rs : S1[r]? = some B
  rn : S.length ≤ r
  le : S.length ≤ S1.length
  fr : ∀ i, i < S.length → i ≠ l → S1[i]? = S[i]?
theorem aft_of {X : Nat → Cell} {A B : Cell} {l : Nat} {S : Sto} {x : R D} (h : ∃ T w r, x = .ok (.ref (S.length + r)) (S.set l (X (S.length + w)) ++ T) ∧ T[w]? = some A ∧ T[r]? = some B ∧ w ≠ r) (hl : l < S.length) :
    ∃ S1 r, x = .ok (.ref r) S1 ∧ Aft X A B l S S1 r := by
  obtain ⟨T, w, r, e1, e2, e3, e4⟩ := h
  refine ⟨_, _, e1, ⟨S.length + w, ?_, ?_, by omega, by omega, ?_⟩, ?_, by omega, ?_, fun i hi hne => ?_⟩
  · exact app_get (List.getElem?_set_self hl)
  · rw [get_apps]; exact e2
  · have := (List.getElem?_eq_some_iff.mp e2).1
    rw [List.length_append, List.length_set]; omega
  · rw [get_apps]; exact e3
  · rw [List.length_append, List.length_set]; omega
  · rw [List.getElem?_append_left (by rw [List.length_set]; exact hi), List.getElem?_set_ne (fun z => hne z.symm)]
/-- a lock at l and its model at m -/
structure Both (C : Addr) (l m : Nat) (st : LSt) (S : Sto) : Prop where
  lk : ∃ w, S[l]? = some (lkS C st w) ∧ S[w]? = some (.lst (eWs st.ws))
  md : ∃ q, S[m]? = some (mdS st q) ∧ S[q]? = some (.lst (eWs st.ws))
theorem ne_of_cell {S : Sto} {a b : Nat} {x y : Cell} (h1 : S[a]? = some x) (h2 : S[b]? = some y) (h : x ≠ y) : a ≠ b := fun e => h (by rw [e, h2] at h1; exact (Option.some.inj h1).symm)
/-- apart from what changes: nothing of these -/
def Kp (S S1 : Sto) (P : Nat → Prop) : Prop := S.length ≤ S1.length ∧ ∀ i, i < S.length → P i → S1[i]? = S[i]?
theorem Kp.get {S S1 : Sto} {P : Nat → Prop} (k : Kp S S1 P) {i : Nat} {c : Cell} (h : S[i]? = some c) (hp : P i) : S1[i]? = some c := (k.2 i (List.getElem?_eq_some_iff.mp h).1 hp).trans h
theorem Both.app {C : Addr} {l m : Nat} {st : LSt} {S : Sto} (h : Both C l m st S) (T : Sto) : Both C l m st (S ++ T) := by
  obtain ⟨⟨w, h1, h2⟩, ⟨q, h3, h4⟩⟩ := h
  exact ⟨⟨w, app_get h1, app_get h2⟩, ⟨q, app_get h3, app_get h4⟩⟩
def LkRes (C : Addr) (l : Nat) (S : Sto) (p : LSt × List Who) (x : R D) : Prop :=
  ∃ T w r, x = .ok (.ref (S.length + r)) (S.set l (lkS C p.1 (S.length + w)) ++ T) ∧ T[w]? = some (.lst (eWs p.1.ws)) ∧ T[r]? = some (.lst (eWs p.2)) ∧ w ≠ r
def MdRes (m : Nat) (S : Sto) (p : LSt × List Who) (x : R D) : Prop :=
  ∃ T w r, x = .ok (.ref (S.length + r)) (S.set m (mdS p.1 (S.length + w)) ++ T) ∧ T[w]? = some (.lst (eWs p.1.ws)) ∧ T[r]? = some (.lst (eWs p.2)) ∧ w ≠ r
/-- a deed on both -/
structure Two (C : Addr) (l m : Nat) (p : LSt × List Who) (S S1 S2 : Sto) (a b : Nat) : Prop where
  ha : S2[a]? = some (.lst (eWs p.2))
  hb : S2[b]? = some (.lst (eWs p.2))
  bo : Both C l m p.1 S2
  bs : ∀ d, Both C l m p.1 (S2.set a d)
  le : S.length ≤ S2.length
  fr : ∀ i, i < S.length → i ≠ l → i ≠ m → S2[i]? = S[i]?
  hs : S.length ≤ a
theorem two_of {C : Addr} {l m : Nat} {st : LSt} {p : LSt × List Who} {S : Sto} {x y : Sto → R D} (hlm : l ≠ m) (hb : Both C l m st S)
    (hx : ∀ S w, S[l]? = some (lkS C st w) → S[w]? = some (.lst (eWs st.ws)) → LkRes C l S p (x S)) (hy : ∀ S w, S[m]? = some (mdS st w) → S[w]? = some (.lst (eWs st.ws)) → MdRes m S p (y S)) :
    ∃ S1 a S2 b, x S = .ok (.ref a) S1 ∧ y S1 = .ok (.ref b) S2 ∧ Two C l m p S S1 S2 a b := by
  obtain ⟨⟨w, h1, h2⟩, ⟨q, h3, h4⟩⟩ := hb
  have hlS : l < S.length := (List.getElem?_eq_some_iff.mp h1).1
  have hmS : m < S.length := (List.getElem?_eq_some_iff.mp h3).1
  have hqS : q < S.length := (List.getElem?_eq_some_iff.mp h4).1
  obtain ⟨S1, a, e1, A⟩ := aft_of (hx S w h1 h2) hlS
  obtain ⟨w1, a1, a2, a3, a4, a5⟩ := A.ex
  have hql : q ≠ l := ne_of_cell h4 h1 (fun e => by cases e)
  have m1 : S1[m]? = some (mdS st q) := (A.fr m hmS (fun e => hlm e.symm)).trans h3
  have m2 : S1[q]? = some (.lst (eWs st.ws)) := (A.fr q hqS hql).trans h4
  have hmS1 : m < S1.length := (List.getElem?_eq_some_iff.mp m1).1
  obtain ⟨S2, b, e2, B⟩ := aft_of (hy S1 q m1 m2) hmS1
  obtain ⟨q1, b1, b2, b3, b4, b5⟩ := B.ex
  have ham : a ≠ m := ne_of_cell A.rs m1 (fun e => by cases e)
  have haS : a < S1.length := (List.getElem?_eq_some_iff.mp A.rs).1
  have hlS1 : l < S1.length := (List.getElem?_eq_some_iff.mp a1).1
  have hwm : w1 ≠ m := ne_of_cell a2 m1 (fun e => by cases e)
  have k1 : S2[l]? = some (lkS C p.1 w1) := (B.fr l hlS1 hlm).trans a1
  have k2 : S2[w1]? = some (.lst (eWs p.1.ws)) := (B.fr w1 a5 hwm).trans a2
  have k3 : S2[a]? = some (.lst (eWs p.2)) := (B.fr a haS ham).trans A.rs
  have hal : a ≠ l := ne_of_cell k3 k1 (fun e => by cases e)
  have haq : a ≠ q1 := by omega
  refine ⟨S1, a, S2, b, e1, e2, k3, B.rs, ⟨⟨w1, k1, k2⟩, ⟨q1, b1, b2⟩⟩, fun d => ⟨⟨w1, ?_, ?_⟩, ⟨q1, ?_, ?_⟩⟩, Nat.le_trans A.le B.le, fun i h1 h2 h3 => ?_, A.rn⟩
  · rw [List.getElem?_set_ne hal]; exact k1
  · rw [List.getElem?_set_ne (fun e => a3 e.symm)]; exact k2
  · rw [List.getElem?_set_ne ham]; exact b1
  · rw [List.getElem?_set_ne haq]; exact b2
  · rw [B.fr i (by have := A.le; omega) h3, A.fr i h1 h2]
theorem free_g {st : LSt} {tr : Int × Int} {att : Int} : (freeS st tr att).2.length ≤ 1 := by
  unfold freeS
  split
  · exact Nat.zero_le _
  · split
    · exact Nat.zero_le _
    · exact Nat.le_refl _
theorem ask_g {st : LSt} {u : Who} : (askS st u).2.length ≤ 1 := by
  unfold askS
  simp only
  split
  · exact Nat.le_refl _
  · split
    · exact free_g
    · exact free_g
theorem fin_g {st : LSt} {u : Who} {z : Int} : (finS st u z).2.length ≤ 1 := by
  unfold finS
  split
  · exact Nat.zero_le _
  · exact free_g
section
variable {S : Sto} {n : Nat} {xs : List D} {v t h : D} {C : Addr}
def seqC : Option Cell → Option (List D)
  | some (.lst xs) => some xs
  | _ => none
theorem o_seqR : seqD S (.ref n) = seqC S[n]? := by unfold seqD seqC; rfl
theorem o_seqC : seqC (some (.lst xs)) = some xs := (rfl)
theorem fld_i1 : Cell.ins C (putD ⟨#[118, 97, 108, 117, 101]⟩ v []) = .ins C [(nV, v)] := (rfl)
theorem fld_i2 : Cell.ins C (putD ⟨#[116, 117, 114, 110]⟩ t [(nV, v)]) = .ins C [(nV, v), (nT, t)] := (rfl)
theorem fld_i3 : Cell.ins C (putD ⟨#[104, 111, 108, 100, 101, 114]⟩ h [(nV, v), (nT, t)]) = .ins C [(nV, v), (nT, t), (nH, h)] := (rfl)
theorem fld_i4 : Cell.ins C (putD ⟨#[95, 119, 104, 111, 115]⟩ (.ref n) [(nV, v), (nT, t), (nH, h)]) = lkC C v t h n := (rfl)
theorem fld_keyPs : keyPs [(.str ⟨#[118, 97, 108, 117, 101]⟩, v), (.str ⟨#[116, 117, 114, 110]⟩, t), (.str ⟨#[104, 111, 108, 100, 101, 114]⟩, h), (.str ⟨#[119, 97, 105, 116, 105, 110, 103]⟩, .ref n)] = some (mdF v t h n) := (rfl)
theorem fld_mdlen : (mdF v t h n).length = 4 := (rfl)
theorem fld_merge : Cell.dk (mergeKD [] (mdF v t h n)) = mdC v t h n := (rfl)
end
end RF

namespace RF
open PySem L2
/-- what an operation leaves: its object at l, its list (new, or the one at w0), the list that it returns -/
structure Aft2 (X : Nat → Cell) (A B : Cell) (l w0 : Nat) (S S1 : Sto) (r : Nat) : Prop where
  ex : ∃ w, S1[l]? = some (X w) ∧ S1[w]? = some A ∧ w ≠ r ∧ (S.length ≤ w ∨ w = w0) ∧ w < S1.length
  rs : S1[r]? = some B
  rn : S.length ≤ r
  le : S.length ≤ S1.length
  fr : ∀ i, i < S.length → i ≠ l → S1[i]? = S[i]?
theorem Aft.two {X : Nat → Cell} {A B : Cell} {l w0 : Nat} {S S1 : Sto} {r : Nat} (h : Aft X A B l S S1 r) : Aft2 X A B l w0 S S1 r := by
  obtain ⟨⟨w, a, b, c, d, e⟩, f, g, i, j⟩ := h
  exact ⟨⟨w, a, b, c, .inl d, e⟩, f, g, i, j⟩
theorem aft2_of {X : Nat → Cell} {A B : Cell} {l w0 : Nat} {S : Sto} {x : R D} (h : ∃ T w r, x = .ok (.ref (S.length + r)) (S.set l (X (S.length + w)) ++ T) ∧ T[w]? = some A ∧ T[r]? = some B ∧ w ≠ r) (hl : l < S.length) :
    ∃ S1 r, x = .ok (.ref r) S1 ∧ Aft2 X A B l w0 S S1 r := by
  obtain ⟨S1, r, e, h⟩ := aft_of h hl
  exact ⟨S1, r, e, h.two⟩
/-- nothing changes, [] is returned -/
theorem aft2_no {X : Nat → Cell} {A : Cell} {l w : Nat} {S : Sto} (h1 : S[l]? = some (X w)) (h2 : S[w]? = some A) : Aft2 X A (.lst (eWs [])) l w S (S ++ [.lst (eWs [])]) S.length := by
  have hw := (List.getElem?_eq_some_iff.mp h2).1
  exact ⟨⟨w, app_get h1, app_get h2, by omega, .inr rfl, by rw [List.length_append]; omega⟩, get_app0, Nat.le_refl _, by rw [List.length_append]; omega, fun i hi _ => List.getElem?_append_left hi⟩
theorem two2_of {C : Addr} {l m : Nat} {st : LSt} {p : LSt × List Who} {S : Sto} {x y : Sto → R D} (hlm : l ≠ m) (hb : Both C l m st S)
    (hx : ∀ S w, S[l]? = some (lkS C st w) → S[w]? = some (.lst (eWs st.ws)) → ∃ S1 r, x S = .ok (.ref r) S1 ∧ Aft2 (lkS C p.1) (.lst (eWs p.1.ws)) (.lst (eWs p.2)) l w S S1 r)
    (hy : ∀ S w, S[m]? = some (mdS st w) → S[w]? = some (.lst (eWs st.ws)) → ∃ S1 r, y S = .ok (.ref r) S1 ∧ Aft2 (mdS p.1) (.lst (eWs p.1.ws)) (.lst (eWs p.2)) m w S S1 r) :
    ∃ S1 a S2 b, x S = .ok (.ref a) S1 ∧ y S1 = .ok (.ref b) S2 ∧ Two C l m p S S1 S2 a b := by
  obtain ⟨⟨w, h1, h2⟩, ⟨q, h3, h4⟩⟩ := hb
  have hlS : l < S.length := (List.getElem?_eq_some_iff.mp h1).1
  have hmS : m < S.length := (List.getElem?_eq_some_iff.mp h3).1
  have hqS : q < S.length := (List.getElem?_eq_some_iff.mp h4).1
  obtain ⟨S1, a, e1, A⟩ := hx S w h1 h2
  obtain ⟨w1, a1, a2, a3, a4, a5⟩ := A.ex
  have hql : q ≠ l := ne_of_cell h4 h1 (fun e => by cases e)
  have m1 : S1[m]? = some (mdS st q) := (A.fr m hmS (fun e => hlm e.symm)).trans h3
  have m2 : S1[q]? = some (.lst (eWs st.ws)) := (A.fr q hqS hql).trans h4
  have hmS1 : m < S1.length := (List.getElem?_eq_some_iff.mp m1).1
  obtain ⟨S2, b, e2, B⟩ := hy S1 q m1 m2
  obtain ⟨q1, b1, b2, b3, b4, b5⟩ := B.ex
  have ham : a ≠ m := ne_of_cell A.rs m1 (fun e => by cases e)
  have haS : a < S1.length := (List.getElem?_eq_some_iff.mp A.rs).1
  have hlS1 : l < S1.length := (List.getElem?_eq_some_iff.mp a1).1
  have hwm : w1 ≠ m := ne_of_cell a2 m1 (fun e => by cases e)
  have k1 : S2[l]? = some (lkS C p.1 w1) := (B.fr l hlS1 hlm).trans a1
  have k2 : S2[w1]? = some (.lst (eWs p.1.ws)) := (B.fr w1 a5 hwm).trans a2
  have k3 : S2[a]? = some (.lst (eWs p.2)) := (B.fr a haS ham).trans A.rs
  have hal : a ≠ l := ne_of_cell k3 k1 (fun e => by cases e)
  have haq : a ≠ q1 := by
    have := A.rn
    rcases b4 with h | h
    · omega
    · omega
  refine ⟨S1, a, S2, b, e1, e2, k3, B.rs, ⟨⟨w1, k1, k2⟩, ⟨q1, b1, b2⟩⟩, fun d => ⟨⟨w1, ?_, ?_⟩, ⟨q1, ?_, ?_⟩⟩, Nat.le_trans A.le B.le, fun i h1 h2 h3 => ?_, A.rn⟩
  · rw [List.getElem?_set_ne hal]; exact k1
  · rw [List.getElem?_set_ne (fun e => a3 e.symm)]; exact k2
  · rw [List.getElem?_set_ne ham]; exact b1
  · rw [List.getElem?_set_ne haq]; exact b2
  · rw [B.fr i (by have := A.le; omega) h3, A.fr i h1 h2]
end RF

/-! C(k = v, ..), all by keywords -/
namespace RF
open PySem L2
def fMakeK (C : Addr) (F : FF) (n j : Nat) (g : List D → List D → List D) (fs : AF) : EF := fun env S => (fs env S).bind fun ds S1 => if ds.length = j ∧ (g [.ref S1.length] ds).length = n then (F (g [.ref S1.length] ds) (S1 ++ [.ins C []])).nox.bind (mkK2 S1.length) else .bad
section
variable {X : Cx} {E : XK} {k n : Nat} {f C : Addr} {fd : FuncData} {ps ks : List Str} {F : FF} {x nm : Str} {p pos kpos : Pos} {e : Expr} {kws : List Keyword} {fa : EF} {fs : AF} {g : List Value → List Value → List Value} {gV : List V → List V → List V} {gD : List D → List D → List D}
theorem xKNil : PK X [] (tA X.K E fNil) := ⟨fun pos pins s σ H Q I ⟨L, env, S, rep, re, h⟩ => pk_nil.run pos pins s σ H Q I (h L H (Ex.refl _ _) rep [] .nil)⟩
theorem xKCons (ha : PE X e (tE X.K E fa)) (hr : PK X kws (tA X.K E fs)) : PK X (⟨nm, e, kpos⟩ :: kws) (tA X.K E (fCons fa fs)) := ⟨fun pos pins s σ H Q I h => (pk_cons ha hr).run pos pins s σ H Q I (by
  obtain ⟨L, env, S, rep, re, h⟩ := h
  refine ⟨L, env, S, rep, re, (End.bind h).imp fun x S1 L1 H1 e1 rep1 h1 v rv => ?_⟩
  refine ⟨L1, env, S1, rep1, re.mono e1, (End.bind h1).imp fun xs S2 L2 H2 e2 rep2 h2 vs rvs => ?_⟩
  exact h2 L2 H2 (Ex.refl _ _) rep2 _ (.cons (rv.mono e2) rvs))⟩
theorem makeK_of {K : PySem.W.Frag} {σ : St} {H : Hp} {Q : VK} {j : Nat} (hgd : ∀ L H x m vs ds, RD K L H (.ref x) (.ref m) → RDs K L H vs ds → vs.length = j → RDs K L H (gV [.ref x] vs) (gD [.ref m] ds)) (h : tE K E (fMakeK C F n j gD fs) σ H Q) :
    tMakeK C 0 j (spF K n F) gV E0 tNil (tA K E fs) σ H Q := by
  obtain ⟨L, env, S, rep, re, h⟩ := h
  refine ⟨L, env, S, rep, re, (End.bind h).imp fun xs S1 L1 H1 e1 rep1 h1 zs rvs => ?_⟩
  by_cases hl : xs.length = j ∧ (gD [.ref S1.length] xs).length = n
  · rw [if_pos hl] at h1
    have hz : zs.length = j := rvs.length.trans hl.1
    refine ⟨rfl, hz, fun x dx hx hdx hne => ?_⟩
    have hx1 : (upd H1 dx (.own x)) x = none := (upd_ne (fun z => hne z.symm)).trans hx
    have e2 : Ex L1 H1 (L1 ++ [x]) (upd (upd H1 dx (.own x)) x (.ins C dx [])) := (Ex.new hdx).trans (Ex.newc hx1)
    have rep2 : Rep K (L1 ++ [x]) (upd (upd H1 dx (.own x)) x (.ins C dx [])) (S1 ++ [.ins C []]) := (rep1.new hdx).newc hx1 ⟨dx, [], upd_same, trivial⟩
    have hn : (L1 ++ [x])[S1.length]? = some x := by rw [← rep1.len, List.getElem?_append_right (Nat.le_refl _)]; simp
    have rr := hgd _ _ x S1.length zs xs (.ref hn) (rvs.mono e2) hz
    refine ⟨rr.length.trans hl.2, _, gD [.ref S1.length] xs, _, rep2, rr, ?_⟩
    refine (End.keep (L1 := L1 ++ [x]) (h1.later e2)).imp fun r S3 L3 H3 e3 rep3 h3 v rv => ?_
    have h3 := h3.later e3
    cases rv with
    | non => exact ⟨rfl, EndV.val (d := .ref S1.length) h3 rep3 (.ref (e3.px _ _ hn))⟩
    | _ => exact h3.elim
  · rw [if_neg hl] at h1; exact h1.elim
theorem xMakeK0 {j : Nat} (M : Mk X.K C f) (Fo : FnOk X.prog X.w X.K X.mg X.base CX0 k f fd ps (spF X.K n F)) (hr : Room (k + 1) X.A) (hg : Gl X x) (hm : X.mg x = some (.ref C)) (hb : KBn X.K fd ps 1 ks g gV)
    (hgd : ∀ L H x m vs ds, RD X.K L H (.ref x) (.ref m) → RDs X.K L H vs ds → vs.length = j → RDs X.K L H (gV [.ref x] vs) (gD [.ref m] ds)) (hkw : PK X kws (tA X.K E fs))
    (hall : (backToKw pos (keywordEach kws X.env)).all (·.1.isSome) = true := by rfl) (hks : (backToKw pos (keywordEach kws X.env)).filterMap (·.1) = ks := by rfl) (hdb : (x == ("__debug__" : Str)) = false := by decide)
    (hpl : ((backTo pos (starEach [] X.env)).any (·.1) || (backToKw pos (keywordEach kws X.env)).any (·.1.isNone)) = false := by rfl) (hj : ks.length = j := by rfl) :
    PE X (.Call (.Name x p) [] kws pos) (tE X.K E (fMakeK C F n j gD fs)) := by
  subst hj
  exact monoE (pe_makeK0 M Fo hr hg hm hb pass0 hkw hall hks hdb hpl) fun _ _ _ h => makeK_of hgd h
end
section
variable {C : Addr} {F : FF} {n j k : Nat} {g : List D → List D → List D} {fs : AF} {env : Lc} {S : Sto} {ds : List D}
def mkKK (C : Addr) (F : FF) (n j : Nat) (g : List D → List D → List D) : List D → Sto → R D := fun ds S1 => if ds.length = j ∧ (g [.ref S1.length] ds).length = n then (F (g [.ref S1.length] ds) (S1 ++ [.ins C []])).nox.bind (mkK2 S1.length) else .bad
theorem ap_fMakeK : fMakeK C F n j g fs env S = (fs env S).bind (mkKK C F n j g) := (rfl)
theorem ap_mkKK : mkKK C F n j g ds S = if ds.length = j ∧ (g [.ref S.length] ds).length = n then (F (g [.ref S.length] ds) (S ++ [.ins C []])).nox.bind (mkK2 S.length) else .bad := (rfl)
def rng2K : List D → Sto → R It' := fun ds S1 => match ds with
  | [.int i, .int j] => if -(2 ^ 62) ≤ i ∧ i < 2 ^ 62 ∧ -(2 ^ 62) ≤ j ∧ j < 2 ^ 62 then .ok (.fix (rngD i (j - i).toNat)) S1 else .bad
  | _ => .bad
theorem ap_fRng2 : fRng2 fs env S = (fs env S).bind rng2K := (rfl)
theorem ap_rng2K {i j : Int} : rng2K [.int i, .int j] S = if -(2 ^ 62) ≤ i ∧ i < 2 ^ 62 ∧ -(2 ^ 62) ≤ j ∧ j < 2 ^ 62 then .ok (.fix (rngD i (j - i).toNat)) S else .bad := (rfl)
end
end RF

/-! a lock that is emptied -/
namespace RF
open PySem L2
theorem two3_of {C : Addr} {l m w q : Nat} {st : LSt} {p : LSt × List Who} {S : Sto} {x y : Sto → R D} (hlm : l ≠ m) (h1 : S[l]? = some (lkS C st w)) (h2 : S[w]? = some (.lst (eWs st.ws))) (h3 : S[m]? = some (mdS st q)) (h4 : S[q]? = some (.lst (eWs st.ws)))
    (hx : ∀ S w, S[l]? = some (lkS C st w) → S[w]? = some (.lst (eWs st.ws)) → ∃ S1 r, x S = .ok (.ref r) S1 ∧ Aft2 (lkS C p.1) (.lst (eWs p.1.ws)) (.lst (eWs p.2)) l w S S1 r)
    (hy : ∀ S w, S[m]? = some (mdS st w) → S[w]? = some (.lst (eWs st.ws)) → ∃ S1 r, y S = .ok (.ref r) S1 ∧ Aft2 (mdS p.1) (.lst (eWs p.1.ws)) (.lst (eWs p.2)) m w S S1 r) :
    ∃ S1 a S2 b w' q', x S = .ok (.ref a) S1 ∧ S1[m]? = some (mdS st q) ∧ y S1 = .ok (.ref b) S2 ∧ S2[a]? = some (.lst (eWs p.2)) ∧ S2[b]? = some (.lst (eWs p.2)) ∧ S2[l]? = some (lkS C p.1 w') ∧ S2[w']? = some (.lst (eWs p.1.ws)) ∧ S2[m]? = some (mdS p.1 q') ∧ S2[q']? = some (.lst (eWs p.1.ws)) ∧
      (S.length ≤ w' ∨ w' = w) ∧ (S.length ≤ q' ∨ q' = q) ∧ S.length ≤ S2.length ∧ ∀ i, i < S.length → i ≠ l → i ≠ m → S2[i]? = S[i]? := by
  have hlS : l < S.length := (List.getElem?_eq_some_iff.mp h1).1
  have hmS : m < S.length := (List.getElem?_eq_some_iff.mp h3).1
  have hqS : q < S.length := (List.getElem?_eq_some_iff.mp h4).1
  obtain ⟨S1, a, e1, A⟩ := hx S w h1 h2
  obtain ⟨w1, a1, a2, a3, a4, a5⟩ := A.ex
  have hql : q ≠ l := ne_of_cell h4 h1 (fun e => by cases e)
  have m1 : S1[m]? = some (mdS st q) := (A.fr m hmS (fun e => hlm e.symm)).trans h3
  have m2 : S1[q]? = some (.lst (eWs st.ws)) := (A.fr q hqS hql).trans h4
  have hmS1 : m < S1.length := (List.getElem?_eq_some_iff.mp m1).1
  obtain ⟨S2, b, e2, B⟩ := hy S1 q m1 m2
  obtain ⟨q1, b1, b2, b3, b4, b5⟩ := B.ex
  have ham : a ≠ m := ne_of_cell A.rs m1 (fun e => by cases e)
  have haS : a < S1.length := (List.getElem?_eq_some_iff.mp A.rs).1
  have hlS1 : l < S1.length := (List.getElem?_eq_some_iff.mp a1).1
  have hwm : w1 ≠ m := ne_of_cell a2 m1 (fun e => by cases e)
  have k1 : S2[l]? = some (lkS C p.1 w1) := (B.fr l hlS1 hlm).trans a1
  have k2 : S2[w1]? = some (.lst (eWs p.1.ws)) := (B.fr w1 a5 hwm).trans a2
  have k3 : S2[a]? = some (.lst (eWs p.2)) := (B.fr a haS ham).trans A.rs
  have := A.le
  refine ⟨S1, a, S2, b, w1, q1, e1, m1, e2, k3, B.rs, k1, k2, b1, b2, a4, ?_, Nat.le_trans A.le B.le, fun i h1 h2 h3 => ?_⟩
  · rcases b4 with h | h
    · exact .inl (by omega)
    · exact .inr h
  · rw [B.fr i (by omega) h3, A.fr i h1 h2]
def al (k : Nat) (st : LSt) (hs : List Who) : List Who := hs ++ (if k = 0 then [] else st.h.toList)
structure EI (ws0 : List Who) (t0 : Int) (k : Nat) (st : LSt) (hs : List Who) : Prop where
  ok : Okay st
  tn : st.t = t0 + (al k st hs).length
  sr : (al k st hs).Pairwise (fun a b => leW a b = true)
  le : ∀ a ∈ al k st hs, ∀ b ∈ st.ws, leW a b = true
  sb : ∀ a ∈ al k st hs, a ∈ ws0
  sw : ∀ b ∈ st.ws, b ∈ ws0
  ln : st.h.isSome = true → st.ws.length + k ≤ ws0.length
  hl : hs.length ≤ k
theorem EI.init {st : LSt} (o : Okay st) : EI st.ws st.t 0 st [] :=
  ⟨o, by simp [al], by simp [al], by simp [al], by simp [al], fun _ h => h, fun _ => Nat.le_refl _, Nat.le_refl _⟩
theorem EI.alS {ws0 : List Who} {t0 : Int} {k : Nat} {st : LSt} {hs : List Who} {x : Who} (e : EI ws0 t0 k st hs) (hh : st.h = some x) : al k st hs = if k = 0 then [] else hs ++ [x] := by
  unfold al
  by_cases hk : k = 0
  · have := e.hl
    have h0 : hs = [] := List.length_eq_zero_iff.mp (by omega)
    simp [hk, h0]
  · simp [hk, hh]
theorem EI.step {ws0 : List Who} {t0 : Int} {k : Nat} {st : LSt} {hs : List Who} {x : Who} (z : Int) (e : EI ws0 t0 k st hs) (hh : st.h = some x) : EI ws0 t0 (k + 1) (finS st x z).1 (al k st hs) := by
  obtain ⟨ok, tn, sr, le, sb, sw, ln, hl⟩ := e
  have hl2 : (al k st hs).length ≤ k + 1 := by
    unfold al
    rw [List.length_append]
    split
    · simp; omega
    · rw [hh]; simp; omega
  have hln := ln (by rw [hh]; rfl)
  have o2 := (ok.fin x z).1
  generalize al k st hs = gs at tn sr le sb hl2
  have hg : goneS ⟨z, st.t, st.h, st.ws⟩ x.1 x.2 = true := by unfold goneS upW; rw [hh]; simp
  have hks : ∀ b ∈ keepS ⟨z, st.t, st.h, st.ws⟩ x.1 x.2, b ∈ st.ws := fun b hb => (List.mem_filter.mp hb).1
  have hkl := keep_len (st := ⟨z, st.t, st.h, st.ws⟩) (tr := x.1) (att := x.2)
  have hf : finS st x z = freeS ⟨z, st.t, st.h, st.ws⟩ x.1 x.2 := by unfold finS; rw [if_neg (fun k => k hh)]
  rw [hf] at o2 ⊢
  unfold freeS at o2 ⊢
  rw [hg] at o2 ⊢
  simp only [Bool.true_eq_false, if_false] at o2 ⊢
  cases hq : keepS ⟨z, st.t, st.h, st.ws⟩ x.1 x.2 with
  | nil =>
    rw [hq] at o2
    have ea : al (k + 1) ⟨z, st.t, none, []⟩ gs = gs := by simp [al]
    exact ⟨o2, by rw [ea]; exact tn, by rw [ea]; exact sr, fun _ _ b hb => by simp at hb, by rw [ea]; exact sb, fun b hb => by simp at hb, fun h => by simp at h, hl2⟩
  | cons a r =>
    rw [hq] at o2 hks hkl
    simp only at o2 ⊢
    have hm := minW_mem a r
    have hle := minW_le a r
    generalize minW a r = mn at o2 hm hle
    have hmw := hks mn hm
    have ea : al (k + 1) ⟨z, st.t + 1, some mn, (a :: r).filter fun w => !decide (w = mn)⟩ gs = gs ++ [mn] := by simp [al]
    refine ⟨o2, ?_, ?_, ?_, ?_, ?_, ?_, hl2⟩
    · rw [ea, List.length_append]
      show st.t + 1 = _
      simp; omega
    · rw [ea, List.pairwise_append]
      refine ⟨sr, by simp, fun p hp q hq2 => ?_⟩
      rw [List.mem_singleton] at hq2
      subst hq2
      exact le p hp _ hmw
    · rw [ea]
      intro p hp b hb
      have hb2 : b ∈ a :: r := (List.mem_filter.mp hb).1
      rcases List.mem_append.mp hp with hp | hp
      · exact le p hp b (hks b hb2)
      · rw [List.mem_singleton] at hp
        subst hp
        exact leW_iff.mpr (hle b hb2)
    · rw [ea]
      intro p hp
      rcases List.mem_append.mp hp with hp | hp
      · exact sb p hp
      · rw [List.mem_singleton] at hp
        subst hp
        exact sw _ hmw
    · intro b hb
      exact sw b (hks b (List.mem_filter.mp hb).1)
    · intro _
      have h1 : ((a :: r).filter fun w => !decide (w = mn)).length < (a :: r).length := by
        rw [List.length_filter_lt_length_iff_exists]
        exact ⟨mn, hm, by simp⟩
      show ((a :: r).filter fun w => !decide (w = mn)).length + (k + 1) ≤ ws0.length
      have h2 : (LSt.mk z st.t st.h st.ws).ws.length = st.ws.length := rfl
      omega
theorem EI.last {ws0 : List Who} {t0 : Int} {st : LSt} {hs : List Who} (e : EI ws0 t0 (ws0.length + 1) st hs) : st.h = none := by
  cases h : st.h with
  | none => rfl
  | some x =>
    have := e.ln (by rw [h]; rfl)
    omega
theorem EI.done {ws0 : List Who} {t0 : Int} {k : Nat} {st : LSt} {hs : List Who} (e : EI ws0 t0 k st hs) (hh : st.h = none) : st.ws = [] ∧ st.t = t0 + hs.length ∧ sortW hs = hs ∧ ∀ a ∈ hs, a ∈ ws0 := by
  have ea : al k st hs = hs := by unfold al; rw [hh]; simp
  obtain ⟨ok, tn, sr, le, sb, sw, ln, hl⟩ := e
  rw [ea] at tn sr sb
  exact ⟨ok.no hh, tn, List.mergeSort_of_pairwise sr, sb⟩
end RF

/-! list(d), d a dict with tuples as keys -/
namespace RF
open PySem L2
def kD : Key → D
  | .inl i => .int i
  | .inr x => .str x
def keysOf (kvs : List (List Key × D)) : List D := kvs.map fun kv => .tup (kv.1.map kD)
def oListT : OpN := fun ds S => match ds with
  | [.ref n] => match S[n]? with
    | some (.dt kvs) => .ok (.ref S.length) (S ++ [.lst (keysOf kvs)])
    | _ => oList [.ref n] S
  | ds => oList ds S
theorem kD_rd {K : PySem.W.Frag} {L : List Addr} {H : Hp} : ∀ ks : List Key, RDs K L H (ks.map kV) (ks.map kD)
  | [] => .nil
  | .inl i :: ks => .cons (.int i) (kD_rd ks)
  | .inr x :: ks => .cons (.str x) (kD_rd ks)
def rListT (K : PySem.W.Frag) : List V → Hp → VK → Prop := fun xs H Q => (∃ p ys, xs = [.ref p] ∧ (SqL K H p ys ∨ SqT K H p ys) ∧ ∀ l, H l = none → Q (.ref l) (upd H l (.lst ys))) ∨
  ∃ d kvs, xs = [V.ref d] ∧ Rd H d (.dT kvs) ∧ ∀ p bs, H p = none → IsKeys H kvs bs → Q (.ref p) (upd H p (.lst (bs.map V.ref)))
theorem call_listT {X : Cx} (hc : X.calm = true) : CallR X (.type "list") (rListT X.K) := call_list_of.or (call_list_dT hc)
theorem keys_rd {K : PySem.W.Frag} {L : List Addr} {H : Hp} : ∀ {ws : List (List Key × V)} {kvs : List (List Key × D)} {bs : List Addr}, RK K L H ws kvs → IsKeys H ws bs → RDs K L H (bs.map V.ref) (keysOf kvs)
  | [], [], _, _, h => by cases h; exact .nil
  | p :: ws, q :: kvs, _, ⟨e, _, c⟩, h => by
    cases h with
    | cons h1 h2 =>
      rw [e] at h1
      exact .cons (.tup h1 (kD_rd q.1)) (keys_rd c h2)
  | [], _ :: _, _, h, _ => h.elim
  | _ :: _, [], _, h, _ => h.elim
section
variable {K : PySem.W.Frag} {E : XK}
theorem f_listT : CaF K E (rListT K) oListT := by
  intro L H S xs ds Q rep rs q
  by_cases hd : ∃ n kvs, ds = [.ref n] ∧ S[n]? = some (.dt kvs)
  · obtain ⟨n, kvs, rfl, hn⟩ := hd
    obtain ⟨x, rfl, r⟩ := rs.one
    cases r with
    | @ref a _ ha =>
      obtain ⟨c, hc, rc⟩ := rep.adr ha
      rw [hn] at hc
      cases hc
      obtain ⟨ws, hw, rk⟩ := rc
      have q : EndV K E L H Q (.ok (.ref S.length) (S ++ [.lst (keysOf kvs)])) := by
        unfold oListT at q
        simp only [hn] at q
        exact q
      exact .inr ⟨a, ws, rfl, .of hw, fun p bs hp hk => newList q rep (keys_rd rk hk) p hp⟩
  · have e : oListT ds S = oList ds S := by
      unfold oListT
      split
      · rename_i n
        split
        · rename_i kvs h
          exact absurd ⟨n, kvs, rfl, h⟩ hd
        · rfl
      · rfl
    rw [e] at q
    exact .inl (f_list L H S xs ds Q rep rs q)
end
end RF

/-! keys (house, name), steps, programs -/
namespace RF
open PySem L2
abbrev K2 := Int × Str
def eK (k : K2) : D := .tup [.int k.1, .str k.2]
def pK (k : K2) : PyData := .tuple [.int k.1, .str k.2]
def kk (k : K2) : List Key := [.inl k.1, .inr k.2]
def eKs (ks : List K2) : List D := ks.map eK
/-- the key of a step -/
def keyOfD : D → K2
  | .tup (_ :: .tup [.int a, .str b] :: _) => (a, b)
  | _ => (0, ⟨#[]⟩)
structure IsStep (d : D) : Prop where
  ex : ∃ w r, d = .tup (w :: eK (keyOfD d) :: r)
  ok : PyData.strOk (keyOfD d).2 = true
theorem isStep_mk {w : D} {k : K2} {r : List D} (h : PyData.strOk k.2 = true) : IsStep (.tup (w :: eK k :: r)) := ⟨⟨w, r, rfl⟩, h⟩
section
variable {S : Sto} {n j : Nat} {k g : K2} {ks gs : List K2}
theorem toP_eK (h : PyData.strOk k.2 = true) : toP S (j + 1) (eK k) = some (pK k) := by
  unfold eK pK
  rw [toP_tup, toP_mapM_cons, toP_mapM_cons, toP_mapM_nil, toP_int, toP_str, if_pos h]
  rfl
theorem mapM_eK (h : ∀ k ∈ ks, PyData.strOk k.2 = true) : (eKs ks).mapM (toP S (j + 1)) = some (ks.map pK) := by
  induction ks with
  | nil => rfl
  | cons k ks ih =>
    show List.mapM (toP S (j + 1)) (eK k :: eKs ks) = _
    rw [toP_mapM_cons, ih (fun x hx => h x (List.mem_cons_of_mem _ hx)), toP_eK (h k (List.mem_cons_self ..))]; rfl
theorem eqv_K : PyData.eqv (pK k) (pK g) = decide (k = g) := by
  unfold pK
  simp only [PyData.eqv, PyData.eqvAll]
  obtain ⟨a, b⟩ := k
  obtain ⟨c, d⟩ := g
  simp only [Prod.mk.injEq]
  by_cases h1 : a = c <;> by_cases h2 : b = d <;> simp [h1, h2]
theorem eqv_Ks : PyData.eqv (.list (ks.map pK)) (.list (gs.map pK)) = decide (ks = gs) := by
  simp only [PyData.eqv]
  induction ks generalizing gs with
  | nil => cases gs <;> simp [PyData.eqvAll]
  | cons w ws ih => cases gs with
    | nil => simp [PyData.eqvAll]
    | cons v vs =>
      simp only [List.map_cons, PyData.eqvAll, ih, eqv_K, List.cons.injEq]
      by_cases h1 : w = v <;> by_cases h2 : ws = vs <;> simp [h1, h2]
theorem o_eqKK (h1 : PyData.strOk k.2 = true) (h2 : PyData.strOk g.2 = true) : oEq (eK k) (eK g) S = .ok (.bl (decide (k = g))) S := by rw [o_eq, toP_eK h1, toP_eK h2, eqK_some, eqv_K]
theorem o_neKs {m : Nat} (h1 : S[n]? = some (.lst (eKs ks))) (h2 : S[m]? = some (.lst (eKs gs))) (h3 : ∀ k ∈ ks, PyData.strOk k.2 = true) (h4 : ∀ k ∈ gs, PyData.strOk k.2 = true) : oNe (.ref n) (.ref m) S = .ok (.bl (!decide (ks = gs))) S := by
  rw [o_ne, toP_ref, toP_ref, h1, h2, toPC_lst, toPC_lst, mapM_eK h3, mapM_eK h4]
  show neK S (some (.list (ks.map pK))) (some (.list (gs.map pK))) = _
  rw [neK_some, eqv_Ks]
theorem keysD_eK : keysD (eK k) = some (kk k) := (rfl)
/-! unlike keys, in the order of their first use -/
def addK (acc : List K2) (k : K2) : List K2 := if k ∈ acc then acc else acc ++ [k]
def unl (ks : List K2) : List K2 := ks.foldl addK []
theorem addK_mem {acc : List K2} {x : K2} : x ∈ addK acc k ↔ x ∈ acc ∨ x = k := by
  unfold addK
  split
  · rename_i h
    exact ⟨.inl, fun z => z.elim id (fun e => e ▸ h)⟩
  · simp
theorem fold_mem {x : K2} : ∀ {ks acc : List K2}, x ∈ ks.foldl addK acc ↔ x ∈ acc ∨ x ∈ ks
  | [], acc => by simp
  | k :: ks, acc => by
    rw [List.foldl_cons, fold_mem, addK_mem]
    simp only [List.mem_cons]
    exact ⟨fun h => by rcases h with (h | h) | h <;> simp [h], fun h => by rcases h with h | h | h <;> simp [h]⟩
theorem unl_mem {x : K2} : x ∈ unl ks ↔ x ∈ ks := by
  unfold unl
  rw [fold_mem]
  simp
theorem unl_snoc : unl (ks ++ [k]) = addK (unl ks) k := by unfold unl; rw [List.foldl_append]; rfl
def encK (ks : List K2) : List (List Key × D) := ks.map fun k => (kk k, .bl true)
theorem kk_inj : kk k = kk g ↔ k = g := by
  obtain ⟨a, b⟩ := k
  obtain ⟨c, d⟩ := g
  simp [kk]
theorem any_encK : ((encK ks).any fun kv => decide (kv.1 = kk k)) = decide (k ∈ ks) := by
  induction ks with
  | nil => simp [encK]
  | cons g ks ih =>
    show (decide (kk g = kk k) || (encK ks).any fun kv => decide (kv.1 = kk k)) = _
    rw [ih]
    by_cases h1 : g = k
    · subst h1; simp
    · have h2 : ¬ kk g = kk k := fun e => h1 (kk_inj.mp e)
      have h3 : ¬ k = g := fun e => h1 e.symm
      simp [h2, h3]
theorem put_encK : putKD (encK ks) (kk k) (.bl true) = encK (addK ks k) := by
  unfold putKD addK
  rw [any_encK]
  by_cases h : k ∈ ks
  · rw [decide_eq_true h, if_pos rfl, if_pos h]
    unfold encK
    rw [List.map_map]
    refine List.map_congr_left fun g _ => ?_
    show (if kk g = kk k then (kk g, D.bl true) else (kk g, D.bl true)) = (kk g, D.bl true)
    split <;> rfl
  · rw [decide_eq_false h, if_neg (by decide), if_neg h]
    unfold encK
    rw [List.map_append]
    rfl
theorem keysOf_encK : keysOf (encK ks) = eKs ks := by
  unfold keysOf encK eKs
  rw [List.map_map]
  rfl
theorem encK_len : (encK ks).length = ks.length := List.length_map ..
theorem addK_len : (addK ks k).length ≤ ks.length + 1 := by
  unfold addK
  split
  · omega
  · rw [List.length_append]; simp
theorem setC_dt {m : Nat} {kvs : List (List Key × D)} {d : D} : setC S m (eK k) d (some (.dt kvs)) = if kvs.length < 100000 then .ok () (S.set m (.dt (putKD kvs (kk k) d))) else .bad := (rfl)
theorem isDict_eK : isDict S (eK k) = false := (rfl)
def listTC (S : Sto) (n : Nat) : Option Cell → R D
  | some (.dt kvs) => .ok (.ref S.length) (S ++ [.lst (keysOf kvs)])
  | _ => oList [.ref n] S
theorem o_listT : oListT [.ref n] S = listTC S n S[n]? := by unfold oListT listTC; rfl
theorem o_listTC {kvs : List (List Key × D)} : listTC S n (some (.dt kvs)) = .ok (.ref S.length) (S ++ [.lst (keysOf kvs)]) := (rfl)
end
/-- a comprehension over fixed items that only filters -/
theorem comp_filterX {i : Nat} {ft : BF} {fe : EF} {env : Lc} {S : Sto} {p : D → Bool} : ∀ (ys acc : List D), (∀ d ∈ ys, ft (env.set i (some d)) S = .ok (p d) S) → (∀ d ∈ ys, fe (env.set i (some d)) S = .ok d S) → acc.length + ys.length < 100000 →
    compX i ft fe env ys acc S = .ok (.ref S.length) (S ++ [.lst (acc ++ ys.filter p)])
  | [], acc, _, _, _ => by simp [compX]
  | d :: ys, acc, h1, h2, hl => by
    rw [List.length_cons] at hl
    unfold compX
    rw [h1 d (List.mem_cons_self ..), List.filter_cons]
    simp only [R.nox_ok, R.bind_ok]
    have r1 : ∀ x ∈ ys, ft (env.set i (some x)) S = .ok (p x) S := fun x hx => h1 x (List.mem_cons_of_mem _ hx)
    have r2 : ∀ x ∈ ys, fe (env.set i (some x)) S = .ok x S := fun x hx => h2 x (List.mem_cons_of_mem _ hx)
    cases p d with
    | false =>
      simp only [Bool.false_eq_true, if_false]
      exact comp_filterX ys acc r1 r2 (by omega)
    | true =>
      simp only [if_true]
      rw [h2 d (List.mem_cons_self ..)]
      simp only [R.nox_ok, R.bind_ok]
      rw [if_pos (by omega), comp_filterX ys _ r1 r2 (by rw [List.length_append, List.length_singleton]; omega)]
      simp
theorem cut_take {α : Type} {l : List α} {k : Nat} (h : k ≤ l.length) : cutD l none (some (k : Int)) = l.take k := by
  unfold cutD
  rw [HT.sIx_none, HT.sIx_nat, Nat.min_eq_left h]
  simp
end RF

/-! dicts whose keys are tuples of any form (nested): in, [], get, [] =, list(d), len(d), {} -/
namespace RF
open PySem L2

mutual
def keyN : D → Option NestedKey
  | .non => some .none
  | .int i => some (.num i)
  | .str x => some (.text x)
  | .tup ds => match keyNs ds with
    | some ks => some (.tup ks)
    | none => none
  | .bl _ => none
  | .ref _ => none
  | .rl _ => none
  | .kt _ => none
def keyNs : List D → Option (List NestedKey)
  | [] => some []
  | d :: ds => match keyN d with
    | some k => match keyNs ds with
      | some ks => some (k :: ks)
      | none => none
    | none => none
end
mutual
def dOf : NestedKey → D
  | .none => .non
  | .num i => .int i
  | .text x => .str x
  | .tup ks => .tup (dOfs ks)
def dOfs : List NestedKey → List D
  | [] => []
  | k :: ks => dOf k :: dOfs ks
end
/-- the key that a tuple is -/
def keyT : D → Option NestedKey
  | .tup ds => match keyNs ds with
    | some ks => if NestedKey.depth (.tup ks) ≤ 8 then some (.tup ks) else none
    | none => none
  | _ => none
section
variable {K : PySem.W.Frag} {L : List Addr} {H : Hp} {S : Sto}
mutual
theorem RD.nk : ∀ {v : V} {d : D} {k : NestedKey}, RD K L H v d → keyN d = some k → NK H k v
  | _, _, _, .non, e => by simp only [keyN] at e; cases e; exact .none
  | _, _, _, .int i, e => by simp only [keyN] at e; cases e; exact .num i
  | _, _, _, .str x, e => by simp only [keyN] at e; cases e; exact .text x
  | _, _, _, .bl b, e => by simp only [keyN] at e; cases e
  | _, _, _, .ref h, e => by simp only [keyN] at e; cases e
  | _, _, _, .rl h r, e => by simp only [keyN] at e; cases e
  | _, _, _, .kt h r, e => by simp only [keyN] at e; cases e
  | _, _, _, .tup (ds := ds) h r, e => by
    simp only [keyN] at e
    cases q : keyNs ds with
    | none => rw [q] at e; cases e
    | some ks => rw [q] at e; cases e; exact .tup h (RDs.nks r q)
theorem RDs.nks : ∀ {vs : List V} {ds : List D} {ks : List NestedKey}, RDs K L H vs ds → keyNs ds = some ks → NKs H ks vs
  | _, _, _, .nil, e => by simp only [keyNs] at e; cases e; exact .nil
  | _, _, _, .cons (d := d) (ds := ds) a b, e => by
    simp only [keyNs] at e
    cases q : keyN d with
    | none => rw [q] at e; cases e
    | some k =>
      rw [q] at e
      cases q2 : keyNs ds with
      | none => rw [q2] at e; cases e
      | some ks => rw [q2] at e; cases e; exact .cons (RD.nk a q) (RDs.nks b q2)
end
mutual
theorem NK.rd : ∀ {k : NestedKey} {v : V}, NK H k v → RD K L H v (dOf k)
  | _, _, .none => by simp only [dOf]; exact .non
  | _, _, .num i => by simp only [dOf]; exact .int i
  | _, _, .text x => by simp only [dOf]; exact .str x
  | _, _, .tup h r => by simp only [dOf]; exact .tup h (NKs.rd r)
theorem NKs.rd : ∀ {ks : List NestedKey} {vs : List V}, NKs H ks vs → RDs K L H vs (dOfs ks)
  | _, _, .nil => by simp only [dOfs]; exact .nil
  | _, _, .cons a b => by simp only [dOfs]; exact .cons (NK.rd a) (NKs.rd b)
end
theorem RD.keyt {v : V} {d : D} {k : NestedKey} (r : RD K L H v d) (e : keyT d = some k) : ∃ b, v = .ref b ∧ NK H k (.ref b) ∧ k.depth ≤ 8 := by
  cases r with
  | @tup a vs ds h rs =>
    unfold keyT at e
    simp only at e
    cases q : keyNs ds with
    | none => rw [q] at e; cases e
    | some ks =>
      rw [q] at e
      simp only at e
      by_cases hd : NestedKey.depth (.tup ks) ≤ 8
      · rw [if_pos hd] at e; cases e
        exact ⟨a, rfl, .tup h (rs.nks q), hd⟩
      · rw [if_neg hd] at e; cases e
  | _ => cases e
end
/-! the heap -/
mutual
theorem nk_is {P : Program} {w : World} {H : Hp} {h : Heap} (ok : HOk P w H h) : ∀ {k : NestedKey} {v : V} {u : Value}, NK H k v → RelV v u → NestedIs h k u
  | _, _, _, .none, r => by cases (show _ = Value.none from r); exact .none
  | _, _, _, .num i, r => by obtain ⟨t, q⟩ := (show ∃ t, _ = Value.int i t from r); cases q; exact .int i t
  | _, _, _, .text x, r => by obtain ⟨t, q⟩ := (show ∃ t, _ = Value.str x t from r); cases q; exact .text x t
  | _, _, _, .tup (a := a) (vs := vs) e rs, r => by
    cases (show _ = Value.ref a from r)
    obtain ⟨_, its, rv, o, h1, h2, n, h3⟩ := (show ObjOk P w H h a (.tup vs) from ok a _ e)
    exact .tup h1 h2 h3 (by simpa using nks_are ok rs rv)
theorem nks_are {P : Program} {w : World} {H : Hp} {h : Heap} (ok : HOk P w H h) : ∀ {ks : List NestedKey} {vs : List V} {us : List Value}, NKs H ks vs → Vals vs us → NestedAll h ks us
  | _, _, _, .nil, r => by cases r; exact .nil
  | _, _, _, .cons a b, r => by cases r with | cons r1 r2 => exact .cons (nk_is ok a r1) (nks_are ok b r2)
end
abbrev ZOk (H : Hp) (zs : List ZN) : Prop := ∀ z ∈ zs, NK H z.1 (.ref z.2.1) ∧ z.1.depth ≤ 8
def valZ (zs : List ZN) (k : NestedKey) : Option V := (zs.find? fun z => decide (z.1 = k)).map (·.2.2)
def putZ (zs : List ZN) (k : NestedKey) (b : Addr) (v : V) : List ZN := if (zs.any fun z => decide (z.1 = k)) = true then zs.map (fun z => if z.1 = k then (z.1, z.2.1, v) else z) else zs ++ [(k, b, v)]
theorem zx_val {zs : List ZN} {xs : List (NestedKey × Addr × Value)} (r : Paired ZX zs xs) (k : NestedKey) : RelO (valZ zs k) ((atKey xs k).map (·.2)) := by
  induction r with
  | nil => exact True.intro
  | @cons p q ps qs h t ih =>
    obtain ⟨h1, _, h2⟩ := h
    unfold valZ atKey at *
    rw [List.find?_cons, List.find?_cons]
    by_cases e : p.1 = k
    · have e' : q.1 = k := h1.symm.trans e
      rw [decide_eq_true e, decide_eq_true e']
      exact h2
    · have e' : ¬ q.1 = k := fun z => e (h1.trans z)
      rw [decide_eq_false e, decide_eq_false e']
      exact ih
theorem zx_any {zs : List ZN} {xs : List (NestedKey × Addr × Value)} (r : Paired ZX zs xs) (k : NestedKey) : (zs.any fun z => decide (z.1 = k)) = (atKey xs k).isSome := by
  induction r with
  | nil => rfl
  | @cons p q ps qs h t ih =>
    unfold atKey at *
    rw [List.find?_cons, List.any_cons, ih]
    by_cases e : p.1 = k
    · have e' : q.1 = k := h.1.symm.trans e
      rw [decide_eq_true e, decide_eq_true e']; rfl
    · have e' : ¬ q.1 = k := fun z => e (h.1.trans z)
      rw [decide_eq_false e, decide_eq_false e']; rfl
theorem zx_repl {zs : List ZN} {xs : List (NestedKey × Addr × Value)} (r : Paired ZX zs xs) (k : NestedKey) {y : V} {u : Value} (ry : RelV y u) : Paired ZX (zs.map fun z => if z.1 = k then (z.1, z.2.1, y) else z) (xs.map (putAt k u)) := by
  induction r with
  | nil => exact .nil
  | @cons p q ps qs h t ih =>
    rw [List.map_cons, List.map_cons]
    refine .cons ?_ ih
    obtain ⟨h1, h2, h3⟩ := h
    unfold putAt
    by_cases e : p.1 = k
    · rw [if_pos e, if_pos (h1.symm.trans e)]; exact ⟨h1, h2, ry⟩
    · rw [if_neg e, if_neg (fun z => e (h1.trans z))]; exact ⟨h1, h2, h3⟩
theorem zx_put {zs : List ZN} {xs : List (NestedKey × Addr × Value)} (r : Paired ZX zs xs) (k : NestedKey) {b : Addr} {y : V} {u : Value} (ry : RelV y u) : Paired ZX (putZ zs k b y) (storedH xs k b u) := by
  unfold putZ storedH
  rw [zx_any r k]
  by_cases q : (atKey xs k).isSome = true
  · rw [if_pos q, if_pos q]; exact zx_repl r k ry
  · rw [if_neg q, if_neg q]; exact Paired.snoc r ⟨rfl, rfl, ry⟩
theorem putZ_len (zs : List ZN) (k : NestedKey) (b : Addr) (v : V) : (putZ zs k b v).length ≤ zs.length + 1 := by
  unfold putZ
  split
  · rw [List.length_map]; omega
  · rw [List.length_append]; simp
section
variable {P : Program} {w : World} {H : Hp} {h : Heap} {a : Addr} {zs : List ZN}
theorem dn_of (ok : HOk P w H h) (e : H a = some (dnO w a zs)) (hz : ZOk H zs) : (a == sysModules) = false ∧ zs.length ≤ sizeLine ∧ ∃ xs, Paired ZX zs xs ∧ h.DictOfH (nestedKind P w) a xs := by
  obtain ⟨⟨q1, q2, xs, r, o, es, ep, h1, h2, h3, h4, h5⟩, _⟩ := ok a _ e
  refine ⟨q1, q2, xs, r, o, es, ep, h1, h2, h3, h4, ?_, h5⟩
  have all : ∀ {zs : List ZN} {xs : List (NestedKey × Addr × Value)}, Paired ZX zs xs → ZOk H zs → ∀ x ∈ xs, (nestedKind P w).is h x.1 x.2.1 := by
    intro zs xs q
    induction q with
    | nil => intro _ x hx; exact nomatch hx
    | @cons p q ps qs hq t ih =>
      intro hz x hx
      rcases List.mem_cons.mp hx with e | hx
      · subst e
        obtain ⟨z1, z2⟩ := hz p (List.mem_cons_self ..)
        rw [← hq.1, ← hq.2.1]
        exact ⟨nk_is ok z1 rfl, z2⟩
      · exact ih (fun z hm => hz z (List.mem_cons_of_mem _ hm)) x hx
  exact all r hz
theorem dnO_ok {H' : Hp} {xs : List (NestedKey × Addr × Value)} (q1 : (a == sysModules) = false) (q2 : zs.length ≤ sizeLine) (r : Paired ZX zs xs) (dd : h.DictOfH (nestedKind P w) a xs) : ObjOk P w H' h a (dnO w a zs) := by
  obtain ⟨o, es, ep, h1, h2, h3, h4, _, h5⟩ := dd
  exact ⟨⟨q1, q2, xs, r, o, es, ep, h1, h2, h3, h4, h5⟩, ⟨o, h1⟩, fun g1 g2 ⟨z1, z2, xs, z3, o, es, ep, z4, z5⟩ hk => ⟨z1, z2, xs, z3, o, es, ep, hk _ z4, z5⟩⟩
end
section
variable {X : Cx} {pins : List (Addr × Obj)} {σ : St} {H : Hp} {s : Shared} {a b : Addr} {zs : List ZN} {k : NestedKey} {u : Value} {A : Around} {E : Value → Shared → Prop}
theorem nroom {P : Program} {w : World} (hu : A.units + 65 < cLine) : (nestedKind P w).room A.in1 := by
  show A.units + 1 + 8 < cLine
  omega
theorem n_type (ok : HOk X.prog X.w H s.heap) {w' : World} (e : H a = some (dnO w' a zs)) : s.TypeIs (.ref a) "dict" ∧ (∀ b, Value.ref a = .ref b → ∃ ob, s.heap.get? b = some ob ∧ ob.dict = none) ∧ (a == sysModules) = false := by
  obtain ⟨⟨q1, _, _, _, o, es, ep, h1, h2, _⟩, _⟩ := ok a _ e
  exact ⟨⟨o, h1, h2.1⟩, fun b q => by cases q; exact ⟨o, h1, h2.2.1⟩, q1⟩
/-- k in d -/
theorem n_in {Q : Value → Shared → Prop} (hu : A.units + 65 < cLine) (I : Inv X pins σ H s) (e : H a = some (dnO X.w a zs)) (hz : ZOk H zs) (hk : NK H k (.ref b)) (hd : k.depth ≤ 8) (h : ∀ s', Inv X pins σ H s' → Q (.bool (valZ zs k).isSome) s') :
    wpAny (model X.prog X.w) A (compareOp .In (.ref b) (.ref a)) Q E s := by
  obtain ⟨q1, q2, xs, r, dd⟩ := dn_of I.hok e hz
  refine wpAny_in_heap (nroom hu) (k := k) ⟨nk_is I.hok hk rfl, hd⟩ q1 dd ?_
  have q := (zx_val r k).isSome_eq
  rw [Option.isSome_map] at q
  rw [← q]
  exact h _ (I.tok _)
theorem n_notIn {Q : Value → Shared → Prop} (hu : A.units + 65 < cLine) (I : Inv X pins σ H s) (e : H a = some (dnO X.w a zs)) (hz : ZOk H zs) (hk : NK H k (.ref b)) (hd : k.depth ≤ 8) (h : ∀ s', Inv X pins σ H s' → Q (.bool (!(valZ zs k).isSome)) s') :
    wpAny (model X.prog X.w) A (compareOp .NotIn (.ref b) (.ref a)) Q E s := by
  obtain ⟨q1, q2, xs, r, dd⟩ := dn_of I.hok e hz
  refine PyProof.Rows.wpAny_notIn_heap (nroom hu) (k := k) ⟨nk_is I.hok hk rfl, hd⟩ q1 dd ?_
  have q := (zx_val r k).isSome_eq
  rw [Option.isSome_map] at q
  rw [← q]
  exact h _ (I.tok _)
/-- d[k], there -/
theorem n_get {v : V} {Q : Value → Shared → Prop} (hu : A.units + 65 < cLine) (I : Inv X pins σ H s) (e : H a = some (dnO X.w a zs)) (hz : ZOk H zs) (hk : NK H k (.ref b)) (hd : k.depth ≤ 8) (hv : valZ zs k = some v) (h : ∀ w' s', Inv X pins σ H s' → RelV v w' → Q w' s') :
    wpAny (model X.prog X.w) A (getItem (.ref a) (.ref b)) Q E s := by
  obtain ⟨q1, q2, xs, r, dd⟩ := dn_of I.hok e hz
  obtain ⟨w', hw, rw'⟩ := RelO.some_of (v := v) (o := (atKey xs k).map (·.2)) (by rw [← hv]; exact zx_val r k)
  obtain ⟨p, hp, hp2⟩ := Option.map_eq_some_iff.mp hw
  refine wpAny_getItem_heap (nroom hu) (k := k) ⟨nk_is I.hok hk rfl, hd⟩ dd hp ?_
  rw [hp2]
  exact h w' _ (I.tok _) rw'
/-- d.get(k, x) -/
theorem n_get2 {d : V} {r0 : Value} {Q : Value → Shared → Prop} (hu : A.units + 65 < cLine) (I : Inv X pins σ H s) (e : H a = some (dnO X.w a zs)) (hz : ZOk H zs) (hk : NK H k (.ref b)) (hd : k.depth ≤ 8) (rd : RelV d r0) (h : ∀ w' s', Inv X pins σ H s' → RelV ((valZ zs k).getD d) w' → Q w' s') :
    wpAny (model X.prog X.w) A (call (.builtin "dict.get") [.ref a, .ref b, r0]) Q E s := by
  obtain ⟨q1, q2, xs, r, dd⟩ := dn_of I.hok e hz
  refine call_meetsIn PySem.F.slot_dict_get dd.typeIs PySem.F.entry_dict_get (PySem.F.args_dict_get_3 _ _ _) (meetsH_dict_get_default (nestedKind X.prog X.w) a b q1 r0) ⟨nroom hu, k, xs, ⟨nk_is I.hok hk rfl, hd⟩, dd, h _ _ (I.tok _) ?_⟩
  exact (zx_val r k).getD rd
/-- d[k] = v -/
theorem n_set {v : V} {r0 : Value} {Q : Unit → Shared → Prop} (hu : A.units + 65 < cLine) (I : Inv X pins σ H s) (e : H a = some (dnO X.w a zs)) (hz : ZOk H zs) (hk : NK H k (.ref b)) (hd : k.depth ≤ 8) (hl : zs.length < sizeLine) (rv : RelV v r0)
    (h : ∀ s', Inv X pins σ (upd H a (dnO X.w a (putZ zs k b v))) s' → Q () s') : wpAny (model X.prog X.w) A (setItem (.ref a) (.ref b) r0) Q E s := by
  obtain ⟨q1, q2, xs, r, dd⟩ := dn_of I.hok e hz
  have hxz : xs.length ≤ sizeLine := by rw [← Paired.length r]; exact q2
  refine wpAny_setItem_heap (hsz := hxz) (nroom hu) (k := k) ⟨nk_is I.hok hk rfl, hd⟩ dd fun h' dd' hs => h _ ?_
  have hl2 : (putZ zs k b v).length ≤ sizeLine := by have := putZ_len zs k b v; omega
  have he : ∃ q, h'.get? a = some q := let ⟨q, _, _, hq, _⟩ := dd'; ⟨q, hq⟩
  exact d_write I (by rw [e]; exact True.intro) hs he (dnO_ok q1 hl2 (zx_put r k rv) dd')
end
/-! rules by values -/
def rInN (w : World) (neg : Bool) : R2 := fun x y H Q => ∃ a b zs k, x = .ref b ∧ y = .ref a ∧ H a = some (dnO w a zs) ∧ ZOk H zs ∧ NK H k (.ref b) ∧ k.depth ≤ 8 ∧ Q (.bl (if neg = true then !(valZ zs k).isSome else (valZ zs k).isSome)) H
section
variable {X : Cx}
theorem op_inN (hu : X.A.units + 65 < cLine) : OpR X (compareOp .In) (rInN X.w false) := by
  intro pins s σ H x y v u Q I rx ry h
  obtain ⟨a, b, zs, k, rfl, rfl, e, hz, hk, hd, q⟩ := h
  cases (show v = Value.ref b from rx)
  cases (show u = Value.ref a from ry)
  exact n_in hu I e hz hk hd fun s' I' => ⟨.bl _, H, I', rfl, q⟩
theorem op_notInN (hu : X.A.units + 65 < cLine) : OpR X (compareOp .NotIn) (rInN X.w true) := by
  intro pins s σ H x y v u Q I rx ry h
  obtain ⟨a, b, zs, k, rfl, rfl, e, hz, hk, hd, q⟩ := h
  cases (show v = Value.ref b from rx)
  cases (show u = Value.ref a from ry)
  exact n_notIn hu I e hz hk hd fun s' I' => ⟨.bl _, H, I', rfl, q⟩
end
/-! functions -/
open Classical in
noncomputable def lookNC (w : World) (c : Option Cell) (y : D) : Option (Option D) := match c with
  | some (.dn w' kvs) => if w = w' then (keyT y).map fun k => valK kvs k else none
  | _ => none
noncomputable def lookN (w : World) (S : Sto) (x y : D) : Option (Option D) := match x with
  | .ref n => lookNC w S[n]? y
  | _ => none
noncomputable def oInN (w : World) (neg : Bool) : Op2 := fun y x S => match lookN w S x y with
  | some o => .ok (.bl (if neg = true then !o.isSome else o.isSome)) S
  | none => .bad
noncomputable def oIxN (w : World) : Op2 := fun x y S => match lookN w S x y with
  | some (some d) => .ok d S
  | _ => .bad
noncomputable def fIxN (w : World) (fa fb : EF) : EF := fBin (oIxN w) fa fb
def isN (S : Sto) : D → Bool
  | .ref n => match S[n]? with
    | some (.dn _ _) => true
    | _ => false
  | _ => false
noncomputable def getN (w : World) (x y d : D) (S : Sto) : R D := match lookN w S x y with
  | some o => .ok (o.getD d) S
  | none => .bad
noncomputable def fGetN (w : World) (fo fk fx : EF) : EF := fun env S => (fo env S).bind fun x S1 => if isN S1 x = true then (fk env S1).bind fun y S2 => (fx env S2).bind fun d S3 => getN w x y d S3 else .bad
open Classical in
noncomputable def setNC (w : World) (S : Sto) (n : Nat) (c : Option Cell) (y d : D) : R Unit := match c with
  | some (.dn w' kvs) => if w = w' then match keyT y with
    | some k => if kvs.length < 100000 then .ok () (S.set n (.dn w (putKD kvs k d))) else .bad
    | none => .bad
    else .bad
  | _ => .bad
noncomputable def oSetN (w : World) (x y d : D) (S : Sto) : R Unit := match x with
  | .ref n => setNC w S n S[n]? y d
  | _ => .bad
noncomputable def gSubN (w : World) (fo fi : EF) : GF := fun d env S => (fo env S).bind fun x S1 => (fi env S1).bind fun y S2 => (oSetN w x y d S2).bind fun _ S3 => .ok env S3
def fDictN0 (w : World) : EF := fun _ S => .ok (.ref S.length) (S ++ [.dn w []])
section
variable {K : PySem.W.Frag} {L : List Addr} {H : Hp} {S : Sto}
theorem RN.zok : ∀ {zs : List ZN} {kvs : List (NestedKey × D)}, RN K L H zs kvs → ZOk H zs
  | [], [], _ => fun _ h => nomatch h
  | p :: ps, q :: qs, ⟨_, b, _, d⟩ => fun z hz => by
    rcases List.mem_cons.mp hz with rfl | hz
    · exact b
    · exact RN.zok d z hz
  | [], _ :: _, h => h.elim
  | _ :: _, [], h => h.elim
theorem RN.length : ∀ {zs : List ZN} {kvs : List (NestedKey × D)}, RN K L H zs kvs → zs.length = kvs.length
  | [], [], _ => rfl
  | p :: ps, q :: qs, ⟨_, _, _, d⟩ => by rw [List.length_cons, List.length_cons, RN.length d]
  | [], _ :: _, h => h.elim
  | _ :: _, [], h => h.elim
theorem RN.val (k : NestedKey) : ∀ {zs : List ZN} {kvs : List (NestedKey × D)}, RN K L H zs kvs → (valK kvs k = none ∧ valZ zs k = none) ∨ ∃ v d, valK kvs k = some d ∧ valZ zs k = some v ∧ RD K L H v d
  | [], [], _ => .inl ⟨rfl, rfl⟩
  | p :: ps, q :: qs, ⟨a, _, c, d⟩ => by
    unfold RF.valK valZ
    rw [List.find?_cons, List.find?_cons, a]
    cases q' : decide (q.1 = k) with
    | true => exact .inr ⟨_, _, rfl, rfl, c⟩
    | false => exact RN.val k d
  | [], _ :: _, h => h.elim
  | _ :: _, [], h => h.elim
theorem RN.any (k : NestedKey) : ∀ {zs : List ZN} {kvs : List (NestedKey × D)}, RN K L H zs kvs → (zs.any fun z => decide (z.1 = k)) = kvs.any fun z => decide (z.1 = k)
  | [], [], _ => rfl
  | p :: ps, q :: qs, ⟨a, _, _, d⟩ => by rw [List.any_cons, List.any_cons, RN.any k d, a]
  | [], _ :: _, h => h.elim
  | _ :: _, [], h => h.elim
theorem RN.repl {k : NestedKey} {v : V} {d : D} (rv : RD K L H v d) : ∀ {zs : List ZN} {kvs : List (NestedKey × D)}, RN K L H zs kvs → RN K L H (zs.map fun z => if z.1 = k then (z.1, z.2.1, v) else z) (kvs.map fun z => if z.1 = k then (z.1, d) else z)
  | [], [], _ => trivial
  | p :: ps, q :: qs, ⟨a, b, c, e⟩ => by
    rw [List.map_cons, List.map_cons]
    by_cases h : p.1 = k
    · simp only [if_pos h, if_pos (a.symm.trans h)]
      exact ⟨a, b, rv, RN.repl rv e⟩
    · simp only [if_neg h, if_neg (fun z => h (a.trans z))]
      exact ⟨a, b, c, RN.repl rv e⟩
  | [], _ :: _, h => h.elim
  | _ :: _, [], h => h.elim
theorem RN.snoc {k : NestedKey} {b : Addr} {v : V} {d : D} (h1 : NK H k (.ref b) ∧ k.depth ≤ 8) (rv : RD K L H v d) : ∀ {zs : List ZN} {kvs : List (NestedKey × D)}, RN K L H zs kvs → RN K L H (zs ++ [(k, b, v)]) (kvs ++ [(k, d)])
  | [], [], _ => ⟨rfl, h1, rv, trivial⟩
  | p :: ps, q :: qs, ⟨a, b', c, e⟩ => ⟨a, b', c, RN.snoc h1 rv e⟩
  | [], _ :: _, h => h.elim
  | _ :: _, [], h => h.elim
theorem RN.put {k : NestedKey} {b : Addr} {v : V} {d : D} {zs : List ZN} {kvs : List (NestedKey × D)} (h : RN K L H zs kvs) (h1 : NK H k (.ref b) ∧ k.depth ≤ 8) (rv : RD K L H v d) : RN K L H (putZ zs k b v) (putKD kvs k d) := by
  unfold putZ putKD
  rw [h.any k]
  split
  · exact h.repl rv
  · exact h.snoc h1 rv
theorem lookN_of {w : World} {x y : D} {v u : V} {o : Option D} (rep : Rep K L H S) (rx : RD K L H v x) (ry : RD K L H u y) (h : lookN w S x y = some o) :
    ∃ a b zs k, v = .ref a ∧ u = .ref b ∧ H a = some (dnO w a zs) ∧ ZOk H zs ∧ NK H k (.ref b) ∧ k.depth ≤ 8 ∧ ((o = none ∧ valZ zs k = none) ∨ ∃ d z, o = some d ∧ valZ zs k = some z ∧ RD K L H z d) := by
  unfold lookN at h
  cases rx with
  | @ref a n ha =>
    obtain ⟨c, hc, rc⟩ := rep.adr ha
    simp only [hc] at h
    unfold lookNC at h
    cases c with
    | dn w' kvs =>
      simp only at h
      split at h
      · rename_i ew
        subst ew
        cases hk : keyT y with
        | none => rw [hk] at h; cases h
        | some k =>
          rw [hk] at h
          obtain ⟨b, rfl, k1, k2⟩ := ry.keyt hk
          obtain ⟨zs, hz, rn⟩ := rc
          have h : valK kvs k = o := Option.some.inj h
          subst h
          refine ⟨a, b, zs, k, rfl, rfl, hz, rn.zok, k1, k2, ?_⟩
          rcases rn.val k with ⟨e1, e2⟩ | ⟨z, d, e1, e2, e3⟩
          · exact .inl ⟨e1, e2⟩
          · exact .inr ⟨d, z, e1, e2, e3⟩
      · cases h
    | _ => cases h
  | _ => cases h
end
section
variable {K : PySem.W.Frag} {E : XK} {w : World}
theorem f_inN {neg : Bool} : OpF K E (rInN w neg) (oInN w neg) := by
  intro L H S x y d1 d2 Q rep rx ry q
  unfold oInN at q
  cases h : lookN w S d2 d1 with
  | none => rw [h] at q; exact q.elim
  | some o =>
    rw [h] at q
    simp only at q
    obtain ⟨a, b, zs, k, rfl, rfl, e, hz, hk, hd, r⟩ := lookN_of rep ry rx h
    refine ⟨a, b, zs, k, rfl, rfl, e, hz, hk, hd, EndV.val q rep ?_⟩
    rcases r with ⟨e1, e2⟩ | ⟨d, z, e1, e2, _⟩
    · rw [e1, e2]; exact .bl _
    · rw [e1, e2]; exact .bl _
end
section
variable {X : Cx} {E : XK} {o i e f : Expr} {fo fi fk fx : EF} {pos apos cpos : Pos}
theorem xIxN (hu : X.A.units + 65 < cLine) (ho : PE X o (tE X.K E fo)) (hi : PE X i (tE X.K E fi)) (hs : PlainIx i) : PE X (.Subscript o i pos) (tE X.K E (fIxN X.w fo fi)) := by
  refine ⟨fun pins s σ H Q I h => ?_⟩
  obtain ⟨L, env, S, rep, re, h⟩ := h
  refine subD_of PySem.F.slot_dict_getitem.lookup hs (thn (ho.run pins s σ H (fun x H1 => tE X.K E fi σ H1 fun y H2 => ∃ a b zs k v, x = .ref a ∧ y = .ref b ∧ H2 a = some (dnO X.w a zs) ∧ ZOk H2 zs ∧ NK H2 k (.ref b) ∧ k.depth ≤ 8 ∧ valZ zs k = some v ∧ Q v H2) I
    ⟨L, env, S, rep, re, (End.bind h).imp fun x S1 L1 H1 e1 rep1 h1 v rv => ⟨L1, env, S1, rep1, re.mono e1, (End.bind h1).imp fun y S2 L2 H2 e2 rep2 h2 u ru => ?_⟩⟩)
    fun ov s1 ⟨x, H1, I1, rx, q1⟩ => thn (hi.run pins s1 σ H1 _ I1 q1) fun iv s2 ⟨y, H2, I2, ry, a, b, zs, k, v, ex, ey, e, hz, hk, hd, hv, q2⟩ => ?_)
  · unfold oIxN at h2
    cases hl : lookN X.w S2 x y with
    | none => rw [hl] at h2; exact h2.elim
    | some r =>
      rw [hl] at h2
      cases r with
      | none => exact h2.elim
      | some d =>
        simp only at h2
        obtain ⟨a, b, zs, k, rfl, rfl, e, hz, hk, hd, r⟩ := lookN_of rep2 (rv.mono e2) ru hl
        rcases r with ⟨z, _⟩ | ⟨d', z, z1, z2, z3⟩
        · cases z
        · cases z1
          exact ⟨a, b, zs, k, z, rfl, rfl, e, hz, hk, hd, z2, EndV.val h2 rep2 z3⟩
  · subst ex; subst ey
    obtain rfl : ov = Value.ref a := rx
    obtain rfl : iv = Value.ref b := ry
    exact ⟨(n_type I2.hok e).1, n_get hu I2 e hz hk hd hv fun w' s3 I3 rw' => ⟨v, H2, I3, rw', q2⟩⟩
theorem isN_of {K : PySem.W.Frag} {L : List Addr} {H : Hp} {S : Sto} {x : D} {v : V} (rep : Rep K L H S) (rx : RD K L H v x) (h : isN S x = true) : ∃ a w zs, v = .ref a ∧ H a = some (dnO w a zs) := by
  cases rx with
  | @ref a n ha =>
    obtain ⟨c, hc, rc⟩ := rep.adr ha
    unfold isN at h
    simp only [hc] at h
    cases c with
    | dn w kvs =>
      obtain ⟨zs, hz, _⟩ := rc
      exact ⟨a, w, zs, rfl, hz⟩
    | _ => cases h
  | _ => cases h
theorem xGetN (hu : X.A.units + 65 < cLine) (ho : PE X o (tE X.K E fo)) (he : PE X e (tE X.K E fk)) (hf : PE X f (tE X.K E fx)) (m : M2 X o "get" apos e f cpos) : PE X (.Call (.Attribute o "get" apos) [e, f] [] cpos) (tE X.K E (fGetN X.w fo fk fx)) := by
  refine ⟨fun pins s σ H Q I h => ?_⟩
  obtain ⟨L, env, S, rep, re, h⟩ := h
  refine wpAny_Call_method m.base m.few m.line PySem.F.plainAttrs_dict PySem.F.slot_dict_get PySem.F.type_dict_get (thn (ho.run pins s σ H (fun x H1 => ∃ a w' zs', x = .ref a ∧ H1 a = some (dnO w' a zs') ∧ tE X.K E fk σ H1 fun y H2 => tE X.K E fx σ H2 fun z H3 =>
      ∃ b zs k, y = .ref b ∧ H3 a = some (dnO X.w a zs) ∧ ZOk H3 zs ∧ NK H3 k (.ref b) ∧ k.depth ≤ 8 ∧ Q ((valZ zs k).getD z) H3) I
    ⟨L, env, S, rep, re, (End.bind h).imp fun x S1 L1 H1 e1 rep1 h1 v rv => ?_⟩) fun u s1 ⟨x, H1, I1, rx, a, w', zs', ex, ea, q1⟩ => ?_)
  · by_cases hn : isN S1 x = true
    · rw [if_pos hn] at h1
      obtain ⟨a, w', zs', rfl, ea⟩ := isN_of rep1 rv hn
      refine ⟨a, w', zs', rfl, ea, L1, env, S1, rep1, re.mono e1, (End.bind h1).imp fun y S2 L2 H2 e2 rep2 h2 u ru => ⟨L2, env, S2, rep2, (re.mono e1).mono e2, (End.bind h2).imp fun d S3 L3 H3 e3 rep3 h3 z rz => ?_⟩⟩
      unfold getN at h3
      cases hl : lookN X.w S3 x y with
      | none => rw [hl] at h3; exact h3.elim
      | some r =>
        rw [hl] at h3
        simp only at h3
        obtain ⟨a', b, zs, k, ea', rfl, e, hz, hk, hd, r⟩ := lookN_of rep3 ((rv.mono e2).mono e3) (ru.mono e3) hl
        cases ea'
        refine ⟨b, zs, k, rfl, e, hz, hk, hd, EndV.val h3 rep3 ?_⟩
        rcases r with ⟨z1, z2⟩ | ⟨d', z', z1, z2, z3⟩
        · rw [z1, z2]; exact rz
        · rw [z1, z2]; exact z3
    · rw [if_neg hn] at h1; exact h1.elim
  · subst ex
    obtain rfl : u = Value.ref a := rx
    obtain ⟨t1, t2, _⟩ := n_type I1.hok ea
    refine ⟨t1, t2, ?_⟩
    rw [m.trees]
    refine Calls.callWith_builtin rfl (Calls.evalArgs_plain (Calls.spliced_cons (thn (he.run pins s1 σ H1 _ I1 q1) fun iv s2 ⟨y, H2, I2, ry, q2⟩ =>
      Calls.spliced_cons (thn (hf.run pins s2 σ H2 _ I2 q2) fun fv s3 ⟨z, H3, I3, rz, b, zs, k, ey, e, hz, hk, hd, q3⟩ => Calls.spliced_nil ?_))))
    subst ey
    obtain rfl : iv = Value.ref b := ry
    exact n_get2 hu I3 e hz hk hd rz fun w' s4 I4 rw' => ⟨_, H3, I4, rw', q3⟩
theorem pset_N (hu : X.A.units + 65 < cLine) : PSet X (fun o i v H Q => ∃ a b zs k, o = .ref a ∧ i = .ref b ∧ H a = some (dnO X.w a zs) ∧ ZOk H zs ∧ NK H k (.ref b) ∧ k.depth ≤ 8 ∧ zs.length < sizeLine ∧ Q (upd H a (dnO X.w a (putZ zs k b v)))) := by
  intro pins s σ H o i v ov iv r Q I ro ri rv h
  obtain ⟨a, b, zs, k, rfl, rfl, e, hz, hk, hd, hl, q⟩ := h
  obtain rfl : ov = Value.ref a := ro
  obtain rfl : iv = Value.ref b := ri
  exact n_set hu I e hz hk hd hl rv fun s1 I1 => ⟨_, I1, q⟩
theorem xgSubN (hu : X.A.units + 65 < cLine) (ho : PE X o (tE X.K E fo)) (hi : PE X i (tE X.K E fi)) (ha : ∀ v, assign (.Subscript o i pos) X.env v = (do
      let ov ← holding [v] (eval o X.env)
      let iv ← holding [v, ov] (eval i X.env)
      standAt pos
      holding [v, ov, iv] (setItem ov iv v)
      release [v, ov, iv] []) := by intro _; rfl) : PG X (.Subscript o i pos) (tG X.K E (gSubN X.w fo fi)) := by
  refine ⟨fun pins s σ H v u Q I r q => (pg_sub ho hi (pset_N hu) ha).run pins s σ H v u Q I r ?_⟩
  obtain ⟨L, env, S, d, rep, re, rd, q⟩ := q
  refine ⟨L, env, S, rep, re, (End.bind q).imp fun x S1 L1 H1 e1 rep1 h1 v1 rv => ?_⟩
  refine ⟨L1, env, S1, rep1, re.mono e1, (End.bind h1).imp fun y S2 L2 H2 e2 rep2 h2 w rw' => ?_⟩
  have h3 := End.bind h2
  have rx := rv.mono e2
  have rd2 := (rd.mono e1).mono e2
  unfold oSetN at h3
  cases rx with
  | @ref a n hn =>
    obtain ⟨c, hc, rc⟩ := rep2.adr hn
    simp only [hc] at h3
    unfold setNC at h3
    cases c with
    | dn w' kvs =>
      simp only at h3
      split at h3
      · rename_i ew
        subst ew
        cases hk : keyT y with
        | none => rw [hk] at h3; exact h3.elim
        | some k =>
          rw [hk] at h3
          obtain ⟨b, rfl, k1, k2⟩ := rw'.keyt hk
          obtain ⟨zs, hz, rn⟩ := rc
          by_cases hl : kvs.length < 100000
          · simp only [if_pos hl] at h3
            refine ⟨a, b, zs, k, rfl, rfl, hz, rn.zok, k1, k2, by rw [rn.length]; exact sz5l hl, ?_⟩
            have gr : Gr L2 H2 L2 (upd H2 a (dnO X.w a (putZ zs k b v))) := Gr.wr rep2 hn
            obtain ⟨ex, rep3⟩ := rep2.write (c := .dn X.w (putKD kvs k d)) hn ⟨_, upd_same, (rn.put ⟨k1, k2⟩ rd2).grow gr⟩
            have h4 := h3 _ _ ex rep3
            exact h4 _ _ (Ex.refl _ _) rep3 σ (((re.mono e1).mono e2).mono ex)
          · simp only [if_neg hl] at h3; exact h3.elim
      · exact h3.elim
    | _ => exact h3.elim
  | _ => exact h3.elim
def tDNewN (w : World) : TE := fun _ H Q => ∀ p, H p = none → Q (.ref p) (upd H p (dnO w p []))
theorem pe_dnewN : PE X (.Dict [] [] pos) (tDNewN X.w) := ⟨fun pins s σ H Q I h =>
  wpAny_Dict_empty ⟨.ref s.heap.objs.size, _, I.laid (a := s.heap.objs.size) (o := dnO X.w s.heap.objs.size []) (t' := s.toks) (fun _ _ q => Heap.get?_push_of_some _ q) (Nat.le_refl _)
    (dnO_ok (P := X.prog) (beq_eq_false_iff_ne.mpr (Ne.symm (Nat.ne_of_lt I.big))) (Nat.zero_le _) .nil (Heap.DictOfH.new _)), rfl, h _ (I.hok.fresh (Nat.le_refl _))⟩⟩
theorem xDictN0 : PE X (.Dict [] [] pos) (tE X.K E (fDictN0 X.w)) :=
  monoE pe_dnewN fun σ H Q h => by
    obtain ⟨L, env, S, rep, re, h⟩ := h
    intro p hp
    have ex := Ex.newc (L := L) (o := dnO X.w p []) hp
    refine EndV.val (h.later ex) (rep.newc hp ⟨[], upd_same, trivial⟩) (.ref ?_)
    rw [← rep.len, List.getElem?_append_right (Nat.le_refl _)]
    simp
end
/-! list(d) -/
def keysN (kvs : List (NestedKey × D)) : List D := kvs.map fun kv => dOf kv.1
def oListN : OpN := fun ds S => match ds with
  | [.ref n] => match S[n]? with
    | some (.dn _ kvs) => .ok (.ref S.length) (S ++ [.lst (keysN kvs)])
    | _ => oListT [.ref n] S
  | ds => oListT ds S
def rListN (K : PySem.W.Frag) : List V → Hp → VK → Prop := fun xs H Q => rListT K xs H Q ∨
  ∃ a w zs, xs = [V.ref a] ∧ H a = some (dnO w a zs) ∧ ∀ p, H p = none → Q (.ref p) (upd H p (.lst (zs.map fun z => V.ref z.2.1)))
theorem zx_refs {zs : List ZN} {xs : List (NestedKey × Addr × Value)} (r : Paired ZX zs xs) : Vals (zs.map fun z => V.ref z.2.1) (xs.map fun x => Value.ref x.2.1) := by
  induction r with
  | nil => exact .nil
  | @cons p q ps qs h t ih =>
    rw [List.map_cons, List.map_cons]
    exact .cons (by rw [h.2.1]; exact rfl) ih
section
variable {X : Cx}
theorem call_listN (hc : X.calm = true) : CallR X (.type "list") (rListN X.K) := by
  refine (call_listT hc).or ?_
  intro pins s σ H xs us Q I r h
  obtain ⟨d, w, zs, rfl, hd, q⟩ := h
  obtain ⟨u, rfl, rx⟩ := r.one
  cases rx
  obtain ⟨⟨hs, z, ks, pr, o, es, ep, ho, hx, hdt, he, hn⟩, _⟩ := I.hok d _ hd
  have l1 : es.size = ks.length := by rw [← Array.length_toList, he, List.length_map]
  have l2 : zs.length = ks.length := Paired.length pr
  refine PySem.W.kdl_call (kdl_raw hs hx hdt) (I.ok.hd hc) ho (by omega) fun h' tk acc' c' kp e it => ?_
  have ea : acc'.toList = ks.map fun x => Value.ref x.2.1 := by
    have hl : acc'.toList.length = ks.length := by rw [Array.length_toList, it.1]; exact l1
    apply List.ext_getElem?
    intro j
    rw [List.getElem?_map]
    cases hj : acc'.toList[j]? with
    | none =>
      have h1 := List.getElem?_eq_none_iff.mp hj
      rw [List.getElem?_eq_none (by omega)]
      all_goals rfl
    | some v =>
      obtain ⟨en, hen, hv⟩ := it.2 j v (by rw [← Array.getElem?_toList]; exact hj)
      have qe : es[j]? = (ks[j]?).map (fun x => (⟨x.1.hash w, .ref x.2.1, x.2.2⟩ : DictEntry)) := by rw [← Array.getElem?_toList, he, List.getElem?_map]
      rw [hen] at qe
      cases hb : ks[j]? with
      | none =>
        rw [hb] at qe
        exact nomatch (show some en = none from qe)
      | some b =>
        rw [hb] at qe
        have e2 : en = (⟨b.1.hash w, .ref b.2.1, b.2.2⟩ : DictEntry) := Option.some.inj qe
        rw [hv, e2]
        all_goals rfl
  have rv : Vals (zs.map fun z => V.ref z.2.1) acc'.toList := by rw [ea]; exact zx_refs pr
  have hz : (zs.map fun z => V.ref z.2.1).length ≤ sizeLine := by rw [List.length_map]; exact z
  refine ⟨.ref s.heap.objs.size, _, I.laid (t' := tk) (o := .lst (zs.map fun z => V.ref z.2.1)) kp (Nat.le_refl _) ?_, rfl, q _ (I.hok.fresh (Nat.le_refl _))⟩
  exact ⟨hz, acc'.toList, c', rv, by rw [Array.toArray_toList]; exact e⟩
end
section
variable {K : PySem.W.Frag} {E : XK} {L : List Addr} {H : Hp}
theorem RN.keys : ∀ {zs : List ZN} {kvs : List (NestedKey × D)}, RN K L H zs kvs → RDs K L H (zs.map fun z => V.ref z.2.1) (keysN kvs)
  | [], [], _ => .nil
  | p :: ps, q :: qs, ⟨a, b, _, d⟩ => .cons (by show RD K L H (.ref p.2.1) (dOf q.1); rw [← a]; exact NK.rd b.1) (RN.keys d)
  | [], _ :: _, h => h.elim
  | _ :: _, [], h => h.elim
theorem f_listN : CaF K E (rListN K) oListN := by
  intro L H S xs ds Q rep rs q
  by_cases hd : ∃ n w kvs, ds = [.ref n] ∧ S[n]? = some (.dn w kvs)
  · obtain ⟨n, w, kvs, rfl, hn⟩ := hd
    obtain ⟨x, rfl, r⟩ := rs.one
    cases r with
    | @ref a _ ha =>
      obtain ⟨c, hc, rc⟩ := rep.adr ha
      rw [hn] at hc
      cases hc
      obtain ⟨zs, hz, rn⟩ := rc
      have q : EndV K E L H Q (.ok (.ref S.length) (S ++ [.lst (keysN kvs)])) := by
        unfold oListN at q
        simp only [hn] at q
        exact q
      exact .inr ⟨a, w, zs, rfl, hz, fun p hp => newList q rep rn.keys p hp⟩
  · have e : oListN ds S = oListT ds S := by
      unfold oListN
      split
      · rename_i n
        split
        · rename_i w kvs h
          exact absurd ⟨n, w, kvs, rfl, h⟩ hd
        · rfl
      · rfl
    rw [e] at q
    exact .inl (f_listT L H S xs ds Q rep rs q)
end
end RF

/-! rewriting lemmas for dicts with nested keys -/
namespace RF
open PySem L2
section
variable {env : Lc} {S : Sto} {n : Nat} {w : World} {x y d : D} {kvs : List (NestedKey × D)} {fa fb fc : EF} {neg : Bool}
theorem lookN_ref : lookN w S (.ref n) y = lookNC w S[n]? y := (rfl)
theorem lookNC_dn : lookNC w (some (.dn w kvs)) y = (keyT y).map fun k => valK kvs k := by unfold lookNC; exact if_pos rfl
def inNK (S : Sto) (neg : Bool) : Option (Option D) → R D
  | some o => .ok (.bl (if neg = true then !o.isSome else o.isSome)) S
  | none => .bad
theorem o_inN : oInN w neg y x S = inNK S neg (lookN w S x y) := by unfold oInN inNK; rfl
theorem o_inNK {o : Option D} : inNK S neg (some o) = .ok (.bl (if neg = true then !o.isSome else o.isSome)) S := (rfl)
theorem ap_fIxN : fIxN w fa fb env S = fBin (oIxN w) fa fb env S := (rfl)
theorem o_ixN : oIxN w x y S = getDK S (lookN w S x y) := by unfold oIxN getDK; rfl
def isNC : Option Cell → Bool
  | some (.dn _ _) => true
  | _ => false
theorem o_isDn : isN S (.ref n) = isNC S[n]? := by unfold isN isNC; rfl
theorem o_isNC : isNC (some (.dn w kvs)) = true := (rfl)
noncomputable def gtK (w : World) (fk fx : EF) (env : Lc) : D → Sto → R D := fun x S1 => if isN S1 x = true then (fk env S1).bind fun y S2 => (fx env S2).bind fun d S3 => getN w x y d S3 else .bad
noncomputable def gtK2 (w : World) (x : D) (fx : EF) (env : Lc) : D → Sto → R D := fun y S2 => (fx env S2).bind fun d S3 => getN w x y d S3
noncomputable def gtK3 (w : World) (x y : D) : D → Sto → R D := fun d S3 => getN w x y d S3
theorem ap_fGetN : fGetN w fa fb fc env S = (fa env S).bind (gtK w fb fc env) := (rfl)
theorem ap_gtK : gtK w fb fc env x S = if isN S x = true then (fb env S).bind (gtK2 w x fc env) else .bad := (rfl)
theorem ap_gtK2 : gtK2 w x fc env y S = (fc env S).bind (gtK3 w x y) := (rfl)
theorem ap_gtK3 : gtK3 w x y d S = getN w x y d S := (rfl)
def getNK (S : Sto) (d : D) : Option (Option D) → R D
  | some o => .ok (o.getD d) S
  | none => .bad
theorem o_getN : getN w x y d S = getNK S d (lookN w S x y) := by unfold getN getNK; rfl
theorem o_getNK {o : Option D} : getNK S d (some o) = .ok (o.getD d) S := (rfl)
theorem oSetN_ref : oSetN w (.ref n) y d S = setNC w S n S[n]? y d := (rfl)
def setNK (w : World) (S : Sto) (n : Nat) (kvs : List (NestedKey × D)) (d : D) : Option NestedKey → R Unit
  | some k => if kvs.length < 100000 then .ok () (S.set n (.dn w (putKD kvs k d))) else .bad
  | none => .bad
theorem setNC_dn : setNC w S n (some (.dn w kvs)) y d = setNK w S n kvs d (keyT y) := by
  unfold setNC
  exact if_pos rfl
theorem setNK_some {k : NestedKey} : setNK w S n kvs d (some k) = if kvs.length < 100000 then .ok () (S.set n (.dn w (putKD kvs k d))) else .bad := (rfl)
noncomputable def gnK (w : World) (fi : EF) (d : D) (env : Lc) : D → Sto → R Lc := fun x S1 => (fi env S1).bind fun y S2 => (oSetN w x y d S2).bind fun _ S3 => .ok env S3
noncomputable def gnK2 (w : World) (x d : D) (env : Lc) : D → Sto → R Lc := fun y S2 => (oSetN w x y d S2).bind fun _ S3 => .ok env S3
def gnK3 (env : Lc) : Unit → Sto → R Lc := fun _ S3 => .ok env S3
theorem ap_gSubN : gSubN w fa fb d env S = (fa env S).bind (gnK w fb d env) := (rfl)
theorem ap_gnK : gnK w fb d env x S = (fb env S).bind (gnK2 w x d env) := (rfl)
theorem ap_gnK2 : gnK2 w x d env y S = (oSetN w x y d S).bind (gnK3 env) := (rfl)
theorem ap_gnK3 {u : Unit} : gnK3 env u S = .ok env S := (rfl)
theorem ap_fDictN0 : fDictN0 w env S = .ok (.ref S.length) (S ++ [.dn w []]) := (rfl)
def listNC (S : Sto) (n : Nat) : Option Cell → R D
  | some (.dn _ kvs) => .ok (.ref S.length) (S ++ [.lst (keysN kvs)])
  | _ => oListT [.ref n] S
theorem o_listN : oListN [.ref n] S = listNC S n S[n]? := by unfold oListN listNC; rfl
theorem o_listNC : listNC S n (some (.dn w kvs)) = .ok (.ref S.length) (S ++ [.lst (keysN kvs)]) := (rfl)
theorem o_listNL {xs : List D} : listNC S n (some (.lst xs)) = oListT [.ref n] S := (rfl)
def prpK (C : Addr) (F : FF) (n : Nat) : D → Sto → R D := fun x S1 => match fldsOf C S1 x with
  | some _ => if 1 = n then (F [x] S1).nox else .bad
  | none => .bad
def prpK2 (F : FF) (n : Nat) (x : D) (S1 : Sto) : Option (Nat × List (Str × D)) → R D
  | some _ => if 1 = n then (F [x] S1).nox else .bad
  | none => .bad
theorem ap_fProp {C : Addr} {F : FF} : fProp C F n fa env S = (fa env S).bind (prpK C F n) := (rfl)
theorem ap_prpK {C : Addr} {F : FF} : prpK C F n x S = prpK2 F n x S (fldsOf C S x) := by unfold prpK prpK2; rfl
theorem ap_prpK2 {F : FF} {r : Nat × List (Str × D)} : prpK2 F n x S (some r) = if 1 = n then (F [x] S).nox else .bad := (rfl)
theorem o_someMap {α β : Type} {f : α → β} {a : α} : (some a).map f = some (f a) := (rfl)
end
section
variable {X : Cx} {E : XK} {e : Expr} {fo : EF} {pos : Pos} {C p g : Addr} {f : Str} {k n : Nat} {fd : FuncData} {ps : List Str} {F : FF}
theorem xProp (c : Cls X.K C) (hp : PropOf X.K C f p g) (Fo : FnOk X.prog X.w X.K X.mg X.base CX0 k g fd ps (spF X.K n F)) (hr : Room (k + 1) X.A) (hb : Binds X.K fd ps []) (he : PE X e (tE X.K E fo)) (hab : attributeBase e f X.env (eval e X.env) = eval e X.env := by rfl) :
    PE X (.Attribute e f pos) (tE X.K E (fProp C F n fo)) := monoE (pe_prop he c hp Fo hr hb .nil pass0 hab) fun σ H Q h => by
  obtain ⟨L, env, S, rep, re, h⟩ := h
  refine ⟨L, env, S, rep, re, (End.bind h).imp fun x S1 L1 H1 e1 rep1 h1 v rv => ?_⟩
  cases q : fldsOf C S1 x with
  | none => rw [q] at h1; exact h1.elim
  | some r =>
    obtain ⟨i, fl⟩ := r
    rw [q] at h1
    simp only at h1
    obtain ⟨a, dx, ws, rfl, ha, h2, rk⟩ := fldsOf_of rep1 rv q
    by_cases hn : 1 = n
    · rw [if_pos hn] at h1
      exact ⟨a, dx, ws, rfl, h2, hn, L1, [x], S1, rep1, .cons rv .nil, EndV.nox h1⟩
    · rw [if_neg hn] at h1; exact h1.elim
end
end RF

/-! < and > of data -/
namespace RF
open PySem L2
def rGtP (K : PySem.W.Frag) : R2 := fun x y H Q => ∃ p q, Dp K H x p ∧ Dp K H y q ∧ PySem.W.alike p q = true ∧ p ≠ .none ∧ p.depth ≤ 60 ∧ Q (.bl (PySem.W.dataLt q p)) H
def rLtP (K : PySem.W.Frag) : R2 := fun x y H Q => ∃ p q, Dp K H x p ∧ Dp K H y q ∧ PySem.W.alike p q = true ∧ p ≠ .none ∧ p.depth ≤ 60 ∧ Q (.bl (PySem.W.dataLt p q)) H
theorem op_gtP {X : Cx} (hu : X.A.units + 65 < cLine) : OpR X (compareOp .Gt) (rGtP X.K) := by
  intro pins s σ H x y v u Q I rx ry h
  obtain ⟨d, e, hd, he, ha, hn, hdep, q⟩ := h
  obtain ⟨as, r1⟩ := Dp.reads I d x v hd rx
  obtain ⟨bs, r2⟩ := Dp.reads I e y u he ry
  exact PySem.W.gt_data r1 r2 ha hn (by have := Nat.min_le_left d.depth e.depth; omega) ⟨.bl _, H, I, rfl, q⟩
theorem op_ltP {X : Cx} (hu : X.A.units + 65 < cLine) : OpR X (compareOp .Lt) (rLtP X.K) := by
  intro pins s σ H x y v u Q I rx ry h
  obtain ⟨d, e, hd, he, ha, hn, hdep, q⟩ := h
  obtain ⟨as, r1⟩ := Dp.reads I d x v hd rx
  obtain ⟨bs, r2⟩ := Dp.reads I e y u he ry
  exact PySem.W.lt_data r1 r2 ha hn (by have := Nat.min_le_left d.depth e.depth; omega) ⟨.bl _, H, I, rfl, q⟩
def isNonP : PyData → Bool
  | .none => true
  | _ => false
def cmpP (f : PyData → PyData → Bool) (S : Sto) : Option PyData → Option PyData → R D
  | some p, some q => if (PySem.W.alike p q && !isNonP p && decide (p.depth ≤ 60)) = true then .ok (.bl (f p q)) S else .bad
  | _, _ => .bad
def oGtP : Op2 := fun x y S => cmpP (fun p q => PySem.W.dataLt q p) S (toP S 20 x) (toP S 20 y)
def oLtP : Op2 := fun x y S => cmpP (fun p q => PySem.W.dataLt p q) S (toP S 20 x) (toP S 20 y)
section
variable {K : PySem.W.Frag} {E : XK}
theorem cmpP_of {f : PyData → PyData → Bool} {L : List Addr} {H : Hp} {S : Sto} {x y : V} {d1 d2 : D} {Q : VK} (rep : Rep K L H S) (r1 : RD K L H x d1) (r2 : RD K L H y d2) (q : EndV K E L H Q (cmpP f S (toP S 20 d1) (toP S 20 d2))) :
    ∃ p q, Dp K H x p ∧ Dp K H y q ∧ PySem.W.alike p q = true ∧ p ≠ .none ∧ p.depth ≤ 60 ∧ Q (.bl (f p q)) H := by
  cases h1 : toP S 20 d1 with
  | none => rw [h1] at q; exact q.elim
  | some p1 =>
    cases h2 : toP S 20 d2 with
    | none => rw [h1, h2] at q; exact q.elim
    | some p2 =>
      rw [h1, h2] at q
      unfold cmpP at q
      simp only at q
      split at q
      · rename_i hc
        rw [Bool.and_eq_true, Bool.and_eq_true] at hc
        obtain ⟨a1, _⟩ := toP_of rep 20 _ _ _ r1 h1
        obtain ⟨b1, _⟩ := toP_of rep 20 _ _ _ r2 h2
        exact ⟨p1, p2, a1, b1, hc.1.1, fun z => by rw [z] at hc; simp [isNonP] at hc, of_decide_eq_true hc.2, EndV.val q rep (.bl _)⟩
      · exact q.elim
theorem f_gtP : OpF K E (rGtP K) oGtP := fun L H S x y d1 d2 Q rep r1 r2 q => cmpP_of (f := fun p q => PySem.W.dataLt q p) rep r1 r2 q
theorem f_ltP : OpF K E (rLtP K) oLtP := fun L H S x y d1 d2 Q rep r1 r2 q => cmpP_of (f := fun p q => PySem.W.dataLt p q) rep r1 r2 q
end
/-! pairs of ints -/
def ltT (a b : Int × Int) : Bool := decide (a.1 < b.1 ∨ (a.1 = b.1 ∧ a.2 < b.2))
section
variable {S : Sto} {a b : Int × Int}
theorem o_gtT : oGtP (eT a) (eT b) S = .ok (.bl (ltT b a)) S := by
  unfold oGtP
  rw [fT_eT, fT_eT]
  unfold cmpP
  have h : (PySem.W.alike (pT a) (pT b) && !isNonP (pT a) && decide ((pT a).depth ≤ 60)) = true := by
    unfold pT
    simp [PySem.W.alike, PySem.W.alikeAll, isNonP, PyData.depth, PyData.depthAll]
  simp only [h, if_true]
  unfold pT ltT
  rw [PySem.W.dataLt_ii]
theorem o_ltT : oLtP (eT a) (eT b) S = .ok (.bl (ltT a b)) S := by
  unfold oLtP
  rw [fT_eT, fT_eT]
  unfold cmpP
  have h : (PySem.W.alike (pT a) (pT b) && !isNonP (pT a) && decide ((pT a).depth ≤ 60)) = true := by
    unfold pT
    simp [PySem.W.alike, PySem.W.alikeAll, isNonP, PyData.depth, PyData.depthAll]
  simp only [h, if_true]
  unfold pT ltT
  rw [PySem.W.dataLt_ii]
end
end RF

/-! x in t, t a tuple; kinds of data that stand for values of a type; marks -/
namespace RF
open PySem L2
def rInTu (K : PySem.W.Frag) (neg : Bool) : R2 := fun x y H Q => ∃ d ds, Dp K H x d ∧ Dp K H y (.tuple ds) ∧ SeqAt.shaped d = true ∧ SeqAt.shaped (.tuple ds) = true ∧ Q (.bl (if neg = true then !(ds.any fun z => PyData.eqv z d) else ds.any fun z => PyData.eqv z d)) H
theorem lay_tup {ds : List PyData} (h : SeqAt.shaped (.tuple ds) = true) : PyData.canLayAll0 ds = true := by
  have := SeqAt.canLay_of_shaped h
  simpa only [PyData.canLay0] using this
theorem op_inTu {X : Cx} (hu : X.A.units + 65 < cLine) : OpR X (compareOp .In) (rInTu X.K false) := by
  intro pins s σ H x y v u Q I rx ry h
  obtain ⟨d, ds, hd, he, sd, se, q⟩ := h
  obtain ⟨as, r1⟩ := Dp.reads I d x v hd rx
  obtain ⟨bs, r2⟩ := Dp.reads I (.tuple ds) y u he ry
  exact SeqAt.in_tuple_reads r2 r1 (lay_tup se) (SeqAt.canLay_of_shaped sd) (PyProof.Rows.room_in_shaped sd hu) ⟨.bl _, H, I, rfl, q⟩
theorem op_notInTu {X : Cx} (hu : X.A.units + 65 < cLine) : OpR X (compareOp .NotIn) (rInTu X.K true) := by
  intro pins s σ H x y v u Q I rx ry h
  obtain ⟨d, ds, hd, he, sd, se, q⟩ := h
  obtain ⟨as, r1⟩ := Dp.reads I d x v hd rx
  obtain ⟨bs, r2⟩ := Dp.reads I (.tuple ds) y u he ry
  exact SeqAt.notIn_tuple_reads r2 r1 (lay_tup se) (SeqAt.canLay_of_shaped sd) (PyProof.Rows.room_in_shaped sd hu) ⟨.bl _, H, I, rfl, q⟩
def oInTu (neg : Bool) : Op2 := fun x y S => match toP S 20 x, toP S 20 y with
  | some p, some (.tuple qs) => .ok (.bl (if neg = true then !(qs.any fun z => PyData.eqv z p) else qs.any fun z => PyData.eqv z p)) S
  | _, _ => .bad
theorem f_inTu {K : PySem.W.Frag} {E : XK} {neg : Bool} : OpF K E (rInTu K neg) (oInTu neg) := by
  intro L H S x y d1 d2 Q rep r1 r2 q
  unfold oInTu at q
  cases h1 : toP S 20 d1 with
  | none => rw [h1] at q; exact q.elim
  | some p1 =>
    cases h2 : toP S 20 d2 with
    | none => rw [h1, h2] at q; exact q.elim
    | some p2 =>
      rw [h1, h2] at q
      obtain ⟨a1, a2⟩ := toP_of rep 20 _ _ _ r1 h1
      obtain ⟨b1, b2⟩ := toP_of rep 20 _ _ _ r2 h2
      cases p2 with
      | tuple ps => exact ⟨p1, ps, a1, b1, a2.shaped (by decide), b2.shaped (by decide), EndV.val q rep (.bl _)⟩
      | _ => exact q.elim
/-- how the values of a type stand as data -/
structure Cod (α : Type) [DecidableEq α] where
  e : α → D
  p : α → PyData
  ok : α → Prop
  toP : ∀ (S : Sto) (k : Nat) (a : α), ok a → RF.toP S (k + 6) (e a) = some (p a)
  eqv : ∀ a b, PyData.eqv (p a) (p b) = decide (a = b)
  alike : ∀ a b, PySem.W.alike (p a) (p b) = true
  tupl : ∀ a, isTupP (p a) = true
namespace Cod
variable {α : Type} [DecidableEq α] {C : Cod α} {S : Sto} {n k : Nat} {a b : α} {as bs : List α}
def es (C : Cod α) (as : List α) : List D := as.map C.e
theorem es_len : (C.es as).length = as.length := List.length_map ..
theorem toPs (h : ∀ a ∈ as, C.ok a) : (C.es as).mapM (RF.toP S (k + 6)) = some (as.map C.p) := by
  induction as with
  | nil => rfl
  | cons a as ih =>
    show List.mapM (RF.toP S (k + 6)) (C.e a :: C.es as) = _
    rw [toP_mapM_cons, ih (fun x hx => h x (List.mem_cons_of_mem _ hx)), C.toP _ _ _ (h a (List.mem_cons_self ..))]; rfl
theorem eqvs : PyData.eqvAll (as.map C.p) (bs.map C.p) = decide (as = bs) := by
  induction as generalizing bs with
  | nil => cases bs <;> simp [PyData.eqvAll]
  | cons a as ih => cases bs with
    | nil => simp [PyData.eqvAll]
    | cons b bs =>
      simp only [List.map_cons, PyData.eqvAll, ih, C.eqv, List.cons.injEq]
      by_cases h1 : a = b <;> by_cases h2 : as = bs <;> simp [h1, h2]
theorem oeq (h1 : C.ok a) (h2 : C.ok b) : oEq (C.e a) (C.e b) S = .ok (.bl (decide (a = b))) S := by rw [o_eq, C.toP _ _ _ h1, C.toP _ _ _ h2, eqK_some, C.eqv]
theorem one (h1 : C.ok a) (h2 : C.ok b) : oNe (C.e a) (C.e b) S = .ok (.bl (!decide (a = b))) S := by rw [o_ne, C.toP _ _ _ h1, C.toP _ _ _ h2, neK_some, C.eqv]
theorem oneT (h1 : ∀ a ∈ as, C.ok a) (h2 : ∀ a ∈ bs, C.ok a) : oNe (.tup (C.es as)) (.tup (C.es bs)) S = .ok (.bl (!decide (as = bs))) S := by
  rw [o_ne, show (20 : Nat) = 19 + 1 from rfl, toP_tup, toP_tup, show (19 : Nat) = 13 + 6 from rfl, toPs h1, toPs h2]
  show neK S (some (.tuple (as.map C.p))) (some (.tuple (bs.map C.p))) = _
  rw [neK_some]
  simp only [PyData.eqv, eqvs]
theorem oneL {m : Nat} (e1 : S[n]? = some (.lst (C.es as))) (e2 : S[m]? = some (.lst (C.es bs))) (h1 : ∀ a ∈ as, C.ok a) (h2 : ∀ a ∈ bs, C.ok a) : oNe (.ref n) (.ref m) S = .ok (.bl (!decide (as = bs))) S := by
  rw [o_ne, show (20 : Nat) = 19 + 1 from rfl, toP_ref, toP_ref, e1, e2, toPC_lst, toPC_lst, show (19 : Nat) = 13 + 6 from rfl, toPs h1, toPs h2]
  show neK S (some (.list (as.map C.p))) (some (.list (bs.map C.p))) = _
  rw [neK_some]
  simp only [PyData.eqv, eqvs]
theorem oeqL {m : Nat} (e1 : S[n]? = some (.lst (C.es as))) (e2 : S[m]? = some (.lst (C.es bs))) (h1 : ∀ a ∈ as, C.ok a) (h2 : ∀ a ∈ bs, C.ok a) : oEq (.ref n) (.ref m) S = .ok (.bl (decide (as = bs))) S := by
  rw [o_eq, show (20 : Nat) = 19 + 1 from rfl, toP_ref, toP_ref, e1, e2, toPC_lst, toPC_lst, show (19 : Nat) = 13 + 6 from rfl, toPs h1, toPs h2]
  show eqK S (some (.list (as.map C.p))) (some (.list (bs.map C.p))) = _
  rw [eqK_some]
  simp only [PyData.eqv, eqvs]
theorem any_ : ((as.map C.p).any fun z => PyData.eqv z (C.p a)) = decide (a ∈ as) := by
  induction as with
  | nil => simp
  | cons w ws ih =>
    rw [List.map_cons, List.any_cons, ih, C.eqv]
    by_cases h1 : w = a
    · simp [h1]
    · by_cases h2 : a ∈ ws
      · simp [h2]
      · have h3 : ¬ a = w := fun e => h1 e.symm
        simp [h1, h2, h3]
theorem oin {neg : Bool} (e1 : S[n]? = some (.lst (C.es as))) (h1 : ∀ a ∈ as, C.ok a) (h2 : C.ok a) {b : Bool} (hb : b = true ↔ a ∈ as) : oInL neg (C.e a) (.ref n) S = .ok (.bl (if neg = true then !b else b)) S := by
  unfold oInL
  rw [C.toP _ _ _ h2, show (20 : Nat) = 19 + 1 from rfl, toP_ref, e1, toPC_lst, show (19 : Nat) = 13 + 6 from rfl, toPs h1]
  have hd : decide (a ∈ as) = b := by cases b <;> simp at hb ⊢ <;> exact hb
  simp only [Option.map_some, any_, hd]
theorem oinT {neg : Bool} (h1 : ∀ a ∈ as, C.ok a) (h2 : C.ok a) {b : Bool} (hb : b = true ↔ a ∈ as) : oInTu neg (C.e a) (.tup (C.es as)) S = .ok (.bl (if neg = true then !b else b)) S := by
  unfold oInTu
  rw [C.toP _ _ _ h2, show (20 : Nat) = 19 + 1 from rfl, toP_tup, show (19 : Nat) = 13 + 6 from rfl, toPs h1]
  have hd : decide (a ∈ as) = b := by cases b <;> simp at hb ⊢ <;> exact hb
  simp only [Option.map_some, any_, hd]
/-- sorted -/
def le (C : Cod α) (a b : α) : Bool := !PySem.W.dataLt (C.p b) (C.p a)
def sort (C : Cod α) (as : List α) : List α := as.mergeSort C.le
theorem zip_ : (C.es as).zip (as.map C.p) = as.map fun w => (C.e w, C.p w) := by
  induction as with
  | nil => rfl
  | cons w ws ih => show (C.e w, C.p w) :: (C.es ws).zip (ws.map C.p) = _; rw [ih]; rfl
theorem sortDs_ : sortDs (C.es as) (as.map C.p) = C.es (C.sort as) := by
  unfold sortDs sort
  rw [zip_, ← List.map_mergeSort (r := C.le) (s := PySem.W.dataLe false Prod.snd) (f := fun w => (C.e w, C.p w)) (l := as) (fun a _ b _ => ?_), List.map_map]
  · rfl
  · rw [PySem.W.dataLe_eq]; rfl
theorem sortB_ : sortB (as.map C.p) = true := by
  unfold sortB
  have h : likeB (as.map C.p) = true := by
    unfold likeB
    simp only [List.all_map, List.all_eq_true, Function.comp]
    intro a _ b _
    exact C.alike a b
  rw [h, Bool.true_and, Bool.or_eq_true]
  refine .inl ?_
  simp only [List.all_map, List.all_eq_true, Function.comp]
  intro a _
  exact C.tupl a
theorem osort (e1 : S[n]? = some (.lst (C.es as))) (h1 : ∀ a ∈ as, C.ok a) (hl : as.length ≤ 100000) : oSorted [.ref n] S = .ok (.ref S.length) (S ++ [.lst (C.es (C.sort as))]) := by
  unfold oSorted
  simp only
  have e : lstD S (.ref n) = some (C.es as) := by unfold lstD; simp only [e1]
  rw [e]
  simp only
  rw [show (20 : Nat) = 14 + 6 from rfl, toPs h1]
  simp only
  rw [if_pos ⟨sortB_, by rw [es_len]; exact hl⟩, sortDs_]
theorem sort_mem : a ∈ C.sort as ↔ a ∈ as := (List.mergeSort_perm _ _).mem_iff
theorem sort_len : (C.sort as).length = as.length := (List.mergeSort_perm _ _).length_eq
theorem sort_ok (h1 : ∀ a ∈ as, C.ok a) : ∀ a ∈ C.sort as, C.ok a := fun a h => h1 a (sort_mem.mp h)
end Cod
/-! marks -/
abbrev Mk := (Int × Int) × Int × K2 × Int
def eM (m : Mk) : D := .tup [eT m.1, .int m.2.1, eK m.2.2.1, .int m.2.2.2]
def pM (m : Mk) : PyData := .tuple [pT m.1, .int m.2.1, pK m.2.2.1, .int m.2.2.2]
def kM (m : Mk) : NestedKey := .tup [.tup [.num m.1.1, .num m.1.2], .num m.2.1, .tup [.num m.2.2.1.1, .text m.2.2.1.2], .num m.2.2.2]
def okM (m : Mk) : Prop := PyData.strOk m.2.2.1.2 = true
def cM : Cod Mk where
  e := eM
  p := pM
  ok := okM
  toP := fun S k m h => by
    unfold eM pM
    have h : PyData.strOk m.2.2.1.2 = true := h
    rw [toP_tup, toP_mapM_cons, toP_mapM_cons, toP_mapM_cons, toP_mapM_cons, toP_mapM_nil, fT_eT, toP_int, toP_eK h, toP_int]
    rfl
  eqv := fun a b => by
    unfold pM
    simp only [PyData.eqv, PyData.eqvAll, eqv_T, eqv_K]
    obtain ⟨a1, a2, a3, a4⟩ := a
    obtain ⟨b1, b2, b3, b4⟩ := b
    simp only [Prod.mk.injEq]
    by_cases h1 : a1 = b1 <;> by_cases h2 : a2 = b2 <;> by_cases h3 : a3 = b3 <;> by_cases h4 : a4 = b4 <;> simp [h1, h2, h3, h4]
  alike := fun a b => by simp [pM, pT, pK, PySem.W.alike, PySem.W.alikeAll]
  tupl := fun a => by simp [pM, isTupP]
theorem o_nonM {m : Mk} : isNonD (eM m) = false := (rfl)
theorem isDict_eM {m : Mk} {S : Sto} : isDict S (eM m) = false := (rfl)
theorem getL_eM0 {m : Mk} {S : Sto} : oGetL (eM m) (.int 0) S = .ok (eT m.1) S := by unfold eM; rw [getL_tup, atI_0, retO_some]
theorem keyT_eM (m : Mk) : keyT (eM m) = some (kM m) := (rfl)
theorem kM_inj {m m' : Mk} : kM m = kM m' ↔ m = m' := by
  constructor
  · intro h
    unfold kM at h
    injection h with h
    injection h with h1 h
    injection h with h2 h
    injection h with h3 h
    injection h with h4 h
    injection h1 with h1
    injection h1 with h11 h1
    injection h1 with h12 h1
    injection h11 with h11
    injection h12 with h12
    injection h2 with h2
    injection h3 with h3
    injection h3 with h31 h3
    injection h3 with h32 h3
    injection h31 with h31
    injection h32 with h32
    injection h4 with h4
    obtain ⟨⟨a, b⟩, c, ⟨d, e⟩, f⟩ := m
    obtain ⟨⟨a', b'⟩, c', ⟨d', e'⟩, f'⟩ := m'
    simp only at *
    subst h11 h12 h2 h31 h32 h4
    rfl
  · intro h; rw [h]
theorem dOf_kM (m : Mk) : dOf (kM m) = eM m := (rfl)
/-- a dict that holds marks alone -/
def encM (ms : List Mk) : List (NestedKey × D) := ms.map fun m => (kM m, .bl true)
def addM (acc : List Mk) (m : Mk) : List Mk := if m ∈ acc then acc else acc ++ [m]
theorem any_encM {ms : List Mk} {m : Mk} : ((encM ms).any fun kv => decide (kv.1 = kM m)) = decide (m ∈ ms) := by
  induction ms with
  | nil => simp [encM]
  | cons g ms ih =>
    show (decide (kM g = kM m) || (encM ms).any fun kv => decide (kv.1 = kM m)) = _
    rw [ih]
    by_cases h1 : g = m
    · subst h1; simp
    · have h2 : ¬ kM g = kM m := fun e => h1 (kM_inj.mp e)
      have h3 : ¬ m = g := fun e => h1 e.symm
      simp [h2, h3]
theorem put_encM {ms : List Mk} {m : Mk} : putKD (encM ms) (kM m) (.bl true) = encM (addM ms m) := by
  unfold putKD addM
  rw [any_encM]
  by_cases h : m ∈ ms
  · rw [decide_eq_true h, if_pos rfl, if_pos h]
    unfold encM
    rw [List.map_map]
    refine List.map_congr_left fun g _ => ?_
    show (if kM g = kM m then (kM g, D.bl true) else (kM g, D.bl true)) = (kM g, D.bl true)
    split <;> rfl
  · rw [decide_eq_false h, if_neg (by decide), if_neg h]
    unfold encM
    rw [List.map_append]
    rfl
theorem keysN_encM {ms : List Mk} : keysN (encM ms) = cM.es ms := by
  unfold keysN encM
  rw [List.map_map]
  rfl
theorem encM_len {ms : List Mk} : (encM ms).length = ms.length := List.length_map ..
end RF

/-! loops by an invariant -/
namespace RF
open PySem L2
/-- one turn of a loop goes on -/
def Turn1 (g : GF) (body : SF) (d : D) (env : Lc) (S : Sto) (e : Lc) (S1 : Sto) : Prop := (g d env S).bind body = .ok (.nx e) S1
theorem loopX_inv {g : GF} {body : SF} {P : Nat → Lc → Sto → Prop} {xs : List D} (step : ∀ j e S d, xs[j]? = some d → P j e S → ∃ e1 S1, Turn1 g body d e S e1 S1 ∧ P (j + 1) e1 S1) : ∀ (r j : Nat), r = xs.length - j → j ≤ xs.length → ∀ e S, P j e S → ∃ e1 S1, loopX g body (xs.drop j) e S = .ok (.nx e1) S1 ∧ P xs.length e1 S1
  | 0, j, hr, hj, e, S, h => by
    have : j = xs.length := by omega
    subst this
    rw [List.drop_length]
    exact ⟨e, S, rfl, h⟩
  | r + 1, j, hr, hj, e, S, h => by
    have hlt : j < xs.length := by omega
    rw [List.drop_eq_getElem_cons hlt]
    obtain ⟨e1, S1, t, h1⟩ := step j e S _ (List.getElem?_eq_getElem hlt) h
    obtain ⟨e2, S2, k, h2⟩ := loopX_inv step r (j + 1) (by omega) (by omega) e1 S1 h1
    refine ⟨e2, S2, ?_, h2⟩
    unfold Turn1 at t
    unfold loopX
    cases q : g xs[j] e S with
    | ok a T =>
      rw [q] at t
      simp only [R.bind_ok] at t ⊢
      rw [t]
      simp only [R.bind_ok]
      exact k
    | ex a T => rw [q] at t; cases t
    | bad => rw [q] at t; cases t
theorem loopX_ok {g : GF} {body : SF} {xs : List D} (P : Nat → Lc → Sto → Prop) (step : ∀ j e S d, xs[j]? = some d → P j e S → ∃ e1 S1, Turn1 g body d e S e1 S1 ∧ P (j + 1) e1 S1) {e : Lc} {S : Sto} (h : P 0 e S) : ∃ e1 S1, loopX g body xs e S = .ok (.nx e1) S1 ∧ P xs.length e1 S1 := by
  obtain ⟨e1, S1, k, q⟩ := loopX_inv step xs.length 0 (by omega) (Nat.zero_le _) e S h
  rw [List.drop_zero] at k
  exact ⟨e1, S1, k, q⟩
theorem loopL_inv {n : Nat} {g : GF} {body : SF} {P : Nat → Lc → Sto → Prop} {ys : List D} (hn : ∀ j e S, P j e S → S[n]? = some (.lst ys)) (step : ∀ j e S d, ys[j]? = some d → P j e S → ∃ e1 S1, Turn1 g body d e S e1 S1 ∧ P (j + 1) e1 S1) :
    ∀ (xs : List D) (j : Nat), xs.length = ys.length - j → j ≤ ys.length → ∀ e S, P j e S → ∃ e1 S1, loopL n g body xs j e S = .ok (.nx e1) S1 ∧ P ys.length e1 S1
  | [], j, hr, hj, e, S, h => by
    have hr : 0 = ys.length - j := hr
    have : j = ys.length := by omega
    subst this
    refine ⟨e, S, ?_, h⟩
    unfold loopL
    rw [hn _ _ _ h]
    simp
  | x :: xs, j, hr, hj, e, S, h => by
    rw [List.length_cons] at hr
    have hlt : j < ys.length := by omega
    obtain ⟨e1, S1, t, h1⟩ := step j e S _ (List.getElem?_eq_getElem hlt) h
    obtain ⟨e2, S2, k, h2⟩ := loopL_inv hn step xs (j + 1) (by omega) (by omega) e1 S1 h1
    refine ⟨e2, S2, ?_, h2⟩
    unfold Turn1 at t
    unfold loopL
    rw [hn _ _ _ h]
    simp only
    rw [List.getElem?_eq_getElem hlt]
    simp only
    cases q : g ys[j] e S with
    | ok a T =>
      rw [q] at t
      simp only [R.bind_ok] at t ⊢
      rw [t]
      simp only [R.bind_ok]
      exact k
    | ex a T => rw [q] at t; cases t
    | bad => rw [q] at t; cases t
theorem loopL_ok {n : Nat} {g : GF} {body : SF} {ys : List D} (P : Nat → Lc → Sto → Prop) (hn : ∀ j e S, P j e S → S[n]? = some (.lst ys)) (step : ∀ j e S d, ys[j]? = some d → P j e S → ∃ e1 S1, Turn1 g body d e S e1 S1 ∧ P (j + 1) e1 S1) {e : Lc} {S : Sto} (h : P 0 e S) :
    ∃ e1 S1, loopL n g body ys 0 e S = .ok (.nx e1) S1 ∧ P ys.length e1 S1 := loopL_inv hn step ys 0 (by omega) (Nat.zero_le _) e S h
/-- the same store, but for what is new and the places P -/
structure Fr (S S1 : Sto) (P : Nat → Prop) : Prop where
  le : S.length ≤ S1.length
  eq : ∀ i, i < S.length → ¬ P i → S1[i]? = S[i]?
theorem Fr.get {S S1 : Sto} {P : Nat → Prop} (k : Fr S S1 P) {i : Nat} {c : Cell} (h : S[i]? = some c) (hp : ¬ P i) : S1[i]? = some c := (k.eq i (List.getElem?_eq_some_iff.mp h).1 hp).trans h
theorem Fr.refl (S : Sto) (P : Nat → Prop) : Fr S S P := ⟨Nat.le_refl _, fun _ _ _ => rfl⟩
theorem Fr.trans {S S1 S2 : Sto} {P : Nat → Prop} (a : Fr S S1 P) (b : Fr S1 S2 P) : Fr S S2 P := ⟨Nat.le_trans a.le b.le, fun i h hp => (b.eq i (Nat.lt_of_lt_of_le h a.le) hp).trans (a.eq i h hp)⟩
theorem Fr.mono {S S1 : Sto} {P Q : Nat → Prop} (a : Fr S S1 P) (h : ∀ i, P i → Q i) : Fr S S1 Q := ⟨a.le, fun i hi hq => a.eq i hi fun z => hq (h i z)⟩
theorem Fr.app (S T : Sto) (P : Nat → Prop) : Fr S (S ++ T) P := ⟨by rw [List.length_append]; omega, fun i h _ => List.getElem?_append_left h⟩
theorem Fr.set {S : Sto} {n : Nat} {c : Cell} {P : Nat → Prop} (h : P n) : Fr S (S.set n c) P := ⟨by rw [List.length_set]; exact Nat.le_refl _, fun i _ hp => List.getElem?_set_ne (fun z => hp (by rw [← z]; exact h))⟩
/-- what is new may change -/
theorem Fr.new {S S1 S2 : Sto} {P Q : Nat → Prop} (a : Fr S S1 P) (b : Fr S1 S2 Q) (h : ∀ i, i < S.length → Q i → P i) : Fr S S2 P := ⟨Nat.le_trans a.le b.le, fun i hi hp => (b.eq i (Nat.lt_of_lt_of_le hi a.le) fun z => hp (h i hi z)).trans (a.eq i hi hp)⟩
end RF
namespace RF
open PySem L2
theorem ixN_nn {n : Nat} {j : Int} (h1 : 0 ≤ j) (h2 : j < n) : ixN n j = some j.toNat := by
  unfold ixN
  rw [if_pos h1, if_pos (by omega)]
def tupC (S : Sto) : Option (List D) → R D
  | some xs => .ok (.tup xs) S
  | none => .bad
theorem o_tupR {x : D} {S : Sto} : oTuple [x] S = tupC S (seqD S x) := by unfold oTuple tupC; rfl
theorem o_tupC {xs : List D} {S : Sto} : tupC S (some xs) = .ok (.tup xs) S := (rfl)
/-! the marks of a transaction -/
def eO : Option Mk → D
  | none => .non
  | some m => eM m
section
variable {C : Addr} {x : D} {n : Nat} {S : Sto} {d0 d1 d2 : D}
def mkf (d0 d1 d2 : D) : List (Str × D) := [(⟨#[95, 116, 114, 97, 110, 115, 97, 99, 116, 105, 111, 110]⟩, d0), (⟨#[95, 111, 119, 110]⟩, d1), (⟨#[95, 121, 111, 117, 110, 103, 101, 114]⟩, d2)]
def mkc (C : Addr) (d0 d1 d2 : D) : Cell := .ins C (mkf d0 d1 d2)
theorem fldC_mk : fldC C n (some (mkc C d0 d1 d2)) = some (n, mkf d0 d1 d2) := fldC_ins
theorem isDictC_mk : isDictC (some (mkc C d0 d1 d2)) = false := (rfl)
theorem fldN_mk : (mkf d0 d1 d2).length = 3 := (rfl)
theorem fldL_mk_0 : (mkf d0 d1 d2).lookup ⟨#[95, 116, 114, 97, 110, 115, 97, 99, 116, 105, 111, 110]⟩ = some d0 := (rfl)
theorem fldP_mk_0 : Cell.ins C (putD ⟨#[95, 116, 114, 97, 110, 115, 97, 99, 116, 105, 111, 110]⟩ x (mkf d0 d1 d2)) = mkc C x d1 d2 := (rfl)
theorem fldL_mk_1 : (mkf d0 d1 d2).lookup ⟨#[95, 111, 119, 110]⟩ = some d1 := (rfl)
theorem fldP_mk_1 : Cell.ins C (putD ⟨#[95, 111, 119, 110]⟩ x (mkf d0 d1 d2)) = mkc C d0 x d2 := (rfl)
theorem fldL_mk_2 : (mkf d0 d1 d2).lookup ⟨#[95, 121, 111, 117, 110, 103, 101, 114]⟩ = some d2 := (rfl)
theorem fldP_mk_2 : Cell.ins C (putD ⟨#[95, 121, 111, 117, 110, 103, 101, 114]⟩ x (mkf d0 d1 d2)) = mkc C d0 d1 x := (rfl)
theorem fldM_mk_0 : ((mkf d0 d1 d2).lookup ⟨#[98, 101, 103, 105, 110]⟩).isNone = true := (rfl)
theorem fldM_mk_1 : ((mkf d0 d1 d2).lookup ⟨#[101, 110, 100]⟩).isNone = true := (rfl)
theorem fldM_mk_2 : ((mkf d0 d1 d2).lookup ⟨#[116, 97, 107, 101]⟩).isNone = true := (rfl)
theorem fldM_mk_3 : ((mkf d0 d1 d2).lookup ⟨#[116, 111, 108, 100]⟩).isNone = true := (rfl)
theorem fldI_mk_0 : putD ⟨#[95, 116, 114, 97, 110, 115, 97, 99, 116, 105, 111, 110]⟩ x ([] : List (Str × D)) = [(⟨#[95, 116, 114, 97, 110, 115, 97, 99, 116, 105, 111, 110]⟩, x)] := (rfl)
theorem fldI_mk_1 : putD ⟨#[95, 111, 119, 110]⟩ x ([(⟨#[95, 116, 114, 97, 110, 115, 97, 99, 116, 105, 111, 110]⟩, d0)] : List (Str × D)) = [(⟨#[95, 116, 114, 97, 110, 115, 97, 99, 116, 105, 111, 110]⟩, d0), (⟨#[95, 111, 119, 110]⟩, x)] := (rfl)
theorem fldI_mk_2 : Cell.ins C (putD ⟨#[95, 121, 111, 117, 110, 103, 101, 114]⟩ x ([(⟨#[95, 116, 114, 97, 110, 115, 97, 99, 116, 105, 111, 110]⟩, d0), (⟨#[95, 111, 119, 110]⟩, d1)] : List (Str × D))) = mkc C d0 d1 x := (rfl)
end
def mkC (C : Addr) (tr : Int × Int) (own : Option Mk) (y : Nat) : Cell := mkc C (eT tr) (eO own) (.ref y)
def addY (tr : Int × Int) (acc : List Mk) (m : Mk) : List Mk := if ltT tr m.1 = true then addM acc m else acc
theorem addM_len {ms : List Mk} {m : Mk} : (addM ms m).length ≤ ms.length + 1 := by
  unfold addM
  split
  · omega
  · rw [List.length_append]; simp
theorem addY_len {tr : Int × Int} {ms : List Mk} {m : Mk} : (addY tr ms m).length ≤ ms.length + 1 := by
  unfold addY
  split
  · exact addM_len
  · omega
theorem addM_mem {ms : List Mk} {m x : Mk} : x ∈ addM ms m ↔ x ∈ ms ∨ x = m := by
  unfold addM
  split
  · rename_i h
    exact ⟨.inl, fun z => z.elim id (fun e => e ▸ h)⟩
  · simp
/-- all of them are fit for dicts and sorted -/
def okMs (ms : List Mk) : Prop := ∀ m ∈ ms, okM m
theorem okMs_addY {tr : Int × Int} {ms : List Mk} {m : Mk} (h : okMs ms) (h2 : okM m) : okMs (addY tr ms m) := by
  unfold addY
  split
  · intro x hx
    rcases addM_mem.mp hx with hx | hx
    · exact h x hx
    · rw [hx]; exact h2
  · exact h
theorem es_get {α : Type} [DecidableEq α] {C : Cod α} {as : List α} {j : Nat} {d : D} (h : (C.es as)[j]? = some d) : ∃ a, as[j]? = some a ∧ d = C.e a := by
  unfold Cod.es at h
  rw [List.getElem?_map] at h
  cases q : as[j]? with
  | none => rw [q] at h; cases h
  | some a => rw [q] at h; cases h; exact ⟨a, rfl, rfl⟩
theorem take_snoc {α : Type} {as : List α} {j : Nat} {a : α} (h : as[j]? = some a) : as.take (j + 1) = as.take j ++ [a] := by
  rw [List.take_add_one, h]; rfl
def tellL (own : Option Mk) (ms : List Mk) : List Mk := match own with
  | none => []
  | some o => cM.sort (o :: ms)
theorem o_tyT {S : Sto} {xs : List D} : tyD S (.tup xs) = some "tuple" := (rfl)
theorem o_nonO {own : Option Mk} : isNonD (eO own) = own.isNone := by cases own <;> rfl
theorem o_tellN {ms : List Mk} : tellL none ms = [] := (rfl)
theorem o_tellS {o : Mk} {ms : List Mk} : tellL (some o) ms = cM.sort (o :: ms) := (rfl)
theorem o_cut1 {a b x d : D} : cutD [a, b, x, d] (some 1) none = [b, x, d] := (rfl)
theorem o_esN {α : Type} [DecidableEq α] {C : Cod α} : C.es [] = [] := (rfl)
theorem tellL_ok {own : Option Mk} {ms : List Mk} (ho : okMs (own.toList ++ ms)) : okMs (tellL own ms) := by
  cases own with
  | none => intro m hm; cases hm
  | some o => exact Cod.sort_ok ho
def pO : Option Mk → PyData
  | none => .none
  | some m => pM m
theorem mtoP_O {S : Sto} {own : Option Mk} (h : ∀ o, own = some o → okM o) : toP S 20 (eO own) = some (pO own) := by
  cases own with
  | none => rfl
  | some o => exact cM.toP S 14 o (h o rfl)
theorem eqv_O {a b : Option Mk} : PyData.eqv (pO a) (pO b) = decide (a = b) := by
  cases a with
  | none => cases b with
    | none => simp [pO, PyData.eqv]
    | some w => simp [pO, pM, PyData.eqv]
  | some u => cases b with
    | none => simp [pO, pM, PyData.eqv]
    | some w =>
      have := cM.eqv u w
      simp only [Option.some.injEq]
      exact this
theorem mmap19 {α : Type} [DecidableEq α] {C : Cod α} {S : Sto} {as : List α} (h : ∀ a ∈ as, C.ok a) : List.mapM (toP S 19) (C.es as) = some (as.map C.p) := Cod.toPs (k := 13) h
theorem meqvT {α : Type} [DecidableEq α] {C : Cod α} {as bs : List α} : PyData.eqv (.tuple (as.map C.p)) (.tuple (bs.map C.p)) = decide (as = bs) := by simp only [PyData.eqv, Cod.eqvs]
theorem meqvL {α : Type} [DecidableEq α] {C : Cod α} {as bs : List α} : PyData.eqv (.list (as.map C.p)) (.list (bs.map C.p)) = decide (as = bs) := by simp only [PyData.eqv, Cod.eqvs]
end RF

/-! sorted(d), len(d) of a dict whose keys are tuples of any form -/
namespace RF
open PySem L2
mutual
theorem NK.dp {K : PySem.W.Frag} {H : Hp} : ∀ {k : NestedKey} {v : V}, NK H k v → Dp K H v k.data
  | _, _, .none => by simp only [NestedKey.data]; exact .non
  | _, _, .num i => by simp only [NestedKey.data]; exact .int i
  | _, _, .text x => by simp only [NestedKey.data]; exact .str x
  | _, _, .tup h r => by simp only [NestedKey.data]; exact .tup (.of h) (NKs.dp r)
theorem NKs.dp {K : PySem.W.Frag} {H : Hp} : ∀ {ks : List NestedKey} {vs : List V}, NKs H ks vs → DpAll K H vs (NestedKey.datas ks)
  | _, _, .nil => by simp only [NestedKey.datas]; exact .nil
  | _, _, .cons a b => by simp only [NestedKey.datas]; exact .cons (NK.dp a) (NKs.dp b)
end
theorem zs_dp {K : PySem.W.Frag} {H : Hp} : ∀ {zs : List ZN}, ZOk H zs → DpAll K H (zs.map fun z => V.ref z.2.1) (zs.map fun z => z.1.data)
  | [], _ => .nil
  | z :: zs, h => .cons (h z (List.mem_cons_self ..)).1.dp (zs_dp fun x hx => h x (List.mem_cons_of_mem _ hx))
/-- what stands behind: the address of the key, its data -/
abbrev zV (z : ZN) : V := .ref z.2.1
def rSortN : List V → Hp → VK → Prop := fun vs H Q => ∃ (a : Addr) (w : World) (zs : List ZN), vs = [V.ref a] ∧ H a = some (dnO w a zs) ∧ ZOk H zs ∧ PySem.W.AllAlike (zs.map fun z => z.1.data) ∧ PySem.W.Sortable (zs.map fun z => z.1.data) ∧ zs.length ≤ 100000 ∧
  (∀ z ∈ zs, z.1.data.depth ≤ 60) ∧ ∀ p, H p = none → Q (.ref p) (upd H p (.lst ((zs.mergeSort (PySem.W.dataLe false fun z => z.1.data)).map zV)))
theorem each_zs : ∀ {out : List Value} {zs : List ZN}, Vals (zs.map zV) out → PySem.W.EachIs (fun v (z : ZN) => RelV (zV z) v) out zs
  | out, [], r => by
    rw [List.map_nil] at r
    cases r; exact .nil
  | out, b :: bs, r => by
    rw [List.map_cons] at r
    cases r with
    | cons h t => exact .cons h (each_zs t)
theorem zs_each : ∀ {out : List Value} {zs : List ZN}, PySem.W.EachIs (fun v (z : ZN) => RelV (zV z) v) out zs → Vals (zs.map zV) out
  | [], [], .nil => .nil
  | _ :: _, _ :: _, .cons h t => .cons h (zs_each t)
section
variable {X : Cx}
theorem call_sortN (hc : X.calm = true) (hu : X.A.units + 65 < cLine) : CallR X (.builtin "sorted") rSortN := by
  intro pins s σ H xs us Q I r h
  obtain ⟨d, w, zs, rfl, hd, hz, hal, hk, hL, hdep, q⟩ := h
  obtain ⟨u, rfl, rx⟩ := r.one
  cases rx
  obtain ⟨⟨hs, z, ks, pr, o, es, ep, ho, hx, hdt, he, hn⟩, _⟩ := I.hok d _ hd
  have l1 : es.size = ks.length := by rw [← Array.length_toList, he, List.length_map]
  have l2 : zs.length = ks.length := Paired.length pr
  refine Calls.call_function_entry PyProof.Rows.kind_sorted PyProof.Rows.plain_sorted PyProof.Rows.entry_sorted (PyProof.Rows.args_sorted1 _) ?_
  unfold Builtin.«sorted»
  refine wpAny_bind (m := checkCount "sorted" 1 1 _) (wpAny_pure ?_)
  refine wpAny_bind (PySem.W.kdu_collect (A := X.A.in1) (kdl_raw hs hx hdt) (I.ok.hd hc) ho (by omega) fun h' tk acc kp it => ?_)
  have ea : acc.toList = ks.map fun x => Value.ref x.2.1 := by
    have hl : acc.toList.length = ks.length := by rw [Array.length_toList, it.1]; exact l1
    apply List.ext_getElem?
    intro j
    rw [List.getElem?_map]
    cases hj : acc.toList[j]? with
    | none =>
      have h1 := List.getElem?_eq_none_iff.mp hj
      rw [List.getElem?_eq_none (by omega)]
      all_goals rfl
    | some v =>
      obtain ⟨en, hen, hv⟩ := it.2 j v (by rw [← Array.getElem?_toList]; exact hj)
      have qe : es[j]? = (ks[j]?).map (fun x => (⟨x.1.hash w, .ref x.2.1, x.2.2⟩ : DictEntry)) := by rw [← Array.getElem?_toList, he, List.getElem?_map]
      rw [hen] at qe
      cases hb : ks[j]? with
      | none =>
        rw [hb] at qe
        exact nomatch (show some en = none from qe)
      | some b =>
        rw [hb] at qe
        have e2 : en = (⟨b.1.hash w, .ref b.2.1, b.2.2⟩ : DictEntry) := Option.some.inj qe
        rw [hv, e2]
        all_goals rfl
  have rv : Vals (zs.map zV) acc.toList := by rw [ea]; exact zx_refs pr
  have hlen : acc.toList.length = zs.length := by rw [← rv.length, List.length_map]
  have I1 : Inv X pins σ H { s with heap := h', toks := tk } := I.kept kp
  refine wpAny_bind (wpAny_newList ?_ (by rw [hlen]; exact z))
  have hoL : (h'.push (PyProof.Rows.seqObj "list" acc.toList.toArray 0)).get? h'.objs.size = some (PyProof.Rows.seqObj "list" acc.toList.toArray 0) := Heap.get?_push_size _ rfl
  show wpAny _ _ _ _ _ { s with heap := h'.push (PyProof.Rows.seqObj "list" acc.toList.toArray 0), toks := tk }
  obtain ⟨as, hr⟩ := Dp.readsAll I1 _ _ acc.toList (zs_dp hz) rv
  have er : PySem.W.EachIs (fun v (z : ZN) => ∃ as, PySem.Reads h' v z.1.data as) acc.toList zs := PySem.W.readsAll_each (fun z : ZN => z.1.data) hr
  have er' : PySem.W.EachIs (fun v (z : ZN) => ∃ as, PySem.Reads (PySem.W.sortingHeap (h'.push (PyProof.Rows.seqObj "list" acc.toList.toArray 0)) h'.objs.size acc.toList) v z.1.data as) acc.toList zs :=
    er.mono fun _ _ ⟨as, r⟩ => ⟨as, PyProof.Rows.Reads.keeps (fun b o q => PySem.W.sortingHeap_old (Nat.ne_of_lt (Heap.lt_size q)) (Heap.get?_push_of_some _ q)) r⟩
  have ez := each_zs rv
  refine wpAny_bind (wpAny_holding (wpAny_call_entry PyProof.Rows.slot_list_sort ⟨_, hoL, rfl⟩ PyProof.Rows.entry_list_sort
    (PySem.W.list_sort_vals (A := X.A.in1.in1) (s := { s with heap := h'.push (PyProof.Rows.seqObj "list" acc.toList.toArray 0), toks := tk }) (κ := PySem.W.dataKind (PySem.W.sortingHeap (h'.push (PyProof.Rows.seqObj "list" acc.toList.toArray 0)) h'.objs.size acc.toList) (zs.map fun z => z.1.data)) hoL
      (PySem.W.SortsAt.data (s := { s with heap := PySem.W.sortingHeap (h'.push (PyProof.Rows.seqObj "list" acc.toList.toArray 0)) h'.objs.size acc.toList, toks := tk }) (PySem.W.each_map (R := fun v d => ∃ as, PySem.Reads (PySem.W.sortingHeap (h'.push (PyProof.Rows.seqObj "list" acc.toList.toArray 0)) h'.objs.size acc.toList) v d as) (fun z : ZN => z.1.data) er') hal hk
        (PySem.W.bound_map fun b hb => by have := hdep b hb; have e1 : X.A.in1.in1.units = X.A.units + 1 + 1 := rfl; omega)) (by rw [hlen]; exact z) ?_) (PyProof.Rows.args_list_sort _)))
  refine ⟨.none, rfl, ?_⟩
  have ho := PySem.W.sortVals_data (R := fun v (z : ZN) => RelV (zV z) v) (enc := fun z : ZN => z.1.data) false ez er' hal
  generalize PySem.W.sortVals (PySem.W.dataKind (PySem.W.sortingHeap (h'.push (PyProof.Rows.seqObj "list" acc.toList.toArray 0)) h'.objs.size acc.toList) (zs.map fun z => z.1.data)) false acc.toList acc.toList = out at ho
  obtain ⟨e', he'⟩ := PyProof.Rows.sortedHeap_at (vs := acc.toList) (out := out.toArray) hoL
  have hlz : ((zs.mergeSort (PySem.W.dataLe false fun z => z.1.data)).map zV).length ≤ sizeLine := by rw [List.length_map, (List.mergeSort_perm _ _).length_eq]; exact z
  refine wpAny_pure ⟨_, rfl, .ref h'.objs.size, upd H h'.objs.size (.lst ((zs.mergeSort (PySem.W.dataLe false fun z => z.1.data)).map zV)), I1.laid (t' := tk) (fun b u e => ?_) (Nat.le_refl _)
    (show ObjOk X.prog X.w _ _ _ (.lst _) from ⟨hlz, out, e', zs_each ho, he'⟩), rfl, q _ (I1.hok.fresh (Nat.le_refl _))⟩
  rw [PyProof.Rows.sortedHeap_old (Nat.ne_of_lt (Heap.lt_size e)) (by rw [PyProof.Rows.size_push']; exact Nat.lt_succ_of_lt (Heap.lt_size e))]
  exact Heap.get?_push_of_some _ e
end
end RF

/-! comprehensions whose target is a tuple of names -/
namespace RF
open PySem L2
def unset : List Nat → Lc → Lc
  | [], env => env
  | i :: is, env => (unset is env).set i none
def gcompX (pt : D → Lc → Option Lc) (ft : BF) (fe : EF) (env : Lc) : List D → List D → Sto → R D
  | [], acc, S => .ok (.ref S.length) (S ++ [.lst acc])
  | d :: xs, acc, S => match pt d env with
    | some ee => (ft ee S).nox.bind fun b S1 => if b = true then ((fe ee S1).nox.bind fun y S2 => if acc.length < 100000 then gcompX pt ft fe env xs (acc ++ [y]) S2 else .bad) else gcompX pt ft fe env xs acc S1
    | none => .bad
def gcompL (n : Nat) (pt : D → Lc → Option Lc) (ft : BF) (fe : EF) (env : Lc) : List D → Nat → List D → Sto → R D
  | [], j, acc, S => match S[n]? with
    | some (.lst ys) => if ys.length ≤ j then .ok (.ref S.length) (S ++ [.lst acc]) else .bad
    | _ => .bad
  | _ :: xs, j, acc, S => match S[n]? with
    | some (.lst ys) => match ys[j]? with
      | none => .ok (.ref S.length) (S ++ [.lst acc])
      | some d => match pt d env with
        | some ee => (ft ee S).nox.bind fun b S1 => if b = true then ((fe ee S1).nox.bind fun y S2 => if acc.length < 100000 then gcompL n pt ft fe env xs (j + 1) (acc ++ [y]) S2 else .bad) else gcompL n pt ft fe env xs (j + 1) acc S1
        | none => .bad
    | _ => .bad
def fGComp (fi : IF) (is : List Nat) (pt : D → Lc → Option Lc) (ft : BF) (fe : EF) : EF := fun env S => (fi env S).bind fun it S1 => match it with
  | .fix xs => gcompX pt ft fe (unset is env) xs [] S1
  | .live n xs => gcompL n pt ft fe (unset is env) xs 0 [] S1
/-- a target by a function -/
def TgF (K : PySem.W.Frag) (is : List Nat) (g : TG) (pt : D → Lc → Option Lc) : Prop := ∀ {L : List Addr} {H : Hp} {x : V} {d : D} {σ0 : St} {env0 env1 : Lc} {Q : St → Hp → Prop}, RD K L H x d → RE K L H σ0 env0 → pt d env0 = some env1 →
  (∀ σ1, RE K L H σ1 env1 → wipe σ1 is = wipe σ0 is → Q σ1 H) → g x σ0 H Q
theorem RE.wipes {K : PySem.W.Frag} {L : List Addr} {H : Hp} {σ : St} {env : Lc} (r : RE K L H σ env) : ∀ is : List Nat, RE K L H (L2.wipe σ is) (unset is env)
  | [] => r
  | i :: is => (RE.wipes r is).wipe i
theorem wipe_comm {σ : St} {i j : Nat} : (σ.set i none).set j none = (σ.set j none).set i none := by
  by_cases h : i = j
  · rw [h]
  · exact List.set_comm _ _ h
theorem wipe_set1 {σ : St} {i : Nat} : ∀ {is : List Nat}, wipe (σ.set i none) is = (wipe σ is).set i none
  | [] => rfl
  | j :: is => by
    show (wipe (σ.set i none) is).set j none = ((wipe σ is).set j none).set i none
    rw [wipe_set1, wipe_comm]
theorem wipe_wipe {σ : St} : ∀ {is : List Nat}, wipe (wipe σ is) is = wipe σ is
  | [] => rfl
  | i :: is => by
    show (wipe ((wipe σ is).set i none) is).set i none = (wipe σ is).set i none
    rw [wipe_set1, wipe_wipe, List.set_set]
theorem wipe_val {σ : St} {i : Nat} {x : Option V} : ∀ {is : List Nat}, i ∈ is → wipe (σ.set i x) is = wipe σ is
  | j :: is, h => by
    show (wipe (σ.set i x) is).set j none = (wipe σ is).set j none
    by_cases hj : i = j
    · subst hj
      by_cases hm : i ∈ is
      · rw [wipe_val hm]
      · have key : ∀ {is : List Nat}, i ∉ is → wipe (σ.set i x) is = (wipe σ is).set i x := by
          intro is
          induction is with
          | nil => intro _; rfl
          | cons k is ih =>
            intro hk
            show (wipe (σ.set i x) is).set k none = ((wipe σ is).set k none).set i x
            rw [ih (fun z => hk (List.mem_cons_of_mem _ z)), List.set_comm _ _ (fun z => hk (by rw [z]; exact List.mem_cons_self ..))]
        rw [key hm, List.set_set]
    · rw [wipe_val ((List.mem_cons.mp h).resolve_left hj)]
/-- the names of a tuple -/
def setD : List Nat → List D → Lc → Lc
  | i :: is, d :: ds, env => setD is ds (env.set i (some d))
  | _, _, env => env
def setVs : List Nat → List V → St → St
  | i :: is, v :: vs, σ => setVs is vs (σ.set i (some v))
  | _, _, σ => σ
def gNames : List Nat → TGs
  | [] => gNil
  | i :: is => gCons (gName i) (gNames is)
def ptT (is : List Nat) : D → Lc → Option Lc := fun d env => match d with
  | .tup ds => if ds.length = is.length then some (setD is ds env) else none
  | _ => none
theorem names_of {K : PySem.W.Frag} {L : List Addr} {H : Hp} {Q : St → Hp → Prop} {all : List Nat} : ∀ {is : List Nat} {vs : List V} {ds : List D} {σ : St} {env : Lc}, (∀ i ∈ is, i ∈ all) → RDs K L H vs ds → ds.length = is.length → RE K L H σ env →
    (∀ σ1, RE K L H σ1 (setD is ds env) → wipe σ1 all = wipe σ all → Q σ1 H) → gNames is vs σ H Q
  | [], _, _, σ, env, _, .nil, _, re, h => ⟨rfl, h σ re rfl⟩
  | i :: is, _, _, σ, env, ha, .cons (v := v) (d := d) r rs, hl, re, h => by
    refine ⟨v, _, rfl, ?_⟩
    show gNames is _ (σ.set i (some v)) H Q
    refine names_of (all := all) (fun j hj => ha j (List.mem_cons_of_mem _ hj)) rs (by simpa using hl) (re.set r) fun σ1 r1 hw => h σ1 r1 (hw.trans (wipe_val (ha i (List.mem_cons_self ..))))
  | [], _, _, _, _, _, .cons _ _, hl, _, _ => by simp at hl
  | _ :: _, _, _, _, _, _, .nil, hl, _, _ => by simp at hl
theorem tgF_tup {K : PySem.W.Frag} {is : List Nat} : TgF K is (gTup K is.length (gNames is)) (ptT is) := by
  intro L H x d σ0 env0 env1 Q rx re h q
  cases rx with
  | @tup a vs ds hs rs =>
    unfold ptT at h
    simp only at h
    by_cases hl : ds.length = is.length
    · rw [if_pos hl] at h
      cases h
      exact ⟨a, vs, rfl, .of hs, by rw [rs.length]; exact hl, names_of (fun _ h => h) rs hl re q⟩
    · rw [if_neg hl] at h; cases h
  | _ => cases h
section
variable {X : Cx} {E : XK} {tg l iter elt : Expr} {fa fe : EF} {ft : BF} {fi : IF} {pos : Pos}
/-- the turns of a comprehension -/
theorem gcomp_of {K : PySem.W.Frag} {is : List Nat} {g : TG} {pt : D → Lc → Option Lc} {σ : St} {H : Hp} {Q : VK} (hg : TgF K is g pt) (h : tE K E (fGComp fi is pt ft fe) σ H Q) : tLc (tI K E fi) g (tT K E0' ft) (tE K E0' fe) is σ H Q := by
  obtain ⟨L, env, S, rep, re, h⟩ := h
  refine ⟨L, env, S, rep, re, (End.bind h).imp fun it S1 L1 H1 e1 rep1 h1 J hJ D hD => ?_⟩
  have re1 := (re.mono e1).wipes is
  have exD : Ex L1 H1 L1 (upd H1 D (.lst [])) := Ex.new hD
  have nD : D ∉ L1 := rep1.fresh hD
  -- one turn, whatever follows
  have turn : ∀ {fin : List D' → Sto → R D'} {Nx : Hp → Prop} {L2 : List Addr} {H2 : Hp} {S2 : Sto} {d : D'} {x : V} {H3 : Hp} {acc : List D'} {vs : List V}, Ex L1 H1 L2 H2 → Rep K L2 H2 S2 → D ∉ L2 → H2 D = some (.lst vs) → RDs K L2 H2 vs acc →
      Ex L2 H2 L2 H3 → Rep K L2 H3 S2 → RD K L2 H3 x d →
      (∀ {L4 : List Addr} {H4 : Hp} {S4 : Sto} {ws : List V} {acc2 : List D'}, Ex L1 H1 L4 H4 → Rep K L4 H4 S4 → D ∉ L4 → H4 D = some (.lst ws) → RDs K L4 H4 ws acc2 → EndV K E L1 H1 Q (fin acc2 S4) → Nx H4) →
      EndV K E L1 H1 Q (match pt d (unset is env) with | some ee => ((ft ee S2).nox.bind fun b S1 => if b = true then ((fe ee S1).nox.bind fun y S2 => if acc.length < 100000 then fin (acc ++ [y]) S2 else .bad) else fin acc S1) | none => .bad) →
      g x (wipe σ is) H3 fun σ2 H2 => wipe σ2 is = wipe σ is ∧ (tT K E0' ft) σ2 H2 fun b H3 =>
        if b = true then (tE K E0' fe) σ2 H3 fun y H4 => ∃ acc, H4 D = some (.lst acc) ∧ acc.length < sizeLine ∧ Nx (upd H4 D (.lst (acc ++ [y]))) else Nx H3 := by
    intro fin Nx L2 H2 S2 d x H3 acc vs e2 rep2 n2 hD2 rd2 e3 rep3 rx hN hq
    cases hpt : pt d (unset is env) with
    | none => rw [hpt] at hq; exact hq.elim
    | some ee =>
    rw [hpt] at hq
    simp only at hq
    refine hg rx ((re1.mono e2).mono e3) hpt fun σ3 re3 hw => ⟨hw.trans wipe_wipe, ?_⟩
    obtain ⟨n3, hD3⟩ := e3.outside n2 hD2
    refine ⟨L2, _, S2, rep3, re3, (End.keep hq).imp fun b S4 L4 H4 e4 rep4 q4 => ?_⟩
    obtain ⟨n4, hD4⟩ := e4.outside n3 hD3
    cases b with
    | false => exact iteF (hN ((e2.trans e3).trans e4) rep4 n4 hD4 ((rd2.mono e3).mono e4) q4)
    | true =>
      refine iteT ⟨L4, _, S4, rep4, re3.mono e4, (End.keep q4).imp fun y S5 L5 H5 e5 rep5 q5 v rv => ?_⟩
      obtain ⟨n5, hD5⟩ := e5.outside n4 hD4
      by_cases hl : acc.length < 100000
      · rw [if_pos hl] at q5
        have rl : vs.length = acc.length := rd2.length
        have gr : Gr L5 H5 L5 (upd H5 D (.lst (vs ++ [v]))) := Gr.out hD5 (fun _ z => nomatch z) (fun _ _ z => nomatch z)
        refine ⟨vs, hD5, by rw [rl]; exact sz5l hl, ?_⟩
        refine hN (Ex.out (((e2.trans e3).trans e4).trans e5) hD hD5) (rep5.out n5 hD5 (fun _ z => nomatch z) (fun _ _ z => nomatch z)) n5 upd_same ?_ q5
        exact RDs.append ((((rd2.mono e3).mono e4).mono e5).grow gr) (.cons (rv.grow gr) .nil)
      · rw [if_neg hl] at q5; exact q5.elim
  cases it with
  | fix xs =>
    refine ⟨fun j m H => m = xs.length - j ∧ j ≤ xs.length ∧ ∃ L2 S2 acc vs, Ex L1 H1 L2 H ∧ Rep K L2 H S2 ∧ D ∉ L2 ∧ H D = some (.lst vs) ∧ RDs K L2 H vs acc ∧ EndV K E L1 H1 Q (gcompX pt ft fe (unset is env) (xs.drop j) acc S2),
      ⟨xs.length, by simp, Nat.zero_le _, L1, S1, [], [], exD, rep1.new hD, nD, upd_same, .nil, h1⟩, ?_⟩
    rintro j m H2 ⟨rfl, hj, L2, S2, acc, vs, e2, rep2, n2, hD2, rd2, h2⟩
    have ok := hJ j L2 H2 S2 e2 rep2
    by_cases hlt : j < xs.length
    · have hd : xs[j]? = some xs[j] := List.getElem?_eq_getElem hlt
      obtain ⟨hgo, hy⟩ := ok.1 _ hd
      rw [List.drop_eq_getElem_cons hlt] at h2
      refine .inr ⟨hgo, fun H3 => ∃ L2 S2 acc vs, Ex L1 H1 L2 H3 ∧ Rep K L2 H3 S2 ∧ D ∉ L2 ∧ H3 D = some (.lst vs) ∧ RDs K L2 H3 vs acc ∧ EndV K E L1 H1 Q (gcompX pt ft fe (unset is env) (xs.drop (j + 1)) acc S2),
        fun H3 q => ⟨_, by omega, rfl, hlt, q⟩, fun x H3 y => ?_⟩
      obtain ⟨e3, rep3, rx⟩ := hy x H3 y
      exact turn (fin := fun a s => gcompX pt ft fe (unset is env) (xs.drop (j + 1)) a s) e2 rep2 n2 hD2 rd2 e3 rep3 rx (fun q1 q2 q3 q4 q5 q6 => ⟨_, _, _, _, q1, q2, q3, q4, q5, q6⟩) h2
    · refine .inl ⟨ok.2 (by omega), ?_⟩
      rw [List.drop_eq_nil_of_le (by omega)] at h2
      exact adopt_val h2 rep2 hD2 n2 hD e2 rd2
  | live n xs =>
    refine ⟨fun j m H => ∃ rest L2 S2 acc vs, m = List.length rest ∧ Ex L1 H1 L2 H ∧ Rep K L2 H S2 ∧ D ∉ L2 ∧ H D = some (.lst vs) ∧ RDs K L2 H vs acc ∧ EndV K E L1 H1 Q (gcompL n pt ft fe (unset is env) rest j acc S2),
      ⟨xs.length, xs, L1, S1, [], [], rfl, exD, rep1.new hD, nD, upd_same, .nil, h1⟩, ?_⟩
    rintro j m H2 ⟨rest, L2, S2, acc, vs, rfl, e2, rep2, n2, hD2, rd2, h2⟩
    cases rest with
    | nil =>
      unfold gcompL at h2
      cases q : S2[n]? with
      | none => rw [q] at h2; exact h2.elim
      | some c =>
        cases c with
        | lst ys =>
          rw [q] at h2
          simp only at h2
          by_cases hl : ys.length ≤ j
          · rw [if_pos hl] at h2
            exact .inl ⟨(hJ j L2 H2 S2 ys e2 rep2 q).2 hl, adopt_val h2 rep2 hD2 n2 hD e2 rd2⟩
          · rw [if_neg hl] at h2; exact h2.elim
        | _ => rw [q] at h2; exact h2.elim
    | cons r0 rest =>
      unfold gcompL at h2
      cases q : S2[n]? with
      | none => rw [q] at h2; exact h2.elim
      | some c =>
        cases c with
        | lst ys =>
          rw [q] at h2
          simp only at h2
          cases hd : ys[j]? with
          | none =>
            rw [hd] at h2
            exact .inl ⟨(hJ j L2 H2 S2 ys e2 rep2 q).2 (List.getElem?_eq_none_iff.mp hd), adopt_val h2 rep2 hD2 n2 hD e2 rd2⟩
          | some d =>
            rw [hd] at h2
            simp only at h2
            obtain ⟨hgo, hy⟩ := (hJ j L2 H2 S2 ys e2 rep2 q).1 _ hd
            refine .inr ⟨hgo, fun H3 => ∃ L2 S2 acc vs, Ex L1 H1 L2 H3 ∧ Rep K L2 H3 S2 ∧ D ∉ L2 ∧ H3 D = some (.lst vs) ∧ RDs K L2 H3 vs acc ∧ EndV K E L1 H1 Q (gcompL n pt ft fe (unset is env) rest (j + 1) acc S2),
              fun H3 ⟨q0, q1, q2, q3, q4⟩ => ⟨_, by simp, rest, q0, q1, q2, q3, rfl, q4⟩, fun x H3 y => ?_⟩
            obtain ⟨e3, rep3, rx⟩ := hy x H3 y
            exact turn (fin := fun a s => gcompL n pt ft fe (unset is env) rest (j + 1) a s) e2 rep2 n2 hD2 rd2 e3 rep3 rx (fun q1 q2 q3 q4 q5 q6 => ⟨_, _, _, _, q1, q2, q3, q4, q5, q6⟩) h2
        | _ => rw [q] at h2; exact h2.elim

theorem xGComp {ifs : List Expr} {scope : Scope} {own : List (Str × Nat)} {g : TG} {pt : D → Lc → Option Lc} (hc : X.calm = true) (hN : X.N.Nodup) (hi : PI X tg iter (tI X.K E fi)) (ok : BlkOk X.N X.env.scope scope own) (hf : TgF X.K (own.map (·.2)) g pt)
    (hg : ∀ (s : Shared) (H : Hp) (C : Addr) (cl : List (Str × Addr)) (fp : List Addr), PG (X.blk s H scope (compEnvC scope cl C X.env) fp) tg g) (ht : ∀ (s : Shared) (H : Hp) (C : Addr) (cl : List (Str × Addr)) (fp : List Addr), PTs (X.blk s H scope (compEnvC scope cl C X.env) fp) ifs (tT X.K E0' ft))
    (he : ∀ (s : Shared) (H : Hp) (C : Addr) (cl : List (Str × Addr)) (fp : List Addr), PE (X.blk s H scope (compEnvC scope cl C X.env) fp) elt (tE X.K E0' fe)) (hs : ∀ x, foldedSetIterable iter X.env x = pure x := by intro _; rfl) :
    PE X (.ListComp elt [⟨tg, iter, ifs, 0⟩] scope pos) (tE X.K E (fGComp fi (own.map (·.2)) pt ft fe)) :=
  monoE (pe_lc (own := own) hc hN hi ok hg ht he hs) fun σ H Q h => gcomp_of hf h
theorem xgNames0 {Y : Cx} : PGs Y [] (gNames []) := pgs_nil
theorem xgNamesS {Y : Cx} {x : Str} {i : Nat} {px : Pos} {is : List Nat} {es : List Expr} (h1 : PG Y (.Name x px) (gName i)) (h2 : PGs Y es (gNames is)) (hs : (assignEach (.Name x px :: es) Y.env).map (·.2) = assign (.Name x px) Y.env :: (assignEach es Y.env).map (·.2) := by rfl) : PGs Y (.Name x px :: es) (gNames (i :: is)) := pgs_cons h1 h2 hs
end
end RF

/-! sorted(d) as a function; types whose values are keys -/
namespace RF
open PySem L2
def sortNC (S : Sto) (n : Nat) : Option Cell → R D
  | some (.dn _ kvs) => if sortB (kvs.map fun kv => kv.1.data) = true ∧ kvs.length ≤ 100000 ∧ (kvs.all fun kv => decide (kv.1.data.depth ≤ 60)) = true then .ok (.ref S.length) (S ++ [.lst (sortDs (keysN kvs) (kvs.map fun kv => kv.1.data))]) else .bad
  | _ => oSorted [.ref n] S
def oSortN : OpN := fun ds S => match ds with
  | [.ref n] => sortNC S n S[n]?
  | ds => oSorted ds S
theorem RN.data {K : PySem.W.Frag} {L : List Addr} {H : Hp} : ∀ {zs : List ZN} {kvs : List (NestedKey × D)}, RN K L H zs kvs → (zs.map fun z => z.1.data) = kvs.map fun kv => kv.1.data
  | [], [], _ => rfl
  | p :: ps, q :: qs, ⟨a, _, _, d⟩ => by rw [List.map_cons, List.map_cons, RN.data d, a]
  | [], _ :: _, h => h.elim
  | _ :: _, [], h => h.elim
theorem RN.keysZ {K : PySem.W.Frag} {L : List Addr} {H : Hp} : ∀ {zs : List ZN} {kvs : List (NestedKey × D)}, RN K L H zs kvs → (keysN kvs).zip (kvs.map fun kv => kv.1.data) = zs.map fun z => (dOf z.1, z.1.data)
  | [], [], _ => rfl
  | p :: ps, q :: qs, ⟨a, _, _, d⟩ => by
    show (dOf q.1, q.1.data) :: ((keysN qs).zip (qs.map fun kv => kv.1.data)) = _
    rw [RN.keysZ d, List.map_cons, a]
  | [], _ :: _, h => h.elim
  | _ :: _, [], h => h.elim
theorem rds_zs {K : PySem.W.Frag} {L : List Addr} {H : Hp} : ∀ {zs : List ZN}, ZOk H zs → RDs K L H (zs.map zV) (zs.map fun z => dOf z.1)
  | [], _ => .nil
  | z :: zs, h => .cons (NK.rd (h z (List.mem_cons_self ..)).1) (rds_zs fun x hx => h x (List.mem_cons_of_mem _ hx))
theorem f_sortN {K : PySem.W.Frag} {E : XK} : CaF K E (fun xs H Q => rSortD K xs H Q ∨ rSortN xs H Q) oSortN := by
  intro L H S xs ds Q rep rs q
  by_cases hd : ∃ n w kvs, ds = [.ref n] ∧ S[n]? = some (.dn w kvs)
  · obtain ⟨n, w, kvs, rfl, hn⟩ := hd
    obtain ⟨x, rfl, r⟩ := rs.one
    cases r with
    | @ref a _ ha =>
      obtain ⟨c, hc, rc⟩ := rep.adr ha
      rw [hn] at hc
      cases hc
      obtain ⟨zs, hz, rn⟩ := rc
      unfold oSortN at q
      simp only [hn] at q
      unfold sortNC at q
      simp only at q
      split at q
      · rename_i hc
        obtain ⟨h1, h2, h3⟩ := hc
        have ok := rn.zok
        obtain ⟨hal, hso⟩ := sortB_of h1
        rw [← rn.data] at hal hso
        refine .inr ⟨a, w, zs, rfl, hz, ok, hal, hso, by rw [rn.length]; exact h2, fun z hm => ?_, fun p hp => newList q rep ?_ p hp⟩
        · have : z.1.data ∈ kvs.map fun kv => kv.1.data := by rw [← rn.data]; exact List.mem_map_of_mem (f := fun z : ZN => z.1.data) hm
          obtain ⟨kv, hk, e⟩ := List.mem_map.mp this
          rw [← e]
          exact of_decide_eq_true (List.all_eq_true.mp h3 kv hk)
        · have e5 : sortDs (keysN kvs) (kvs.map fun kv => kv.1.data) = (zs.mergeSort (PySem.W.dataLe false fun z => z.1.data)).map fun z => dOf z.1 := by
            unfold sortDs
            rw [rn.keysZ, ← List.map_mergeSort (r := PySem.W.dataLe false fun z : ZN => z.1.data) (s := PySem.W.dataLe false Prod.snd) (f := fun z : ZN => (dOf z.1, z.1.data)) (l := zs) (fun _ _ _ _ => rfl), List.map_map]
            rfl
          rw [e5]
          exact rds_zs fun z hm => ok z ((List.mergeSort_perm _ _).mem_iff.mp hm)
      · exact q.elim
  · have e : oSortN ds S = oSorted ds S := by
      unfold oSortN
      split
      · rename_i n
        unfold sortNC
        split
        · rename_i w kvs h
          exact absurd ⟨n, w, kvs, rfl, h⟩ hd
        · rfl
      · rfl
    rw [e] at q
    exact .inl (f_sorted L H S xs ds Q rep rs q)
/-- values that are keys -/
structure CodK (α : Type) [DecidableEq α] extends Cod α where
  kf : α → NestedKey
  keyT : ∀ a, RF.keyT (e a) = some (kf a)
  inj : ∀ a b, kf a = kf b ↔ a = b
  dOf : ∀ a, RF.dOf (kf a) = e a
  data : ∀ a, (kf a).data = p a
  dep : ∀ a, (p a).depth ≤ 60
namespace CodK
variable {α : Type} [DecidableEq α] {C : CodK α} {S : Sto} {n : Nat} {a : α} {kvs : List (α × D)} {w : World} {d : D}
def enc (C : CodK α) (kvs : List (α × D)) : List (NestedKey × D) := kvs.map fun kv => (C.kf kv.1, kv.2)
theorem enc_len : (C.enc kvs).length = kvs.length := List.length_map ..
theorem val : valK (C.enc kvs) (C.kf a) = valK kvs a := by
  unfold valK enc
  induction kvs with
  | nil => rfl
  | cons kv r ih =>
    rw [List.map_cons, List.find?_cons, List.find?_cons]
    by_cases h : kv.1 = a
    · have h2 : C.kf kv.1 = C.kf a := by rw [h]
      simp [h, h2]
    · have h2 : ¬ C.kf kv.1 = C.kf a := fun z => h ((C.inj _ _).mp z)
      simp only [decide_eq_false h, decide_eq_false h2]
      exact ih
theorem any : ((C.enc kvs).any fun kv => decide (kv.1 = C.kf a)) = kvs.any fun kv => decide (kv.1 = a) := by
  unfold enc
  induction kvs with
  | nil => rfl
  | cons kv r ih =>
    rw [List.map_cons, List.any_cons, List.any_cons, ih]
    by_cases h : kv.1 = a
    · have h2 : C.kf kv.1 = C.kf a := by rw [h]
      simp [h, h2]
    · have h2 : ¬ C.kf kv.1 = C.kf a := fun z => h ((C.inj _ _).mp z)
      simp [h, h2]
theorem put : putKD (C.enc kvs) (C.kf a) d = C.enc (putKD kvs a d) := by
  unfold putKD
  rw [any]
  split
  · unfold enc
    rw [List.map_map, List.map_map]
    refine List.map_congr_left fun kv _ => ?_
    show (if C.kf kv.1 = C.kf a then (C.kf kv.1, d) else (C.kf kv.1, kv.2)) = _
    by_cases h : kv.1 = a
    · have h2 : C.kf kv.1 = C.kf a := by rw [h]
      simp [h, h2]
    · have h2 : ¬ C.kf kv.1 = C.kf a := fun z => h ((C.inj _ _).mp z)
      simp [h, h2]
  · unfold enc
    rw [List.map_append]; rfl
theorem keys : keysN (C.enc kvs) = C.es (kvs.map (·.1)) := by
  unfold keysN enc Cod.es
  rw [List.map_map, List.map_map]
  exact List.map_congr_left fun kv _ => C.dOf kv.1
theorem datas : ((C.enc kvs).map fun kv => kv.1.data) = (kvs.map (·.1)).map C.p := by
  unfold enc
  rw [List.map_map, List.map_map]
  exact List.map_congr_left fun kv _ => C.data kv.1
theorem osort (h : S[n]? = some (.dn w (C.enc kvs))) (hl : kvs.length ≤ 100000) : oSortN [.ref n] S = .ok (.ref S.length) (S ++ [.lst (C.es (C.sort (kvs.map (·.1))))]) := by
  unfold oSortN
  simp only [h]
  unfold sortNC
  simp only
  have h3 : ((C.enc kvs).all fun kv => decide (kv.1.data.depth ≤ 60)) = true := by
    rw [List.all_eq_true]
    intro kv hk
    obtain ⟨x, _, rfl⟩ := List.mem_map.mp hk
    rw [decide_eq_true_iff]
    show (C.kf x.1).data.depth ≤ 60
    rw [C.data]
    exact C.dep _
  have h2 : (C.enc kvs).length ≤ 100000 := by rw [enc_len]; exact hl
  rw [datas, keys, if_pos ⟨Cod.sortB_, h2, h3⟩, Cod.sortDs_]
end CodK
def kK : CodK K2 where
  e := eK
  p := pK
  ok := fun k => PyData.strOk k.2 = true
  toP := fun S k a h => toP_eK h
  eqv := fun _ _ => eqv_K
  alike := fun a b => by simp [pK, PySem.W.alike, PySem.W.alikeAll]
  tupl := fun a => by simp [pK, isTupP]
  kf := fun k => .tup [.num k.1, .text k.2]
  keyT := fun _ => (rfl)
  inj := fun a b => by
    obtain ⟨a1, a2⟩ := a
    obtain ⟨b1, b2⟩ := b
    simp
  dOf := fun _ => (rfl)
  data := fun _ => (rfl)
  dep := fun a => by simp [pK, PyData.depth, PyData.depthAll]
def kT : CodK (Int × Int) where
  e := eT
  p := pT
  ok := fun _ => True
  toP := fun S k a _ => fT_eT
  eqv := fun _ _ => eqv_T
  alike := fun a b => by simp [pT, PySem.W.alike, PySem.W.alikeAll]
  tupl := fun a => by simp [pT, isTupP]
  kf := fun k => .tup [.num k.1, .num k.2]
  keyT := fun _ => (rfl)
  inj := fun a b => by
    obtain ⟨a1, a2⟩ := a
    obtain ⟨b1, b2⟩ := b
    simp
  dOf := fun _ => (rfl)
  data := fun _ => (rfl)
  dep := fun a => by simp [pT, PyData.depth, PyData.depthAll]
def eKT (x : K2 × (Int × Int)) : D := .tup [eK x.1, eT x.2]
def pKT (x : K2 × (Int × Int)) : PyData := .tuple [pK x.1, pT x.2]
def kKT : CodK (K2 × (Int × Int)) where
  e := eKT
  p := pKT
  ok := fun x => PyData.strOk x.1.2 = true
  toP := fun S k a h => by
    unfold eKT pKT
    rw [toP_tup, toP_mapM_cons, toP_mapM_cons, toP_mapM_nil, toP_eK h, fT_eT]
    rfl
  eqv := fun a b => by
    unfold pKT
    simp only [PyData.eqv, PyData.eqvAll, eqv_T, eqv_K]
    obtain ⟨a1, a2⟩ := a
    obtain ⟨b1, b2⟩ := b
    simp only [Prod.mk.injEq]
    by_cases h1 : a1 = b1 <;> by_cases h2 : a2 = b2 <;> simp [h1, h2]
  alike := fun a b => by simp [pKT, pK, pT, PySem.W.alike, PySem.W.alikeAll]
  tupl := fun a => by simp [pKT, isTupP]
  kf := fun x => .tup [.tup [.num x.1.1, .text x.1.2], .tup [.num x.2.1, .num x.2.2]]
  keyT := fun _ => (rfl)
  inj := fun a b => by
    obtain ⟨⟨a1, a2⟩, a3, a4⟩ := a
    obtain ⟨⟨b1, b2⟩, b3, b4⟩ := b
    simp
  dOf := fun _ => (rfl)
  data := fun _ => (rfl)
  dep := fun a => by simp [pKT, pK, pT, PyData.depth, PyData.depthAll]
end RF

/-! shelves and their plain model in the store -/
namespace RF
open PySem L2
section
variable {C : Addr} {x : D} {n : Nat} {S : Sto} {d0 d1 : D}
def shf (d0 d1 : D) : List (Str × D) := [(⟨#[95, 108, 111, 99, 107, 115]⟩, d0), (⟨#[95, 103, 105, 118, 101, 110, 95, 98, 97, 99, 107]⟩, d1)]
def shc (C : Addr) (d0 d1 : D) : Cell := .ins C (shf d0 d1)
theorem fldC_sh : fldC C n (some (shc C d0 d1)) = some (n, shf d0 d1) := fldC_ins
theorem isDictC_sh : isDictC (some (shc C d0 d1)) = false := (rfl)
theorem fldN_sh : (shf d0 d1).length = 2 := (rfl)
theorem fldL_sh_0 : (shf d0 d1).lookup ⟨#[95, 108, 111, 99, 107, 115]⟩ = some d0 := (rfl)
theorem fldP_sh_0 : Cell.ins C (putD ⟨#[95, 108, 111, 99, 107, 115]⟩ x (shf d0 d1)) = shc C x d1 := (rfl)
theorem fldL_sh_1 : (shf d0 d1).lookup ⟨#[95, 103, 105, 118, 101, 110, 95, 98, 97, 99, 107]⟩ = some d1 := (rfl)
theorem fldP_sh_1 : Cell.ins C (putD ⟨#[95, 103, 105, 118, 101, 110, 95, 98, 97, 99, 107]⟩ x (shf d0 d1)) = shc C d0 x := (rfl)
theorem fldM_sh_0 : ((shf d0 d1).lookup ⟨#[114, 111, 119]⟩).isNone = true := (rfl)
theorem fldM_sh_1 : ((shf d0 d1).lookup ⟨#[119, 97, 105, 116, 105, 110, 103]⟩).isNone = true := (rfl)
theorem fldM_sh_2 : ((shf d0 d1).lookup ⟨#[114, 111, 119, 115]⟩).isNone = true := (rfl)
theorem fldM_sh_3 : ((shf d0 d1).lookup ⟨#[112, 97, 115, 116]⟩).isNone = true := (rfl)
theorem fldM_sh_4 : ((shf d0 d1).lookup ⟨#[104, 97, 110, 100, 108, 101]⟩).isNone = true := (rfl)
theorem fldM_sh_5 : ((shf d0 d1).lookup ⟨#[95, 97, 115, 107]⟩).isNone = true := (rfl)
theorem fldM_sh_6 : ((shf d0 d1).lookup ⟨#[95, 102, 114, 101, 101]⟩).isNone = true := (rfl)
theorem fldM_sh_7 : ((shf d0 d1).lookup ⟨#[95, 102, 105, 110, 105, 115, 104]⟩).isNone = true := (rfl)
theorem fldM_sh_8 : ((shf d0 d1).lookup ⟨#[95, 105, 115, 95, 103, 105, 118, 101, 110, 95, 98, 97, 99, 107]⟩).isNone = true := (rfl)
theorem fldM_sh_9 : ((shf d0 d1).lookup ⟨#[95, 103, 105, 118, 101, 95, 98, 97, 99, 107]⟩).isNone = true := (rfl)
theorem fldI_sh_0 : putD ⟨#[95, 108, 111, 99, 107, 115]⟩ x ([] : List (Str × D)) = [(⟨#[95, 108, 111, 99, 107, 115]⟩, x)] := (rfl)
theorem fldI_sh_1 : Cell.ins C (putD ⟨#[95, 103, 105, 118, 101, 110, 95, 98, 97, 99, 107]⟩ x ([(⟨#[95, 108, 111, 99, 107, 115]⟩, d0)] : List (Str × D))) = shc C d0 x := (rfl)
end
section
variable {S : Sto} {a b d : D} {n m : Nat}
def nLk : Str := ⟨#[108, 111, 99, 107, 115]⟩
def nPa : Str := ⟨#[112, 97, 115, 116]⟩
def smF (a b : D) : List (Key × D) := [(.inr nLk, a), (.inr nPa, b)]
def smC (a b : D) : Cell := .dk (smF a b)
theorem isDictC_sm : isDictC (some (smC a b)) = true := (rfl)
theorem lookC_sml : lookC (.str ⟨#[108, 111, 99, 107, 115]⟩) (some (smC a b)) = some (some a) := (rfl)
theorem lookC_smp : lookC (.str ⟨#[112, 97, 115, 116]⟩) (some (smC a b)) = some (some b) := (rfl)
theorem fld_smkey : keyPs [(.str ⟨#[108, 111, 99, 107, 115]⟩, a), (.str ⟨#[112, 97, 115, 116]⟩, b)] = some (smF a b) := (rfl)
theorem fld_smlen : (smF a b).length = 2 := (rfl)
theorem fld_smerge : Cell.dk (mergeKD [] (smF a b)) = smC a b := (rfl)
end
theorem isDict_eT {t : Int × Int} {S : Sto} : isDict S (eT t) = false := (rfl)
theorem getL_eT0 {t : Int × Int} {S : Sto} : oGetL (eT t) (.int 0) S = .ok (.int t.1) S := by unfold eT; rw [getL_tup, atI_0, retO_some]
theorem getL_eT1 {t : Int × Int} {S : Sto} : oGetL (eT t) (.int 1) S = .ok (.int t.2) S := by unfold eT; rw [getL_tup, atI_1, retO_some]
abbrev PK := K2 × (Int × Int)
abbrev Ent := K2 × LSt × Nat
def LkAt (C : Addr) (l : Nat) (st : LSt) (S : Sto) : Prop := ∃ w, S[l]? = some (lkS C st w) ∧ S[w]? = some (.lst (eWs st.ws))
def MdAt (l : Nat) (st : LSt) (S : Sto) : Prop := ∃ w, S[l]? = some (mdS st w) ∧ S[w]? = some (.lst (eWs st.ws))
def fLk (es : List Ent) : List (K2 × D) := es.map fun e => (e.1, .ref e.2.2)
def fPa (pa : List (PK × Int)) : List (PK × D) := pa.map fun x => (x.1, .int x.2)
def stp (es : List Ent) : List (K2 × LSt) := es.map fun e => (e.1, e.2.1)
/-! the plain state -/
def st0 : LSt := ⟨0, 0, none, []⟩
def getS (sh : List (K2 × LSt)) (k : K2) : Option LSt := valK sh k
def lockS (sh : List (K2 × LSt)) (k : K2) : List (K2 × LSt) := match valK sh k with
  | some _ => sh
  | none => sh ++ [(k, st0)]
def setS (sh : List (K2 × LSt)) (k : K2) (st : LSt) : List (K2 × LSt) := sh.map fun e => if e.1 = k then (e.1, st) else e
def pastG (pa : List (PK × Int)) (x : PK) : Int := (valK pa x).getD 0
def giveS (pa : List (PK × Int)) (x : PK) (att : Int) : List (PK × Int) := putKD pa x (if att > pastG pa x then att else pastG pa x)
def sGr : Str := ⟨#[103, 114, 97, 110, 116, 101, 100]⟩
def sBe : Str := ⟨#[98, 101, 104, 105, 110, 100]⟩
def sFr : Str := ⟨#[102, 114, 101, 101, 100]⟩
def sFi : Str := ⟨#[102, 105, 110, 105, 115, 104, 101, 100]⟩
def ansD (key : K2) (st : LSt) (u : Who) : D := match st.h with
  | some h => if h = u then .tup [.int u.1.2, .tup [.str sGr, eT u.1, .int u.2, eK key, .int st.t, .int st.v]] else .tup [.int u.1.2, .tup [.str sBe, eT u.1, .int u.2, eK key, .int st.t, eT h.1, .int h.2]]
  | none => .non
def toldS (key : K2) (st : LSt) : List D := match st.h with
  | some h => (h :: sortW st.ws).map (ansD key st)
  | none => []
def freD (s : Str) (key : K2) (u : Who) : D := .tup [.int u.1.2, .tup [.str s, eT u.1, .int u.2, eK key]]
inductive Kd where
  | ask | free | fin (z : Int)
def handS (kd : Kd) (u : Who) (key : K2) (sh : List (K2 × LSt)) (pa : List (PK × Int)) (st : LSt) : List (K2 × LSt) × List (PK × Int) × List D := match kd with
  | .ask => if u.2 ≤ pastG pa (key, u.1) then (sh, pa, []) else
      (setS sh key (askS st u).1, pa, if (askS st u).2 = [] then [ansD key (askS st u).1 u] else toldS key (askS st u).1)
  | .free => (setS sh key (freeS st u.1 u.2).1, giveS pa (key, u.1) u.2, (if (freeS st u.1 u.2).2 = [] then [] else toldS key (freeS st u.1 u.2).1) ++ [freD sFr key u])
  | .fin z => if st.h = some u then (setS sh key (finS st u z).1, giveS pa (key, u.1) u.2, (if (finS st u z).2 = [] then [] else toldS key (finS st u z).1) ++ [freD sFi key u])
      else (sh, pa, if u.2 ≤ pastG pa (key, u.1) then [freD sFi key u] else [])
structure PR (C CL : Addr) (w : World) (sl dl dp : Nat) (es : List Ent) (pa : List (PK × Int)) (S : Sto) : Prop where
  ob : S[sl]? = some (shc C (.ref dl) (.ref dp))
  lk : S[dl]? = some (.dn w (kK.enc (fLk es)))
  pa : S[dp]? = some (.dn w (kKT.enc (fPa pa)))
  ne : dl ≠ dp
  at_ : ∀ e ∈ es, LkAt CL e.2.2 e.2.1 S
  nd : (es.map (·.2.2)).Nodup
  kd : (es.map (·.1)).Nodup
structure MR (w : World) (ml el ep : Nat) (es : List Ent) (pa : List (PK × Int)) (S : Sto) : Prop where
  ob : S[ml]? = some (smC (.ref el) (.ref ep))
  lk : S[el]? = some (.dn w (kK.enc (fLk es)))
  pa : S[ep]? = some (.dn w (kKT.enc (fPa pa)))
  ne : el ≠ ep
  at_ : ∀ e ∈ es, MdAt e.2.2 e.2.1 S
  nd : (es.map (·.2.2)).Nodup
  kd : (es.map (·.1)).Nodup
def PFt (CL : Addr) (dl dp : Nat) (S : Sto) : Nat → Prop := fun i => i = dl ∨ i = dp ∨ ∃ st w, S[i]? = some (lkS CL st w)
def MF (el ep : Nat) (S : Sto) : Nat → Prop := fun i => i = el ∨ i = ep ∨ ∃ st w, S[i]? = some (mdS st w)
section
variable {C CL : Addr} {w : World} {sl dl dp ml el ep : Nat} {es : List Ent} {pa : List (PK × Int)} {S S1 : Sto} {l : Nat} {st : LSt}
theorem LkAt.keep (h : LkAt CL l st S) {P : Nat → Prop} (fr : Fr S S1 P) (hl : ¬ P l) (hw : ∀ i xs, S[i]? = some (.lst xs) → ¬ P i) : LkAt CL l st S1 := by
  obtain ⟨w, h1, h2⟩ := h
  exact ⟨w, fr.get h1 hl, fr.get h2 (hw w _ h2)⟩
theorem MdAt.keep (h : MdAt l st S) {P : Nat → Prop} (fr : Fr S S1 P) (hl : ¬ P l) (hw : ∀ i xs, S[i]? = some (.lst xs) → ¬ P i) : MdAt l st S1 := by
  obtain ⟨w, h1, h2⟩ := h
  exact ⟨w, fr.get h1 hl, fr.get h2 (hw w _ h2)⟩
theorem PR.mr (h : MR w ml el ep es pa S) {C' : Addr} {es' : List Ent} {pa' : List (PK × Int)} (hp : PR C' CL w sl dl dp es' pa' S) (fr : Fr S S1 (PFt CL dl dp S)) (hd : el ≠ dl ∧ el ≠ dp ∧ ep ≠ dl ∧ ep ≠ dp) : MR w ml el ep es pa S1 := by
  have ins : ∀ {i : Nat} {c : Cell}, S[i]? = some c → (∀ st w, c ≠ lkS CL st w) → ¬ (i = dl) → ¬ (i = dp) → ¬ PFt CL dl dp S i := by
    rintro i c hc hk h1 h2 (z | z | ⟨st, w, z⟩)
    · exact h1 z
    · exact h2 z
    · rw [hc] at z; exact hk st w (Option.some.inj z)
  have kd : ∀ {i j : Nat} {c c' : Cell}, S[i]? = some c → S[j]? = some c' → c ≠ c' → ¬ i = j := fun h1 h2 hne => ne_of_cell h1 h2 hne
  have ls : ∀ i xs, S[i]? = some (.lst xs) → ¬ PFt CL dl dp S i := fun i xs hi => ins hi (fun _ _ z => nomatch z) (kd hi hp.lk (fun z => nomatch z)) (kd hi hp.pa (fun z => nomatch z))
  refine ⟨fr.get h.ob (ins h.ob (fun _ _ z => nomatch z) (kd h.ob hp.lk (fun z => nomatch z)) (kd h.ob hp.pa (fun z => nomatch z))), fr.get h.lk (ins h.lk (fun _ _ z => nomatch z) hd.1 hd.2.1), fr.get h.pa (ins h.pa (fun _ _ z => nomatch z) hd.2.2.1 hd.2.2.2), h.ne, fun e he => ?_, h.nd, h.kd⟩
  obtain ⟨w1, h1, h2⟩ := h.at_ e he
  exact ⟨w1, fr.get h1 (ins h1 (fun _ _ z => nomatch z) (kd h1 hp.lk (fun z => nomatch z)) (kd h1 hp.pa (fun z => nomatch z))), fr.get h2 (ls _ _ h2)⟩
theorem MR.pr {es' : List Ent} {pa' : List (PK × Int)} (h : PR C CL w sl dl dp es pa S) (hm : MR w ml el ep es' pa' S) (fr : Fr S S1 (MF el ep S)) (hd : el ≠ dl ∧ el ≠ dp ∧ ep ≠ dl ∧ ep ≠ dp) : PR C CL w sl dl dp es pa S1 := by
  have ins : ∀ {i : Nat} {c : Cell}, S[i]? = some c → (∀ st w, c ≠ mdS st w) → ¬ (i = el) → ¬ (i = ep) → ¬ MF el ep S i := by
    rintro i c hc hk h1 h2 (z | z | ⟨st, w, z⟩)
    · exact h1 z
    · exact h2 z
    · rw [hc] at z; exact hk st w (Option.some.inj z)
  have kd : ∀ {i j : Nat} {c c' : Cell}, S[i]? = some c → S[j]? = some c' → c ≠ c' → ¬ i = j := fun h1 h2 hne => ne_of_cell h1 h2 hne
  have ls : ∀ i xs, S[i]? = some (.lst xs) → ¬ MF el ep S i := fun i xs hi => ins hi (fun _ _ z => nomatch z) (kd hi hm.lk (fun z => nomatch z)) (kd hi hm.pa (fun z => nomatch z))
  refine ⟨fr.get h.ob (ins h.ob (fun _ _ z => nomatch z) (kd h.ob hm.lk (fun z => nomatch z)) (kd h.ob hm.pa (fun z => nomatch z))), fr.get h.lk (ins h.lk (fun _ _ z => nomatch z) (fun z => hd.1 z.symm) (fun z => hd.2.2.1 z.symm)), fr.get h.pa (ins h.pa (fun _ _ z => nomatch z) (fun z => hd.2.1 z.symm) (fun z => hd.2.2.2 z.symm)), h.ne, fun e he => ?_, h.nd, h.kd⟩
  obtain ⟨w1, h1, h2⟩ := h.at_ e he
  exact ⟨w1, fr.get h1 (ins h1 (fun _ _ z => nomatch z) (kd h1 hm.lk (fun z => nomatch z)) (kd h1 hm.pa (fun z => nomatch z))), fr.get h2 (ls _ _ h2)⟩
end

/-! look-ups and stores -/
section
variable {C CL : Addr} {w : World} {sl dl dp ml el ep : Nat} {es : List Ent} {pa : List (PK × Int)} {S S1 : Sto} {l : Nat} {st : LSt} {k : K2} {x : PK} {a : Int} {e : Ent}
theorem past_get : (valK (fPa pa) x).getD (.int 0) = .int (pastG pa x) := by
  unfold pastG fPa valK
  induction pa with
  | nil => rfl
  | cons y r ih =>
    rw [List.map_cons, List.find?_cons, List.find?_cons]
    by_cases hx : y.1 = x
    · simp [hx]
    · simp only [decide_eq_false hx]
      exact ih
theorem past_any : ((fPa pa).any fun kv => decide (kv.1 = x)) = pa.any fun kv => decide (kv.1 = x) := by
  unfold fPa
  rw [List.any_map]; rfl
theorem past_put : putKD (fPa pa) x (.int a) = fPa (putKD pa x a) := by
  unfold putKD
  rw [past_any]
  split
  · unfold fPa
    rw [List.map_map, List.map_map]
    refine List.map_congr_left fun y _ => ?_
    show (if y.1 = x then (y.1, D.int a) else (y.1, .int y.2)) = _
    by_cases h : y.1 = x <;> simp [h]
  · unfold fPa
    rw [List.map_append]; rfl
theorem fPa_len : (fPa pa).length = pa.length := List.length_map ..
theorem fLk_len : (fLk es).length = es.length := List.length_map ..
def atE (es : List Ent) (k : K2) : Option Ent := es.find? fun e => decide (e.1 = k)
theorem fLk_val : valK (fLk es) k = (atE es k).map fun e => .ref e.2.2 := by
  unfold valK fLk atE
  induction es with
  | nil => rfl
  | cons y r ih =>
    rw [List.map_cons, List.find?_cons, List.find?_cons]
    by_cases hx : y.1 = k
    · simp [hx]
    · simp only [decide_eq_false hx]
      exact ih
theorem stp_val : valK (stp es) k = (atE es k).map fun e => e.2.1 := by
  unfold valK stp atE
  induction es with
  | nil => rfl
  | cons y r ih =>
    rw [List.map_cons, List.find?_cons, List.find?_cons]
    by_cases hx : y.1 = k
    · simp [hx]
    · simp only [decide_eq_false hx]
      exact ih
theorem atE_some (h : atE es k = some e) : e ∈ es ∧ e.1 = k := ⟨List.mem_of_find?_eq_some h, by have := List.find?_some h; simpa using this⟩
theorem atE_none (h : atE es k = none) : k ∉ es.map (·.1) := by
  intro hm
  obtain ⟨y, hy, e⟩ := List.mem_map.mp hm
  have := List.find?_eq_none.mp h y hy
  simp [e] at this
def setE (es : List Ent) (k : K2) (st : LSt) : List Ent := es.map fun e => if e.1 = k then (e.1, st, e.2.2) else e
theorem setE_stp : stp (setE es k st) = setS (stp es) k st := by
  unfold stp setE setS
  rw [List.map_map, List.map_map]
  refine List.map_congr_left fun y _ => ?_
  show ((if y.1 = k then (y.1, st, y.2.2) else y).1, (if y.1 = k then (y.1, st, y.2.2) else y).2.1) = if y.1 = k then (y.1, st) else (y.1, y.2.1)
  by_cases h : y.1 = k <;> simp [h]
theorem setE_lk : fLk (setE es k st) = fLk es := by
  unfold fLk setE
  rw [List.map_map]
  refine List.map_congr_left fun y _ => ?_
  show ((if y.1 = k then (y.1, st, y.2.2) else y).1, D.ref (if y.1 = k then (y.1, st, y.2.2) else y).2.2) = (y.1, .ref y.2.2)
  by_cases h : y.1 = k <;> simp [h]
theorem setE_k : (setE es k st).map (·.1) = es.map (·.1) := by
  unfold setE
  rw [List.map_map]
  refine List.map_congr_left fun y _ => ?_
  show (if y.1 = k then (y.1, st, y.2.2) else y).1 = y.1
  by_cases h : y.1 = k <;> simp [h]
theorem setE_l : (setE es k st).map (·.2.2) = es.map (·.2.2) := by
  unfold setE
  rw [List.map_map]
  refine List.map_congr_left fun y _ => ?_
  show (if y.1 = k then (y.1, st, y.2.2) else y).2.2 = y.2.2
  by_cases h : y.1 = k <;> simp [h]
theorem nd_inj {α β : Type} {f : α → β} {xs : List α} (h : (xs.map f).Nodup) {a b : α} (ha : a ∈ xs) (hb : b ∈ xs) (e : f a = f b) : a = b := by
  induction xs with
  | nil => cases ha
  | cons x xs ih =>
    rw [List.map_cons, List.nodup_cons] at h
    rcases List.mem_cons.mp ha with h1 | h1
    · rcases List.mem_cons.mp hb with h2 | h2
      · exact h1.trans h2.symm
      · exact absurd (by rw [← h1, e]; exact List.mem_map_of_mem (f := f) h2) h.1
    · rcases List.mem_cons.mp hb with h2 | h2
      · exact absurd (by rw [← h2, ← e]; exact List.mem_map_of_mem (f := f) h1) h.1
      · exact ih h.2 h1 h2
/-- a lock has changed -/
theorem PR.upd (h : PR C CL w sl dl dp es pa S) (he : atE es k = some e) (fr : Fr S S1 (fun i => i = e.2.2)) (ha : LkAt CL e.2.2 st S1) : PR C CL w sl dl dp (setE es k st) pa S1 := by
  obtain ⟨hm, hk⟩ := atE_some he
  obtain ⟨w0, g1, g2⟩ := h.at_ e hm
  have kd : ∀ {i : Nat} {c : Cell}, S[i]? = some c → (∀ st w, c ≠ lkS CL st w) → ¬ i = e.2.2 := fun h1 hne => ne_of_cell h1 g1 (hne _ _)
  refine ⟨fr.get h.ob (kd h.ob fun _ _ z => by unfold shc lkS lkC shf lkF at z; injection z with _ z; injection z with _ z; injection z with _ z; cases z), by rw [setE_lk]; exact fr.get h.lk (kd h.lk fun _ _ z => nomatch z), fr.get h.pa (kd h.pa fun _ _ z => nomatch z), h.ne, fun y hy => ?_, by rw [setE_l]; exact h.nd, by rw [setE_k]; exact h.kd⟩
  obtain ⟨x, hx, rfl⟩ := List.mem_map.mp hy
  by_cases hxk : x.1 = k
  · rw [if_pos hxk]
    have : x = e := nd_inj h.kd hx hm (hxk.trans hk.symm)
    rw [this]; exact ha
  · rw [if_neg hxk]
    refine (h.at_ x hx).keep fr (fun z => hxk ?_) fun i xs hi => kd hi fun _ _ z => nomatch z
    rw [nd_inj h.nd hx hm z]; exact hk
theorem MR.upd (h : MR w ml el ep es pa S) (he : atE es k = some e) (fr : Fr S S1 (fun i => i = e.2.2)) (ha : MdAt e.2.2 st S1) : MR w ml el ep (setE es k st) pa S1 := by
  obtain ⟨hm, hk⟩ := atE_some he
  obtain ⟨w0, g1, g2⟩ := h.at_ e hm
  have kd : ∀ {i : Nat} {c : Cell}, S[i]? = some c → (∀ st w, c ≠ mdS st w) → ¬ i = e.2.2 := fun h1 hne => ne_of_cell h1 g1 (hne _ _)
  refine ⟨fr.get h.ob (kd h.ob fun _ _ z => by unfold smC mdS mdC smF mdF at z; injection z with z; injection z with _ z; injection z with _ z; cases z), by rw [setE_lk]; exact fr.get h.lk (kd h.lk fun _ _ z => nomatch z), fr.get h.pa (kd h.pa fun _ _ z => nomatch z), h.ne, fun y hy => ?_, by rw [setE_l]; exact h.nd, by rw [setE_k]; exact h.kd⟩
  obtain ⟨x, hx, rfl⟩ := List.mem_map.mp hy
  by_cases hxk : x.1 = k
  · rw [if_pos hxk]
    have : x = e := nd_inj h.kd hx hm (hxk.trans hk.symm)
    rw [this]; exact ha
  · rw [if_neg hxk]
    refine (h.at_ x hx).keep fr (fun z => hxk ?_) fun i xs hi => kd hi fun _ _ z => nomatch z
    rw [nd_inj h.nd hx hm z]; exact hk
end

/-- a comprehension over a list that makes an item of each -/
theorem comp_mapL {n i : Nat} {fe : EF} {env : Lc} {S : Sto} {ys : List D} {f : D → D} (h : S[n]? = some (.lst ys)) (h2 : ∀ d ∈ ys, fe (env.set i (some d)) S = .ok (f d) S) (hl : ys.length < 100000) :
    ∀ (r j : Nat) (xs acc : List D), r = ys.length - j → xs.length = r → acc.length ≤ j → compL n i fYes fe env xs j acc S = .ok (.ref S.length) (S ++ [.lst (acc ++ (ys.drop j).map f)])
  | 0, j, xs, acc, hr, hx, ha => by
    have hx : xs = [] := List.length_eq_zero_iff.mp hx
    subst hx
    unfold compL
    rw [h]
    simp only
    rw [if_pos (by omega), List.drop_eq_nil_of_le (by omega)]
    simp
  | r + 1, j, [], acc, hr, hx, ha => by simp at hx
  | r + 1, j, x :: xs, acc, hr, hx, ha => by
    have hj : j < ys.length := by omega
    unfold compL
    rw [h]
    simp only
    rw [List.getElem?_eq_getElem hj]
    simp only
    rw [List.drop_eq_getElem_cons hj, List.map_cons]
    have hx' : xs.length = r := by simpa using hx
    rw [show fYes (env.set i (some ys[j])) S = .ok true S from rfl]
    simp only [R.nox_ok, R.bind_ok, if_true]
    rw [h2 _ (List.getElem_mem hj)]
    simp only [R.nox_ok, R.bind_ok]
    rw [if_pos (by omega), comp_mapL h h2 hl r (j + 1) xs _ (by omega) hx' (by rw [List.length_append, List.length_singleton]; omega)]
    simp
theorem comp_mapL0 {n i : Nat} {fe : EF} {env : Lc} {S : Sto} {ys : List D} {f : D → D} (h : S[n]? = some (.lst ys)) (h2 : ∀ d ∈ ys, fe (env.set i (some d)) S = .ok (f d) S) (hl : ys.length < 100000) :
    compL n i fYes fe env ys 0 [] S = .ok (.ref S.length) (S ++ [.lst (ys.map f)]) := by
  have h := comp_mapL h h2 hl ys.length 0 ys [] (by omega) rfl (Nat.le_refl _)
  simpa using h
theorem ask_st {st : LSt} {u : Who} : (askS st u).1.h ≠ none ∧ ((askS st u).2 = [] ∨ ∃ h, (askS st u).2 = [h] ∧ (askS st u).1.h = some h) := by
  have hf : ∀ tr att, (freeS st tr att).2 = [] ∨ ∃ h, (freeS st tr att).2 = [h] ∧ (freeS st tr att).1.h = some h := by
    intro tr att
    unfold freeS
    split
    · exact .inl rfl
    · split
      · exact .inl rfl
      · exact .inr ⟨_, rfl, rfl⟩
  unfold askS
  simp only
  split
  · exact ⟨by simp, .inr ⟨u, rfl, rfl⟩⟩
  · rename_i x hx
    split
    · refine ⟨by rw [hx]; simp, ?_⟩
      rcases hf u.1 (u.2 - 1) with h | ⟨h, e1, e2⟩
      · exact .inl h
      · exact .inr ⟨h, e1, e2⟩
    · exact ⟨by rw [hx]; simp, hf u.1 (u.2 - 1)⟩
theorem free_st {st : LSt} {tr : Int × Int} {att : Int} : (freeS st tr att).2 = [] ∨ ∃ h, (freeS st tr att).2 = [h] ∧ (freeS st tr att).1.h = some h := by
  unfold freeS
  split
  · exact .inl rfl
  · split
    · exact .inl rfl
    · exact .inr ⟨_, rfl, rfl⟩
theorem fin_st {st : LSt} {u : Who} {z : Int} : (finS st u z).2 = [] ∨ ∃ h, (finS st u z).2 = [h] ∧ (finS st u z).1.h = some h := by
  unfold finS
  split
  · exact .inl rfl
  · exact free_st
theorem give_len {pa : List (PK × Int)} {x : PK} {a : Int} : (giveS pa x a).length ≤ pa.length + 1 := by
  unfold giveS putKD
  split
  · rw [List.length_map]; omega
  · rw [List.length_append]; simp

theorem PR.app {C CL : Addr} {w : World} {sl dl dp : Nat} {es : List Ent} {pa : List (PK × Int)} {S T : Sto} (h : PR C CL w sl dl dp es pa S) : PR C CL w sl dl dp es pa (S ++ T) :=
  ⟨app_get h.ob, app_get h.lk, app_get h.pa, h.ne, fun e he => let ⟨w1, h1, h2⟩ := h.at_ e he; ⟨w1, app_get h1, app_get h2⟩, h.nd, h.kd⟩
theorem MR.app {w : World} {ml el ep : Nat} {es : List Ent} {pa : List (PK × Int)} {S T : Sto} (h : MR w ml el ep es pa S) : MR w ml el ep es pa (S ++ T) :=
  ⟨app_get h.ob, app_get h.lk, app_get h.pa, h.ne, fun e he => let ⟨w1, h1, h2⟩ := h.at_ e he; ⟨w1, app_get h1, app_get h2⟩, h.nd, h.kd⟩
/-- what was given back has changed -/
theorem PR.give {C CL : Addr} {w : World} {sl dl dp : Nat} {es : List Ent} {pa pa2 : List (PK × Int)} {S : Sto} (h : PR C CL w sl dl dp es pa S) : PR C CL w sl dl dp es pa2 (S.set dp (.dn w (kKT.enc (fPa pa2)))) := by
  have kd : ∀ {i : Nat} {c : Cell}, S[i]? = some c → (∀ kvs, c ≠ .dn w kvs) → i ≠ dp := fun h1 hne => ne_of_cell h1 h.pa (hne _)
  have st : ∀ {i : Nat} {c : Cell}, S[i]? = some c → (∀ kvs, c ≠ .dn w kvs) → (S.set dp (.dn w (kKT.enc (fPa pa2))))[i]? = some c := fun h1 hne => by rw [List.getElem?_set_ne (fun z => kd h1 hne z.symm)]; exact h1
  exact ⟨st h.ob (fun _ z => nomatch z), by rw [List.getElem?_set_ne (fun z => h.ne z.symm)]; exact h.lk, set_get h.pa, h.ne, fun e he => let ⟨w1, h1, h2⟩ := h.at_ e he; ⟨w1, st h1 (fun _ z => nomatch z), st h2 (fun _ z => nomatch z)⟩, h.nd, h.kd⟩
theorem MR.give {w : World} {ml el ep : Nat} {es : List Ent} {pa pa2 : List (PK × Int)} {S : Sto} (h : MR w ml el ep es pa S) : MR w ml el ep es pa2 (S.set ep (.dn w (kKT.enc (fPa pa2)))) := by
  have kd : ∀ {i : Nat} {c : Cell}, S[i]? = some c → (∀ kvs, c ≠ .dn w kvs) → i ≠ ep := fun h1 hne => ne_of_cell h1 h.pa (hne _)
  have st : ∀ {i : Nat} {c : Cell}, S[i]? = some c → (∀ kvs, c ≠ .dn w kvs) → (S.set ep (.dn w (kKT.enc (fPa pa2))))[i]? = some c := fun h1 hne => by rw [List.getElem?_set_ne (fun z => kd h1 hne z.symm)]; exact h1
  exact ⟨st h.ob (fun _ z => nomatch z), by rw [List.getElem?_set_ne (fun z => h.ne z.symm)]; exact h.lk, set_get h.pa, h.ne, fun e he => let ⟨w1, h1, h2⟩ := h.at_ e he; ⟨w1, st h1 (fun _ z => nomatch z), st h2 (fun _ z => nomatch z)⟩, h.nd, h.kd⟩
theorem fLk_new {es : List Ent} {k : K2} {n : Nat} (h : atE es k = none) : putKD (fLk es) k (.ref n) = fLk (es ++ [(k, st0, n)]) := by
  have ha : ((fLk es).any fun kv => decide (kv.1 = k)) = false := by
    rw [Bool.eq_false_iff]
    intro z
    obtain ⟨y, hy, e⟩ := List.any_eq_true.mp z
    obtain ⟨x, hx, rfl⟩ := List.mem_map.mp hy
    exact atE_none h (List.mem_map.mpr ⟨x, hx, by simpa using e⟩)
  unfold putKD
  rw [ha]
  unfold fLk
  rw [List.map_append]
  rfl
theorem atE_new {es : List Ent} {k : K2} {n : Nat} (h : atE es k = none) : atE (es ++ [(k, st0, n)]) k = some (k, st0, n) := by
  unfold atE at *
  rw [List.find?_append, h]
  simp
theorem stp_new {es : List Ent} {k : K2} {n : Nat} (h : atE es k = none) : stp (es ++ [(k, st0, n)]) = lockS (stp es) k := by
  unfold lockS
  rw [stp_val, h]
  unfold stp
  rw [List.map_append]
  rfl
theorem stp_old {es : List Ent} {k : K2} {e : Ent} (h : atE es k = some e) : stp es = lockS (stp es) k := by
  unfold lockS
  rw [stp_val, h]
  rfl
theorem PR.add {C CL : Addr} {w : World} {sl dl dp : Nat} {es : List Ent} {pa : List (PK × Int)} {S : Sto} {k : K2} (h : PR C CL w sl dl dp es pa S) (hk : atE es k = none) :
    PR C CL w sl dl dp (es ++ [(k, st0, S.length)]) pa (S.set dl (.dn w (kK.enc (fLk (es ++ [(k, st0, S.length)])))) ++ [lkS CL st0 (S.length + 1), .lst (eWs [])]) := by
  have kd : ∀ {i : Nat} {c : Cell}, S[i]? = some c → (∀ kvs, c ≠ .dn w kvs) → i ≠ dl := fun h1 hne => ne_of_cell h1 h.lk (hne _)
  have st : ∀ {i : Nat} {c d : Cell} {T : Sto}, S[i]? = some c → (∀ kvs, c ≠ .dn w kvs) → (S.set dl d ++ T)[i]? = some c := fun h1 hne => app_get (by rw [List.getElem?_set_ne (fun z => kd h1 hne z.symm)]; exact h1)
  refine ⟨st h.ob (fun _ z => nomatch z), app_get (set_get h.lk), app_get (by rw [List.getElem?_set_ne h.ne]; exact h.pa), h.ne, fun e he => ?_, ?_, ?_⟩
  · rcases List.mem_append.mp he with he | he
    · obtain ⟨w1, h1, h2⟩ := h.at_ e he
      exact ⟨w1, st h1 (fun _ z => nomatch z), st h2 (fun _ z => nomatch z)⟩
    · rw [List.mem_singleton.mp he]
      exact ⟨S.length + 1, by rw [get_apps0]; rfl, by rw [get_apps]; rfl⟩
  · rw [List.map_append, List.nodup_append]
    refine ⟨h.nd, by simp, fun a ha b hb z => ?_⟩
    rw [List.mem_singleton.mp hb] at z
    obtain ⟨e, he, rfl⟩ := List.mem_map.mp ha
    obtain ⟨w1, h1, _⟩ := h.at_ e he
    have := (List.getElem?_eq_some_iff.mp h1).1
    have z : e.2.2 = S.length := z
    omega
  · rw [List.map_append, List.nodup_append]
    refine ⟨h.kd, by simp, fun a ha b hb z => ?_⟩
    rw [List.mem_singleton.mp hb] at z
    exact atE_none hk (by rw [← show a = k from z]; exact ha)
theorem MR.add {w : World} {ml el ep : Nat} {es : List Ent} {pa : List (PK × Int)} {S : Sto} {k : K2} (h : MR w ml el ep es pa S) (hk : atE es k = none) :
    MR w ml el ep (es ++ [(k, st0, S.length)]) pa (S.set el (.dn w (kK.enc (fLk (es ++ [(k, st0, S.length)])))) ++ [mdS st0 (S.length + 1), .lst (eWs [])]) := by
  have kd : ∀ {i : Nat} {c : Cell}, S[i]? = some c → (∀ kvs, c ≠ .dn w kvs) → i ≠ el := fun h1 hne => ne_of_cell h1 h.lk (hne _)
  have st : ∀ {i : Nat} {c d : Cell} {T : Sto}, S[i]? = some c → (∀ kvs, c ≠ .dn w kvs) → (S.set el d ++ T)[i]? = some c := fun h1 hne => app_get (by rw [List.getElem?_set_ne (fun z => kd h1 hne z.symm)]; exact h1)
  refine ⟨st h.ob (fun _ z => nomatch z), app_get (set_get h.lk), app_get (by rw [List.getElem?_set_ne h.ne]; exact h.pa), h.ne, fun e he => ?_, ?_, ?_⟩
  · rcases List.mem_append.mp he with he | he
    · obtain ⟨w1, h1, h2⟩ := h.at_ e he
      exact ⟨w1, st h1 (fun _ z => nomatch z), st h2 (fun _ z => nomatch z)⟩
    · rw [List.mem_singleton.mp he]
      exact ⟨S.length + 1, by rw [get_apps0]; rfl, by rw [get_apps]; rfl⟩
  · rw [List.map_append, List.nodup_append]
    refine ⟨h.nd, by simp, fun a ha b hb z => ?_⟩
    rw [List.mem_singleton.mp hb] at z
    obtain ⟨e, he, rfl⟩ := List.mem_map.mp ha
    obtain ⟨w1, h1, _⟩ := h.at_ e he
    have := (List.getElem?_eq_some_iff.mp h1).1
    have z : e.2.2 = S.length := z
    omega
  · rw [List.map_append, List.nodup_append]
    refine ⟨h.kd, by simp, fun a ha b hb z => ?_⟩
    rw [List.mem_singleton.mp hb] at z
    exact atE_none hk (by rw [← show a = k from z]; exact ha)
/-- what an operation on the shelf leaves -/
structure POut (C CL : Addr) (w : World) (sl dl dp : Nat) (S : Sto) (q : List (K2 × LSt) × List (PK × Int) × List D) (x : R D) : Prop where
  ex : ∃ S1 r es1, x = .ok (.ref r) S1 ∧ PR C CL w sl dl dp es1 q.2.1 S1 ∧ stp es1 = q.1 ∧ Fr S S1 (PFt CL dl dp S) ∧ S1[r]? = some (.lst q.2.2) ∧ ∃ S0, PR C CL w sl dl dp es1 q.2.1 S0 ∧ Fr S0 S1 (fun _ => False) ∧ S.length ≤ S0.length ∧ S0.length ≤ r
structure MOut (w : World) (ml el ep : Nat) (S : Sto) (q : List (K2 × LSt) × List (PK × Int) × List D) (x : R D) : Prop where
  ex : ∃ S1 r es1, x = .ok (.ref r) S1 ∧ MR w ml el ep es1 q.2.1 S1 ∧ stp es1 = q.1 ∧ Fr S S1 (MF el ep S) ∧ S1[r]? = some (.lst q.2.2) ∧ S.length ≤ r

theorem pft_of {CL : Addr} {dl dp l w : Nat} {S : Sto} {st : LSt} (h : S[l]? = some (lkS CL st w)) : ∀ i, i = l → PFt CL dl dp S i := fun i e => by subst e; exact .inr (.inr ⟨st, w, h⟩)
theorem mf_of {el ep l w : Nat} {S : Sto} {st : LSt} (h : S[l]? = some (mdS st w)) : ∀ i, i = l → MF el ep S i := fun i e => by subst e; exact .inr (.inr ⟨st, w, h⟩)
/-- cells of a shelf stay what they are -/
theorem pft_set {CL : Addr} {w : World} {dl dp n : Nat} {S : Sto} {kvs kvs2 : List (NestedKey × D)} (h : S[n]? = some (.dn w kvs)) : ∀ i, PFt CL dl dp (S.set n (.dn w kvs2)) i → PFt CL dl dp S i := by
  rintro i (z | z | ⟨st, v, z⟩)
  · exact .inl z
  · exact .inr (.inl z)
  · refine .inr (.inr ⟨st, v, ?_⟩)
    by_cases hi : n = i
    · subst hi
      rw [set_get h] at z
      exact nomatch z
    · rw [List.getElem?_set_ne hi] at z; exact z
theorem mf_set {w : World} {el ep n : Nat} {S : Sto} {kvs kvs2 : List (NestedKey × D)} (h : S[n]? = some (.dn w kvs)) : ∀ i, MF el ep (S.set n (.dn w kvs2)) i → MF el ep S i := by
  rintro i (z | z | ⟨st, v, z⟩)
  · exact .inl z
  · exact .inr (.inl z)
  · refine .inr (.inr ⟨st, v, ?_⟩)
    by_cases hi : n = i
    · subst hi
      rw [set_get h] at z
      exact nomatch z
    · rw [List.getElem?_set_ne hi] at z; exact z
theorem past_give {pa : List (PK × Int)} {x : PK} {a : Int} : pastG (giveS pa x a) x = if a > pastG pa x then a else pastG pa x := by
  have key : ∀ v : Int, pastG (putKD pa x v) x = v := by
    intro v
    unfold pastG putKD
    by_cases h : (pa.any fun kv => decide (kv.1 = x)) = true
    · rw [if_pos h]
      unfold valK
      induction pa with
      | nil => simp at h
      | cons y r ih =>
        rw [List.map_cons, List.find?_cons]
        by_cases hy : y.1 = x
        · simp [hy]
        · simp only [if_neg hy, decide_eq_false hy]
          refine ih ?_
          rw [List.any_cons, decide_eq_false hy] at h
          simpa using h
    · rw [if_neg h]
      unfold valK
      rw [List.find?_append]
      have : (pa.find? fun kv => decide (kv.1 = x)) = none := by
        rw [List.find?_eq_none]
        intro y hy z
        exact h (List.any_eq_true.mpr ⟨y, hy, z⟩)
      rw [this]
      simp
  unfold giveS
  exact key _
theorem eqv_NW {u : Who} : PyData.eqv .none (pW u) = false := by simp [pW, PyData.eqv]
theorem o_seqT {S : Sto} {xs : List D} : seqD S (.tup xs) = some xs := (rfl)
theorem keyT_eK {k : K2} : keyT (eK k) = some (kK.kf k) := (rfl)
theorem keyT_eKT {k : K2} {t : Int × Int} : keyT (.tup [eK k, eT t]) = some (kKT.kf (k, t)) := (rfl)
theorem keyT_eT {t : Int × Int} : keyT (eT t) = some (kT.kf t) := (rfl)

/-! data that compare with themselves -/
def gd : Nat → D → Bool
  | _, .non => true
  | _, .bl _ => true
  | _, .int _ => true
  | _, .str x => PyData.strOk x
  | n + 1, .tup xs => xs.all (gd n)
  | _, _ => false
theorem gd_toP : ∀ (n : Nat) (d : D), gd n d = true → ∃ p, (∀ (S : Sto) (k : Nat), n ≤ k → toP S k d = some p) ∧ PyData.eqv p p = true := by
  intro n
  induction n with
  | zero =>
    intro d h
    cases d with
    | non => exact ⟨.none, fun S k _ => by cases k <;> rfl, by simp [PyData.eqv]⟩
    | bl b => exact ⟨.bool b, fun S k _ => by cases k <;> rfl, by simp [PyData.eqv]⟩
    | int i => exact ⟨.int i, fun S k _ => by cases k <;> rfl, by simp [PyData.eqv]⟩
    | str x => exact ⟨.str x, fun S k _ => by rw [toP_str, if_pos (by simpa [gd] using h)], by simp [PyData.eqv]⟩
    | _ => simp [gd] at h
  | succ n ih =>
    intro d h
    cases d with
    | non => exact ⟨.none, fun S k _ => by cases k <;> rfl, by simp [PyData.eqv]⟩
    | bl b => exact ⟨.bool b, fun S k _ => by cases k <;> rfl, by simp [PyData.eqv]⟩
    | int i => exact ⟨.int i, fun S k _ => by cases k <;> rfl, by simp [PyData.eqv]⟩
    | str x => exact ⟨.str x, fun S k _ => by rw [toP_str, if_pos (by simpa [gd] using h)], by simp [PyData.eqv]⟩
    | tup xs =>
      have hx : ∀ x ∈ xs, gd n x = true := by simpa [gd] using h
      have key : ∀ xs : List D, (∀ x ∈ xs, gd n x = true) → ∃ ps, (∀ (S : Sto) (k : Nat), n ≤ k → xs.mapM (toP S k) = some ps) ∧ PyData.eqvAll ps ps = true := by
        intro xs
        induction xs with
        | nil => intro _; exact ⟨[], fun S k _ => rfl, by simp [PyData.eqvAll]⟩
        | cons x xs ihx =>
          intro hx
          obtain ⟨p, h1, h2⟩ := ih x (hx x (List.mem_cons_self ..))
          obtain ⟨ps, h3, h4⟩ := ihx fun y hy => hx y (List.mem_cons_of_mem _ hy)
          exact ⟨p :: ps, fun S k hk => by rw [toP_mapM_cons, h1 S k hk, h3 S k hk]; rfl, by simp [PyData.eqvAll, h2, h4]⟩
      obtain ⟨ps, h1, h2⟩ := key xs hx
      refine ⟨.tuple ps, fun S k hk => ?_, by simpa [PyData.eqv] using h2⟩
      cases k with
      | zero => omega
      | succ k => rw [toP_tup, h1 S k (by omega)]; rfl
    | _ => simp [gd] at h
theorem gds {xs : List D} (h : ∀ x ∈ xs, gd 15 x = true) : ∃ ps, (∀ S : Sto, xs.mapM (toP S 19) = some ps) ∧ PyData.eqv (.tuple ps) (.tuple ps) = true ∧ PyData.eqv (.list ps) (.list ps) = true := by
  induction xs with
  | nil => exact ⟨[], fun S => rfl, by simp [PyData.eqv, PyData.eqvAll], by simp [PyData.eqv, PyData.eqvAll]⟩
  | cons x xs ih =>
    obtain ⟨p, h1, h2⟩ := gd_toP 15 x (h x (List.mem_cons_self ..))
    obtain ⟨ps, h3, h4, h5⟩ := ih fun y hy => h y (List.mem_cons_of_mem _ hy)
    refine ⟨p :: ps, fun S => by rw [toP_mapM_cons, h1 S 19 (by omega), h3 S]; rfl, ?_, ?_⟩
    · simp only [PyData.eqv, PyData.eqvAll] at h4 ⊢; rw [h2, h4]; rfl
    · simp only [PyData.eqv, PyData.eqvAll] at h5 ⊢; rw [h2, h5]; rfl
theorem eqv_row {v t : Int} {h : Option Who} : PyData.eqv (.tuple [.int v, .int t, pH h]) (.tuple [.int v, .int t, pH h]) = true := by
  simp only [PyData.eqv, PyData.eqvAll, eqv_H]
  simp
def rowD (sh : List (K2 × LSt)) (k : K2) : D := match valK sh k with
  | some st => .tup [eK k, .int st.v, .int st.t, eH st.h]
  | none => .non
def rowsD (sh : List (K2 × LSt)) : List D := (kK.sort (sh.map (·.1))).map (rowD sh)
def pastD (pa : List (PK × Int)) : List D := (kKT.sort (pa.map (·.1))).map fun x => .tup [eK x.1, eT x.2, .int (pastG pa x)]
theorem PR.fr0 {C CL : Addr} {w : World} {sl dl dp : Nat} {es : List Ent} {pa : List (PK × Int)} {S S1 : Sto} (h : PR C CL w sl dl dp es pa S) (f : Fr S S1 (fun _ => False)) : PR C CL w sl dl dp es pa S1 :=
  ⟨f.get h.ob id, f.get h.lk id, f.get h.pa id, h.ne, fun e he => let ⟨w1, h1, h2⟩ := h.at_ e he; ⟨w1, f.get h1 id, f.get h2 id⟩, h.nd, h.kd⟩
theorem MR.fr0 {w : World} {ml el ep : Nat} {es : List Ent} {pa : List (PK × Int)} {S S1 : Sto} (h : MR w ml el ep es pa S) (f : Fr S S1 (fun _ => False)) : MR w ml el ep es pa S1 :=
  ⟨f.get h.ob id, f.get h.lk id, f.get h.pa id, h.ne, fun e he => let ⟨w1, h1, h2⟩ := h.at_ e he; ⟨w1, f.get h1 id, f.get h2 id⟩, h.nd, h.kd⟩
/-- what is fit for the rows -/
def okSh (sh : List (K2 × LSt)) (pa : List (PK × Int)) : Prop := (∀ e ∈ sh, PyData.strOk e.1.2 = true) ∧ ∀ x ∈ pa, PyData.strOk x.1.1.2 = true
theorem rowD_gd {sh : List (K2 × LSt)} {pa : List (PK × Int)} (h : okSh sh pa) : ∀ d ∈ rowsD sh, gd 15 d = true := by
  intro d hd
  obtain ⟨k, hk, rfl⟩ := List.mem_map.mp hd
  have hk := Cod.sort_mem.mp hk
  obtain ⟨e, he, rfl⟩ := List.mem_map.mp hk
  have hs := h.1 e he
  unfold rowD
  cases hv : valK sh e.1 with
  | none => rfl
  | some st =>
    simp only
    cases st.h with
    | none => simp [gd, eK, eH, hs]
    | some u => simp [gd, eK, eH, eW, eT, hs]
theorem pastD_gd {sh : List (K2 × LSt)} {pa : List (PK × Int)} (h : okSh sh pa) : ∀ d ∈ pastD pa, gd 15 d = true := by
  intro d hd
  obtain ⟨k, hk, rfl⟩ := List.mem_map.mp hd
  have hk := Cod.sort_mem.mp hk
  obtain ⟨e, he, rfl⟩ := List.mem_map.mp hk
  have hs := h.2 e he
  simp [gd, eK, eT, hs]
theorem stp_keys {es : List Ent} : (stp es).map (·.1) = es.map (·.1) := by unfold stp; rw [List.map_map]; rfl
theorem fLk_keys {es : List Ent} : (fLk es).map (·.1) = es.map (·.1) := by unfold fLk; rw [List.map_map]; rfl
theorem fPa_keys {pa : List (PK × Int)} : (fPa pa).map (·.1) = pa.map (·.1) := by unfold fPa; rw [List.map_map]; rfl
theorem past_val {pa : List (PK × Int)} {x : PK} (h : x ∈ pa.map (·.1)) : valK (fPa pa) x = some (.int (pastG pa x)) := by
  have hg := past_get (pa := pa) (x := x)
  cases hv : valK (fPa pa) x with
  | some d => rw [hv] at hg; exact congrArg some hg
  | none =>
    exfalso
    obtain ⟨y, hy, e⟩ := List.mem_map.mp h
    unfold valK fPa at hv
    have := List.find?_eq_none.mp (Option.map_eq_none_iff.mp hv) (y.1, .int y.2) (List.mem_map.mpr ⟨y, hy, rfl⟩)
    simp [e] at this
theorem atE_of {es : List Ent} {k : K2} (h : k ∈ es.map (·.1)) : ∃ e, atE es k = some e := by
  cases hv : atE es k with
  | some e => exact ⟨e, rfl⟩
  | none => exact absurd h (atE_none hv)

theorem gcomp_mapL {n : Nat} {pt : D → Lc → Option Lc} {fe : EF} {env : Lc} {S : Sto} {ys : List D} {f : D → D} (h : S[n]? = some (.lst ys)) (h2 : ∀ d ∈ ys, ∃ ee, pt d env = some ee ∧ fe ee S = .ok (f d) S) (hl : ys.length < 100000) :
    ∀ (r j : Nat) (xs acc : List D), r = ys.length - j → xs.length = r → acc.length ≤ j → gcompL n pt fYes fe env xs j acc S = .ok (.ref S.length) (S ++ [.lst (acc ++ (ys.drop j).map f)])
  | 0, j, xs, acc, hr, hx, ha => by
    have hx : xs = [] := List.length_eq_zero_iff.mp hx
    subst hx
    unfold gcompL
    rw [h]
    simp only
    rw [if_pos (by omega), List.drop_eq_nil_of_le (by omega)]
    simp
  | r + 1, j, [], acc, hr, hx, ha => by simp at hx
  | r + 1, j, x :: xs, acc, hr, hx, ha => by
    have hj : j < ys.length := by omega
    unfold gcompL
    rw [h]
    simp only
    rw [List.getElem?_eq_getElem hj]
    simp only
    rw [List.drop_eq_getElem_cons hj, List.map_cons]
    have hx' : xs.length = r := by simpa using hx
    obtain ⟨ee, k1, k2⟩ := h2 _ (List.getElem_mem hj)
    rw [k1]
    simp only
    rw [show fYes ee S = .ok true S from rfl]
    simp only [R.nox_ok, R.bind_ok, if_true]
    rw [k2]
    simp only [R.nox_ok, R.bind_ok]
    rw [if_pos (by omega), gcomp_mapL h h2 hl r (j + 1) xs _ (by omega) hx' (by rw [List.length_append, List.length_singleton]; omega)]
    simp
theorem gcomp_mapL0 {n : Nat} {pt : D → Lc → Option Lc} {fe : EF} {env : Lc} {S : Sto} {ys : List D} {f : D → D} (h : S[n]? = some (.lst ys)) (h2 : ∀ d ∈ ys, ∃ ee, pt d env = some ee ∧ fe ee S = .ok (f d) S) (hl : ys.length < 100000) :
    gcompL n pt fYes fe env ys 0 [] S = .ok (.ref S.length) (S ++ [.lst (ys.map f)]) := by
  have h := gcomp_mapL h h2 hl ys.length 0 ys [] (by omega) rfl (Nat.le_refl _)
  simpa using h
def gcompK (is : List Nat) (pt : D → Lc → Option Lc) (ft : BF) (fe : EF) (env : Lc) : It' → Sto → R D := fun it S1 => match it with
  | .fix xs => gcompX pt ft fe (unset is env) xs [] S1
  | .live n xs => gcompL n pt ft fe (unset is env) xs 0 [] S1
theorem ap_fGComp {fi : IF} {is : List Nat} {pt : D → Lc → Option Lc} {ft : BF} {fe : EF} {env : Lc} {S : Sto} : fGComp fi is pt ft fe env S = (fi env S).bind (gcompK is pt ft fe env) := (rfl)
theorem ap_gcompK_live {is : List Nat} {pt : D → Lc → Option Lc} {ft : BF} {fe : EF} {env : Lc} {S : Sto} {n : Nat} {xs : List D} : gcompK is pt ft fe env (.live n xs) S = gcompL n pt ft fe (unset is env) xs 0 [] S := (rfl)
theorem ap_unset0 {env : Lc} : unset [] env = env := (rfl)
theorem ap_unset1 {env : Lc} {i : Nat} {is : List Nat} : unset (i :: is) env = (unset is env).set i none := (rfl)
theorem o_kKe {k : K2} : kK.e k = eK k := (rfl)
theorem o_kTe {k : Int × Int} : kT.e k = eT k := (rfl)
theorem o_kKTe {x : PK} : kKT.e x = .tup [eK x.1, eT x.2] := (rfl)
theorem ap_ptT2 {i j : Nat} {a b : D} {env : Lc} : ptT [i, j] (.tup [a, b]) env = some ((env.set i (some a)).set j (some b)) := (rfl)
end RF

/-! tuple * int; == of lists of other lengths -/
namespace RF
open PySem L2
section
variable {K : PySem.W.Frag} {L : List Addr} {H : Hp}
theorem RDs.rep {vs : List V} {xs : List D} (r : RDs K L H vs xs) : ∀ k : Nat, RDs K L H (List.replicate k vs).flatten (List.replicate k xs).flatten
  | 0 => .nil
  | k + 1 => by
    rw [List.replicate_succ, List.replicate_succ, List.flatten_cons, List.flatten_cons]
    exact r.append (RDs.rep r k)
end
def oMulT : Op2 := fun x y S => match x, y with
  | .tup xs, .int k => if xs ≠ [] ∧ 2 ≤ k ∧ k ≤ 1000 ∧ xs.length ≤ 1000 then .ok (.tup (List.replicate k.toNat xs).flatten) S else .bad
  | _, _ => .bad
theorem f_mulT {K : PySem.W.Frag} {E : XK} : OpF K E (rRepT K) oMulT := by
  intro L H S x y d1 d2 Q rep r1 r2 q
  cases r1 with
  | @tup a vs xs hs rs =>
    cases r2 with
    | int k =>
      have q : EndV K E L H Q (if xs ≠ [] ∧ 2 ≤ k ∧ k ≤ 1000 ∧ xs.length ≤ 1000 then .ok (.tup (List.replicate k.toNat xs).flatten) S else .bad) := q
      by_cases hl : xs ≠ [] ∧ 2 ≤ k ∧ k ≤ 1000 ∧ xs.length ≤ 1000
      · rw [if_pos hl] at q
        refine ⟨a, k, vs, rfl, rfl, .of hs, ?_, hl.2.1, hl.2.2.1, by rw [rs.length]; exact hl.2.2.2, fun p hp => ?_⟩
        · intro z
          subst z
          cases rs
          exact hl.1 rfl
        · exact EndV.val (q.later (Ex.new hp)) (rep.new hp) (.tup upd_same ((rs.rep _).mono (Ex.new hp)))
      · rw [if_neg hl] at q; exact q.elim
    | _ => exact q.elim
  | _ => exact q.elim
def rEqLen (K : PySem.W.Frag) : R2 := fun x y H Q => ∃ a b xs ys, x = .ref a ∧ y = .ref b ∧ SqL K H a xs ∧ SqL K H b ys ∧ xs.length ≠ ys.length ∧ Q (.bl false) H
theorem op_eqLen {X : Cx} (hu : X.A.units < cLine) : OpR X (compareOp .Eq) (rEqLen X.K) := by
  intro pins s σ H x y v u Q I rx ry h
  obtain ⟨a, b, xs, ys, rfl, rfl, ha, hb, hne, q⟩ := h
  cases (show v = Value.ref a from rx)
  cases (show u = Value.ref b from ry)
  obtain ⟨us, r1, p1, _⟩ := I.list ha
  obtain ⟨ws, r2, p2, _⟩ := I.list hb
  have hsz : (us.toArray.size != ws.toArray.size) = true := by
    rw [List.size_toArray, List.size_toArray, ← r1.length, ← r2.length]
    simpa using hne
  exact SeqAt.RcAt.lists_lengths p1.isList p2.isList hsz hu X.prog X.w _ _ ⟨.bl false, H, I, rfl, q⟩
def oEqL : Op2 := fun x y S => match x, y with
  | .ref n, .ref m => match S[n]?, S[m]? with
    | some (.lst xs), some (.lst ys) => if xs.length = ys.length then oEq x y S else .ok (.bl false) S
    | _, _ => .bad
  | _, _ => .bad
def rEqLD (K : PySem.W.Frag) : R2 := fun x y H Q => rEqLen K x y H Q ∨ rEqD K x y H Q
theorem op_eqLD {X : Cx} (hu : X.A.units + 64 < cLine) : OpR X (compareOp .Eq) (rEqLD X.K) := (op_eqLen (by omega)).or (op_eqD hu)
theorem f_eqL {K : PySem.W.Frag} {E : XK} : OpF K E (rEqLD K) oEqL := by
  intro L H S x y d1 d2 Q rep r1 r2 q
  cases r1 with
  | @ref a n ha =>
    cases r2 with
    | @ref b m hb =>
      obtain ⟨c, hc, rc⟩ := rep.adr ha
      obtain ⟨c2, hc2, rc2⟩ := rep.adr hb
      unfold oEqL at q
      simp only [hc, hc2] at q
      cases c with
      | lst xs =>
        cases c2 with
        | lst ys =>
          simp only at q
          obtain ⟨vs, hv, rv⟩ := id rc
          obtain ⟨ws, hw, rw'⟩ := id rc2
          by_cases hl : xs.length = ys.length
          · rw [if_pos hl] at q
            exact .inr (f_eq _ _ _ _ _ _ _ _ rep (.ref ha) (.ref hb) q)
          · rw [if_neg hl] at q
            exact .inl ⟨a, b, vs, ws, rfl, rfl, .of hv, .of hw, by rw [rv.length, rw'.length]; exact hl, EndV.val q rep (.bl _)⟩
        | _ => exact q.elim
      | _ => exact q.elim
    | _ => exact q.elim
  | _ => exact q.elim
section
variable {S : Sto} {n m : Nat} {xs ys : List D} {k : Int} {a b : D}
theorem o_mulT : oMulT (.tup xs) (.int k) S = if xs ≠ [] ∧ 2 ≤ k ∧ k ≤ 1000 ∧ xs.length ≤ 1000 then .ok (.tup (List.replicate k.toNat xs).flatten) S else .bad := (rfl)
theorem eqL_ne (h1 : S[n]? = some (.lst xs)) (h2 : S[m]? = some (.lst ys)) (h : ¬ xs.length = ys.length) : oEqL (.ref n) (.ref m) S = .ok (.bl false) S := by
  unfold oEqL
  simp only [h1, h2, if_neg h]
theorem eqL_00 (h1 : S[n]? = some (.lst [])) (h2 : S[m]? = some (.lst [])) : oEqL (.ref n) (.ref m) S = .ok (.bl true) S := by
  unfold oEqL
  simp only [h1, h2, if_true]
  rw [o_eq, show (20 : Nat) = 19 + 1 from rfl, toP_ref, toP_ref, h1, h2, toPC_lst, toP_mapM_nil]
  show (eqK S (some (.list [])) (some (.list []))) = _
  rw [eqK_some]
  simp [PyData.eqv, PyData.eqvAll]
end
end RF

/-! d.get(k) of dicts whose keys are tuples of any form (nested): in, [], get, [] =, list(d), len(d), {} -/
namespace RF
open PySem L2
section
variable {X : Cx} {pins : List (Addr × Obj)} {σ : St} {H : Hp} {s : Shared} {a b : Addr} {zs : List ZN} {k : NestedKey} {u : Value} {A : Around} {E : Value → Shared → Prop}
/-- d.get(k) -/
theorem n_get1 {Q : Value → Shared → Prop} (hu : A.units + 65 < cLine) (I : Inv X pins σ H s) (e : H a = some (dnO X.w a zs)) (hz : ZOk H zs) (hk : NK H k (.ref b)) (hd : k.depth ≤ 8) (h : ∀ w' s', Inv X pins σ H s' → RelV ((valZ zs k).getD .non) w' → Q w' s') :
    wpAny (model X.prog X.w) A (call (.builtin "dict.get") [.ref a, .ref b]) Q E s := by
  obtain ⟨q1, q2, xs, r, dd⟩ := dn_of I.hok e hz
  refine call_meetsIn PySem.F.slot_dict_get dd.typeIs PySem.F.entry_dict_get (PySem.F.args_dict_get_2 _ _) (meetsH_dict_get (nestedKind X.prog X.w) a b q1) ⟨nroom hu, k, xs, ⟨nk_is I.hok hk rfl, hd⟩, dd, h _ _ (I.tok _) ?_⟩
  exact (zx_val r k).getD rfl
end
section
variable {X : Cx} {E : XK} {o i e f : Expr} {fo fi fk fx : EF} {pos apos cpos : Pos}
theorem xGetN1 (hu : X.A.units + 65 < cLine) (ho : PE X o (tE X.K E fo)) (he : PE X e (tE X.K E fk)) (m : M1 X o "get" apos e cpos) : PE X (.Call (.Attribute o "get" apos) [e] [] cpos) (tE X.K E (fGetN X.w fo fk (fC .non))) := by
  refine ⟨fun pins s σ H Q I h => ?_⟩
  obtain ⟨L, env, S, rep, re, h⟩ := h
  refine wpAny_Call_method m.base m.few m.line PySem.F.plainAttrs_dict PySem.F.slot_dict_get PySem.F.type_dict_get (thn (ho.run pins s σ H (fun x H1 => ∃ a w' zs', x = .ref a ∧ H1 a = some (dnO w' a zs') ∧ tE X.K E fk σ H1 fun y H2 =>
      ∃ b zs k, y = .ref b ∧ H2 a = some (dnO X.w a zs) ∧ ZOk H2 zs ∧ NK H2 k (.ref b) ∧ k.depth ≤ 8 ∧ Q ((valZ zs k).getD .non) H2) I
    ⟨L, env, S, rep, re, (End.bind h).imp fun x S1 L1 H1 e1 rep1 h1 v rv => ?_⟩) fun u s1 ⟨x, H1, I1, rx, a, w', zs', ex, ea, q1⟩ => ?_)
  · by_cases hn : isN S1 x = true
    · rw [if_pos hn] at h1
      obtain ⟨a, w', zs', rfl, ea⟩ := isN_of rep1 rv hn
      refine ⟨a, w', zs', rfl, ea, L1, env, S1, rep1, re.mono e1, (End.bind h1).imp fun y S2 L2 H2 e2 rep2 h2 u ru => ?_⟩
      have h3 : EndV X.K E L2 H2 Q (getN X.w x y .non S2) := h2
      unfold getN at h3
      cases hl : lookN X.w S2 x y with
      | none => rw [hl] at h3; exact h3.elim
      | some r =>
        rw [hl] at h3
        simp only at h3
        obtain ⟨a', b, zs, k, ea', rfl, e, hz, hk, hd, r⟩ := lookN_of rep2 (rv.mono e2) ru hl
        cases ea'
        refine ⟨b, zs, k, rfl, e, hz, hk, hd, EndV.val h3 rep2 ?_⟩
        rcases r with ⟨z1, z2⟩ | ⟨d', z', z1, z2, z3⟩
        · rw [z1, z2]; exact .non
        · rw [z1, z2]; exact z3
    · rw [if_neg hn] at h1; exact h1.elim
  · subst ex
    obtain rfl : u = Value.ref a := rx
    obtain ⟨t1, t2, _⟩ := n_type I1.hok ea
    refine ⟨t1, t2, ?_⟩
    rw [m.trees]
    refine Calls.callWith_builtin rfl (Calls.evalArgs_plain (Calls.spliced_cons (thn (he.run pins s1 σ H1 _ I1 q1) fun iv s2 ⟨y, H2, I2, ry, b, zs, k, ey, e, hz, hk, hd, q3⟩ => Calls.spliced_nil ?_)))
    subst ey
    obtain rfl : iv = Value.ref b := ry
    exact n_get1 hu I2 e hz hk hd fun w' s4 I4 rw' => ⟨_, H2, I4, rw', q3⟩
end
end RF

/-! t[::-1], t a tuple -/
namespace RF
open PySem PySem.Spec PyProof.Rows
section
variable {prog : Program} {w : World} {A : Around} {E : Value → Shared → Prop} {s : Shared}
theorem places_back (n : Nat) : Builtin.Slice.slicePlaces ((n : Int) - 1) (-1) (-1) = n := by
  unfold Builtin.Slice.slicePlaces
  have h1 : ¬ ((-1 : Int) > 0) := by omega
  simp only [h1, if_false]
  have h2 : (-(-1) : Int) = 1 := by omega
  rw [h2, Int.ediv_one]
  split <;> omega
theorem sliceApplied_back {sl : Addr} {t : Tok} {n : Nat} {Q : Int × Int × Nat → Shared → Prop} (hs : s.heap.IsSliceOf sl .none .none (.int (-1) t))
    (h : Q ((n : Int) - 1, -1, n) s) : wpAny (model prog w) A (Builtin.Slice.sliceApplied (.ref sl) (pure (n : Int))) Q E s := by
  obtain ⟨os, hos, hcs, hds⟩ := id hs
  unfold Builtin.Slice.sliceApplied Builtin.Slice.sliceFields
  refine wpAny_bind (wpAny_bind (wpAny_field hos hds (x := .none) rfl (wpAny_bind (wpAny_field hos hds (x := .none) rfl (wpAny_bind (wpAny_field hos hds (x := .int (-1) t) rfl (wpAny_pure ?_)))))))
  refine wpAny_bind (slicePart_int ?_)
  show wpAny _ _ (if ((-1 : Int) == 0) = true then _ else _) _ _ s
  rw [if_neg (by decide)]
  refine wpAny_bind (slicePart_none (wpAny_bind (slicePart_none (wpAny_bind (wpAny_pure ?_)))))
  show wpAny _ _ (pure ((n : Int) - 1, (-1 : Int), Builtin.Slice.slicePlaces ((n : Int) - 1) (-1) (-1))) _ _ s
  rw [places_back]
  exact wpAny_pure h
theorem pick_back (xs : Array Value) : ((List.range xs.size).filterMap fun (m : Nat) => xs[(((xs.size : Int) - 1) + (m : Int) * -1).toNat]?).toArray = (xs.toList.reverse).toArray := by
  have key : ∀ k, k ≤ xs.size → ((List.range k).filterMap fun (m : Nat) => xs[(((xs.size : Int) - 1) + (m : Int) * -1).toNat]?) = xs.toList.reverse.take k := by
    intro k
    induction k with
    | zero => intro _; simp
    | succ k ih =>
      intro hk
      rw [List.range_succ, List.filterMap_append, ih (by omega)]
      have e : (((xs.size : Int) - 1) + (k : Int) * -1).toNat = xs.size - 1 - k := by omega
      have hl : k < xs.toList.reverse.length := by rw [List.length_reverse, Array.length_toList]; omega
      rw [List.take_succ_eq_append_getElem hl]
      simp only [List.filterMap_cons, List.filterMap_nil, e]
      have hx : xs[xs.size - 1 - k]? = some (xs.toList.reverse[k]) := by
        rw [List.getElem_reverse, Array.getElem?_eq_getElem (by omega)]
        simp
      rw [hx]
  rw [key _ (Nat.le_refl _), List.take_of_length_le (by rw [List.length_reverse, Array.length_toList]; omega)]
theorem getItem_tuple_back {t sl : Addr} {items : Array Value} {tk : Tok} {Q : Value → Shared → Prop} (ht : IsTup s.heap t items) (hs : s.heap.IsSliceOf sl .none .none (.int (-1) tk))
    (h : Q (.ref s.heap.objs.size) { s with heap := s.heap.push { cls := .type "tuple", data := .seq (items.toList.reverse).toArray } })
    (hsz : items.size ≤ sizeLine) : wpAny (model prog w) A (getItem (.ref t) (.ref sl)) Q E s := by
  have htake : sizeOk (.seq (items.toList.reverse).toArray) := by
    show (items.toList.reverse).toArray.size ≤ sizeLine
    rw [List.size_toArray, List.length_reverse, Array.length_toList]
    exact hsz
  obtain ⟨os, hos, hcs, hds⟩ := id hs
  have hTs : s.TypeIs (.ref sl) "slice" := ⟨os, hos, hcs⟩
  unfold getItem
  try with_reducible refine wpAny_holding ?_
  first | refine wpAny_bind (wpAny_pure ?_) | skip
  refine wpAny_bind (wpAny_sequenceKey ht.typeIs (by decide) ?_)
  refine wpAny_bind (wpAny_callSpecial?_slot (name := Str.ofString "__getitem__") ht.typeIs PyProof.Rows.slot_tuple_getitem
    (wpAny_call_entry PyProof.Rows.slot_tuple_getitem ht.typeIs entry_tuple_getitem ?_ (args_tuple_getitem _ _)))
  show wpAny _ _ (Builtin.Tuple.tupleItemsOf (.ref t) >>= _) _ _ s
  refine wpAny_bind (tupleItemsOf_ ht ?_)
  refine wpAny_bind (wpAny_typeOf hTs ?_)
  rw [if_pos (by decide)]
  refine wpAny_bind (sliceApplied_back hs ?_)
  have hno : ¬ (((items.size : Int) - 1 == 0 && (-1 : Int) == 1 && items.size == items.size) = true) := by
    intro q
    rw [Bool.and_eq_true, Bool.and_eq_true] at q
    exact absurd (eq_of_beq q.1.2) (by decide)
  show wpAny _ _ (if ((items.size : Int) - 1 == 0 && (-1 : Int) == 1 && items.size == items.size) = true then _ else _) _ _ s
  rw [if_neg hno, pick_back]
  first
    | exact wpAny_bind (m := Builtin.Tuple.tupleExact _) (wpAny_newObj_type (wpAny_pure ⟨_, rfl, wpAny_pure h⟩) htake)
    | exact wpAny_bind (m := Builtin.Tuple.tupleExact _) (wpAny_newObj_type (wpAny_bind (wpAny_pure (wpAny_pure ⟨_, rfl, wpAny_pure h⟩))) htake)
    | exact wpAny_bind (wpAny_bind (m := Builtin.Tuple.tupleExact _) (wpAny_newObj_type (wpAny_pure (wpAny_pure ⟨_, rfl, wpAny_pure h⟩)) htake))
    | exact wpAny_bind (wpAny_bind (m := Builtin.Tuple.tupleExact _) (wpAny_newObj_type (wpAny_pure ⟨_, rfl, wpAny_pure h⟩) htake))
end
end RF
namespace RF
open PySem L2 PySem.Spec PyProof.Rows
def revK : D → Sto → R D := fun x S => match x with
  | .tup xs => .ok (.tup xs.reverse) S
  | _ => .bad
def fRev (fa : EF) : EF := fun env S => (fa env S).bind revK
section
variable {K : PySem.W.Frag} {L : List Addr} {H : Hp}
theorem RDs.rev : ∀ {vs : List V} {ds : List D}, RDs K L H vs ds → RDs K L H vs.reverse ds.reverse
  | _, _, .nil => .nil
  | _, _, .cons a b => by
    rw [List.reverse_cons, List.reverse_cons]
    exact (RDs.rev b).append (.cons a .nil)
end
theorem vals_rev : ∀ {vs : List V} {us : List Value}, Vals vs us → Vals vs.reverse us.reverse
  | _, _, .nil => .nil
  | _, _, .cons a b => by
    rw [List.reverse_cons, List.reverse_cons]
    exact (vals_rev b).append (.cons a .nil)
theorem xRev {X : Cx} {E : XK} {e st : Expr} {fa : EF} {p2 pos : Pos} (he : PE X e (tE X.K E fa)) (hst : PE X st (tE X.K E (fUn oNeg (fC (.int 1))))) : PE X (.Subscript e (.Slice none none (some st) p2) pos) (tE X.K E (fRev fa)) := by
  refine ⟨fun pins s σ H Q I h => ?_⟩
  obtain ⟨L, env, S, rep, re, h⟩ := h
  refine Subscript_ (thn (he.run pins s σ H (fun x H1 => ∃ a, x = .ref a ∧ tE X.K E (fUn oNeg (fC (.int 1))) σ H1 (fun y H2 => y = .int (-1) ∧ ∃ vs, SqT X.K H2 a vs ∧ ∀ p, H2 p = none → Q (.ref p) (upd H2 p (.tup vs.reverse)))) I
    ⟨L, env, S, rep, re, (End.bind h).imp fun x S1 L1 H1 e1 rep1 h1 v rv => ?_⟩) fun v s1 ⟨x, H1, I1, r1, a, ex, q⟩ => ?_)
  · cases x with
    | tup ds =>
      have h1 : EndV X.K E L1 H1 Q (.ok (.tup ds.reverse) S1) := h1
      obtain ⟨a, rfl⟩ : ∃ a, v = .ref a := by cases rv; exact ⟨_, rfl⟩
      refine ⟨a, rfl, L1, env, S1, rep1, re.mono e1, ?_⟩
      intro L2 H2 e2 rep2 y ry
      cases ry
      have rv2 := rv.mono e2
      cases rv2 with
      | @tup a' vs ds' hs rs =>
        exact ⟨rfl, vs, .of hs, fun p hp => EndV.val ((h1.later e2).later (Ex.new hp)) (rep2.new hp) (.tup upd_same (rs.rev.mono (Ex.new hp)))⟩
    | _ => exact h1.elim
  · subst ex
    obtain rfl : v = Value.ref a := r1
    refine wpAny_Slice ?_
    rw [evalPart_none]
    refine wpAny_pure ?_
    refine wpAny_pure ?_
    rw [evalPart_some]
    refine thn (hst.run pins s1 σ H1 _ I1 q) fun u s2 ⟨y, H2, I2, r2, ey, vs, hT, q2⟩ => ?_
    subst ey
    obtain ⟨t, rfl⟩ := r2
    have I4 : L2.Inv X pins σ H2 { s2 with heap := s2.heap.push { cls := .type "slice", data := .fields #[.none, .none, .int (-1) t] } } := I2.kept (t' := s2.toks) fun b ob q => Heap.get?_push_of_some _ q
    obtain ⟨its, r, ht, hz⟩ := I4.tuple hT
    have hg : wpAny (model X.prog X.w) X.A (getItem (.ref a) (.ref s2.heap.objs.size)) (EP X pins σ Q) X.xe { s2 with heap := s2.heap.push { cls := .type "slice", data := .fields #[.none, .none, .int (-1) t] } } := by
      have hl : vs.length = its.length := r.length
      refine getItem_tuple_back ht (Heap.IsSliceOf.new ..) ?_ (by rw [List.size_toArray, ← hl]; exact hz)
      refine ⟨.ref _, _, I4.laid (t' := s2.toks) (o := .tup vs.reverse) (fun b ob q => Heap.get?_push_of_some _ q) (Nat.le_refl _) ?_, rfl, q2 _ (I4.hok.fresh (Nat.le_refl _))⟩
      refine ⟨?_, _, vals_rev r, IsTup.new _ _⟩
      rw [List.length_reverse]
      exact hz
    show wpAny (model X.prog X.w) X.A (subscriptTail e (.Slice none none (some st) p2) (.ref a) (.ref s2.heap.objs.size)) (EP X pins σ Q) X.xe _
    exact tail_any (ops := [.ref a, .ref s2.heap.objs.size]) ht.typeIs PyProof.Rows.slot_tuple_getitem.lookup hg (by with_unfolding_all rfl)
section
variable {fa : EF} {env : Lc} {S : Sto} {xs : List D}
theorem ap_fRev : fRev fa env S = (fa env S).bind revK := (rfl)
theorem ap_revK : revK (.tup xs) S = .ok (.tup xs.reverse) S := (rfl)
end
end RF

/-! max of a list of data; list(range(n)); l.pop(i) -/
namespace RF
open PySem L2
def rMaxD (K : PySem.W.Frag) : List V → Hp → VK → Prop := fun vs H Q => ∃ (a : Addr) (bs : List VDP) (x : PyData) (ps : List PyData), vs = [V.ref a] ∧ SqL K H a (bs.map (·.1)) ∧ DpAll K H (bs.map (·.1)) (bs.map (·.2.2)) ∧ bs.map (·.2.2) = x :: ps ∧ PySem.W.AlikeAll (x :: ps) ∧
  PyData.depthAll (x :: ps) ≤ 60 ∧ PyData.canLayAll0 (x :: ps) = true ∧ ∀ b ∈ bs, b.2.2 = PySem.W.maxD x ps → Q b.1 H
theorem call_max1D {X : Cx} (hc : X.calm = true) (hu : X.A.units + 65 < cLine) : CallR X (.builtin "max") (rMaxD X.K) := by
  intro pins s σ H vs us Q I r h
  obtain ⟨a, bs, x, ps, rfl, hs, hd, e, hal, hdep, hlay, q⟩ := h
  obtain ⟨its, rv, hl, _⟩ := I.list hs
  rw [Vals.ref1 r]
  rw [e] at hd
  obtain ⟨as, hr⟩ := Dp.readsAll I _ _ its hd rv
  refine PySem.W.max_list_data (I.ok.hd hc) hl.isList (vs := its.toArray) hr hal (by omega) fun i v h' tk bs' hv hr2 hk => ?_
  have hv' : its[i]? = some v := by simpa using hv
  obtain ⟨y, hy, ry⟩ := vals_at rv hv'
  rw [List.getElem?_map] at hy
  obtain ⟨b, hb, rfl⟩ := Option.map_eq_some_iff.mp hy
  obtain ⟨cs, r3, hi, hm, _⟩ := PySem.W.readsAll_atA (vs := its.toArray) hr i v hv
  have e1 : (x :: ps).getD i .none = b.2.2 := by
    rw [← e, List.getD_eq_getElem?_getD, List.getElem?_map, hb]; rfl
  rw [e1] at r3 hm
  refine ⟨b.1, H, I.kept hk, ry, q b (List.mem_of_getElem? hb) ?_⟩
  exact PySem.SeqAt.Reads.unique _ _ v _ _ (lay_mem hlay _ hm) (PySem.W.reads_keeps hk r3) hr2
def oMax1 : OpN := fun ds S => match ds with
  | [x] => match lstD S x with
    | some xs => match xs.mapM (toP S 20) with
      | some (p :: ps) => if likeB (p :: ps) = true ∧ notNoneB (p :: ps) = true ∧ pureTs xs = true then .ok (toD (PySem.W.maxD p ps)) S else .bad
      | _ => .bad
    | none => .bad
  | _ => .bad
section
variable {K : PySem.W.Frag} {E : XK}
theorem f_max1 : CaF K E (rMaxD K) oMax1 := by
  intro L H S xs ds Q rep rs q
  match ds, rs, q with
  | [], _, q => exact q.elim
  | _ :: _ :: _, _, q => exact q.elim
  | [d], rs, q =>
    obtain ⟨x, rfl, r⟩ := rs.one
    unfold oMax1 at q
    simp only at q
    cases h : lstD S d with
    | none => rw [h] at q; exact q.elim
    | some ys =>
      rw [h] at q
      simp only at q
      cases h2 : ys.mapM (toP S 20) with
      | none => rw [h2] at q; exact q.elim
      | some ps =>
        rw [h2] at q
        cases ps with
        | nil => exact q.elim
        | cons p ps =>
          simp only at q
          by_cases hc : likeB (p :: ps) = true ∧ notNoneB (p :: ps) = true ∧ pureTs ys = true
          · rw [if_pos hc] at q
            obtain ⟨a, vs, rfl, rv, k⟩ := lstD_of rep r h
            obtain ⟨hdp, hlay, hdep⟩ := toPs_of 20 (toP_of rep 20) rv h2
            have hlen : ys.length = (p :: ps).length := by
              rw [← rv.length]; exact dpAll_len hdp
            obtain ⟨bs, e1, e2, e3, e4⟩ := triples rv hlen
            refine ⟨a, bs, p, ps, rfl, by rw [e1]; exact k, by rw [e1, e3]; exact hdp, e3, ⟨likeB_of hc.1, fun z hz => ?_⟩, by omega, hlay, fun b hb hm => ?_⟩
            · have := List.all_eq_true.mp hc.2.1 z hz
              intro e
              rw [e] at this
              cases this
            · have hz : b.2 ∈ ys.zip (p :: ps) := by rw [← e2]; exact List.mem_map_of_mem (f := fun b : VDP => b.2) hb
              have ht := mapM_zip h2 _ hz
              have hpu : pureT b.2.1 = true := pureTs_mem hc.2.2 _ (List.of_mem_zip hz).1
              have e5 := toP_back 20 _ _ hpu ht
              rw [← hm, e5] at q
              exact EndV.val q rep (e4 b hb)
          · rw [if_neg hc] at q; exact q.elim
end
def mPopAt : OpM := fun x ds S => match x, ds with
  | .ref n, [.int i] => match S[n]? with
    | some (.lst xs) => if 0 ≤ i ∧ i < xs.length ∧ xs.length < 100000 then match xs[i.toNat]? with
      | some y => .ok y (S.set n (.lst (xs.eraseIdx i.toNat)))
      | none => .bad
      else .bad
    | _ => .bad
  | _, _ => .bad
section
variable {K : PySem.W.Frag} {E : XK}
theorem f_popAt : MtF K E rPopAt mPopAt := by
  intro L H S x xs d ds Q rep r rs q
  unfold mPopAt at q
  split at q
  · rename_i n i
    cases r with
    | @ref a _ ha =>
      obtain ⟨w, rfl, rw'⟩ := rs.one
      cases rw'
      obtain ⟨c, hc, rc⟩ := rep.adr ha
      simp only [hc] at q
      cases c with
      | lst ys =>
        simp only at q
        obtain ⟨vs, hv, rv⟩ := rc
        by_cases hl : 0 ≤ i ∧ i < ys.length ∧ ys.length < 100000
        · rw [if_pos hl] at q
          have hlt : i.toNat < ys.length := by omega
          rw [List.getElem?_eq_getElem hlt] at q
          simp only at q
          obtain ⟨y, hy, ry⟩ := rv.get (i := i.toNat) (List.getElem?_eq_getElem hlt)
          have gr : Gr L H L (upd H a (.lst (vs.eraseIdx i.toNat))) := Gr.wr rep ha
          obtain ⟨ex, rep2⟩ := rep.write (o := .lst (vs.eraseIdx i.toNat)) (c := .lst (ys.eraseIdx i.toNat)) ha ⟨_, upd_same, (rv.eraseIdx i.toNat).grow gr⟩
          have hlen := rv.length
          have hix : ixN vs.length i = some i.toNat := ixN_nn hl.1 (by rw [hlen]; exact hl.2.1)
          exact ⟨a, vs, i, i.toNat, y, rfl, rfl, hv, by omega, by omega, (ixN_seq hix).1, hy, q L _ ex rep2 _ (ry.grow gr)⟩
        · rw [if_neg hl] at q; exact q.elim
      | _ => exact q.elim
  · exact q.elim
end
def lstRgK : D → Sto → R D := fun d S => match d with
  | .int j => if 0 ≤ j ∧ j ≤ 1000 then .ok (.ref S.length) (S ++ [.lst (rngD 0 j.toNat)]) else .bad
  | _ => .bad
def fLstRg (fa : EF) : EF := fun env S => (fa env S).bind lstRgK
theorem rg_rd {K : PySem.W.Frag} {L : List Addr} {H : Hp} {j : Int} : RDs K L H (rgV 0 j) (rngD 0 j.toNat) := by
  have h := ints_rd (K := K) (L := L) (H := H) ((List.range (j - 0).toNat).map fun i => (0 : Int) + (i : Nat))
  rw [List.map_map, List.map_map] at h
  have e : (j - 0).toNat = j.toNat := by omega
  unfold rgV rngD
  rw [← e]
  exact h
theorem xLstRg {X : Cx} {E : XK} {a : Expr} {fa : EF} {p p2 pos pos2 : Pos} (hc : X.calm = true) (hgl : Gl X "list") (hml : X.mg "list" = none) (hgr : Gl X "range") (hmr : X.mg "range" = none) (ha : PE X a (tE X.K E fa))
    (n1 : starEach [a] X.env = (false, eval a X.env) :: starEach [] X.env := by rfl) (n2 : starEach [.Call (.Name "range" p2) [a] [] pos2] X.env = (false, eval (.Call (.Name "range" p2) [a] [] pos2) X.env) :: starEach [] X.env := by rfl) :
    PE X (.Call (.Name "list" p) [.Call (.Name "range" p2) [a] [] pos2] [] pos) (tE X.K E (fLstRg fa)) :=
  monoE (pe_listRg hc hgl hml (prg_1 hgr hmr ha n1) n2) fun σ H Q h => by
    obtain ⟨L, env, S, rep, re, h⟩ := h
    refine ⟨L, env, S, rep, re, (End.bind h).imp fun d S1 L1 H1 e1 rep1 h1 v rv => ?_⟩
    cases rv with
    | int j =>
      have h1 : EndV X.K E L1 H1 Q (if 0 ≤ j ∧ j ≤ 1000 then .ok (.ref S1.length) (S1 ++ [.lst (rngD 0 j.toNat)]) else .bad) := h1
      by_cases hj : 0 ≤ j ∧ j ≤ 1000
      · rw [if_pos hj] at h1
        exact ⟨j, rfl, RgOk.of_le (by omega) (by omega) (by omega) (by omega), fun q hq => newList h1 rep1 rg_rd q hq⟩
      · rw [if_neg hj] at h1; exact h1.elim
    | _ => exact h1.elim
section
variable {fa : EF} {env : Lc} {S : Sto} {j : Int} {n : Nat} {xs : List D}
theorem ap_fLstRg : fLstRg fa env S = (fa env S).bind lstRgK := (rfl)
theorem ap_lstRgK : lstRgK (.int j) S = if 0 ≤ j ∧ j ≤ 1000 then .ok (.ref S.length) (S ++ [.lst (rngD 0 j.toNat)]) else .bad := (rfl)
end
end RF

namespace Qk17
open PySem L2 RF
noncomputable section
structure CA where
  w : World
  c_Marks : Addr
/-- _law_stream -/
def b_law_stream (c : CA) : SF := fSeq (fAsg (fC (.int 0)) (gN 2)) (fSeq (fIf (fTest (fBin oGe (fVar 0) (fBin oPow (fC (.int 10)) (fC (.int 18))))) (fAsg (fVar 0) (gN 2)) fSkip) (fRet (fLst (fCons (fVar 2) (fCons (fBin oMod (fApp oInt (fCons (fBin oAdd (fBin oAdd (fBin oMul (fVar 0) (fC (.int 48271))) (fBin oMul (fVar 1) (fC (.int 69621)))) (fC (.int 77))) fNil)) (fC (.int 2147483647))) fNil)))))
def F_law_stream (c : CA) : FF := fnF 3 (b_law_stream c)
/-- _law_next -/
def b_law_next (c : CA) : SF := fSeq (fIf (fTest (fBin oGt (fIx (fVar 0) (fC (.int 0))) (fC (.int 0)))) (fSeq (fAsg (fBin oMod (fApp oInt (fCons (fIx (fVar 0) (fC (.int 0))) fNil)) (fVar 1)) (gN 2)) (fSeq (fAsg (fBin oDiv (fIx (fVar 0) (fC (.int 0))) (fVar 1)) (gSub' (fVar 0) (fC (.int 0)))) (fRet (fVar 2)))) fSkip) (fSeq (fAsg (fBin oMod (fApp oInt (fCons (fBin oAdd (fBin oMul (fIx (fVar 0) (fC (.int 1))) (fC (.int 48271))) (fC (.int 12820163))) fNil)) (fC (.int 2147483647))) (gSub' (fVar 0) (fC (.int 1)))) (fRet (fBin oMod (fApp oInt (fCons (fBin oDiv (fBin oMod (fApp oInt (fCons (fBin oAdd (fBin oMul (fIx (fVar 0) (fC (.int 1))) (fC (.int 16807))) (fC (.int 5))) fNil)) (fC (.int 2147483399))) (fC (.int 3))) fNil)) (fVar 1))))
def F_law_next (c : CA) : FF := fnF 3 (b_law_next c)
/-- _law_transaction -/
def b_law_transaction (c : CA) : SF := fSeq (fIf (fTest (fBin oEq (fCall (F_law_next c) 2 [] (fCons (fVar 0) (fCons (fC (.int 9)) fNil))) (fC (.int 0)))) (fRet (fTup (fCons (fBin oAdd (fC (.int 1)) (fCall (F_law_next c) 2 [] (fCons (fVar 0) (fCons (fBin oPow (fC (.int 10)) (fC (.int 12))) fNil)))) (fCons (fCall (F_law_next c) 2 [] (fCons (fVar 0) (fCons (fBin oPow (fC (.int 10)) (fC (.int 12))) fNil))) fNil)))) fSkip) (fRet (fTup (fCons (fBin oAdd (fC (.int 1)) (fCall (F_law_next c) 2 [] (fCons (fVar 0) (fCons (fC (.int 4)) fNil)))) (fCons (fCall (F_law_next c) 2 [] (fCons (fVar 0) (fCons (fC (.int 3)) fNil))) fNil))))
def F_law_transaction (c : CA) : FF := fnF 1 (b_law_transaction c)
def lb_law_names_0 (c : CA) : SF := fSeq (fAsg (fCall (F_law_transaction c) 1 [] (fCons (fVar 0) fNil)) (gN 3)) (fIf (fTest (fBin (oInL true) (fVar 3) (fVar 1))) (fDrop (fBm "list" mAppend (fVar 1) (fCons (fVar 3) fNil))) fSkip)
theorem ap_lb_law_names_0 (c : CA) (env : Lc) (S : Sto) : lb_law_names_0 c env S = ((fSeq (fAsg (fCall (F_law_transaction c) 1 [] (fCons (fVar 0) fNil)) (gN 3)) (fIf (fTest (fBin (oInL true) (fVar 3) (fVar 1))) (fDrop (fBm "list" mAppend (fVar 1) (fCons (fVar 3) fNil))) fSkip))) env S := (rfl)
/-- _law_names -/
def b_law_names (c : CA) : SF := fSeq (fAsg (fLst fNil) (gN 1)) (fSeq (fFor (fRng1 (fCons (fBin oAdd (fC (.int 2)) (fCall (F_law_next c) 2 [] (fCons (fVar 0) (fCons (fC (.int 5)) fNil)))) fNil)) (gN 2) (lb_law_names_0 c)) (fSeq (fIf (fTest (fBin oLt (fApp oLen (fCons (fVar 1) fNil)) (fC (.int 2)))) (fDrop (fBm "list" mAppend (fVar 1) (fCons (fTup (fCons (fIx (fIx (fVar 1) (fC (.int 0))) (fC (.int 0))) (fCons (fBin oAdd (fIx (fIx (fVar 1) (fC (.int 0))) (fC (.int 1))) (fC (.int 1))) fNil))) fNil))) fSkip) (fRet (fVar 1))))
def F_law_names (c : CA) : FF := fnF 4 (b_law_names c)
/-- Marks.__init__ -/
def b_Marks_init__ (c : CA) : SF := fSeq (fSetFld c.c_Marks ⟨#[95, 116, 114, 97, 110, 115, 97, 99, 116, 105, 111, 110]⟩ (fVar 0) (fVar 1)) (fSeq (fSetFld c.c_Marks ⟨#[95, 111, 119, 110]⟩ (fVar 0) (fC .non)) (fSetFld c.c_Marks ⟨#[95, 121, 111, 117, 110, 103, 101, 114]⟩ (fVar 0) (fDictN0 c.w)))
def F_Marks_init__ (c : CA) : FF := fnF 2 (b_Marks_init__ c)
/-- Marks.begin -/
def b_Marks_begin (c : CA) : SF := fSeq (fSetFld c.c_Marks ⟨#[95, 111, 119, 110]⟩ (fVar 0) (fVar 1)) (fSetFld c.c_Marks ⟨#[95, 121, 111, 117, 110, 103, 101, 114]⟩ (fVar 0) (fDictN0 c.w))
def F_Marks_begin (c : CA) : FF := fnF 2 (b_Marks_begin c)
/-- Marks.told -/
def b_Marks_told (c : CA) : SF := fSeq (fIf (fTest (fBin oIsN (fFld c.c_Marks ⟨#[95, 111, 119, 110]⟩ (fVar 0)) (fC .non))) (fRet (fTup fNil)) fSkip) (fRet (fApp oTuple (fCons (fApp oSorted (fCons (fBin oAdd (fLst (fCons (fFld c.c_Marks ⟨#[95, 111, 119, 110]⟩ (fVar 0)) fNil)) (fApp oListN (fCons (fFld c.c_Marks ⟨#[95, 121, 111, 117, 110, 103, 101, 114]⟩ (fVar 0)) fNil))) fNil)) fNil)))
def F_Marks_told (c : CA) : FF := fnF 1 (b_Marks_told c)
def lb_Marks_take_0 (c : CA) : SF := fIf (fTest (fBin oGtP (fIx (fVar 2) (fC (.int 0))) (fFld c.c_Marks ⟨#[95, 116, 114, 97, 110, 115, 97, 99, 116, 105, 111, 110]⟩ (fVar 0)))) (fAsg (fC (.bl true)) (gSubN c.w (fFld c.c_Marks ⟨#[95, 121, 111, 117, 110, 103, 101, 114]⟩ (fVar 0)) (fVar 2))) fSkip
theorem ap_lb_Marks_take_0 (c : CA) (env : Lc) (S : Sto) : lb_Marks_take_0 c env S = ((fIf (fTest (fBin oGtP (fIx (fVar 2) (fC (.int 0))) (fFld c.c_Marks ⟨#[95, 116, 114, 97, 110, 115, 97, 99, 116, 105, 111, 110]⟩ (fVar 0)))) (fAsg (fC (.bl true)) (gSubN c.w (fFld c.c_Marks ⟨#[95, 121, 111, 117, 110, 103, 101, 114]⟩ (fVar 0)) (fVar 2))) fSkip)) env S := (rfl)
/-- Marks.take -/
def b_Marks_take (c : CA) : SF := fSeq (fIf (fTest (fBin (oInTu false) (fFld c.c_Marks ⟨#[95, 111, 119, 110]⟩ (fVar 0)) (fVar 1))) (fRet (fC (.bl true))) fSkip) (fSeq (fFor (fIter (fVar 1)) (gN 2) (lb_Marks_take_0 c)) (fRet (fC (.bl false))))
def F_Marks_take (c : CA) : FF := fnF 3 (b_Marks_take c)
def lb_law_next_takes_0 (c : CA) : SF := fIf (fTest (fBin oLtP (fIx (fVar 6) (fC (.int 0))) (fIx (fVar 1) (fVar 4)))) (fRet (fC .non)) fSkip
theorem ap_lb_law_next_takes_0 (c : CA) (env : Lc) (S : Sto) : lb_law_next_takes_0 c env S = ((fIf (fTest (fBin oLtP (fIx (fVar 6) (fC (.int 0))) (fIx (fVar 1) (fVar 4)))) (fRet (fC .non)) fSkip)) env S := (rfl)
/-- _law_next_takes -/
def b_law_next_takes (c : CA) : SF := fSeq (fAsg (fBin oAdd (fVar 2) (fC (.int 1))) (gN 4)) (fSeq (fIf (fTest (fBin oEq (fVar 4) (fApp oLen (fCons (fVar 1) fNil)))) (fSeq (fIf (fNot (fTest (fVar 3))) (fRet (fC (.bl false))) fSkip) (fAsg (fC (.int 0)) (gN 4))) fSkip) (fSeq (fAsg (fMeth c.c_Marks ⟨#[116, 111, 108, 100]⟩ (F_Marks_told c) 1 [] (fIx (fVar 0) (fVar 4)) fNil) (gN 5)) (fSeq (fFor (fIter (fVar 5)) (gN 6) (lb_law_next_takes_0 c)) (fRet (fMeth c.c_Marks ⟨#[116, 97, 107, 101]⟩ (F_Marks_take c) 2 [] (fIx (fVar 0) (fVar 2)) (fCons (fVar 5) fNil))))))
def F_law_next_takes (c : CA) : FF := fnF 7 (b_law_next_takes c)
def lb_law_0 (c : CA) : SF := fSeq (fDrop (fBm "list" mAppend (fVar 5) (fCons (fMake c.c_Marks (F_Marks_init__ c) 2 [] (fCons (fIx (fVar 3) (fVar 6)) fNil)) fNil))) (fDrop (fMeth c.c_Marks ⟨#[98, 101, 103, 105, 110]⟩ (F_Marks_begin c) 2 [] (fIx (fVar 5) (fVar 6)) (fCons (fTup (fCons (fIx (fVar 3) (fVar 6)) (fCons (fBin oAdd (fC (.int 1)) (fCall (F_law_next c) 2 [] (fCons (fVar 2) (fCons (fC (.int 3)) fNil)))) (fCons (fTup (fCons (fVar 6) (fCons (fC (.str ⟨#[97]⟩)) fNil))) (fCons (fBin oAdd (fC (.int 1)) (fCall (F_law_next c) 2 [] (fCons (fVar 2) (fCons (fC (.int 9)) fNil)))) fNil))))) fNil)))
theorem ap_lb_law_0 (c : CA) (env : Lc) (S : Sto) : lb_law_0 c env S = ((fSeq (fDrop (fBm "list" mAppend (fVar 5) (fCons (fMake c.c_Marks (F_Marks_init__ c) 2 [] (fCons (fIx (fVar 3) (fVar 6)) fNil)) fNil))) (fDrop (fMeth c.c_Marks ⟨#[98, 101, 103, 105, 110]⟩ (F_Marks_begin c) 2 [] (fIx (fVar 5) (fVar 6)) (fCons (fTup (fCons (fIx (fVar 3) (fVar 6)) (fCons (fBin oAdd (fC (.int 1)) (fCall (F_law_next c) 2 [] (fCons (fVar 2) (fCons (fC (.int 3)) fNil)))) (fCons (fTup (fCons (fVar 6) (fCons (fC (.str ⟨#[97]⟩)) fNil))) (fCons (fBin oAdd (fC (.int 1)) (fCall (F_law_next c) 2 [] (fCons (fVar 2) (fCons (fC (.int 9)) fNil)))) fNil))))) fNil))))) env S := (rfl)
def lb_law_1 (c : CA) : SF := fSeq (fAsg (fBm "list" mPopAt (fVar 9) (fCons (fCall (F_law_next c) 2 [] (fCons (fVar 2) (fCons (fApp oLen (fCons (fVar 9) fNil)) fNil))) fNil)) (gN 10)) (fSeq (fAsg (fCall (F_law_next_takes c) 4 [] (fCons (fVar 5) (fCons (fVar 3) (fCons (fVar 10) (fCons (fVar 4) fNil))))) (gN 11)) (fSeq (fIf (fTest (fBin oIsN (fVar 11) (fC .non))) (fRet (fC (.bl false))) fSkip) (fIf (fAnd (fTest (fVar 11)) (fTest (fBin (oInL true) (fIx (fVar 3) (fVar 10)) (fVar 7)))) (fDrop (fBm "list" mAppend (fVar 7) (fCons (fIx (fVar 3) (fVar 10)) fNil))) fSkip)))
theorem ap_lb_law_1 (c : CA) (env : Lc) (S : Sto) : lb_law_1 c env S = ((fSeq (fAsg (fBm "list" mPopAt (fVar 9) (fCons (fCall (F_law_next c) 2 [] (fCons (fVar 2) (fCons (fApp oLen (fCons (fVar 9) fNil)) fNil))) fNil)) (gN 10)) (fSeq (fAsg (fCall (F_law_next_takes c) 4 [] (fCons (fVar 5) (fCons (fVar 3) (fCons (fVar 10) (fCons (fVar 4) fNil))))) (gN 11)) (fSeq (fIf (fTest (fBin oIsN (fVar 11) (fC .non))) (fRet (fC (.bl false))) fSkip) (fIf (fAnd (fTest (fVar 11)) (fTest (fBin (oInL true) (fIx (fVar 3) (fVar 10)) (fVar 7)))) (fDrop (fBm "list" mAppend (fVar 7) (fCons (fIx (fVar 3) (fVar 10)) fNil))) fSkip))))) env S := (rfl)
def lb_law_2 (c : CA) : SF := fSeq (fAsg (fLstRg (fApp oLen (fCons (fVar 3) fNil))) (gN 9)) (fFor (fRng1 (fCons (fApp oLen (fCons (fVar 3) fNil)) fNil)) (gN 6) (lb_law_1 c))
theorem ap_lb_law_2 (c : CA) (env : Lc) (S : Sto) : lb_law_2 c env S = ((fSeq (fAsg (fLstRg (fApp oLen (fCons (fVar 3) fNil))) (gN 9)) (fFor (fRng1 (fCons (fApp oLen (fCons (fVar 3) fNil)) fNil)) (gN 6) (lb_law_1 c)))) env S := (rfl)
/-- law -/
def b_law (c : CA) : SF := fSeq (fAsg (fC (.int 0)) (gN 1)) (fSeq (fIf (fTest (fBin oGt (fApp oLen (fCons (fVar 0) fNil)) (fC (.int 0)))) (fAsg (fIx (fVar 0) (fC (.int 0))) (gN 1)) fSkip) (fSeq (fAsg (fCall (F_law_stream c) 2 [] (fCons (fVar 1) (fCons (fC (.int 0)) fNil))) (gN 2)) (fSeq (fAsg (fCall (F_law_names c) 1 [] (fCons (fVar 2) fNil)) (gN 3)) (fSeq (fAsg (fBin oEq (fCall (F_law_next c) 2 [] (fCons (fVar 2) (fCons (fC (.int 2)) fNil))) (fC (.int 0))) (gN 4)) (fSeq (fAsg (fLst fNil) (gN 5)) (fSeq (fFor (fRng1 (fCons (fApp oLen (fCons (fVar 3) fNil)) fNil)) (gN 6) (lb_law_0 c)) (fSeq (fAsg (fLst fNil) (gN 7)) (fSeq (fFor (fRng1 (fCons (fApp oLen (fCons (fVar 3) fNil)) fNil)) (gN 8) (lb_law_2 c)) (fSeq (fIf (fTest (fVar 4)) (fRet (fBin oEq (fVar 7) (fLst (fCons (fApp oMax1 (fCons (fVar 3) fNil)) fNil)))) fSkip) (fRet (fBin oEq (fVar 7) (fLst fNil))))))))))))
def F_law (c : CA) : FF := fnF 12 (b_law c)
end
def top (i : Nat) : Stmt := PySem.Challenge.pw_ringloosed_k17_marks_come_home_round_a_r.main.body.getD i (.Pass ⟨0, 0, 0, 0⟩)
abbrev s_law_stream : Stmt := top 4
abbrev s_law_next : Stmt := top 5
abbrev s_law_transaction : Stmt := top 7
abbrev s_law_names : Stmt := top 9
abbrev s_Marks_init__ : Stmt := inClass (top 2) 0
abbrev s_Marks_begin : Stmt := inClass (top 2) 2
abbrev s_Marks_told : Stmt := inClass (top 2) 5
abbrev s_Marks_take : Stmt := inClass (top 2) 4
abbrev s_law_next_takes : Stmt := top 10
abbrev s_law : Stmt := top 11
structure Ad extends CA where
  a_law_stream : Addr
  d_law_stream : FuncData
  a_law_next : Addr
  d_law_next : FuncData
  a_law_transaction : Addr
  d_law_transaction : FuncData
  a_law_names : Addr
  d_law_names : FuncData
  a_Marks_init__ : Addr
  d_Marks_init__ : FuncData
  a_Marks_begin : Addr
  d_Marks_begin : FuncData
  a_Marks_told : Addr
  d_Marks_told : FuncData
  a_Marks_take : Addr
  d_Marks_take : FuncData
  a_law_next_takes : Addr
  d_law_next_takes : FuncData
  a_law : Addr
  d_law : FuncData
structure Gm (K : PySem.W.Frag) (mg : Str → Option Value) (A : Ad) : Prop where
  z_int : mg "int" = none
  z_len : mg "len" = none
  z_list : mg "list" = none
  z_max : mg "max" = none
  z_range : mg "range" = none
  z_sorted : mg "sorted" = none
  z_tuple : mg "tuple" = none
  T_Marks : Cls K A.c_Marks
  n_Marks_transaction : NoAttr K A.c_Marks ⟨#[95, 116, 114, 97, 110, 115, 97, 99, 116, 105, 111, 110]⟩
  n_Marks_own : NoAttr K A.c_Marks ⟨#[95, 111, 119, 110]⟩
  n_Marks_younger : NoAttr K A.c_Marks ⟨#[95, 121, 111, 117, 110, 103, 101, 114]⟩
  g_Marks : mg "Marks" = some (.ref A.c_Marks)
  M_Marks : Mk K A.c_Marks A.a_Marks_init__
  F_law_stream : Fun K "_law_stream" "_law_stream" s_law_stream A.a_law_stream A.d_law_stream
  b_law_stream : Binds K A.d_law_stream ["cell", "k"] []
  g_law_stream : mg "_law_stream" = some (.ref A.a_law_stream)
  F_law_next : Fun K "_law_next" "_law_next" s_law_next A.a_law_next A.d_law_next
  b_law_next : Binds K A.d_law_next ["stream", "size"] []
  g_law_next : mg "_law_next" = some (.ref A.a_law_next)
  F_law_transaction : Fun K "_law_transaction" "_law_transaction" s_law_transaction A.a_law_transaction A.d_law_transaction
  b_law_transaction : Binds K A.d_law_transaction ["stream"] []
  g_law_transaction : mg "_law_transaction" = some (.ref A.a_law_transaction)
  F_law_names : Fun K "_law_names" "_law_names" s_law_names A.a_law_names A.d_law_names
  b_law_names : Binds K A.d_law_names ["stream"] []
  g_law_names : mg "_law_names" = some (.ref A.a_law_names)
  F_Marks_init__ : Fun K "__init__" "Marks.__init__" s_Marks_init__ A.a_Marks_init__ A.d_Marks_init__
  b_Marks_init__ : Binds K A.d_Marks_init__ ["self", "transaction"] []
  m_Marks_init__ : Meth K A.c_Marks ⟨#[95, 95, 105, 110, 105, 116, 95, 95]⟩ A.a_Marks_init__
  F_Marks_begin : Fun K "begin" "Marks.begin" s_Marks_begin A.a_Marks_begin A.d_Marks_begin
  b_Marks_begin : Binds K A.d_Marks_begin ["self", "mark"] []
  m_Marks_begin : Meth K A.c_Marks ⟨#[98, 101, 103, 105, 110]⟩ A.a_Marks_begin
  F_Marks_told : Fun K "told" "Marks.told" s_Marks_told A.a_Marks_told A.d_Marks_told
  b_Marks_told : Binds K A.d_Marks_told ["self"] []
  m_Marks_told : Meth K A.c_Marks ⟨#[116, 111, 108, 100]⟩ A.a_Marks_told
  F_Marks_take : Fun K "take" "Marks.take" s_Marks_take A.a_Marks_take A.d_Marks_take
  b_Marks_take : Binds K A.d_Marks_take ["self", "marks"] []
  m_Marks_take : Meth K A.c_Marks ⟨#[116, 97, 107, 101]⟩ A.a_Marks_take
  F_law_next_takes : Fun K "_law_next_takes" "_law_next_takes" s_law_next_takes A.a_law_next_takes A.d_law_next_takes
  b_law_next_takes : Binds K A.d_law_next_takes ["rows", "names", "k", "ring"] []
  g_law_next_takes : mg "_law_next_takes" = some (.ref A.a_law_next_takes)
  F_law : Fun K "law" "law" s_law A.a_law A.d_law
  b_law : Binds K A.d_law ["script"] []
  g_law : mg "law" = some (.ref A.a_law)
section
variable {P : Program} {K : PySem.W.Frag} {mg : Str → Option Value} {base : Heap} {A : Ad}
abbrev N_law_stream : List Str := ["cell", "k", "digits"]
theorem sc_law_stream : FnScope N_law_stream ["cell", "k"] (defScope s_law_stream) := ⟨rfl, rfl, rfl, by decide +kernel, rfl, by decide +kernel, by decide +kernel⟩
theorem ok_law_stream (G : Gm K mg A) : FnOk P A.w K mg base CX0 1 A.a_law_stream A.d_law_stream ["cell", "k"] (spF K 2 (F_law_stream A.toCA)) := by
  refine fn_ok G.F_law_stream sc_law_stream rfl (fun cdv A0 outer s H E hr => ?_)
  have nd := sc_law_stream.nd
  exact (xSeq (xSet (i := 2) nd rfl (by first | exact Or.inl rfl | exact Or.inr rfl) (xInt)) (xSeq (xIf (xCmpT op_ge f_ge (nomark _) (xVar 0) (xOp op_pow f_pow (xInt) (xInt))) (xOne (xSet (i := 2) nd rfl (by first | exact Or.inl rfl | exact Or.inr rfl) (xVar 0))) xSkip) (xOne (xRet (xLst (xCons (xVar 2) (xCons (xOp op_mod f_mod (xCT call_int1 f_int (by rfl) G.z_int (by decide +kernel) (xCons (xOp op_addA f_add (xOp op_addA f_add (xOp op_mul f_mul (xVar 0) (xInt)) (xOp op_mul f_mul (xVar 1) (xInt))) (xInt)) xNil)) (xInt)) xNil)))))))
abbrev N_law_next : List Str := ["stream", "size", "drawn"]
theorem sc_law_next : FnScope N_law_next ["stream", "size"] (defScope s_law_next) := ⟨rfl, rfl, rfl, by decide +kernel, rfl, by decide +kernel, by decide +kernel⟩
theorem ok_law_next (G : Gm K mg A) : FnOk P A.w K mg base CX0 1 A.a_law_next A.d_law_next ["stream", "size"] (spF K 2 (F_law_next A.toCA)) := by
  refine fn_ok G.F_law_next sc_law_next rfl (fun cdv A0 outer s H E hr => ?_)
  have nd := sc_law_next.nd
  exact (xSeq (xIf (xCmpT op_gt f_gt (nomark _) (xIx (hu_of hr) (xVar 0) (xInt) (fun _ _ => rfl)) (xInt)) (xSeq (xSet (i := 2) nd rfl (by first | exact Or.inl rfl | exact Or.inr rfl) (xOp op_mod f_mod (xCT call_int1 f_int (by rfl) G.z_int (by decide +kernel) (xCons (xIx (hu_of hr) (xVar 0) (xInt) (fun _ _ => rfl)) xNil)) (xVar 1))) (xSeq (xAsg (xOp op_fdivW f_div (xIx (hu_of hr) (xVar 0) (xInt) (fun _ _ => rfl)) (xVar 1)) (xgSub (hu_of hr) (xVar 0) (xInt))) (xOne (xRet (xVar 2))))) xSkip) (xSeq (xAsg (xOp op_mod f_mod (xCT call_int1 f_int (by rfl) G.z_int (by decide +kernel) (xCons (xOp op_addA f_add (xOp op_mul f_mul (xIx (hu_of hr) (xVar 0) (xInt) (fun _ _ => rfl)) (xInt)) (xInt)) xNil)) (xInt)) (xgSub (hu_of hr) (xVar 0) (xInt))) (xOne (xRet (xOp op_mod f_mod (xCT call_int1 f_int (by rfl) G.z_int (by decide +kernel) (xCons (xOp op_fdivW f_div (xOp op_mod f_mod (xCT call_int1 f_int (by rfl) G.z_int (by decide +kernel) (xCons (xOp op_addA f_add (xOp op_mul f_mul (xIx (hu_of hr) (xVar 0) (xInt) (fun _ _ => rfl)) (xInt)) (xInt)) xNil)) (xInt)) (xInt)) xNil)) (xVar 1))))))
abbrev N_law_transaction : List Str := ["stream"]
theorem sc_law_transaction : FnScope N_law_transaction ["stream"] (defScope s_law_transaction) := ⟨rfl, rfl, rfl, by decide +kernel, rfl, by decide +kernel, by decide +kernel⟩
theorem ok_law_transaction (G : Gm K mg A) : FnOk P A.w K mg base CX0 2 A.a_law_transaction A.d_law_transaction ["stream"] (spF K 1 (F_law_transaction A.toCA)) := by
  refine fn_ok G.F_law_transaction sc_law_transaction rfl (fun cdv A0 outer s H E hr => ?_)
  have nd := sc_law_transaction.nd
  exact (xSeq (xIf (xCmpT (op_eqD (hr.units)) f_eq (nomark _) (xCall (ok_law_next G) (hr.mono (by decide)) (by rfl) G.g_law_next G.F_law_next.kp G.b_law_next (xCons (xVar 0) (xCons (xInt) xNil))) (xInt)) (xOne (xRet (xTup (xCons (xOp op_addA f_add (xInt) (xCall (ok_law_next G) (hr.mono (by decide)) (by rfl) G.g_law_next G.F_law_next.kp G.b_law_next (xCons (xVar 0) (xCons (xOp op_pow f_pow (xInt) (xInt)) xNil)))) (xCons (xCall (ok_law_next G) (hr.mono (by decide)) (by rfl) G.g_law_next G.F_law_next.kp G.b_law_next (xCons (xVar 0) (xCons (xOp op_pow f_pow (xInt) (xInt)) xNil))) xNil))))) xSkip) (xOne (xRet (xTup (xCons (xOp op_addA f_add (xInt) (xCall (ok_law_next G) (hr.mono (by decide)) (by rfl) G.g_law_next G.F_law_next.kp G.b_law_next (xCons (xVar 0) (xCons (xInt) xNil)))) (xCons (xCall (ok_law_next G) (hr.mono (by decide)) (by rfl) G.g_law_next G.F_law_next.kp G.b_law_next (xCons (xVar 0) (xCons (xInt) xNil))) xNil))))))
abbrev N_law_names : List Str := ["stream", "names", "k", "name"]
theorem sc_law_names : FnScope N_law_names ["stream"] (defScope s_law_names) := ⟨rfl, rfl, rfl, by decide +kernel, rfl, by decide +kernel, by decide +kernel⟩
theorem ok_law_names (G : Gm K mg A) : FnOk P A.w K mg base CX0 3 A.a_law_names A.d_law_names ["stream"] (spF K 1 (F_law_names A.toCA)) := by
  refine fn_ok G.F_law_names sc_law_names rfl (fun cdv A0 outer s H E hr => ?_)
  have nd := sc_law_names.nd
  exact (xSeq (xSet (i := 1) nd rfl (by first | exact Or.inl rfl | exact Or.inr rfl) (xLst xNil)) (xSeq (xFor PassesOwn.never rfl (xRng1 (by rfl) G.z_range (xCons (xOp op_addA f_add (xInt) (xCall (ok_law_next G) (hr.mono (by decide)) (by rfl) G.g_law_next G.F_law_next.kp G.b_law_next (xCons (xVar 0) (xCons (xInt) xNil)))) xNil)) (xgN nd rfl (by first | exact Or.inl rfl | exact Or.inr rfl)) (xSeq (xSet (i := 3) nd rfl (by first | exact Or.inl rfl | exact Or.inr rfl) (xCall (ok_law_transaction G) (hr.mono (by decide)) (by rfl) G.g_law_transaction G.F_law_transaction.kp G.b_law_transaction (xCons (xVar 0) xNil))) (xOne (xIf (xCmpT (op_notInD (hu65 hr)) f_notInL rfl (xVar 3) (xVar 1)) (xOne (xExpr (xBm PySem.F.plainAttrs_list PySem.F.slot_list_append PySem.F.type_list_append mt_append f_append (xVar 1) (xCons (xVar 3) xNil)))) xSkip)))) (xSeq (xIf (xCmpT op_lt f_lt (nomark _) (xCB call_lenA f_len (by rfl) G.z_len (by decide +kernel) (xCons (xVar 1) xNil)) (xInt)) (xOne (xExpr (xBm PySem.F.plainAttrs_list PySem.F.slot_list_append PySem.F.type_list_append mt_append f_append (xVar 1) (xCons (xTup (xCons (xIx (hu_of hr) (xIx (hu_of hr) (xVar 1) (xInt) (fun _ _ => rfl)) (xInt) (fun _ _ => rfl)) (xCons (xOp op_addA f_add (xIx (hu_of hr) (xIx (hu_of hr) (xVar 1) (xInt) (fun _ _ => rfl)) (xInt) (fun _ _ => rfl)) (xInt)) xNil))) xNil)))) xSkip) (xOne (xRet (xVar 1))))))
abbrev N_Marks_init__ : List Str := ["self", "transaction"]
theorem sc_Marks_init__ : FnScope N_Marks_init__ ["self", "transaction"] (defScope s_Marks_init__) := ⟨rfl, rfl, rfl, by decide +kernel, rfl, by decide +kernel, by decide +kernel⟩
theorem ok_Marks_init__ (G : Gm K mg A) : FnOk P A.w K mg base CX0 1 A.a_Marks_init__ A.d_Marks_init__ ["self", "transaction"] (spF K 2 (F_Marks_init__ A.toCA)) := by
  refine fn_ok G.F_Marks_init__ sc_Marks_init__ rfl (fun cdv A0 outer s H E hr => ?_)
  have nd := sc_Marks_init__.nd
  exact (xSeq (xSetFldE (by decide +kernel) G.T_Marks G.n_Marks_transaction (xVar 0) (xVar 1)) (xSeq (xSetFldE (by decide +kernel) G.T_Marks G.n_Marks_own (xVar 0) (xNon)) (xOne (xSetFldE (by decide +kernel) G.T_Marks G.n_Marks_younger (xVar 0) (xDictN0)))))
abbrev N_Marks_begin : List Str := ["self", "mark"]
theorem sc_Marks_begin : FnScope N_Marks_begin ["self", "mark"] (defScope s_Marks_begin) := ⟨rfl, rfl, rfl, by decide +kernel, rfl, by decide +kernel, by decide +kernel⟩
theorem ok_Marks_begin (G : Gm K mg A) : FnOk P A.w K mg base CX0 1 A.a_Marks_begin A.d_Marks_begin ["self", "mark"] (spF K 2 (F_Marks_begin A.toCA)) := by
  refine fn_ok G.F_Marks_begin sc_Marks_begin rfl (fun cdv A0 outer s H E hr => ?_)
  have nd := sc_Marks_begin.nd
  exact (xSeq (xSetFldE (by decide +kernel) G.T_Marks G.n_Marks_own (xVar 0) (xVar 1)) (xOne (xSetFldE (by decide +kernel) G.T_Marks G.n_Marks_younger (xVar 0) (xDictN0))))
abbrev N_Marks_told : List Str := ["self"]
theorem sc_Marks_told : FnScope N_Marks_told ["self"] (defScope s_Marks_told) := ⟨rfl, rfl, rfl, by decide +kernel, rfl, by decide +kernel, by decide +kernel⟩
theorem ok_Marks_told (G : Gm K mg A) : FnOk P A.w K mg base CX0 1 A.a_Marks_told A.d_Marks_told ["self"] (spF K 1 (F_Marks_told A.toCA)) := by
  refine fn_ok G.F_Marks_told sc_Marks_told rfl (fun cdv A0 outer s H E hr => ?_)
  have nd := sc_Marks_told.nd
  exact (xSeq (xIf (xCmpT op_isN f_isN (nomark _) (xFldE (by decide +kernel) G.T_Marks G.n_Marks_own (xVar 0)) (xNon)) (xOne (xRet (xTup xNil))) xSkip) (xOne (xRet (xCT call_tuple_of f_tuple (by rfl) G.z_tuple (by decide +kernel) (xCons (xCB (call_sortedD (hu65 hr)) f_sorted (by rfl) G.z_sorted (by decide +kernel) (xCons (xOp op_addA f_add (xLst (xCons (xFldE (by decide +kernel) G.T_Marks G.n_Marks_own (xVar 0)) xNil)) (xCT (call_listN rfl) f_listN (by rfl) G.z_list (by decide +kernel) (xCons (xFldE (by decide +kernel) G.T_Marks G.n_Marks_younger (xVar 0)) xNil))) xNil)) xNil)))))
abbrev N_Marks_take : List Str := ["self", "marks", "mark"]
theorem sc_Marks_take : FnScope N_Marks_take ["self", "marks"] (defScope s_Marks_take) := ⟨rfl, rfl, rfl, by decide +kernel, rfl, by decide +kernel, by decide +kernel⟩
theorem ok_Marks_take (G : Gm K mg A) : FnOk P A.w K mg base CX0 1 A.a_Marks_take A.d_Marks_take ["self", "marks"] (spF K 2 (F_Marks_take A.toCA)) := by
  refine fn_ok G.F_Marks_take sc_Marks_take rfl (fun cdv A0 outer s H E hr => ?_)
  have nd := sc_Marks_take.nd
  exact (xSeq (xIf (xCmpT (op_inTu (hu65 hr)) f_inTu rfl (xFldE (by decide +kernel) G.T_Marks G.n_Marks_own (xVar 0)) (xVar 1)) (xOne (xRet (xBl))) xSkip) (xSeq (xFor PassesOwn.never rfl (xIter (xVar 1)) (xgN nd rfl (by first | exact Or.inl rfl | exact Or.inr rfl)) (xOne (xIf (xCmpT (op_gtP (hu65 hr)) f_gtP (nomark _) (xIx (hu_of hr) (xVar 2) (xInt) (fun _ _ => rfl)) (xFldE (by decide +kernel) G.T_Marks G.n_Marks_transaction (xVar 0))) (xOne (xAsg (xBl) (xgSubN (hu65 hr) (xFldE (by decide +kernel) G.T_Marks G.n_Marks_younger (xVar 0)) (xVar 2)))) xSkip))) (xOne (xRet (xBl)))))
abbrev N_law_next_takes : List Str := ["rows", "names", "k", "ring", "other", "told", "mark"]
theorem sc_law_next_takes : FnScope N_law_next_takes ["rows", "names", "k", "ring"] (defScope s_law_next_takes) := ⟨rfl, rfl, rfl, by decide +kernel, rfl, by decide +kernel, by decide +kernel⟩
theorem ok_law_next_takes (G : Gm K mg A) : FnOk P A.w K mg base CX0 2 A.a_law_next_takes A.d_law_next_takes ["rows", "names", "k", "ring"] (spF K 4 (F_law_next_takes A.toCA)) := by
  refine fn_ok G.F_law_next_takes sc_law_next_takes rfl (fun cdv A0 outer s H E hr => ?_)
  have nd := sc_law_next_takes.nd
  exact (xSeq (xSet (i := 4) nd rfl (by first | exact Or.inl rfl | exact Or.inr rfl) (xOp op_addA f_add (xVar 2) (xInt))) (xSeq (xIf (xCmpT (op_eqD (hr.units)) f_eq (nomark _) (xVar 4) (xCB call_lenA f_len (by rfl) G.z_len (by decide +kernel) (xCons (xVar 1) xNil))) (xSeq (xIf (xNot (xVal (xVar 3))) (xOne (xRet (xBl))) xSkip) (xOne (xSet (i := 4) nd rfl (by first | exact Or.inl rfl | exact Or.inr rfl) (xInt)))) xSkip) (xSeq (xSet (i := 5) nd rfl (by first | exact Or.inl rfl | exact Or.inr rfl) (xMeth0E (by decide +kernel) G.T_Marks G.m_Marks_told (ok_Marks_told G) (hr.mono (by decide)) G.b_Marks_told .nil (fun _ _ => .nil) (xIx (hu_of hr) (xVar 0) (xVar 4) (fun _ _ => rfl)))) (xSeq (xFor PassesOwn.never rfl (xIter (xVar 5)) (xgN nd rfl (by first | exact Or.inl rfl | exact Or.inr rfl)) (xOne (xIf (xCmpT (op_ltP (hu65 hr)) f_ltP (nomark _) (xIx (hu_of hr) (xVar 6) (xInt) (fun _ _ => rfl)) (xIx (hu_of hr) (xVar 1) (xVar 4) (fun _ _ => rfl))) (xOne (xRet (xNon))) xSkip))) (xOne (xRet (xMethE (by decide +kernel) G.T_Marks G.m_Marks_take (ok_Marks_take G) (hr.mono (by decide)) G.b_Marks_take (xIx (hu_of hr) (xVar 0) (xVar 2) (fun _ _ => rfl)) (xCons (xVar 5) xNil))))))))
abbrev N_law : List Str := ["script", "cell", "stream", "names", "ring", "rows", "k", "home", "turn", "order", "place", "came"]
theorem sc_law : FnScope N_law ["script"] (defScope s_law) := ⟨rfl, rfl, rfl, by decide +kernel, rfl, by decide +kernel, by decide +kernel⟩
theorem ok_law (G : Gm K mg A) : FnOk P A.w K mg base CX0 4 A.a_law A.d_law ["script"] (spF K 1 (F_law A.toCA)) := by
  refine fn_ok G.F_law sc_law rfl (fun cdv A0 outer s H E hr => ?_)
  have nd := sc_law.nd
  exact (xSeq (xSet (i := 1) nd rfl (by first | exact Or.inl rfl | exact Or.inr rfl) (xInt)) (xSeq (xIf (xCmpT op_gt f_gt (nomark _) (xCB call_lenA f_len (by rfl) G.z_len (by decide +kernel) (xCons (xVar 0) xNil)) (xInt)) (xOne (xSet (i := 1) nd rfl (by first | exact Or.inl rfl | exact Or.inr rfl) (xIx (hu_of hr) (xVar 0) (xInt) (fun _ _ => rfl)))) xSkip) (xSeq (xSet (i := 2) nd rfl (by first | exact Or.inl rfl | exact Or.inr rfl) (xCall (ok_law_stream G) (hr.mono (by decide)) (by rfl) G.g_law_stream G.F_law_stream.kp G.b_law_stream (xCons (xVar 1) (xCons (xInt) xNil)))) (xSeq (xSet (i := 3) nd rfl (by first | exact Or.inl rfl | exact Or.inr rfl) (xCall (ok_law_names G) (hr.mono (by decide)) (by rfl) G.g_law_names G.F_law_names.kp G.b_law_names (xCons (xVar 2) xNil))) (xSeq (xSet (i := 4) nd rfl (by first | exact Or.inl rfl | exact Or.inr rfl) (xCmp (op_eqD (hr.units)) f_eq (nomark _) (xCall (ok_law_next G) (hr.mono (by decide)) (by rfl) G.g_law_next G.F_law_next.kp G.b_law_next (xCons (xVar 2) (xCons (xInt) xNil))) (xInt))) (xSeq (xSet (i := 5) nd rfl (by first | exact Or.inl rfl | exact Or.inr rfl) (xLst xNil)) (xSeq (xFor PassesOwn.never rfl (xRng1 (by rfl) G.z_range (xCons (xCB call_lenA f_len (by rfl) G.z_len (by decide +kernel) (xCons (xVar 3) xNil)) xNil)) (xgN nd rfl (by first | exact Or.inl rfl | exact Or.inr rfl)) (xSeq (xExpr (xBm PySem.F.plainAttrs_list PySem.F.slot_list_append PySem.F.type_list_append mt_append f_append (xVar 5) (xCons (xMake G.M_Marks (ok_Marks_init__ G) (hr.mono (by decide)) (by rfl) G.g_Marks G.b_Marks_init__ .nil (fun _ _ => .nil) (xCons (xIx (hu_of hr) (xVar 3) (xVar 6) (fun _ _ => rfl)) xNil)) xNil))) (xOne (xExpr (xMethE (by decide +kernel) G.T_Marks G.m_Marks_begin (ok_Marks_begin G) (hr.mono (by decide)) G.b_Marks_begin (xIx (hu_of hr) (xVar 5) (xVar 6) (fun _ _ => rfl)) (xCons (xTup (xCons (xIx (hu_of hr) (xVar 3) (xVar 6) (fun _ _ => rfl)) (xCons (xOp op_addA f_add (xInt) (xCall (ok_law_next G) (hr.mono (by decide)) (by rfl) G.g_law_next G.F_law_next.kp G.b_law_next (xCons (xVar 2) (xCons (xInt) xNil)))) (xCons (xTup (xCons (xVar 6) (xCons (xStr (y := ⟨#[97]⟩) (by decide +kernel)) xNil))) (xCons (xOp op_addA f_add (xInt) (xCall (ok_law_next G) (hr.mono (by decide)) (by rfl) G.g_law_next G.F_law_next.kp G.b_law_next (xCons (xVar 2) (xCons (xInt) xNil)))) xNil))))) xNil)))))) (xSeq (xSet (i := 7) nd rfl (by first | exact Or.inl rfl | exact Or.inr rfl) (xLst xNil)) (xSeq (xFor PassesOwn.never rfl (xRng1 (by rfl) G.z_range (xCons (xCB call_lenA f_len (by rfl) G.z_len (by decide +kernel) (xCons (xVar 3) xNil)) xNil)) (xgN nd rfl (by first | exact Or.inl rfl | exact Or.inr rfl)) (xSeq (xSet (i := 9) nd rfl (by first | exact Or.inl rfl | exact Or.inr rfl) (xLstRg rfl (by rfl) G.z_list (by rfl) G.z_range (xCB call_lenA f_len (by rfl) G.z_len (by decide +kernel) (xCons (xVar 3) xNil)))) (xOne (xFor PassesOwn.never rfl (xRng1 (by rfl) G.z_range (xCons (xCB call_lenA f_len (by rfl) G.z_len (by decide +kernel) (xCons (xVar 3) xNil)) xNil)) (xgN nd rfl (by first | exact Or.inl rfl | exact Or.inr rfl)) (xSeq (xSet (i := 10) nd rfl (by first | exact Or.inl rfl | exact Or.inr rfl) (xBm PySem.F.plainAttrs_list PySem.F.slot_list_pop PySem.F.type_list_pop mt_popAt f_popAt (xVar 9) (xCons (xCall (ok_law_next G) (hr.mono (by decide)) (by rfl) G.g_law_next G.F_law_next.kp G.b_law_next (xCons (xVar 2) (xCons (xCB call_lenA f_len (by rfl) G.z_len (by decide +kernel) (xCons (xVar 9) xNil)) xNil))) xNil))) (xSeq (xSet (i := 11) nd rfl (by first | exact Or.inl rfl | exact Or.inr rfl) (xCall (ok_law_next_takes G) (hr.mono (by decide)) (by rfl) G.g_law_next_takes G.F_law_next_takes.kp G.b_law_next_takes (xCons (xVar 5) (xCons (xVar 3) (xCons (xVar 10) (xCons (xVar 4) xNil)))))) (xSeq (xIf (xCmpT op_isN f_isN (nomark _) (xVar 11) (xNon)) (xOne (xRet (xBl))) xSkip) (xOne (xIf (PW.pt (xAnd (xVal (xVar 11)) (xAnd1 (xCmpT (op_notInD (hu65 hr)) f_notInL rfl (xIx (hu_of hr) (xVar 3) (xVar 10) (fun _ _ => rfl)) (xVar 7))))) (xOne (xExpr (xBm PySem.F.plainAttrs_list PySem.F.slot_list_append PySem.F.type_list_append mt_append f_append (xVar 7) (xCons (xIx (hu_of hr) (xVar 3) (xVar 10) (fun _ _ => rfl)) xNil)))) xSkip))))))))) (xSeq (xIf (xVal (xVar 4)) (xOne (xRet (xCmp (op_eqD (hr.units)) f_eq (nomark _) (xVar 7) (xLst (xCons (xCB (call_max1D rfl (hu65 hr)) f_max1 (by rfl) G.z_max (by decide +kernel) (xCons (xVar 3) xNil)) xNil))))) xSkip) (xOne (xRet (xCmp (op_eqD (hr.units)) f_eq (nomark _) (xVar 7) (xLst xNil))))))))))))))
end
end Qk17

namespace Qk17
open PySem L2 RF
def nextC (c : CA) (n : Nat) (size : Int) (S : Sto) : Option Cell → R D
  | some (.lst [.int a, .int b]) => .ok (.int (dNext size (a, b)).1) (S.set n (stC (dNext size (a, b)).2))
  | _ => F_law_next c [.ref n, .int size] S
theorem fT_nextC (c : CA) {n : Nat} {s : Sd} {size : Int} {S : Sto} : nextC c n size S (some (stC s)) = .ok (.int (dNext size s).1) (S.set n (stC (dNext size s).2)) := (rfl)
theorem next_eq (c : CA) {n : Nat} {size : Int} {S : Sto} (h0 : 0 < size) (h1 : size < 1267650600228229401496703205376) :
    F_law_next c [.ref n, .int size] S = nextC c n size S S[n]? := by
  unfold nextC
  split
  · rename_i a b h
    unfold F_law_next b_law_next
    by_cases ha : 0 < a
    · simp only [ap_fVar, varK_some, ap_fC, ap_fBin, ap_binK, ap_fUn, ap_fApp, ap_fNil, ap_fCons, ap_consK, ap_consK2, ap_fTup, ap_fLst, ap_tupK, ap_lstK, ap_fTest, ap_testK, ap_fVal, ap_valK, ap_fAnd, ap_fOr, ap_fNot, ap_andK, ap_orK, ap_notK, ap_fAndV, ap_fOrV, ap_fNotV, ap_andVK, ap_orVK, ap_notVK, ap_fIfE, ap_ifEK, ap_fChain, ap_chK1, ap_chK2, ap_chK3, ap_fSkip, ap_fBrk, ap_fCnt, ap_fSeq, ap_seqK_nx, ap_seqK_rt, ap_seqK_bk, ap_seqK_ct, ap_fIf, ap_ifK, ap_fRet, ap_retK, ap_fRetN, ap_fDrop, ap_dropK, ap_fAsg, ap_asgK, ap_asgK2, ap_gN, ap_gNil, ap_gCons, ap_gsK, ap_gUnp, ap_unpK, ap_gSub, ap_subK1, ap_subK2, ap_subK3, ap_fIx, ap_ixK, isDict_ref, isDict_tup, isDict_rl, isDict_str, isDictC_lst, isDictC_dk, isDictC_dt, getL_tup, getL_rl, getL_str, getL_ref, getLC_lst, retO_some, atI_0, atI_1, atI_2, atI_3, oSet_ref, setC_lst, setLK_some, ixN_0, ixN_1, ap_fCall, ap_callK, ap_fnF, ap_fnK_nx, ap_fnK_rt, o_add, o_addR, o_addC, o_addS, o_addT, o_sub, o_mul, o_mod, o_div, o_pow, o_neg, o_lt, o_le, o_gt, o_ge, o_int, o_min2, o_max2, o_leS1, o_inS1, o_isB, o_eq, o_ne, eqK_some, neK_some, eqv_int, eqv_bool, toP_int, toP_bl, toP_non, toP_str, toP_tup, toP_rl, toP_ref, toPC_lst, toP_mapM_nil, toP_mapM_cons, toP_consO, o_len, lenK_some, lenD_tup, lenD_rl, lenD_str, lenD_ref, lenC_lst, ap_fIsi, ap_isiK0, ap_isiK, ap_isiK2, ap_fTyIs, ap_tyK0, ap_tyK, ap_fFor, ap_forK_fix, ap_forK_live, loopX_nil, loopX_cons, ap_turnK0, ap_turnK_nx, ap_turnK_ct, ap_turnK_bk, ap_turnK_rt, ap_fRng1, ap_rng1K, ap_fIter, ap_iterK_rl, ap_iterK_kt, ap_iterK_tup, ap_iterK_ref, iterC_lst, ap_fIterS, ap_iterSK, ap_fComp, ap_compK_fix, ap_compK_live, compX_nil, compX_cons, ap_compTK, ap_compEK, ap_fYes, ap_fDict0, ap_fDictT0, ap_fSl, ap_slK1, ap_slK2, ap_pNo, ap_pSo, ap_pSoK, oSl_tup, oSl_str, ap_fBm, ap_bmK, tyIn_str, tyIn_ref, tyInC_lst, tyD_ref, fldsOf_ref, fldC_ins, ap_fFld, ap_fldK, ap_fldK2, ap_fSetFld, ap_sfK1, ap_sfK2, ap_sfK3, o_put, ap_putK, ap_fFldAug, ap_faK1, ap_faK2, ap_faK3, ap_faK4, ap_faK5, o_addI, ap_fMeth, ap_meK1, ap_meK2, ap_meK3, ap_fMake, ap_mkK, ap_mkK2, ap_fTru, ap_truK, ap_truK2, truD_ref, truC_lst, o_getD, o_getDK, lookD_ref, lookC_dk, setC_dk, ap_fDisp, ap_dispK, ap_dispK2, ap_prNil, ap_prCons, ap_prK, ap_prK2, ap_prK3, o_append, o_appC, o_isN, o_notN, o_nonD, o_nonT, o_nonR, o_nonI, isDict_eW, getL_eW0, getL_eW1, o_seqW, o_nonW, o_nonH, eqv_Ln, eqv_Lc, o_eH0, o_eH1, fldC_lk, fld_lkv, fld_lkt, fld_lkh, fld_lkw, fld_lkm1, fld_lkm2, fld_lkm3, fld_lkm4, fld_lkm5, fld_lklen, fld_lkpv, fld_lkpt, fld_lkph, fld_lkpw, isDictC_md, isDictC_lk, lookC_mdv, lookC_mdt, lookC_mdh, lookC_mdw, setC_mdv, setC_mdt, setC_mdh, setC_mdw, tyInC_md, o_seqR, o_seqC, fld_i1, fld_i2, fld_i3, fld_i4, fld_keyPs, fld_mdlen, fld_merge, ap_fMakeK, ap_mkKK, ap_fRng2, ap_rng2K, setC_dt, isDict_eK, o_listT, o_listTC, lookN_ref, lookNC_dn, o_inN, o_inNK, ap_fIxN, o_ixN, o_isDn, o_isNC, ap_fGetN, ap_gtK, ap_gtK2, ap_gtK3, o_getN, o_getNK, oSetN_ref, setNC_dn, setNK_some, ap_gSubN, ap_gnK, ap_gnK2, ap_gnK3, ap_fDictN0, o_listN, o_listNC, o_listNL, ap_fProp, ap_prpK, ap_prpK2, o_someMap, o_gtT, o_ltT, o_nonM, isDict_eM, getL_eM0, loopX_inv, loopX_ok, ixN_nn, o_tupR, o_tupC, fldC_mk, isDictC_mk, fldN_mk, fldL_mk_0, fldP_mk_0, fldL_mk_1, fldP_mk_1, fldL_mk_2, fldP_mk_2, fldM_mk_0, fldM_mk_1, fldM_mk_2, fldM_mk_3, fldI_mk_0, fldI_mk_1, fldI_mk_2, o_tyT, o_nonO, o_tellN, o_tellS, o_cut1, o_esN, eqv_O, fldC_sh, isDictC_sh, fldN_sh, fldL_sh_0, fldP_sh_0, fldL_sh_1, fldP_sh_1, fldM_sh_0, fldM_sh_1, fldM_sh_2, fldM_sh_3, fldM_sh_4, fldM_sh_5, fldM_sh_6, fldM_sh_7, fldM_sh_8, fldM_sh_9, fldI_sh_0, fldI_sh_1, isDictC_sm, lookC_sml, lookC_smp, fld_smkey, fld_smlen, fld_smerge, isDict_eT, getL_eT0, getL_eT1, eqv_NW, o_seqT, eqv_row, ap_fGComp, ap_gcompK_live, ap_unset0, ap_unset1, o_kKe, o_kTe, o_kKTe, ap_ptT2, o_mulT, ap_fRev, ap_revK, ap_fLstRg, ap_lstRgK, fT_eT, fT_eW, fT_eH, eqv_T, eqv_W, eqv_H, mapM_eW, eqv_Ws, eq_self, Bool.true_eq_false, Option.isNone_none, Option.isNone_some, R.bind_ok, R.bind_ex, R.bind_bad, R.nox_ok, nox_bad', List.map_cons, List.map_nil, List.length_cons, List.length_nil, List.cons_append, List.nil_append, Nat.zero_add, Nat.reduceAdd, Nat.reduceSub, List.replicate_succ, List.replicate_zero, List.getElem?_cons_zero, List.getElem?_cons_succ, List.set_cons_zero, List.set_cons_succ, List.append_nil, Bool.false_eq_true, if_true, if_false, decide_eq_true_eq, decide_true, decide_false, Nat.add_zero, reduceIte, reduceDIte, Nat.reduceLeDiff, Int.reduceLT, Int.reduceLE, Int.reduceNeg, Int.reducePow, Int.reduceMul, Int.reduceAdd, Int.reduceSub, Nat.reduceEqDiff, Nat.reducePow, true_and, and_true, or_true, true_or, false_or, or_false, and_self, Bool.not_true, Bool.not_false, Nat.reduceLT, ge_iff_le, gt_iff_lt, Nat.le_refl, Option.map_some, Bool.not_eq_true, Bool.not_eq_eq_eq_not, not_true_eq_false, not_false_eq_true, Int.reduceToNat, beq_iff_eq, Int.reduceEq, String.reduceEq, String.reduceNe, Int.reduceNe, List.set_set, get_app, get_app0, get_apps, get_apps0, set_app, set_app0, set_apps, set_apps0, List.append_assoc, Nat.add_assoc, List.toList_toArray, List.size_toArray, List.length_set, List.length_append, h, set_get h, h0, h1, ha, stC, dNext]
    · simp only [ap_fVar, varK_some, ap_fC, ap_fBin, ap_binK, ap_fUn, ap_fApp, ap_fNil, ap_fCons, ap_consK, ap_consK2, ap_fTup, ap_fLst, ap_tupK, ap_lstK, ap_fTest, ap_testK, ap_fVal, ap_valK, ap_fAnd, ap_fOr, ap_fNot, ap_andK, ap_orK, ap_notK, ap_fAndV, ap_fOrV, ap_fNotV, ap_andVK, ap_orVK, ap_notVK, ap_fIfE, ap_ifEK, ap_fChain, ap_chK1, ap_chK2, ap_chK3, ap_fSkip, ap_fBrk, ap_fCnt, ap_fSeq, ap_seqK_nx, ap_seqK_rt, ap_seqK_bk, ap_seqK_ct, ap_fIf, ap_ifK, ap_fRet, ap_retK, ap_fRetN, ap_fDrop, ap_dropK, ap_fAsg, ap_asgK, ap_asgK2, ap_gN, ap_gNil, ap_gCons, ap_gsK, ap_gUnp, ap_unpK, ap_gSub, ap_subK1, ap_subK2, ap_subK3, ap_fIx, ap_ixK, isDict_ref, isDict_tup, isDict_rl, isDict_str, isDictC_lst, isDictC_dk, isDictC_dt, getL_tup, getL_rl, getL_str, getL_ref, getLC_lst, retO_some, atI_0, atI_1, atI_2, atI_3, oSet_ref, setC_lst, setLK_some, ixN_0, ixN_1, ap_fCall, ap_callK, ap_fnF, ap_fnK_nx, ap_fnK_rt, o_add, o_addR, o_addC, o_addS, o_addT, o_sub, o_mul, o_mod, o_div, o_pow, o_neg, o_lt, o_le, o_gt, o_ge, o_int, o_min2, o_max2, o_leS1, o_inS1, o_isB, o_eq, o_ne, eqK_some, neK_some, eqv_int, eqv_bool, toP_int, toP_bl, toP_non, toP_str, toP_tup, toP_rl, toP_ref, toPC_lst, toP_mapM_nil, toP_mapM_cons, toP_consO, o_len, lenK_some, lenD_tup, lenD_rl, lenD_str, lenD_ref, lenC_lst, ap_fIsi, ap_isiK0, ap_isiK, ap_isiK2, ap_fTyIs, ap_tyK0, ap_tyK, ap_fFor, ap_forK_fix, ap_forK_live, loopX_nil, loopX_cons, ap_turnK0, ap_turnK_nx, ap_turnK_ct, ap_turnK_bk, ap_turnK_rt, ap_fRng1, ap_rng1K, ap_fIter, ap_iterK_rl, ap_iterK_kt, ap_iterK_tup, ap_iterK_ref, iterC_lst, ap_fIterS, ap_iterSK, ap_fComp, ap_compK_fix, ap_compK_live, compX_nil, compX_cons, ap_compTK, ap_compEK, ap_fYes, ap_fDict0, ap_fDictT0, ap_fSl, ap_slK1, ap_slK2, ap_pNo, ap_pSo, ap_pSoK, oSl_tup, oSl_str, ap_fBm, ap_bmK, tyIn_str, tyIn_ref, tyInC_lst, tyD_ref, fldsOf_ref, fldC_ins, ap_fFld, ap_fldK, ap_fldK2, ap_fSetFld, ap_sfK1, ap_sfK2, ap_sfK3, o_put, ap_putK, ap_fFldAug, ap_faK1, ap_faK2, ap_faK3, ap_faK4, ap_faK5, o_addI, ap_fMeth, ap_meK1, ap_meK2, ap_meK3, ap_fMake, ap_mkK, ap_mkK2, ap_fTru, ap_truK, ap_truK2, truD_ref, truC_lst, o_getD, o_getDK, lookD_ref, lookC_dk, setC_dk, ap_fDisp, ap_dispK, ap_dispK2, ap_prNil, ap_prCons, ap_prK, ap_prK2, ap_prK3, o_append, o_appC, o_isN, o_notN, o_nonD, o_nonT, o_nonR, o_nonI, isDict_eW, getL_eW0, getL_eW1, o_seqW, o_nonW, o_nonH, eqv_Ln, eqv_Lc, o_eH0, o_eH1, fldC_lk, fld_lkv, fld_lkt, fld_lkh, fld_lkw, fld_lkm1, fld_lkm2, fld_lkm3, fld_lkm4, fld_lkm5, fld_lklen, fld_lkpv, fld_lkpt, fld_lkph, fld_lkpw, isDictC_md, isDictC_lk, lookC_mdv, lookC_mdt, lookC_mdh, lookC_mdw, setC_mdv, setC_mdt, setC_mdh, setC_mdw, tyInC_md, o_seqR, o_seqC, fld_i1, fld_i2, fld_i3, fld_i4, fld_keyPs, fld_mdlen, fld_merge, ap_fMakeK, ap_mkKK, ap_fRng2, ap_rng2K, setC_dt, isDict_eK, o_listT, o_listTC, lookN_ref, lookNC_dn, o_inN, o_inNK, ap_fIxN, o_ixN, o_isDn, o_isNC, ap_fGetN, ap_gtK, ap_gtK2, ap_gtK3, o_getN, o_getNK, oSetN_ref, setNC_dn, setNK_some, ap_gSubN, ap_gnK, ap_gnK2, ap_gnK3, ap_fDictN0, o_listN, o_listNC, o_listNL, ap_fProp, ap_prpK, ap_prpK2, o_someMap, o_gtT, o_ltT, o_nonM, isDict_eM, getL_eM0, loopX_inv, loopX_ok, ixN_nn, o_tupR, o_tupC, fldC_mk, isDictC_mk, fldN_mk, fldL_mk_0, fldP_mk_0, fldL_mk_1, fldP_mk_1, fldL_mk_2, fldP_mk_2, fldM_mk_0, fldM_mk_1, fldM_mk_2, fldM_mk_3, fldI_mk_0, fldI_mk_1, fldI_mk_2, o_tyT, o_nonO, o_tellN, o_tellS, o_cut1, o_esN, eqv_O, fldC_sh, isDictC_sh, fldN_sh, fldL_sh_0, fldP_sh_0, fldL_sh_1, fldP_sh_1, fldM_sh_0, fldM_sh_1, fldM_sh_2, fldM_sh_3, fldM_sh_4, fldM_sh_5, fldM_sh_6, fldM_sh_7, fldM_sh_8, fldM_sh_9, fldI_sh_0, fldI_sh_1, isDictC_sm, lookC_sml, lookC_smp, fld_smkey, fld_smlen, fld_smerge, isDict_eT, getL_eT0, getL_eT1, eqv_NW, o_seqT, eqv_row, ap_fGComp, ap_gcompK_live, ap_unset0, ap_unset1, o_kKe, o_kTe, o_kKTe, ap_ptT2, o_mulT, ap_fRev, ap_revK, ap_fLstRg, ap_lstRgK, fT_eT, fT_eW, fT_eH, eqv_T, eqv_W, eqv_H, mapM_eW, eqv_Ws, eq_self, Bool.true_eq_false, Option.isNone_none, Option.isNone_some, R.bind_ok, R.bind_ex, R.bind_bad, R.nox_ok, nox_bad', List.map_cons, List.map_nil, List.length_cons, List.length_nil, List.cons_append, List.nil_append, Nat.zero_add, Nat.reduceAdd, Nat.reduceSub, List.replicate_succ, List.replicate_zero, List.getElem?_cons_zero, List.getElem?_cons_succ, List.set_cons_zero, List.set_cons_succ, List.append_nil, Bool.false_eq_true, if_true, if_false, decide_eq_true_eq, decide_true, decide_false, Nat.add_zero, reduceIte, reduceDIte, Nat.reduceLeDiff, Int.reduceLT, Int.reduceLE, Int.reduceNeg, Int.reducePow, Int.reduceMul, Int.reduceAdd, Int.reduceSub, Nat.reduceEqDiff, Nat.reducePow, true_and, and_true, or_true, true_or, false_or, or_false, and_self, Bool.not_true, Bool.not_false, Nat.reduceLT, ge_iff_le, gt_iff_lt, Nat.le_refl, Option.map_some, Bool.not_eq_true, Bool.not_eq_eq_eq_not, not_true_eq_false, not_false_eq_true, Int.reduceToNat, beq_iff_eq, Int.reduceEq, String.reduceEq, String.reduceNe, Int.reduceNe, List.set_set, get_app, get_app0, get_apps, get_apps0, set_app, set_app0, set_apps, set_apps0, List.append_assoc, Nat.add_assoc, List.toList_toArray, List.size_toArray, List.length_set, List.length_append, h, set_get h, h0, h1, ha, stC, dNext]
  · rfl
theorem stream_eq (c : CA) (x k : Int) (S : Sto) (hk : 0 ≤ k ∧ k < 1000) : ∃ s, F_law_stream c [.int x, .int k] S = .ok (.ref S.length) (S ++ [stC s]) := by
  unfold F_law_stream b_law_stream
  by_cases h : (1000000000000000000 : Int) ≤ x
  · refine ⟨(x, (x * 48271 + k * 69621 + 77) % 2147483647), ?_⟩
    simp only [ap_fVar, varK_some, ap_fC, ap_fBin, ap_binK, ap_fUn, ap_fApp, ap_fNil, ap_fCons, ap_consK, ap_consK2, ap_fTup, ap_fLst, ap_tupK, ap_lstK, ap_fTest, ap_testK, ap_fVal, ap_valK, ap_fAnd, ap_fOr, ap_fNot, ap_andK, ap_orK, ap_notK, ap_fAndV, ap_fOrV, ap_fNotV, ap_andVK, ap_orVK, ap_notVK, ap_fIfE, ap_ifEK, ap_fChain, ap_chK1, ap_chK2, ap_chK3, ap_fSkip, ap_fBrk, ap_fCnt, ap_fSeq, ap_seqK_nx, ap_seqK_rt, ap_seqK_bk, ap_seqK_ct, ap_fIf, ap_ifK, ap_fRet, ap_retK, ap_fRetN, ap_fDrop, ap_dropK, ap_fAsg, ap_asgK, ap_asgK2, ap_gN, ap_gNil, ap_gCons, ap_gsK, ap_gUnp, ap_unpK, ap_gSub, ap_subK1, ap_subK2, ap_subK3, ap_fIx, ap_ixK, isDict_ref, isDict_tup, isDict_rl, isDict_str, isDictC_lst, isDictC_dk, isDictC_dt, getL_tup, getL_rl, getL_str, getL_ref, getLC_lst, retO_some, atI_0, atI_1, atI_2, atI_3, oSet_ref, setC_lst, setLK_some, ixN_0, ixN_1, ap_fCall, ap_callK, ap_fnF, ap_fnK_nx, ap_fnK_rt, o_add, o_addR, o_addC, o_addS, o_addT, o_sub, o_mul, o_mod, o_div, o_pow, o_neg, o_lt, o_le, o_gt, o_ge, o_int, o_min2, o_max2, o_leS1, o_inS1, o_isB, o_eq, o_ne, eqK_some, neK_some, eqv_int, eqv_bool, toP_int, toP_bl, toP_non, toP_str, toP_tup, toP_rl, toP_ref, toPC_lst, toP_mapM_nil, toP_mapM_cons, toP_consO, o_len, lenK_some, lenD_tup, lenD_rl, lenD_str, lenD_ref, lenC_lst, ap_fIsi, ap_isiK0, ap_isiK, ap_isiK2, ap_fTyIs, ap_tyK0, ap_tyK, ap_fFor, ap_forK_fix, ap_forK_live, loopX_nil, loopX_cons, ap_turnK0, ap_turnK_nx, ap_turnK_ct, ap_turnK_bk, ap_turnK_rt, ap_fRng1, ap_rng1K, ap_fIter, ap_iterK_rl, ap_iterK_kt, ap_iterK_tup, ap_iterK_ref, iterC_lst, ap_fIterS, ap_iterSK, ap_fComp, ap_compK_fix, ap_compK_live, compX_nil, compX_cons, ap_compTK, ap_compEK, ap_fYes, ap_fDict0, ap_fDictT0, ap_fSl, ap_slK1, ap_slK2, ap_pNo, ap_pSo, ap_pSoK, oSl_tup, oSl_str, ap_fBm, ap_bmK, tyIn_str, tyIn_ref, tyInC_lst, tyD_ref, fldsOf_ref, fldC_ins, ap_fFld, ap_fldK, ap_fldK2, ap_fSetFld, ap_sfK1, ap_sfK2, ap_sfK3, o_put, ap_putK, ap_fFldAug, ap_faK1, ap_faK2, ap_faK3, ap_faK4, ap_faK5, o_addI, ap_fMeth, ap_meK1, ap_meK2, ap_meK3, ap_fMake, ap_mkK, ap_mkK2, ap_fTru, ap_truK, ap_truK2, truD_ref, truC_lst, o_getD, o_getDK, lookD_ref, lookC_dk, setC_dk, ap_fDisp, ap_dispK, ap_dispK2, ap_prNil, ap_prCons, ap_prK, ap_prK2, ap_prK3, o_append, o_appC, o_isN, o_notN, o_nonD, o_nonT, o_nonR, o_nonI, isDict_eW, getL_eW0, getL_eW1, o_seqW, o_nonW, o_nonH, eqv_Ln, eqv_Lc, o_eH0, o_eH1, fldC_lk, fld_lkv, fld_lkt, fld_lkh, fld_lkw, fld_lkm1, fld_lkm2, fld_lkm3, fld_lkm4, fld_lkm5, fld_lklen, fld_lkpv, fld_lkpt, fld_lkph, fld_lkpw, isDictC_md, isDictC_lk, lookC_mdv, lookC_mdt, lookC_mdh, lookC_mdw, setC_mdv, setC_mdt, setC_mdh, setC_mdw, tyInC_md, o_seqR, o_seqC, fld_i1, fld_i2, fld_i3, fld_i4, fld_keyPs, fld_mdlen, fld_merge, ap_fMakeK, ap_mkKK, ap_fRng2, ap_rng2K, setC_dt, isDict_eK, o_listT, o_listTC, lookN_ref, lookNC_dn, o_inN, o_inNK, ap_fIxN, o_ixN, o_isDn, o_isNC, ap_fGetN, ap_gtK, ap_gtK2, ap_gtK3, o_getN, o_getNK, oSetN_ref, setNC_dn, setNK_some, ap_gSubN, ap_gnK, ap_gnK2, ap_gnK3, ap_fDictN0, o_listN, o_listNC, o_listNL, ap_fProp, ap_prpK, ap_prpK2, o_someMap, o_gtT, o_ltT, o_nonM, isDict_eM, getL_eM0, loopX_inv, loopX_ok, ixN_nn, o_tupR, o_tupC, fldC_mk, isDictC_mk, fldN_mk, fldL_mk_0, fldP_mk_0, fldL_mk_1, fldP_mk_1, fldL_mk_2, fldP_mk_2, fldM_mk_0, fldM_mk_1, fldM_mk_2, fldM_mk_3, fldI_mk_0, fldI_mk_1, fldI_mk_2, o_tyT, o_nonO, o_tellN, o_tellS, o_cut1, o_esN, eqv_O, fldC_sh, isDictC_sh, fldN_sh, fldL_sh_0, fldP_sh_0, fldL_sh_1, fldP_sh_1, fldM_sh_0, fldM_sh_1, fldM_sh_2, fldM_sh_3, fldM_sh_4, fldM_sh_5, fldM_sh_6, fldM_sh_7, fldM_sh_8, fldM_sh_9, fldI_sh_0, fldI_sh_1, isDictC_sm, lookC_sml, lookC_smp, fld_smkey, fld_smlen, fld_smerge, isDict_eT, getL_eT0, getL_eT1, eqv_NW, o_seqT, eqv_row, ap_fGComp, ap_gcompK_live, ap_unset0, ap_unset1, o_kKe, o_kTe, o_kKTe, ap_ptT2, o_mulT, ap_fRev, ap_revK, ap_fLstRg, ap_lstRgK, fT_eT, fT_eW, fT_eH, eqv_T, eqv_W, eqv_H, mapM_eW, eqv_Ws, eq_self, Bool.true_eq_false, Option.isNone_none, Option.isNone_some, R.bind_ok, R.bind_ex, R.bind_bad, R.nox_ok, nox_bad', List.map_cons, List.map_nil, List.length_cons, List.length_nil, List.cons_append, List.nil_append, Nat.zero_add, Nat.reduceAdd, Nat.reduceSub, List.replicate_succ, List.replicate_zero, List.getElem?_cons_zero, List.getElem?_cons_succ, List.set_cons_zero, List.set_cons_succ, List.append_nil, Bool.false_eq_true, if_true, if_false, decide_eq_true_eq, decide_true, decide_false, Nat.add_zero, reduceIte, reduceDIte, Nat.reduceLeDiff, Int.reduceLT, Int.reduceLE, Int.reduceNeg, Int.reducePow, Int.reduceMul, Int.reduceAdd, Int.reduceSub, Nat.reduceEqDiff, Nat.reducePow, true_and, and_true, or_true, true_or, false_or, or_false, and_self, Bool.not_true, Bool.not_false, Nat.reduceLT, ge_iff_le, gt_iff_lt, Nat.le_refl, Option.map_some, Bool.not_eq_true, Bool.not_eq_eq_eq_not, not_true_eq_false, not_false_eq_true, Int.reduceToNat, beq_iff_eq, Int.reduceEq, String.reduceEq, String.reduceNe, Int.reduceNe, List.set_set, get_app, get_app0, get_apps, get_apps0, set_app, set_app0, set_apps, set_apps0, List.append_assoc, Nat.add_assoc, List.toList_toArray, List.size_toArray, List.length_set, List.length_append, h, stC]
  · refine ⟨(0, (x * 48271 + k * 69621 + 77) % 2147483647), ?_⟩
    simp only [ap_fVar, varK_some, ap_fC, ap_fBin, ap_binK, ap_fUn, ap_fApp, ap_fNil, ap_fCons, ap_consK, ap_consK2, ap_fTup, ap_fLst, ap_tupK, ap_lstK, ap_fTest, ap_testK, ap_fVal, ap_valK, ap_fAnd, ap_fOr, ap_fNot, ap_andK, ap_orK, ap_notK, ap_fAndV, ap_fOrV, ap_fNotV, ap_andVK, ap_orVK, ap_notVK, ap_fIfE, ap_ifEK, ap_fChain, ap_chK1, ap_chK2, ap_chK3, ap_fSkip, ap_fBrk, ap_fCnt, ap_fSeq, ap_seqK_nx, ap_seqK_rt, ap_seqK_bk, ap_seqK_ct, ap_fIf, ap_ifK, ap_fRet, ap_retK, ap_fRetN, ap_fDrop, ap_dropK, ap_fAsg, ap_asgK, ap_asgK2, ap_gN, ap_gNil, ap_gCons, ap_gsK, ap_gUnp, ap_unpK, ap_gSub, ap_subK1, ap_subK2, ap_subK3, ap_fIx, ap_ixK, isDict_ref, isDict_tup, isDict_rl, isDict_str, isDictC_lst, isDictC_dk, isDictC_dt, getL_tup, getL_rl, getL_str, getL_ref, getLC_lst, retO_some, atI_0, atI_1, atI_2, atI_3, oSet_ref, setC_lst, setLK_some, ixN_0, ixN_1, ap_fCall, ap_callK, ap_fnF, ap_fnK_nx, ap_fnK_rt, o_add, o_addR, o_addC, o_addS, o_addT, o_sub, o_mul, o_mod, o_div, o_pow, o_neg, o_lt, o_le, o_gt, o_ge, o_int, o_min2, o_max2, o_leS1, o_inS1, o_isB, o_eq, o_ne, eqK_some, neK_some, eqv_int, eqv_bool, toP_int, toP_bl, toP_non, toP_str, toP_tup, toP_rl, toP_ref, toPC_lst, toP_mapM_nil, toP_mapM_cons, toP_consO, o_len, lenK_some, lenD_tup, lenD_rl, lenD_str, lenD_ref, lenC_lst, ap_fIsi, ap_isiK0, ap_isiK, ap_isiK2, ap_fTyIs, ap_tyK0, ap_tyK, ap_fFor, ap_forK_fix, ap_forK_live, loopX_nil, loopX_cons, ap_turnK0, ap_turnK_nx, ap_turnK_ct, ap_turnK_bk, ap_turnK_rt, ap_fRng1, ap_rng1K, ap_fIter, ap_iterK_rl, ap_iterK_kt, ap_iterK_tup, ap_iterK_ref, iterC_lst, ap_fIterS, ap_iterSK, ap_fComp, ap_compK_fix, ap_compK_live, compX_nil, compX_cons, ap_compTK, ap_compEK, ap_fYes, ap_fDict0, ap_fDictT0, ap_fSl, ap_slK1, ap_slK2, ap_pNo, ap_pSo, ap_pSoK, oSl_tup, oSl_str, ap_fBm, ap_bmK, tyIn_str, tyIn_ref, tyInC_lst, tyD_ref, fldsOf_ref, fldC_ins, ap_fFld, ap_fldK, ap_fldK2, ap_fSetFld, ap_sfK1, ap_sfK2, ap_sfK3, o_put, ap_putK, ap_fFldAug, ap_faK1, ap_faK2, ap_faK3, ap_faK4, ap_faK5, o_addI, ap_fMeth, ap_meK1, ap_meK2, ap_meK3, ap_fMake, ap_mkK, ap_mkK2, ap_fTru, ap_truK, ap_truK2, truD_ref, truC_lst, o_getD, o_getDK, lookD_ref, lookC_dk, setC_dk, ap_fDisp, ap_dispK, ap_dispK2, ap_prNil, ap_prCons, ap_prK, ap_prK2, ap_prK3, o_append, o_appC, o_isN, o_notN, o_nonD, o_nonT, o_nonR, o_nonI, isDict_eW, getL_eW0, getL_eW1, o_seqW, o_nonW, o_nonH, eqv_Ln, eqv_Lc, o_eH0, o_eH1, fldC_lk, fld_lkv, fld_lkt, fld_lkh, fld_lkw, fld_lkm1, fld_lkm2, fld_lkm3, fld_lkm4, fld_lkm5, fld_lklen, fld_lkpv, fld_lkpt, fld_lkph, fld_lkpw, isDictC_md, isDictC_lk, lookC_mdv, lookC_mdt, lookC_mdh, lookC_mdw, setC_mdv, setC_mdt, setC_mdh, setC_mdw, tyInC_md, o_seqR, o_seqC, fld_i1, fld_i2, fld_i3, fld_i4, fld_keyPs, fld_mdlen, fld_merge, ap_fMakeK, ap_mkKK, ap_fRng2, ap_rng2K, setC_dt, isDict_eK, o_listT, o_listTC, lookN_ref, lookNC_dn, o_inN, o_inNK, ap_fIxN, o_ixN, o_isDn, o_isNC, ap_fGetN, ap_gtK, ap_gtK2, ap_gtK3, o_getN, o_getNK, oSetN_ref, setNC_dn, setNK_some, ap_gSubN, ap_gnK, ap_gnK2, ap_gnK3, ap_fDictN0, o_listN, o_listNC, o_listNL, ap_fProp, ap_prpK, ap_prpK2, o_someMap, o_gtT, o_ltT, o_nonM, isDict_eM, getL_eM0, loopX_inv, loopX_ok, ixN_nn, o_tupR, o_tupC, fldC_mk, isDictC_mk, fldN_mk, fldL_mk_0, fldP_mk_0, fldL_mk_1, fldP_mk_1, fldL_mk_2, fldP_mk_2, fldM_mk_0, fldM_mk_1, fldM_mk_2, fldM_mk_3, fldI_mk_0, fldI_mk_1, fldI_mk_2, o_tyT, o_nonO, o_tellN, o_tellS, o_cut1, o_esN, eqv_O, fldC_sh, isDictC_sh, fldN_sh, fldL_sh_0, fldP_sh_0, fldL_sh_1, fldP_sh_1, fldM_sh_0, fldM_sh_1, fldM_sh_2, fldM_sh_3, fldM_sh_4, fldM_sh_5, fldM_sh_6, fldM_sh_7, fldM_sh_8, fldM_sh_9, fldI_sh_0, fldI_sh_1, isDictC_sm, lookC_sml, lookC_smp, fld_smkey, fld_smlen, fld_smerge, isDict_eT, getL_eT0, getL_eT1, eqv_NW, o_seqT, eqv_row, ap_fGComp, ap_gcompK_live, ap_unset0, ap_unset1, o_kKe, o_kTe, o_kKTe, ap_ptT2, o_mulT, ap_fRev, ap_revK, ap_fLstRg, ap_lstRgK, fT_eT, fT_eW, fT_eH, eqv_T, eqv_W, eqv_H, mapM_eW, eqv_Ws, eq_self, Bool.true_eq_false, Option.isNone_none, Option.isNone_some, R.bind_ok, R.bind_ex, R.bind_bad, R.nox_ok, nox_bad', List.map_cons, List.map_nil, List.length_cons, List.length_nil, List.cons_append, List.nil_append, Nat.zero_add, Nat.reduceAdd, Nat.reduceSub, List.replicate_succ, List.replicate_zero, List.getElem?_cons_zero, List.getElem?_cons_succ, List.set_cons_zero, List.set_cons_succ, List.append_nil, Bool.false_eq_true, if_true, if_false, decide_eq_true_eq, decide_true, decide_false, Nat.add_zero, reduceIte, reduceDIte, Nat.reduceLeDiff, Int.reduceLT, Int.reduceLE, Int.reduceNeg, Int.reducePow, Int.reduceMul, Int.reduceAdd, Int.reduceSub, Nat.reduceEqDiff, Nat.reducePow, true_and, and_true, or_true, true_or, false_or, or_false, and_self, Bool.not_true, Bool.not_false, Nat.reduceLT, ge_iff_le, gt_iff_lt, Nat.le_refl, Option.map_some, Bool.not_eq_true, Bool.not_eq_eq_eq_not, not_true_eq_false, not_false_eq_true, Int.reduceToNat, beq_iff_eq, Int.reduceEq, String.reduceEq, String.reduceNe, Int.reduceNe, List.set_set, get_app, get_app0, get_apps, get_apps0, set_app, set_app0, set_apps, set_apps0, List.append_assoc, Nat.add_assoc, List.toList_toArray, List.size_toArray, List.length_set, List.length_append, h, stC]
def dTr (s : Sd) : (Int × Int) × Sd :=
  let (z, s) := dNext 9 s
  if z = 0 then let (a, s) := dNext (10 ^ 12) s; let (b, s) := dNext (10 ^ 12) s; ((1 + a, b), s)
  else let (a, s) := dNext 4 s; let (b, s) := dNext 3 s; ((1 + a, b), s)
theorem tr_eq (c : CA) {n : Nat} {s : Sd} {S : Sto} (h : S[n]? = some (stC s)) : F_law_transaction c [.ref n] S = .ok (eT (dTr s).1) (S.set n (stC (dTr s).2)) := by
  unfold F_law_transaction b_law_transaction
  by_cases h0 : (dNext 9 s).1 = 0
  · simp only [ap_fVar, varK_some, ap_fC, ap_fBin, ap_binK, ap_fUn, ap_fApp, ap_fNil, ap_fCons, ap_consK, ap_consK2, ap_fTup, ap_fLst, ap_tupK, ap_lstK, ap_fTest, ap_testK, ap_fVal, ap_valK, ap_fAnd, ap_fOr, ap_fNot, ap_andK, ap_orK, ap_notK, ap_fAndV, ap_fOrV, ap_fNotV, ap_andVK, ap_orVK, ap_notVK, ap_fIfE, ap_ifEK, ap_fChain, ap_chK1, ap_chK2, ap_chK3, ap_fSkip, ap_fBrk, ap_fCnt, ap_fSeq, ap_seqK_nx, ap_seqK_rt, ap_seqK_bk, ap_seqK_ct, ap_fIf, ap_ifK, ap_fRet, ap_retK, ap_fRetN, ap_fDrop, ap_dropK, ap_fAsg, ap_asgK, ap_asgK2, ap_gN, ap_gNil, ap_gCons, ap_gsK, ap_gUnp, ap_unpK, ap_gSub, ap_subK1, ap_subK2, ap_subK3, ap_fIx, ap_ixK, isDict_ref, isDict_tup, isDict_rl, isDict_str, isDictC_lst, isDictC_dk, isDictC_dt, getL_tup, getL_rl, getL_str, getL_ref, getLC_lst, retO_some, atI_0, atI_1, atI_2, atI_3, oSet_ref, setC_lst, setLK_some, ixN_0, ixN_1, ap_fCall, ap_callK, ap_fnF, ap_fnK_nx, ap_fnK_rt, o_add, o_addR, o_addC, o_addS, o_addT, o_sub, o_mul, o_mod, o_div, o_pow, o_neg, o_lt, o_le, o_gt, o_ge, o_int, o_min2, o_max2, o_leS1, o_inS1, o_isB, o_eq, o_ne, eqK_some, neK_some, eqv_int, eqv_bool, toP_int, toP_bl, toP_non, toP_str, toP_tup, toP_rl, toP_ref, toPC_lst, toP_mapM_nil, toP_mapM_cons, toP_consO, o_len, lenK_some, lenD_tup, lenD_rl, lenD_str, lenD_ref, lenC_lst, ap_fIsi, ap_isiK0, ap_isiK, ap_isiK2, ap_fTyIs, ap_tyK0, ap_tyK, ap_fFor, ap_forK_fix, ap_forK_live, loopX_nil, loopX_cons, ap_turnK0, ap_turnK_nx, ap_turnK_ct, ap_turnK_bk, ap_turnK_rt, ap_fRng1, ap_rng1K, ap_fIter, ap_iterK_rl, ap_iterK_kt, ap_iterK_tup, ap_iterK_ref, iterC_lst, ap_fIterS, ap_iterSK, ap_fComp, ap_compK_fix, ap_compK_live, compX_nil, compX_cons, ap_compTK, ap_compEK, ap_fYes, ap_fDict0, ap_fDictT0, ap_fSl, ap_slK1, ap_slK2, ap_pNo, ap_pSo, ap_pSoK, oSl_tup, oSl_str, ap_fBm, ap_bmK, tyIn_str, tyIn_ref, tyInC_lst, tyD_ref, fldsOf_ref, fldC_ins, ap_fFld, ap_fldK, ap_fldK2, ap_fSetFld, ap_sfK1, ap_sfK2, ap_sfK3, o_put, ap_putK, ap_fFldAug, ap_faK1, ap_faK2, ap_faK3, ap_faK4, ap_faK5, o_addI, ap_fMeth, ap_meK1, ap_meK2, ap_meK3, ap_fMake, ap_mkK, ap_mkK2, ap_fTru, ap_truK, ap_truK2, truD_ref, truC_lst, o_getD, o_getDK, lookD_ref, lookC_dk, setC_dk, ap_fDisp, ap_dispK, ap_dispK2, ap_prNil, ap_prCons, ap_prK, ap_prK2, ap_prK3, o_append, o_appC, o_isN, o_notN, o_nonD, o_nonT, o_nonR, o_nonI, isDict_eW, getL_eW0, getL_eW1, o_seqW, o_nonW, o_nonH, eqv_Ln, eqv_Lc, o_eH0, o_eH1, fldC_lk, fld_lkv, fld_lkt, fld_lkh, fld_lkw, fld_lkm1, fld_lkm2, fld_lkm3, fld_lkm4, fld_lkm5, fld_lklen, fld_lkpv, fld_lkpt, fld_lkph, fld_lkpw, isDictC_md, isDictC_lk, lookC_mdv, lookC_mdt, lookC_mdh, lookC_mdw, setC_mdv, setC_mdt, setC_mdh, setC_mdw, tyInC_md, o_seqR, o_seqC, fld_i1, fld_i2, fld_i3, fld_i4, fld_keyPs, fld_mdlen, fld_merge, ap_fMakeK, ap_mkKK, ap_fRng2, ap_rng2K, setC_dt, isDict_eK, o_listT, o_listTC, lookN_ref, lookNC_dn, o_inN, o_inNK, ap_fIxN, o_ixN, o_isDn, o_isNC, ap_fGetN, ap_gtK, ap_gtK2, ap_gtK3, o_getN, o_getNK, oSetN_ref, setNC_dn, setNK_some, ap_gSubN, ap_gnK, ap_gnK2, ap_gnK3, ap_fDictN0, o_listN, o_listNC, o_listNL, ap_fProp, ap_prpK, ap_prpK2, o_someMap, o_gtT, o_ltT, o_nonM, isDict_eM, getL_eM0, loopX_inv, loopX_ok, ixN_nn, o_tupR, o_tupC, fldC_mk, isDictC_mk, fldN_mk, fldL_mk_0, fldP_mk_0, fldL_mk_1, fldP_mk_1, fldL_mk_2, fldP_mk_2, fldM_mk_0, fldM_mk_1, fldM_mk_2, fldM_mk_3, fldI_mk_0, fldI_mk_1, fldI_mk_2, o_tyT, o_nonO, o_tellN, o_tellS, o_cut1, o_esN, eqv_O, fldC_sh, isDictC_sh, fldN_sh, fldL_sh_0, fldP_sh_0, fldL_sh_1, fldP_sh_1, fldM_sh_0, fldM_sh_1, fldM_sh_2, fldM_sh_3, fldM_sh_4, fldM_sh_5, fldM_sh_6, fldM_sh_7, fldM_sh_8, fldM_sh_9, fldI_sh_0, fldI_sh_1, isDictC_sm, lookC_sml, lookC_smp, fld_smkey, fld_smlen, fld_smerge, isDict_eT, getL_eT0, getL_eT1, eqv_NW, o_seqT, eqv_row, ap_fGComp, ap_gcompK_live, ap_unset0, ap_unset1, o_kKe, o_kTe, o_kKTe, ap_ptT2, o_mulT, ap_fRev, ap_revK, ap_fLstRg, ap_lstRgK, fT_eT, fT_eW, fT_eH, eqv_T, eqv_W, eqv_H, mapM_eW, eqv_Ws, eq_self, Bool.true_eq_false, Option.isNone_none, Option.isNone_some, R.bind_ok, R.bind_ex, R.bind_bad, R.nox_ok, nox_bad', List.map_cons, List.map_nil, List.length_cons, List.length_nil, List.cons_append, List.nil_append, Nat.zero_add, Nat.reduceAdd, Nat.reduceSub, List.replicate_succ, List.replicate_zero, List.getElem?_cons_zero, List.getElem?_cons_succ, List.set_cons_zero, List.set_cons_succ, List.append_nil, Bool.false_eq_true, if_true, if_false, decide_eq_true_eq, decide_true, decide_false, Nat.add_zero, reduceIte, reduceDIte, Nat.reduceLeDiff, Int.reduceLT, Int.reduceLE, Int.reduceNeg, Int.reducePow, Int.reduceMul, Int.reduceAdd, Int.reduceSub, Nat.reduceEqDiff, Nat.reducePow, true_and, and_true, or_true, true_or, false_or, or_false, and_self, Bool.not_true, Bool.not_false, Nat.reduceLT, ge_iff_le, gt_iff_lt, Nat.le_refl, Option.map_some, Bool.not_eq_true, Bool.not_eq_eq_eq_not, not_true_eq_false, not_false_eq_true, Int.reduceToNat, beq_iff_eq, Int.reduceEq, String.reduceEq, String.reduceNe, Int.reduceNe, List.set_set, get_app, get_app0, get_apps, get_apps0, set_app, set_app0, set_apps, set_apps0, List.append_assoc, Nat.add_assoc, List.toList_toArray, List.size_toArray, List.length_set, List.length_append, next_eq, fT_nextC, h, set_get h, h0, dTr, eT]
  · simp only [ap_fVar, varK_some, ap_fC, ap_fBin, ap_binK, ap_fUn, ap_fApp, ap_fNil, ap_fCons, ap_consK, ap_consK2, ap_fTup, ap_fLst, ap_tupK, ap_lstK, ap_fTest, ap_testK, ap_fVal, ap_valK, ap_fAnd, ap_fOr, ap_fNot, ap_andK, ap_orK, ap_notK, ap_fAndV, ap_fOrV, ap_fNotV, ap_andVK, ap_orVK, ap_notVK, ap_fIfE, ap_ifEK, ap_fChain, ap_chK1, ap_chK2, ap_chK3, ap_fSkip, ap_fBrk, ap_fCnt, ap_fSeq, ap_seqK_nx, ap_seqK_rt, ap_seqK_bk, ap_seqK_ct, ap_fIf, ap_ifK, ap_fRet, ap_retK, ap_fRetN, ap_fDrop, ap_dropK, ap_fAsg, ap_asgK, ap_asgK2, ap_gN, ap_gNil, ap_gCons, ap_gsK, ap_gUnp, ap_unpK, ap_gSub, ap_subK1, ap_subK2, ap_subK3, ap_fIx, ap_ixK, isDict_ref, isDict_tup, isDict_rl, isDict_str, isDictC_lst, isDictC_dk, isDictC_dt, getL_tup, getL_rl, getL_str, getL_ref, getLC_lst, retO_some, atI_0, atI_1, atI_2, atI_3, oSet_ref, setC_lst, setLK_some, ixN_0, ixN_1, ap_fCall, ap_callK, ap_fnF, ap_fnK_nx, ap_fnK_rt, o_add, o_addR, o_addC, o_addS, o_addT, o_sub, o_mul, o_mod, o_div, o_pow, o_neg, o_lt, o_le, o_gt, o_ge, o_int, o_min2, o_max2, o_leS1, o_inS1, o_isB, o_eq, o_ne, eqK_some, neK_some, eqv_int, eqv_bool, toP_int, toP_bl, toP_non, toP_str, toP_tup, toP_rl, toP_ref, toPC_lst, toP_mapM_nil, toP_mapM_cons, toP_consO, o_len, lenK_some, lenD_tup, lenD_rl, lenD_str, lenD_ref, lenC_lst, ap_fIsi, ap_isiK0, ap_isiK, ap_isiK2, ap_fTyIs, ap_tyK0, ap_tyK, ap_fFor, ap_forK_fix, ap_forK_live, loopX_nil, loopX_cons, ap_turnK0, ap_turnK_nx, ap_turnK_ct, ap_turnK_bk, ap_turnK_rt, ap_fRng1, ap_rng1K, ap_fIter, ap_iterK_rl, ap_iterK_kt, ap_iterK_tup, ap_iterK_ref, iterC_lst, ap_fIterS, ap_iterSK, ap_fComp, ap_compK_fix, ap_compK_live, compX_nil, compX_cons, ap_compTK, ap_compEK, ap_fYes, ap_fDict0, ap_fDictT0, ap_fSl, ap_slK1, ap_slK2, ap_pNo, ap_pSo, ap_pSoK, oSl_tup, oSl_str, ap_fBm, ap_bmK, tyIn_str, tyIn_ref, tyInC_lst, tyD_ref, fldsOf_ref, fldC_ins, ap_fFld, ap_fldK, ap_fldK2, ap_fSetFld, ap_sfK1, ap_sfK2, ap_sfK3, o_put, ap_putK, ap_fFldAug, ap_faK1, ap_faK2, ap_faK3, ap_faK4, ap_faK5, o_addI, ap_fMeth, ap_meK1, ap_meK2, ap_meK3, ap_fMake, ap_mkK, ap_mkK2, ap_fTru, ap_truK, ap_truK2, truD_ref, truC_lst, o_getD, o_getDK, lookD_ref, lookC_dk, setC_dk, ap_fDisp, ap_dispK, ap_dispK2, ap_prNil, ap_prCons, ap_prK, ap_prK2, ap_prK3, o_append, o_appC, o_isN, o_notN, o_nonD, o_nonT, o_nonR, o_nonI, isDict_eW, getL_eW0, getL_eW1, o_seqW, o_nonW, o_nonH, eqv_Ln, eqv_Lc, o_eH0, o_eH1, fldC_lk, fld_lkv, fld_lkt, fld_lkh, fld_lkw, fld_lkm1, fld_lkm2, fld_lkm3, fld_lkm4, fld_lkm5, fld_lklen, fld_lkpv, fld_lkpt, fld_lkph, fld_lkpw, isDictC_md, isDictC_lk, lookC_mdv, lookC_mdt, lookC_mdh, lookC_mdw, setC_mdv, setC_mdt, setC_mdh, setC_mdw, tyInC_md, o_seqR, o_seqC, fld_i1, fld_i2, fld_i3, fld_i4, fld_keyPs, fld_mdlen, fld_merge, ap_fMakeK, ap_mkKK, ap_fRng2, ap_rng2K, setC_dt, isDict_eK, o_listT, o_listTC, lookN_ref, lookNC_dn, o_inN, o_inNK, ap_fIxN, o_ixN, o_isDn, o_isNC, ap_fGetN, ap_gtK, ap_gtK2, ap_gtK3, o_getN, o_getNK, oSetN_ref, setNC_dn, setNK_some, ap_gSubN, ap_gnK, ap_gnK2, ap_gnK3, ap_fDictN0, o_listN, o_listNC, o_listNL, ap_fProp, ap_prpK, ap_prpK2, o_someMap, o_gtT, o_ltT, o_nonM, isDict_eM, getL_eM0, loopX_inv, loopX_ok, ixN_nn, o_tupR, o_tupC, fldC_mk, isDictC_mk, fldN_mk, fldL_mk_0, fldP_mk_0, fldL_mk_1, fldP_mk_1, fldL_mk_2, fldP_mk_2, fldM_mk_0, fldM_mk_1, fldM_mk_2, fldM_mk_3, fldI_mk_0, fldI_mk_1, fldI_mk_2, o_tyT, o_nonO, o_tellN, o_tellS, o_cut1, o_esN, eqv_O, fldC_sh, isDictC_sh, fldN_sh, fldL_sh_0, fldP_sh_0, fldL_sh_1, fldP_sh_1, fldM_sh_0, fldM_sh_1, fldM_sh_2, fldM_sh_3, fldM_sh_4, fldM_sh_5, fldM_sh_6, fldM_sh_7, fldM_sh_8, fldM_sh_9, fldI_sh_0, fldI_sh_1, isDictC_sm, lookC_sml, lookC_smp, fld_smkey, fld_smlen, fld_smerge, isDict_eT, getL_eT0, getL_eT1, eqv_NW, o_seqT, eqv_row, ap_fGComp, ap_gcompK_live, ap_unset0, ap_unset1, o_kKe, o_kTe, o_kKTe, ap_ptT2, o_mulT, ap_fRev, ap_revK, ap_fLstRg, ap_lstRgK, fT_eT, fT_eW, fT_eH, eqv_T, eqv_W, eqv_H, mapM_eW, eqv_Ws, eq_self, Bool.true_eq_false, Option.isNone_none, Option.isNone_some, R.bind_ok, R.bind_ex, R.bind_bad, R.nox_ok, nox_bad', List.map_cons, List.map_nil, List.length_cons, List.length_nil, List.cons_append, List.nil_append, Nat.zero_add, Nat.reduceAdd, Nat.reduceSub, List.replicate_succ, List.replicate_zero, List.getElem?_cons_zero, List.getElem?_cons_succ, List.set_cons_zero, List.set_cons_succ, List.append_nil, Bool.false_eq_true, if_true, if_false, decide_eq_true_eq, decide_true, decide_false, Nat.add_zero, reduceIte, reduceDIte, Nat.reduceLeDiff, Int.reduceLT, Int.reduceLE, Int.reduceNeg, Int.reducePow, Int.reduceMul, Int.reduceAdd, Int.reduceSub, Nat.reduceEqDiff, Nat.reducePow, true_and, and_true, or_true, true_or, false_or, or_false, and_self, Bool.not_true, Bool.not_false, Nat.reduceLT, ge_iff_le, gt_iff_lt, Nat.le_refl, Option.map_some, Bool.not_eq_true, Bool.not_eq_eq_eq_not, not_true_eq_false, not_false_eq_true, Int.reduceToNat, beq_iff_eq, Int.reduceEq, String.reduceEq, String.reduceNe, Int.reduceNe, List.set_set, get_app, get_app0, get_apps, get_apps0, set_app, set_app0, set_apps, set_apps0, List.append_assoc, Nat.add_assoc, List.toList_toArray, List.size_toArray, List.length_set, List.length_append, next_eq, fT_nextC, h, set_get h, h0, dTr, eT]
def nmS (i : Int) : Str := if i = 0 then ⟨#[97]⟩ else ⟨#[98]⟩
def dMk (s : Sd) : Mk × Sd :=
  let (h, s) := dNext 3 s; let (i, s) := dNext 2 s; let (t, s) := dTr s; let (a, s) := dNext 2 s; let (u, s) := dNext 3 s
  ((t, 1 + a, (h, nmS i), 1 + u), s)
theorem dMk_ok (s : Sd) : okM (dMk s).1 := by
  show PyData.strOk (nmS _) = true
  unfold nmS
  split <;> decide +kernel
theorem begin_eq (c : CA) {l y : Nat} {S : Sto} {tr : Int × Int} {own : Option Mk} {m : Mk} (h : S[l]? = some (mkC c.c_Marks tr own y)) :
    F_Marks_begin c [.ref l, eM m] S = .ok .non (S.set l (mkC c.c_Marks tr (some m) S.length) ++ [.dn c.w []]) := by
  unfold F_Marks_begin b_Marks_begin
  unfold mkC at *
  simp only [ap_fVar, varK_some, ap_fC, ap_fBin, ap_binK, ap_fUn, ap_fApp, ap_fNil, ap_fCons, ap_consK, ap_consK2, ap_fTup, ap_fLst, ap_tupK, ap_lstK, ap_fTest, ap_testK, ap_fVal, ap_valK, ap_fAnd, ap_fOr, ap_fNot, ap_andK, ap_orK, ap_notK, ap_fAndV, ap_fOrV, ap_fNotV, ap_andVK, ap_orVK, ap_notVK, ap_fIfE, ap_ifEK, ap_fChain, ap_chK1, ap_chK2, ap_chK3, ap_fSkip, ap_fBrk, ap_fCnt, ap_fSeq, ap_seqK_nx, ap_seqK_rt, ap_seqK_bk, ap_seqK_ct, ap_fIf, ap_ifK, ap_fRet, ap_retK, ap_fRetN, ap_fDrop, ap_dropK, ap_fAsg, ap_asgK, ap_asgK2, ap_gN, ap_gNil, ap_gCons, ap_gsK, ap_gUnp, ap_unpK, ap_gSub, ap_subK1, ap_subK2, ap_subK3, ap_fIx, ap_ixK, isDict_ref, isDict_tup, isDict_rl, isDict_str, isDictC_lst, isDictC_dk, isDictC_dt, getL_tup, getL_rl, getL_str, getL_ref, getLC_lst, retO_some, atI_0, atI_1, atI_2, atI_3, oSet_ref, setC_lst, setLK_some, ixN_0, ixN_1, ap_fCall, ap_callK, ap_fnF, ap_fnK_nx, ap_fnK_rt, o_add, o_addR, o_addC, o_addS, o_addT, o_sub, o_mul, o_mod, o_div, o_pow, o_neg, o_lt, o_le, o_gt, o_ge, o_int, o_min2, o_max2, o_leS1, o_inS1, o_isB, o_eq, o_ne, eqK_some, neK_some, eqv_int, eqv_bool, toP_int, toP_bl, toP_non, toP_str, toP_tup, toP_rl, toP_ref, toPC_lst, toP_mapM_nil, toP_mapM_cons, toP_consO, o_len, lenK_some, lenD_tup, lenD_rl, lenD_str, lenD_ref, lenC_lst, ap_fIsi, ap_isiK0, ap_isiK, ap_isiK2, ap_fTyIs, ap_tyK0, ap_tyK, ap_fFor, ap_forK_fix, ap_forK_live, loopX_nil, loopX_cons, ap_turnK0, ap_turnK_nx, ap_turnK_ct, ap_turnK_bk, ap_turnK_rt, ap_fRng1, ap_rng1K, ap_fIter, ap_iterK_rl, ap_iterK_kt, ap_iterK_tup, ap_iterK_ref, iterC_lst, ap_fIterS, ap_iterSK, ap_fComp, ap_compK_fix, ap_compK_live, compX_nil, compX_cons, ap_compTK, ap_compEK, ap_fYes, ap_fDict0, ap_fDictT0, ap_fSl, ap_slK1, ap_slK2, ap_pNo, ap_pSo, ap_pSoK, oSl_tup, oSl_str, ap_fBm, ap_bmK, tyIn_str, tyIn_ref, tyInC_lst, tyD_ref, fldsOf_ref, fldC_ins, ap_fFld, ap_fldK, ap_fldK2, ap_fSetFld, ap_sfK1, ap_sfK2, ap_sfK3, o_put, ap_putK, ap_fFldAug, ap_faK1, ap_faK2, ap_faK3, ap_faK4, ap_faK5, o_addI, ap_fMeth, ap_meK1, ap_meK2, ap_meK3, ap_fMake, ap_mkK, ap_mkK2, ap_fTru, ap_truK, ap_truK2, truD_ref, truC_lst, o_getD, o_getDK, lookD_ref, lookC_dk, setC_dk, ap_fDisp, ap_dispK, ap_dispK2, ap_prNil, ap_prCons, ap_prK, ap_prK2, ap_prK3, o_append, o_appC, o_isN, o_notN, o_nonD, o_nonT, o_nonR, o_nonI, isDict_eW, getL_eW0, getL_eW1, o_seqW, o_nonW, o_nonH, eqv_Ln, eqv_Lc, o_eH0, o_eH1, fldC_lk, fld_lkv, fld_lkt, fld_lkh, fld_lkw, fld_lkm1, fld_lkm2, fld_lkm3, fld_lkm4, fld_lkm5, fld_lklen, fld_lkpv, fld_lkpt, fld_lkph, fld_lkpw, isDictC_md, isDictC_lk, lookC_mdv, lookC_mdt, lookC_mdh, lookC_mdw, setC_mdv, setC_mdt, setC_mdh, setC_mdw, tyInC_md, o_seqR, o_seqC, fld_i1, fld_i2, fld_i3, fld_i4, fld_keyPs, fld_mdlen, fld_merge, ap_fMakeK, ap_mkKK, ap_fRng2, ap_rng2K, setC_dt, isDict_eK, o_listT, o_listTC, lookN_ref, lookNC_dn, o_inN, o_inNK, ap_fIxN, o_ixN, o_isDn, o_isNC, ap_fGetN, ap_gtK, ap_gtK2, ap_gtK3, o_getN, o_getNK, oSetN_ref, setNC_dn, setNK_some, ap_gSubN, ap_gnK, ap_gnK2, ap_gnK3, ap_fDictN0, o_listN, o_listNC, o_listNL, ap_fProp, ap_prpK, ap_prpK2, o_someMap, o_gtT, o_ltT, o_nonM, isDict_eM, getL_eM0, loopX_inv, loopX_ok, ixN_nn, o_tupR, o_tupC, fldC_mk, isDictC_mk, fldN_mk, fldL_mk_0, fldP_mk_0, fldL_mk_1, fldP_mk_1, fldL_mk_2, fldP_mk_2, fldM_mk_0, fldM_mk_1, fldM_mk_2, fldM_mk_3, fldI_mk_0, fldI_mk_1, fldI_mk_2, o_tyT, o_nonO, o_tellN, o_tellS, o_cut1, o_esN, eqv_O, fldC_sh, isDictC_sh, fldN_sh, fldL_sh_0, fldP_sh_0, fldL_sh_1, fldP_sh_1, fldM_sh_0, fldM_sh_1, fldM_sh_2, fldM_sh_3, fldM_sh_4, fldM_sh_5, fldM_sh_6, fldM_sh_7, fldM_sh_8, fldM_sh_9, fldI_sh_0, fldI_sh_1, isDictC_sm, lookC_sml, lookC_smp, fld_smkey, fld_smlen, fld_smerge, isDict_eT, getL_eT0, getL_eT1, eqv_NW, o_seqT, eqv_row, ap_fGComp, ap_gcompK_live, ap_unset0, ap_unset1, o_kKe, o_kTe, o_kKTe, ap_ptT2, o_mulT, ap_fRev, ap_revK, ap_fLstRg, ap_lstRgK, fT_eT, fT_eW, fT_eH, eqv_T, eqv_W, eqv_H, mapM_eW, eqv_Ws, eq_self, Bool.true_eq_false, Option.isNone_none, Option.isNone_some, R.bind_ok, R.bind_ex, R.bind_bad, R.nox_ok, nox_bad', List.map_cons, List.map_nil, List.length_cons, List.length_nil, List.cons_append, List.nil_append, Nat.zero_add, Nat.reduceAdd, Nat.reduceSub, List.replicate_succ, List.replicate_zero, List.getElem?_cons_zero, List.getElem?_cons_succ, List.set_cons_zero, List.set_cons_succ, List.append_nil, Bool.false_eq_true, if_true, if_false, decide_eq_true_eq, decide_true, decide_false, Nat.add_zero, reduceIte, reduceDIte, Nat.reduceLeDiff, Int.reduceLT, Int.reduceLE, Int.reduceNeg, Int.reducePow, Int.reduceMul, Int.reduceAdd, Int.reduceSub, Nat.reduceEqDiff, Nat.reducePow, true_and, and_true, or_true, true_or, false_or, or_false, and_self, Bool.not_true, Bool.not_false, Nat.reduceLT, ge_iff_le, gt_iff_lt, Nat.le_refl, Option.map_some, Bool.not_eq_true, Bool.not_eq_eq_eq_not, not_true_eq_false, not_false_eq_true, Int.reduceToNat, beq_iff_eq, Int.reduceEq, String.reduceEq, String.reduceNe, Int.reduceNe, List.set_set, get_app, get_app0, get_apps, get_apps0, set_app, set_app0, set_apps, set_apps0, List.append_assoc, Nat.add_assoc, List.toList_toArray, List.size_toArray, List.length_set, List.length_append, h, app_get h, app_set h, set_get h, app_get (set_get h), app_set (set_get h), eO]
theorem init_eq (c : CA) {l : Nat} {S : Sto} {tr : Int × Int} (h : S[l]? = some (.ins c.c_Marks [])) :
    F_Marks_init__ c [.ref l, eT tr] S = .ok .non (S.set l (mkC c.c_Marks tr none S.length) ++ [.dn c.w []]) := by
  unfold F_Marks_init__ b_Marks_init__
  unfold mkC
  simp only [ap_fVar, varK_some, ap_fC, ap_fBin, ap_binK, ap_fUn, ap_fApp, ap_fNil, ap_fCons, ap_consK, ap_consK2, ap_fTup, ap_fLst, ap_tupK, ap_lstK, ap_fTest, ap_testK, ap_fVal, ap_valK, ap_fAnd, ap_fOr, ap_fNot, ap_andK, ap_orK, ap_notK, ap_fAndV, ap_fOrV, ap_fNotV, ap_andVK, ap_orVK, ap_notVK, ap_fIfE, ap_ifEK, ap_fChain, ap_chK1, ap_chK2, ap_chK3, ap_fSkip, ap_fBrk, ap_fCnt, ap_fSeq, ap_seqK_nx, ap_seqK_rt, ap_seqK_bk, ap_seqK_ct, ap_fIf, ap_ifK, ap_fRet, ap_retK, ap_fRetN, ap_fDrop, ap_dropK, ap_fAsg, ap_asgK, ap_asgK2, ap_gN, ap_gNil, ap_gCons, ap_gsK, ap_gUnp, ap_unpK, ap_gSub, ap_subK1, ap_subK2, ap_subK3, ap_fIx, ap_ixK, isDict_ref, isDict_tup, isDict_rl, isDict_str, isDictC_lst, isDictC_dk, isDictC_dt, getL_tup, getL_rl, getL_str, getL_ref, getLC_lst, retO_some, atI_0, atI_1, atI_2, atI_3, oSet_ref, setC_lst, setLK_some, ixN_0, ixN_1, ap_fCall, ap_callK, ap_fnF, ap_fnK_nx, ap_fnK_rt, o_add, o_addR, o_addC, o_addS, o_addT, o_sub, o_mul, o_mod, o_div, o_pow, o_neg, o_lt, o_le, o_gt, o_ge, o_int, o_min2, o_max2, o_leS1, o_inS1, o_isB, o_eq, o_ne, eqK_some, neK_some, eqv_int, eqv_bool, toP_int, toP_bl, toP_non, toP_str, toP_tup, toP_rl, toP_ref, toPC_lst, toP_mapM_nil, toP_mapM_cons, toP_consO, o_len, lenK_some, lenD_tup, lenD_rl, lenD_str, lenD_ref, lenC_lst, ap_fIsi, ap_isiK0, ap_isiK, ap_isiK2, ap_fTyIs, ap_tyK0, ap_tyK, ap_fFor, ap_forK_fix, ap_forK_live, loopX_nil, loopX_cons, ap_turnK0, ap_turnK_nx, ap_turnK_ct, ap_turnK_bk, ap_turnK_rt, ap_fRng1, ap_rng1K, ap_fIter, ap_iterK_rl, ap_iterK_kt, ap_iterK_tup, ap_iterK_ref, iterC_lst, ap_fIterS, ap_iterSK, ap_fComp, ap_compK_fix, ap_compK_live, compX_nil, compX_cons, ap_compTK, ap_compEK, ap_fYes, ap_fDict0, ap_fDictT0, ap_fSl, ap_slK1, ap_slK2, ap_pNo, ap_pSo, ap_pSoK, oSl_tup, oSl_str, ap_fBm, ap_bmK, tyIn_str, tyIn_ref, tyInC_lst, tyD_ref, fldsOf_ref, fldC_ins, ap_fFld, ap_fldK, ap_fldK2, ap_fSetFld, ap_sfK1, ap_sfK2, ap_sfK3, o_put, ap_putK, ap_fFldAug, ap_faK1, ap_faK2, ap_faK3, ap_faK4, ap_faK5, o_addI, ap_fMeth, ap_meK1, ap_meK2, ap_meK3, ap_fMake, ap_mkK, ap_mkK2, ap_fTru, ap_truK, ap_truK2, truD_ref, truC_lst, o_getD, o_getDK, lookD_ref, lookC_dk, setC_dk, ap_fDisp, ap_dispK, ap_dispK2, ap_prNil, ap_prCons, ap_prK, ap_prK2, ap_prK3, o_append, o_appC, o_isN, o_notN, o_nonD, o_nonT, o_nonR, o_nonI, isDict_eW, getL_eW0, getL_eW1, o_seqW, o_nonW, o_nonH, eqv_Ln, eqv_Lc, o_eH0, o_eH1, fldC_lk, fld_lkv, fld_lkt, fld_lkh, fld_lkw, fld_lkm1, fld_lkm2, fld_lkm3, fld_lkm4, fld_lkm5, fld_lklen, fld_lkpv, fld_lkpt, fld_lkph, fld_lkpw, isDictC_md, isDictC_lk, lookC_mdv, lookC_mdt, lookC_mdh, lookC_mdw, setC_mdv, setC_mdt, setC_mdh, setC_mdw, tyInC_md, o_seqR, o_seqC, fld_i1, fld_i2, fld_i3, fld_i4, fld_keyPs, fld_mdlen, fld_merge, ap_fMakeK, ap_mkKK, ap_fRng2, ap_rng2K, setC_dt, isDict_eK, o_listT, o_listTC, lookN_ref, lookNC_dn, o_inN, o_inNK, ap_fIxN, o_ixN, o_isDn, o_isNC, ap_fGetN, ap_gtK, ap_gtK2, ap_gtK3, o_getN, o_getNK, oSetN_ref, setNC_dn, setNK_some, ap_gSubN, ap_gnK, ap_gnK2, ap_gnK3, ap_fDictN0, o_listN, o_listNC, o_listNL, ap_fProp, ap_prpK, ap_prpK2, o_someMap, o_gtT, o_ltT, o_nonM, isDict_eM, getL_eM0, loopX_inv, loopX_ok, ixN_nn, o_tupR, o_tupC, fldC_mk, isDictC_mk, fldN_mk, fldL_mk_0, fldP_mk_0, fldL_mk_1, fldP_mk_1, fldL_mk_2, fldP_mk_2, fldM_mk_0, fldM_mk_1, fldM_mk_2, fldM_mk_3, fldI_mk_0, fldI_mk_1, fldI_mk_2, o_tyT, o_nonO, o_tellN, o_tellS, o_cut1, o_esN, eqv_O, fldC_sh, isDictC_sh, fldN_sh, fldL_sh_0, fldP_sh_0, fldL_sh_1, fldP_sh_1, fldM_sh_0, fldM_sh_1, fldM_sh_2, fldM_sh_3, fldM_sh_4, fldM_sh_5, fldM_sh_6, fldM_sh_7, fldM_sh_8, fldM_sh_9, fldI_sh_0, fldI_sh_1, isDictC_sm, lookC_sml, lookC_smp, fld_smkey, fld_smlen, fld_smerge, isDict_eT, getL_eT0, getL_eT1, eqv_NW, o_seqT, eqv_row, ap_fGComp, ap_gcompK_live, ap_unset0, ap_unset1, o_kKe, o_kTe, o_kKTe, ap_ptT2, o_mulT, ap_fRev, ap_revK, ap_fLstRg, ap_lstRgK, fT_eT, fT_eW, fT_eH, eqv_T, eqv_W, eqv_H, mapM_eW, eqv_Ws, eq_self, Bool.true_eq_false, Option.isNone_none, Option.isNone_some, R.bind_ok, R.bind_ex, R.bind_bad, R.nox_ok, nox_bad', List.map_cons, List.map_nil, List.length_cons, List.length_nil, List.cons_append, List.nil_append, Nat.zero_add, Nat.reduceAdd, Nat.reduceSub, List.replicate_succ, List.replicate_zero, List.getElem?_cons_zero, List.getElem?_cons_succ, List.set_cons_zero, List.set_cons_succ, List.append_nil, Bool.false_eq_true, if_true, if_false, decide_eq_true_eq, decide_true, decide_false, Nat.add_zero, reduceIte, reduceDIte, Nat.reduceLeDiff, Int.reduceLT, Int.reduceLE, Int.reduceNeg, Int.reducePow, Int.reduceMul, Int.reduceAdd, Int.reduceSub, Nat.reduceEqDiff, Nat.reducePow, true_and, and_true, or_true, true_or, false_or, or_false, and_self, Bool.not_true, Bool.not_false, Nat.reduceLT, ge_iff_le, gt_iff_lt, Nat.le_refl, Option.map_some, Bool.not_eq_true, Bool.not_eq_eq_eq_not, not_true_eq_false, not_false_eq_true, Int.reduceToNat, beq_iff_eq, Int.reduceEq, String.reduceEq, String.reduceNe, Int.reduceNe, List.set_set, get_app, get_app0, get_apps, get_apps0, set_app, set_app0, set_apps, set_apps0, List.append_assoc, Nat.add_assoc, List.toList_toArray, List.size_toArray, List.length_set, List.length_append, h, app_get h, app_set h, set_get h, app_get (set_get h), app_set (set_get h), eO]
theorem take_loop (c : CA) {l y : Nat} {S : Sto} {tr : Int × Int} {o : Mk} {gs : List Mk} {x1 : D} {e2 : Option D} (h : S[l]? = some (mkC c.c_Marks tr (some o) y)) (hly : l ≠ y) : ∀ (ms : List Mk), S[y]? = some (.dn c.w (encM ms)) → ms.length + gs.length < 1000 →
    ∃ f2, loopX (gN 2) (lb_Marks_take_0 c) (cM.es gs) [some (.ref l), some x1, e2] S = .ok (.nx [some (.ref l), some x1, f2]) (S.set y (.dn c.w (encM (gs.foldl (addY tr) ms)))) := by
  induction gs generalizing S e2 with
  | nil =>
    intro ms hy hl
    refine ⟨e2, ?_⟩
    rw [show ([] : List Mk).foldl (addY tr) ms = ms from rfl, set_self hy]
    rfl
  | cons g gs ih =>
    intro ms hy hl
    rw [List.length_cons] at hl
    have hk : (encM ms).length < 100000 := by rw [encM_len]; omega
    have hl2 := addY_len (tr := tr) (ms := ms) (m := g)
    have h2 : (S.set y (.dn c.w (encM (addY tr ms g))))[l]? = some (mkC c.c_Marks tr (some o) y) := by rw [List.getElem?_set_ne (fun z => hly z.symm)]; exact h
    obtain ⟨f2, hi⟩ := ih (S := S.set y (.dn c.w (encM (addY tr ms g)))) (e2 := some (eM g)) h2 (addY tr ms g) (set_get hy) (by omega)
    refine ⟨f2, ?_⟩
    rw [List.set_set] at hi
    show loopX (gN 2) (lb_Marks_take_0 c) (eM g :: cM.es gs) _ S = _
    rw [List.foldl_cons, ← hi]
    unfold mkC at h
    by_cases hg : ltT tr g.1 = true
    · have e1 : addY tr ms g = addM ms g := by unfold addY; rw [if_pos hg]
      rw [e1]
      simp only [ap_fVar, varK_some, ap_fC, ap_fBin, ap_binK, ap_fUn, ap_fApp, ap_fNil, ap_fCons, ap_consK, ap_consK2, ap_fTup, ap_fLst, ap_tupK, ap_lstK, ap_fTest, ap_testK, ap_fVal, ap_valK, ap_fAnd, ap_fOr, ap_fNot, ap_andK, ap_orK, ap_notK, ap_fAndV, ap_fOrV, ap_fNotV, ap_andVK, ap_orVK, ap_notVK, ap_fIfE, ap_ifEK, ap_fChain, ap_chK1, ap_chK2, ap_chK3, ap_fSkip, ap_fBrk, ap_fCnt, ap_fSeq, ap_seqK_nx, ap_seqK_rt, ap_seqK_bk, ap_seqK_ct, ap_fIf, ap_ifK, ap_fRet, ap_retK, ap_fRetN, ap_fDrop, ap_dropK, ap_fAsg, ap_asgK, ap_asgK2, ap_gN, ap_gNil, ap_gCons, ap_gsK, ap_gUnp, ap_unpK, ap_gSub, ap_subK1, ap_subK2, ap_subK3, ap_fIx, ap_ixK, isDict_ref, isDict_tup, isDict_rl, isDict_str, isDictC_lst, isDictC_dk, isDictC_dt, getL_tup, getL_rl, getL_str, getL_ref, getLC_lst, retO_some, atI_0, atI_1, atI_2, atI_3, oSet_ref, setC_lst, setLK_some, ixN_0, ixN_1, ap_fCall, ap_callK, ap_fnF, ap_fnK_nx, ap_fnK_rt, o_add, o_addR, o_addC, o_addS, o_addT, o_sub, o_mul, o_mod, o_div, o_pow, o_neg, o_lt, o_le, o_gt, o_ge, o_int, o_min2, o_max2, o_leS1, o_inS1, o_isB, o_eq, o_ne, eqK_some, neK_some, eqv_int, eqv_bool, toP_int, toP_bl, toP_non, toP_str, toP_tup, toP_rl, toP_ref, toPC_lst, toP_mapM_nil, toP_mapM_cons, toP_consO, o_len, lenK_some, lenD_tup, lenD_rl, lenD_str, lenD_ref, lenC_lst, ap_fIsi, ap_isiK0, ap_isiK, ap_isiK2, ap_fTyIs, ap_tyK0, ap_tyK, ap_fFor, ap_forK_fix, ap_forK_live, loopX_nil, loopX_cons, ap_turnK0, ap_turnK_nx, ap_turnK_ct, ap_turnK_bk, ap_turnK_rt, ap_fRng1, ap_rng1K, ap_fIter, ap_iterK_rl, ap_iterK_kt, ap_iterK_tup, ap_iterK_ref, iterC_lst, ap_fIterS, ap_iterSK, ap_fComp, ap_compK_fix, ap_compK_live, compX_nil, compX_cons, ap_compTK, ap_compEK, ap_fYes, ap_fDict0, ap_fDictT0, ap_fSl, ap_slK1, ap_slK2, ap_pNo, ap_pSo, ap_pSoK, oSl_tup, oSl_str, ap_fBm, ap_bmK, tyIn_str, tyIn_ref, tyInC_lst, tyD_ref, fldsOf_ref, fldC_ins, ap_fFld, ap_fldK, ap_fldK2, ap_fSetFld, ap_sfK1, ap_sfK2, ap_sfK3, o_put, ap_putK, ap_fFldAug, ap_faK1, ap_faK2, ap_faK3, ap_faK4, ap_faK5, o_addI, ap_fMeth, ap_meK1, ap_meK2, ap_meK3, ap_fMake, ap_mkK, ap_mkK2, ap_fTru, ap_truK, ap_truK2, truD_ref, truC_lst, o_getD, o_getDK, lookD_ref, lookC_dk, setC_dk, ap_fDisp, ap_dispK, ap_dispK2, ap_prNil, ap_prCons, ap_prK, ap_prK2, ap_prK3, o_append, o_appC, o_isN, o_notN, o_nonD, o_nonT, o_nonR, o_nonI, isDict_eW, getL_eW0, getL_eW1, o_seqW, o_nonW, o_nonH, eqv_Ln, eqv_Lc, o_eH0, o_eH1, fldC_lk, fld_lkv, fld_lkt, fld_lkh, fld_lkw, fld_lkm1, fld_lkm2, fld_lkm3, fld_lkm4, fld_lkm5, fld_lklen, fld_lkpv, fld_lkpt, fld_lkph, fld_lkpw, isDictC_md, isDictC_lk, lookC_mdv, lookC_mdt, lookC_mdh, lookC_mdw, setC_mdv, setC_mdt, setC_mdh, setC_mdw, tyInC_md, o_seqR, o_seqC, fld_i1, fld_i2, fld_i3, fld_i4, fld_keyPs, fld_mdlen, fld_merge, ap_fMakeK, ap_mkKK, ap_fRng2, ap_rng2K, setC_dt, isDict_eK, o_listT, o_listTC, lookN_ref, lookNC_dn, o_inN, o_inNK, ap_fIxN, o_ixN, o_isDn, o_isNC, ap_fGetN, ap_gtK, ap_gtK2, ap_gtK3, o_getN, o_getNK, oSetN_ref, setNC_dn, setNK_some, ap_gSubN, ap_gnK, ap_gnK2, ap_gnK3, ap_fDictN0, o_listN, o_listNC, o_listNL, ap_fProp, ap_prpK, ap_prpK2, o_someMap, o_gtT, o_ltT, o_nonM, isDict_eM, getL_eM0, loopX_inv, loopX_ok, ixN_nn, o_tupR, o_tupC, fldC_mk, isDictC_mk, fldN_mk, fldL_mk_0, fldP_mk_0, fldL_mk_1, fldP_mk_1, fldL_mk_2, fldP_mk_2, fldM_mk_0, fldM_mk_1, fldM_mk_2, fldM_mk_3, fldI_mk_0, fldI_mk_1, fldI_mk_2, o_tyT, o_nonO, o_tellN, o_tellS, o_cut1, o_esN, eqv_O, fldC_sh, isDictC_sh, fldN_sh, fldL_sh_0, fldP_sh_0, fldL_sh_1, fldP_sh_1, fldM_sh_0, fldM_sh_1, fldM_sh_2, fldM_sh_3, fldM_sh_4, fldM_sh_5, fldM_sh_6, fldM_sh_7, fldM_sh_8, fldM_sh_9, fldI_sh_0, fldI_sh_1, isDictC_sm, lookC_sml, lookC_smp, fld_smkey, fld_smlen, fld_smerge, isDict_eT, getL_eT0, getL_eT1, eqv_NW, o_seqT, eqv_row, ap_fGComp, ap_gcompK_live, ap_unset0, ap_unset1, o_kKe, o_kTe, o_kKTe, ap_ptT2, o_mulT, ap_fRev, ap_revK, ap_fLstRg, ap_lstRgK, fT_eT, fT_eW, fT_eH, eqv_T, eqv_W, eqv_H, mapM_eW, eqv_Ws, eq_self, Bool.true_eq_false, Option.isNone_none, Option.isNone_some, R.bind_ok, R.bind_ex, R.bind_bad, R.nox_ok, nox_bad', List.map_cons, List.map_nil, List.length_cons, List.length_nil, List.cons_append, List.nil_append, Nat.zero_add, Nat.reduceAdd, Nat.reduceSub, List.replicate_succ, List.replicate_zero, List.getElem?_cons_zero, List.getElem?_cons_succ, List.set_cons_zero, List.set_cons_succ, List.append_nil, Bool.false_eq_true, if_true, if_false, decide_eq_true_eq, decide_true, decide_false, Nat.add_zero, reduceIte, reduceDIte, Nat.reduceLeDiff, Int.reduceLT, Int.reduceLE, Int.reduceNeg, Int.reducePow, Int.reduceMul, Int.reduceAdd, Int.reduceSub, Nat.reduceEqDiff, Nat.reducePow, true_and, and_true, or_true, true_or, false_or, or_false, and_self, Bool.not_true, Bool.not_false, Nat.reduceLT, ge_iff_le, gt_iff_lt, Nat.le_refl, Option.map_some, Bool.not_eq_true, Bool.not_eq_eq_eq_not, not_true_eq_false, not_false_eq_true, Int.reduceToNat, beq_iff_eq, Int.reduceEq, String.reduceEq, String.reduceNe, Int.reduceNe, List.set_set, get_app, get_app0, get_apps, get_apps0, set_app, set_app0, set_apps, set_apps0, List.append_assoc, Nat.add_assoc, List.toList_toArray, List.size_toArray, List.length_set, List.length_append, ap_lb_Marks_take_0, h, hy, o_gtT, hg, hk, keyT_eM, put_encM]
    · have hg : ltT tr g.1 = false := by simpa using hg
      have e1 : addY tr ms g = ms := by unfold addY; rw [hg]; rfl
      rw [e1, set_self hy]
      simp only [ap_fVar, varK_some, ap_fC, ap_fBin, ap_binK, ap_fUn, ap_fApp, ap_fNil, ap_fCons, ap_consK, ap_consK2, ap_fTup, ap_fLst, ap_tupK, ap_lstK, ap_fTest, ap_testK, ap_fVal, ap_valK, ap_fAnd, ap_fOr, ap_fNot, ap_andK, ap_orK, ap_notK, ap_fAndV, ap_fOrV, ap_fNotV, ap_andVK, ap_orVK, ap_notVK, ap_fIfE, ap_ifEK, ap_fChain, ap_chK1, ap_chK2, ap_chK3, ap_fSkip, ap_fBrk, ap_fCnt, ap_fSeq, ap_seqK_nx, ap_seqK_rt, ap_seqK_bk, ap_seqK_ct, ap_fIf, ap_ifK, ap_fRet, ap_retK, ap_fRetN, ap_fDrop, ap_dropK, ap_fAsg, ap_asgK, ap_asgK2, ap_gN, ap_gNil, ap_gCons, ap_gsK, ap_gUnp, ap_unpK, ap_gSub, ap_subK1, ap_subK2, ap_subK3, ap_fIx, ap_ixK, isDict_ref, isDict_tup, isDict_rl, isDict_str, isDictC_lst, isDictC_dk, isDictC_dt, getL_tup, getL_rl, getL_str, getL_ref, getLC_lst, retO_some, atI_0, atI_1, atI_2, atI_3, oSet_ref, setC_lst, setLK_some, ixN_0, ixN_1, ap_fCall, ap_callK, ap_fnF, ap_fnK_nx, ap_fnK_rt, o_add, o_addR, o_addC, o_addS, o_addT, o_sub, o_mul, o_mod, o_div, o_pow, o_neg, o_lt, o_le, o_gt, o_ge, o_int, o_min2, o_max2, o_leS1, o_inS1, o_isB, o_eq, o_ne, eqK_some, neK_some, eqv_int, eqv_bool, toP_int, toP_bl, toP_non, toP_str, toP_tup, toP_rl, toP_ref, toPC_lst, toP_mapM_nil, toP_mapM_cons, toP_consO, o_len, lenK_some, lenD_tup, lenD_rl, lenD_str, lenD_ref, lenC_lst, ap_fIsi, ap_isiK0, ap_isiK, ap_isiK2, ap_fTyIs, ap_tyK0, ap_tyK, ap_fFor, ap_forK_fix, ap_forK_live, loopX_nil, loopX_cons, ap_turnK0, ap_turnK_nx, ap_turnK_ct, ap_turnK_bk, ap_turnK_rt, ap_fRng1, ap_rng1K, ap_fIter, ap_iterK_rl, ap_iterK_kt, ap_iterK_tup, ap_iterK_ref, iterC_lst, ap_fIterS, ap_iterSK, ap_fComp, ap_compK_fix, ap_compK_live, compX_nil, compX_cons, ap_compTK, ap_compEK, ap_fYes, ap_fDict0, ap_fDictT0, ap_fSl, ap_slK1, ap_slK2, ap_pNo, ap_pSo, ap_pSoK, oSl_tup, oSl_str, ap_fBm, ap_bmK, tyIn_str, tyIn_ref, tyInC_lst, tyD_ref, fldsOf_ref, fldC_ins, ap_fFld, ap_fldK, ap_fldK2, ap_fSetFld, ap_sfK1, ap_sfK2, ap_sfK3, o_put, ap_putK, ap_fFldAug, ap_faK1, ap_faK2, ap_faK3, ap_faK4, ap_faK5, o_addI, ap_fMeth, ap_meK1, ap_meK2, ap_meK3, ap_fMake, ap_mkK, ap_mkK2, ap_fTru, ap_truK, ap_truK2, truD_ref, truC_lst, o_getD, o_getDK, lookD_ref, lookC_dk, setC_dk, ap_fDisp, ap_dispK, ap_dispK2, ap_prNil, ap_prCons, ap_prK, ap_prK2, ap_prK3, o_append, o_appC, o_isN, o_notN, o_nonD, o_nonT, o_nonR, o_nonI, isDict_eW, getL_eW0, getL_eW1, o_seqW, o_nonW, o_nonH, eqv_Ln, eqv_Lc, o_eH0, o_eH1, fldC_lk, fld_lkv, fld_lkt, fld_lkh, fld_lkw, fld_lkm1, fld_lkm2, fld_lkm3, fld_lkm4, fld_lkm5, fld_lklen, fld_lkpv, fld_lkpt, fld_lkph, fld_lkpw, isDictC_md, isDictC_lk, lookC_mdv, lookC_mdt, lookC_mdh, lookC_mdw, setC_mdv, setC_mdt, setC_mdh, setC_mdw, tyInC_md, o_seqR, o_seqC, fld_i1, fld_i2, fld_i3, fld_i4, fld_keyPs, fld_mdlen, fld_merge, ap_fMakeK, ap_mkKK, ap_fRng2, ap_rng2K, setC_dt, isDict_eK, o_listT, o_listTC, lookN_ref, lookNC_dn, o_inN, o_inNK, ap_fIxN, o_ixN, o_isDn, o_isNC, ap_fGetN, ap_gtK, ap_gtK2, ap_gtK3, o_getN, o_getNK, oSetN_ref, setNC_dn, setNK_some, ap_gSubN, ap_gnK, ap_gnK2, ap_gnK3, ap_fDictN0, o_listN, o_listNC, o_listNL, ap_fProp, ap_prpK, ap_prpK2, o_someMap, o_gtT, o_ltT, o_nonM, isDict_eM, getL_eM0, loopX_inv, loopX_ok, ixN_nn, o_tupR, o_tupC, fldC_mk, isDictC_mk, fldN_mk, fldL_mk_0, fldP_mk_0, fldL_mk_1, fldP_mk_1, fldL_mk_2, fldP_mk_2, fldM_mk_0, fldM_mk_1, fldM_mk_2, fldM_mk_3, fldI_mk_0, fldI_mk_1, fldI_mk_2, o_tyT, o_nonO, o_tellN, o_tellS, o_cut1, o_esN, eqv_O, fldC_sh, isDictC_sh, fldN_sh, fldL_sh_0, fldP_sh_0, fldL_sh_1, fldP_sh_1, fldM_sh_0, fldM_sh_1, fldM_sh_2, fldM_sh_3, fldM_sh_4, fldM_sh_5, fldM_sh_6, fldM_sh_7, fldM_sh_8, fldM_sh_9, fldI_sh_0, fldI_sh_1, isDictC_sm, lookC_sml, lookC_smp, fld_smkey, fld_smlen, fld_smerge, isDict_eT, getL_eT0, getL_eT1, eqv_NW, o_seqT, eqv_row, ap_fGComp, ap_gcompK_live, ap_unset0, ap_unset1, o_kKe, o_kTe, o_kKTe, ap_ptT2, o_mulT, ap_fRev, ap_revK, ap_fLstRg, ap_lstRgK, fT_eT, fT_eW, fT_eH, eqv_T, eqv_W, eqv_H, mapM_eW, eqv_Ws, eq_self, Bool.true_eq_false, Option.isNone_none, Option.isNone_some, R.bind_ok, R.bind_ex, R.bind_bad, R.nox_ok, nox_bad', List.map_cons, List.map_nil, List.length_cons, List.length_nil, List.cons_append, List.nil_append, Nat.zero_add, Nat.reduceAdd, Nat.reduceSub, List.replicate_succ, List.replicate_zero, List.getElem?_cons_zero, List.getElem?_cons_succ, List.set_cons_zero, List.set_cons_succ, List.append_nil, Bool.false_eq_true, if_true, if_false, decide_eq_true_eq, decide_true, decide_false, Nat.add_zero, reduceIte, reduceDIte, Nat.reduceLeDiff, Int.reduceLT, Int.reduceLE, Int.reduceNeg, Int.reducePow, Int.reduceMul, Int.reduceAdd, Int.reduceSub, Nat.reduceEqDiff, Nat.reducePow, true_and, and_true, or_true, true_or, false_or, or_false, and_self, Bool.not_true, Bool.not_false, Nat.reduceLT, ge_iff_le, gt_iff_lt, Nat.le_refl, Option.map_some, Bool.not_eq_true, Bool.not_eq_eq_eq_not, not_true_eq_false, not_false_eq_true, Int.reduceToNat, beq_iff_eq, Int.reduceEq, String.reduceEq, String.reduceNe, Int.reduceNe, List.set_set, get_app, get_app0, get_apps, get_apps0, set_app, set_app0, set_apps, set_apps0, List.append_assoc, Nat.add_assoc, List.toList_toArray, List.size_toArray, List.length_set, List.length_append, ap_lb_Marks_take_0, h, hy, o_gtT, hg]
theorem take_eq (c : CA) {l y : Nat} {S : Sto} {tr : Int × Int} {o : Mk} {gs ms : List Mk} (h : S[l]? = some (mkC c.c_Marks tr (some o) y)) (hly : l ≠ y) (hy : S[y]? = some (.dn c.w (encM ms))) (ho : okM o) (hg : okMs gs) (hl : ms.length + gs.length < 1000) :
    F_Marks_take c [.ref l, .tup (cM.es gs)] S = if o ∈ gs then .ok (.bl true) S else .ok (.bl false) (S.set y (.dn c.w (encM (gs.foldl (addY tr) ms)))) := by
  unfold F_Marks_take b_Marks_take
  have hin : oInTu false (eM o) (.tup (cM.es gs)) S = .ok (.bl (decide (o ∈ gs))) S := Cod.oinT (C := cM) hg ho decide_eq_true_iff
  obtain ⟨f2, hloop⟩ := take_loop c (gs := gs) (x1 := .tup (cM.es gs)) (e2 := none) h hly ms hy hl
  unfold mkC at h
  by_cases hm : o ∈ gs
  · simp only [ap_fVar, varK_some, ap_fC, ap_fBin, ap_binK, ap_fUn, ap_fApp, ap_fNil, ap_fCons, ap_consK, ap_consK2, ap_fTup, ap_fLst, ap_tupK, ap_lstK, ap_fTest, ap_testK, ap_fVal, ap_valK, ap_fAnd, ap_fOr, ap_fNot, ap_andK, ap_orK, ap_notK, ap_fAndV, ap_fOrV, ap_fNotV, ap_andVK, ap_orVK, ap_notVK, ap_fIfE, ap_ifEK, ap_fChain, ap_chK1, ap_chK2, ap_chK3, ap_fSkip, ap_fBrk, ap_fCnt, ap_fSeq, ap_seqK_nx, ap_seqK_rt, ap_seqK_bk, ap_seqK_ct, ap_fIf, ap_ifK, ap_fRet, ap_retK, ap_fRetN, ap_fDrop, ap_dropK, ap_fAsg, ap_asgK, ap_asgK2, ap_gN, ap_gNil, ap_gCons, ap_gsK, ap_gUnp, ap_unpK, ap_gSub, ap_subK1, ap_subK2, ap_subK3, ap_fIx, ap_ixK, isDict_ref, isDict_tup, isDict_rl, isDict_str, isDictC_lst, isDictC_dk, isDictC_dt, getL_tup, getL_rl, getL_str, getL_ref, getLC_lst, retO_some, atI_0, atI_1, atI_2, atI_3, oSet_ref, setC_lst, setLK_some, ixN_0, ixN_1, ap_fCall, ap_callK, ap_fnF, ap_fnK_nx, ap_fnK_rt, o_add, o_addR, o_addC, o_addS, o_addT, o_sub, o_mul, o_mod, o_div, o_pow, o_neg, o_lt, o_le, o_gt, o_ge, o_int, o_min2, o_max2, o_leS1, o_inS1, o_isB, o_eq, o_ne, eqK_some, neK_some, eqv_int, eqv_bool, toP_int, toP_bl, toP_non, toP_str, toP_tup, toP_rl, toP_ref, toPC_lst, toP_mapM_nil, toP_mapM_cons, toP_consO, o_len, lenK_some, lenD_tup, lenD_rl, lenD_str, lenD_ref, lenC_lst, ap_fIsi, ap_isiK0, ap_isiK, ap_isiK2, ap_fTyIs, ap_tyK0, ap_tyK, ap_fFor, ap_forK_fix, ap_forK_live, loopX_nil, loopX_cons, ap_turnK0, ap_turnK_nx, ap_turnK_ct, ap_turnK_bk, ap_turnK_rt, ap_fRng1, ap_rng1K, ap_fIter, ap_iterK_rl, ap_iterK_kt, ap_iterK_tup, ap_iterK_ref, iterC_lst, ap_fIterS, ap_iterSK, ap_fComp, ap_compK_fix, ap_compK_live, compX_nil, compX_cons, ap_compTK, ap_compEK, ap_fYes, ap_fDict0, ap_fDictT0, ap_fSl, ap_slK1, ap_slK2, ap_pNo, ap_pSo, ap_pSoK, oSl_tup, oSl_str, ap_fBm, ap_bmK, tyIn_str, tyIn_ref, tyInC_lst, tyD_ref, fldsOf_ref, fldC_ins, ap_fFld, ap_fldK, ap_fldK2, ap_fSetFld, ap_sfK1, ap_sfK2, ap_sfK3, o_put, ap_putK, ap_fFldAug, ap_faK1, ap_faK2, ap_faK3, ap_faK4, ap_faK5, o_addI, ap_fMeth, ap_meK1, ap_meK2, ap_meK3, ap_fMake, ap_mkK, ap_mkK2, ap_fTru, ap_truK, ap_truK2, truD_ref, truC_lst, o_getD, o_getDK, lookD_ref, lookC_dk, setC_dk, ap_fDisp, ap_dispK, ap_dispK2, ap_prNil, ap_prCons, ap_prK, ap_prK2, ap_prK3, o_append, o_appC, o_isN, o_notN, o_nonD, o_nonT, o_nonR, o_nonI, isDict_eW, getL_eW0, getL_eW1, o_seqW, o_nonW, o_nonH, eqv_Ln, eqv_Lc, o_eH0, o_eH1, fldC_lk, fld_lkv, fld_lkt, fld_lkh, fld_lkw, fld_lkm1, fld_lkm2, fld_lkm3, fld_lkm4, fld_lkm5, fld_lklen, fld_lkpv, fld_lkpt, fld_lkph, fld_lkpw, isDictC_md, isDictC_lk, lookC_mdv, lookC_mdt, lookC_mdh, lookC_mdw, setC_mdv, setC_mdt, setC_mdh, setC_mdw, tyInC_md, o_seqR, o_seqC, fld_i1, fld_i2, fld_i3, fld_i4, fld_keyPs, fld_mdlen, fld_merge, ap_fMakeK, ap_mkKK, ap_fRng2, ap_rng2K, setC_dt, isDict_eK, o_listT, o_listTC, lookN_ref, lookNC_dn, o_inN, o_inNK, ap_fIxN, o_ixN, o_isDn, o_isNC, ap_fGetN, ap_gtK, ap_gtK2, ap_gtK3, o_getN, o_getNK, oSetN_ref, setNC_dn, setNK_some, ap_gSubN, ap_gnK, ap_gnK2, ap_gnK3, ap_fDictN0, o_listN, o_listNC, o_listNL, ap_fProp, ap_prpK, ap_prpK2, o_someMap, o_gtT, o_ltT, o_nonM, isDict_eM, getL_eM0, loopX_inv, loopX_ok, ixN_nn, o_tupR, o_tupC, fldC_mk, isDictC_mk, fldN_mk, fldL_mk_0, fldP_mk_0, fldL_mk_1, fldP_mk_1, fldL_mk_2, fldP_mk_2, fldM_mk_0, fldM_mk_1, fldM_mk_2, fldM_mk_3, fldI_mk_0, fldI_mk_1, fldI_mk_2, o_tyT, o_nonO, o_tellN, o_tellS, o_cut1, o_esN, eqv_O, fldC_sh, isDictC_sh, fldN_sh, fldL_sh_0, fldP_sh_0, fldL_sh_1, fldP_sh_1, fldM_sh_0, fldM_sh_1, fldM_sh_2, fldM_sh_3, fldM_sh_4, fldM_sh_5, fldM_sh_6, fldM_sh_7, fldM_sh_8, fldM_sh_9, fldI_sh_0, fldI_sh_1, isDictC_sm, lookC_sml, lookC_smp, fld_smkey, fld_smlen, fld_smerge, isDict_eT, getL_eT0, getL_eT1, eqv_NW, o_seqT, eqv_row, ap_fGComp, ap_gcompK_live, ap_unset0, ap_unset1, o_kKe, o_kTe, o_kKTe, ap_ptT2, o_mulT, ap_fRev, ap_revK, ap_fLstRg, ap_lstRgK, fT_eT, fT_eW, fT_eH, eqv_T, eqv_W, eqv_H, mapM_eW, eqv_Ws, eq_self, Bool.true_eq_false, Option.isNone_none, Option.isNone_some, R.bind_ok, R.bind_ex, R.bind_bad, R.nox_ok, nox_bad', List.map_cons, List.map_nil, List.length_cons, List.length_nil, List.cons_append, List.nil_append, Nat.zero_add, Nat.reduceAdd, Nat.reduceSub, List.replicate_succ, List.replicate_zero, List.getElem?_cons_zero, List.getElem?_cons_succ, List.set_cons_zero, List.set_cons_succ, List.append_nil, Bool.false_eq_true, if_true, if_false, decide_eq_true_eq, decide_true, decide_false, Nat.add_zero, reduceIte, reduceDIte, Nat.reduceLeDiff, Int.reduceLT, Int.reduceLE, Int.reduceNeg, Int.reducePow, Int.reduceMul, Int.reduceAdd, Int.reduceSub, Nat.reduceEqDiff, Nat.reducePow, true_and, and_true, or_true, true_or, false_or, or_false, and_self, Bool.not_true, Bool.not_false, Nat.reduceLT, ge_iff_le, gt_iff_lt, Nat.le_refl, Option.map_some, Bool.not_eq_true, Bool.not_eq_eq_eq_not, not_true_eq_false, not_false_eq_true, Int.reduceToNat, beq_iff_eq, Int.reduceEq, String.reduceEq, String.reduceNe, Int.reduceNe, List.set_set, get_app, get_app0, get_apps, get_apps0, set_app, set_app0, set_apps, set_apps0, List.append_assoc, Nat.add_assoc, List.toList_toArray, List.size_toArray, List.length_set, List.length_append, h, eO, hin, hm]
  · simp only [ap_fVar, varK_some, ap_fC, ap_fBin, ap_binK, ap_fUn, ap_fApp, ap_fNil, ap_fCons, ap_consK, ap_consK2, ap_fTup, ap_fLst, ap_tupK, ap_lstK, ap_fTest, ap_testK, ap_fVal, ap_valK, ap_fAnd, ap_fOr, ap_fNot, ap_andK, ap_orK, ap_notK, ap_fAndV, ap_fOrV, ap_fNotV, ap_andVK, ap_orVK, ap_notVK, ap_fIfE, ap_ifEK, ap_fChain, ap_chK1, ap_chK2, ap_chK3, ap_fSkip, ap_fBrk, ap_fCnt, ap_fSeq, ap_seqK_nx, ap_seqK_rt, ap_seqK_bk, ap_seqK_ct, ap_fIf, ap_ifK, ap_fRet, ap_retK, ap_fRetN, ap_fDrop, ap_dropK, ap_fAsg, ap_asgK, ap_asgK2, ap_gN, ap_gNil, ap_gCons, ap_gsK, ap_gUnp, ap_unpK, ap_gSub, ap_subK1, ap_subK2, ap_subK3, ap_fIx, ap_ixK, isDict_ref, isDict_tup, isDict_rl, isDict_str, isDictC_lst, isDictC_dk, isDictC_dt, getL_tup, getL_rl, getL_str, getL_ref, getLC_lst, retO_some, atI_0, atI_1, atI_2, atI_3, oSet_ref, setC_lst, setLK_some, ixN_0, ixN_1, ap_fCall, ap_callK, ap_fnF, ap_fnK_nx, ap_fnK_rt, o_add, o_addR, o_addC, o_addS, o_addT, o_sub, o_mul, o_mod, o_div, o_pow, o_neg, o_lt, o_le, o_gt, o_ge, o_int, o_min2, o_max2, o_leS1, o_inS1, o_isB, o_eq, o_ne, eqK_some, neK_some, eqv_int, eqv_bool, toP_int, toP_bl, toP_non, toP_str, toP_tup, toP_rl, toP_ref, toPC_lst, toP_mapM_nil, toP_mapM_cons, toP_consO, o_len, lenK_some, lenD_tup, lenD_rl, lenD_str, lenD_ref, lenC_lst, ap_fIsi, ap_isiK0, ap_isiK, ap_isiK2, ap_fTyIs, ap_tyK0, ap_tyK, ap_fFor, ap_forK_fix, ap_forK_live, loopX_nil, loopX_cons, ap_turnK0, ap_turnK_nx, ap_turnK_ct, ap_turnK_bk, ap_turnK_rt, ap_fRng1, ap_rng1K, ap_fIter, ap_iterK_rl, ap_iterK_kt, ap_iterK_tup, ap_iterK_ref, iterC_lst, ap_fIterS, ap_iterSK, ap_fComp, ap_compK_fix, ap_compK_live, compX_nil, compX_cons, ap_compTK, ap_compEK, ap_fYes, ap_fDict0, ap_fDictT0, ap_fSl, ap_slK1, ap_slK2, ap_pNo, ap_pSo, ap_pSoK, oSl_tup, oSl_str, ap_fBm, ap_bmK, tyIn_str, tyIn_ref, tyInC_lst, tyD_ref, fldsOf_ref, fldC_ins, ap_fFld, ap_fldK, ap_fldK2, ap_fSetFld, ap_sfK1, ap_sfK2, ap_sfK3, o_put, ap_putK, ap_fFldAug, ap_faK1, ap_faK2, ap_faK3, ap_faK4, ap_faK5, o_addI, ap_fMeth, ap_meK1, ap_meK2, ap_meK3, ap_fMake, ap_mkK, ap_mkK2, ap_fTru, ap_truK, ap_truK2, truD_ref, truC_lst, o_getD, o_getDK, lookD_ref, lookC_dk, setC_dk, ap_fDisp, ap_dispK, ap_dispK2, ap_prNil, ap_prCons, ap_prK, ap_prK2, ap_prK3, o_append, o_appC, o_isN, o_notN, o_nonD, o_nonT, o_nonR, o_nonI, isDict_eW, getL_eW0, getL_eW1, o_seqW, o_nonW, o_nonH, eqv_Ln, eqv_Lc, o_eH0, o_eH1, fldC_lk, fld_lkv, fld_lkt, fld_lkh, fld_lkw, fld_lkm1, fld_lkm2, fld_lkm3, fld_lkm4, fld_lkm5, fld_lklen, fld_lkpv, fld_lkpt, fld_lkph, fld_lkpw, isDictC_md, isDictC_lk, lookC_mdv, lookC_mdt, lookC_mdh, lookC_mdw, setC_mdv, setC_mdt, setC_mdh, setC_mdw, tyInC_md, o_seqR, o_seqC, fld_i1, fld_i2, fld_i3, fld_i4, fld_keyPs, fld_mdlen, fld_merge, ap_fMakeK, ap_mkKK, ap_fRng2, ap_rng2K, setC_dt, isDict_eK, o_listT, o_listTC, lookN_ref, lookNC_dn, o_inN, o_inNK, ap_fIxN, o_ixN, o_isDn, o_isNC, ap_fGetN, ap_gtK, ap_gtK2, ap_gtK3, o_getN, o_getNK, oSetN_ref, setNC_dn, setNK_some, ap_gSubN, ap_gnK, ap_gnK2, ap_gnK3, ap_fDictN0, o_listN, o_listNC, o_listNL, ap_fProp, ap_prpK, ap_prpK2, o_someMap, o_gtT, o_ltT, o_nonM, isDict_eM, getL_eM0, loopX_inv, loopX_ok, ixN_nn, o_tupR, o_tupC, fldC_mk, isDictC_mk, fldN_mk, fldL_mk_0, fldP_mk_0, fldL_mk_1, fldP_mk_1, fldL_mk_2, fldP_mk_2, fldM_mk_0, fldM_mk_1, fldM_mk_2, fldM_mk_3, fldI_mk_0, fldI_mk_1, fldI_mk_2, o_tyT, o_nonO, o_tellN, o_tellS, o_cut1, o_esN, eqv_O, fldC_sh, isDictC_sh, fldN_sh, fldL_sh_0, fldP_sh_0, fldL_sh_1, fldP_sh_1, fldM_sh_0, fldM_sh_1, fldM_sh_2, fldM_sh_3, fldM_sh_4, fldM_sh_5, fldM_sh_6, fldM_sh_7, fldM_sh_8, fldM_sh_9, fldI_sh_0, fldI_sh_1, isDictC_sm, lookC_sml, lookC_smp, fld_smkey, fld_smlen, fld_smerge, isDict_eT, getL_eT0, getL_eT1, eqv_NW, o_seqT, eqv_row, ap_fGComp, ap_gcompK_live, ap_unset0, ap_unset1, o_kKe, o_kTe, o_kKTe, ap_ptT2, o_mulT, ap_fRev, ap_revK, ap_fLstRg, ap_lstRgK, fT_eT, fT_eW, fT_eH, eqv_T, eqv_W, eqv_H, mapM_eW, eqv_Ws, eq_self, Bool.true_eq_false, Option.isNone_none, Option.isNone_some, R.bind_ok, R.bind_ex, R.bind_bad, R.nox_ok, nox_bad', List.map_cons, List.map_nil, List.length_cons, List.length_nil, List.cons_append, List.nil_append, Nat.zero_add, Nat.reduceAdd, Nat.reduceSub, List.replicate_succ, List.replicate_zero, List.getElem?_cons_zero, List.getElem?_cons_succ, List.set_cons_zero, List.set_cons_succ, List.append_nil, Bool.false_eq_true, if_true, if_false, decide_eq_true_eq, decide_true, decide_false, Nat.add_zero, reduceIte, reduceDIte, Nat.reduceLeDiff, Int.reduceLT, Int.reduceLE, Int.reduceNeg, Int.reducePow, Int.reduceMul, Int.reduceAdd, Int.reduceSub, Nat.reduceEqDiff, Nat.reducePow, true_and, and_true, or_true, true_or, false_or, or_false, and_self, Bool.not_true, Bool.not_false, Nat.reduceLT, ge_iff_le, gt_iff_lt, Nat.le_refl, Option.map_some, Bool.not_eq_true, Bool.not_eq_eq_eq_not, not_true_eq_false, not_false_eq_true, Int.reduceToNat, beq_iff_eq, Int.reduceEq, String.reduceEq, String.reduceNe, Int.reduceNe, List.set_set, get_app, get_app0, get_apps, get_apps0, set_app, set_app0, set_apps, set_apps0, List.append_assoc, Nat.add_assoc, List.toList_toArray, List.size_toArray, List.length_set, List.length_append, h, eO, hin, hm, hloop]
theorem told_eq (c : CA) {l y : Nat} {S : Sto} {tr : Int × Int} {own : Option Mk} {ms : List Mk} (h : S[l]? = some (mkC c.c_Marks tr own y)) (hy : S[y]? = some (.dn c.w (encM ms))) (ho : okMs (own.toList ++ ms)) (hl : ms.length < 1000) :
    ∃ T, F_Marks_told c [.ref l] S = .ok (.tup (cM.es (tellL own ms))) (S ++ T) := by
  unfold F_Marks_told b_Marks_told
  unfold mkC at h
  cases own with
  | none =>
    refine ⟨[], ?_⟩
    simp only [ap_fVar, varK_some, ap_fC, ap_fBin, ap_binK, ap_fUn, ap_fApp, ap_fNil, ap_fCons, ap_consK, ap_consK2, ap_fTup, ap_fLst, ap_tupK, ap_lstK, ap_fTest, ap_testK, ap_fVal, ap_valK, ap_fAnd, ap_fOr, ap_fNot, ap_andK, ap_orK, ap_notK, ap_fAndV, ap_fOrV, ap_fNotV, ap_andVK, ap_orVK, ap_notVK, ap_fIfE, ap_ifEK, ap_fChain, ap_chK1, ap_chK2, ap_chK3, ap_fSkip, ap_fBrk, ap_fCnt, ap_fSeq, ap_seqK_nx, ap_seqK_rt, ap_seqK_bk, ap_seqK_ct, ap_fIf, ap_ifK, ap_fRet, ap_retK, ap_fRetN, ap_fDrop, ap_dropK, ap_fAsg, ap_asgK, ap_asgK2, ap_gN, ap_gNil, ap_gCons, ap_gsK, ap_gUnp, ap_unpK, ap_gSub, ap_subK1, ap_subK2, ap_subK3, ap_fIx, ap_ixK, isDict_ref, isDict_tup, isDict_rl, isDict_str, isDictC_lst, isDictC_dk, isDictC_dt, getL_tup, getL_rl, getL_str, getL_ref, getLC_lst, retO_some, atI_0, atI_1, atI_2, atI_3, oSet_ref, setC_lst, setLK_some, ixN_0, ixN_1, ap_fCall, ap_callK, ap_fnF, ap_fnK_nx, ap_fnK_rt, o_add, o_addR, o_addC, o_addS, o_addT, o_sub, o_mul, o_mod, o_div, o_pow, o_neg, o_lt, o_le, o_gt, o_ge, o_int, o_min2, o_max2, o_leS1, o_inS1, o_isB, o_eq, o_ne, eqK_some, neK_some, eqv_int, eqv_bool, toP_int, toP_bl, toP_non, toP_str, toP_tup, toP_rl, toP_ref, toPC_lst, toP_mapM_nil, toP_mapM_cons, toP_consO, o_len, lenK_some, lenD_tup, lenD_rl, lenD_str, lenD_ref, lenC_lst, ap_fIsi, ap_isiK0, ap_isiK, ap_isiK2, ap_fTyIs, ap_tyK0, ap_tyK, ap_fFor, ap_forK_fix, ap_forK_live, loopX_nil, loopX_cons, ap_turnK0, ap_turnK_nx, ap_turnK_ct, ap_turnK_bk, ap_turnK_rt, ap_fRng1, ap_rng1K, ap_fIter, ap_iterK_rl, ap_iterK_kt, ap_iterK_tup, ap_iterK_ref, iterC_lst, ap_fIterS, ap_iterSK, ap_fComp, ap_compK_fix, ap_compK_live, compX_nil, compX_cons, ap_compTK, ap_compEK, ap_fYes, ap_fDict0, ap_fDictT0, ap_fSl, ap_slK1, ap_slK2, ap_pNo, ap_pSo, ap_pSoK, oSl_tup, oSl_str, ap_fBm, ap_bmK, tyIn_str, tyIn_ref, tyInC_lst, tyD_ref, fldsOf_ref, fldC_ins, ap_fFld, ap_fldK, ap_fldK2, ap_fSetFld, ap_sfK1, ap_sfK2, ap_sfK3, o_put, ap_putK, ap_fFldAug, ap_faK1, ap_faK2, ap_faK3, ap_faK4, ap_faK5, o_addI, ap_fMeth, ap_meK1, ap_meK2, ap_meK3, ap_fMake, ap_mkK, ap_mkK2, ap_fTru, ap_truK, ap_truK2, truD_ref, truC_lst, o_getD, o_getDK, lookD_ref, lookC_dk, setC_dk, ap_fDisp, ap_dispK, ap_dispK2, ap_prNil, ap_prCons, ap_prK, ap_prK2, ap_prK3, o_append, o_appC, o_isN, o_notN, o_nonD, o_nonT, o_nonR, o_nonI, isDict_eW, getL_eW0, getL_eW1, o_seqW, o_nonW, o_nonH, eqv_Ln, eqv_Lc, o_eH0, o_eH1, fldC_lk, fld_lkv, fld_lkt, fld_lkh, fld_lkw, fld_lkm1, fld_lkm2, fld_lkm3, fld_lkm4, fld_lkm5, fld_lklen, fld_lkpv, fld_lkpt, fld_lkph, fld_lkpw, isDictC_md, isDictC_lk, lookC_mdv, lookC_mdt, lookC_mdh, lookC_mdw, setC_mdv, setC_mdt, setC_mdh, setC_mdw, tyInC_md, o_seqR, o_seqC, fld_i1, fld_i2, fld_i3, fld_i4, fld_keyPs, fld_mdlen, fld_merge, ap_fMakeK, ap_mkKK, ap_fRng2, ap_rng2K, setC_dt, isDict_eK, o_listT, o_listTC, lookN_ref, lookNC_dn, o_inN, o_inNK, ap_fIxN, o_ixN, o_isDn, o_isNC, ap_fGetN, ap_gtK, ap_gtK2, ap_gtK3, o_getN, o_getNK, oSetN_ref, setNC_dn, setNK_some, ap_gSubN, ap_gnK, ap_gnK2, ap_gnK3, ap_fDictN0, o_listN, o_listNC, o_listNL, ap_fProp, ap_prpK, ap_prpK2, o_someMap, o_gtT, o_ltT, o_nonM, isDict_eM, getL_eM0, loopX_inv, loopX_ok, ixN_nn, o_tupR, o_tupC, fldC_mk, isDictC_mk, fldN_mk, fldL_mk_0, fldP_mk_0, fldL_mk_1, fldP_mk_1, fldL_mk_2, fldP_mk_2, fldM_mk_0, fldM_mk_1, fldM_mk_2, fldM_mk_3, fldI_mk_0, fldI_mk_1, fldI_mk_2, o_tyT, o_nonO, o_tellN, o_tellS, o_cut1, o_esN, eqv_O, fldC_sh, isDictC_sh, fldN_sh, fldL_sh_0, fldP_sh_0, fldL_sh_1, fldP_sh_1, fldM_sh_0, fldM_sh_1, fldM_sh_2, fldM_sh_3, fldM_sh_4, fldM_sh_5, fldM_sh_6, fldM_sh_7, fldM_sh_8, fldM_sh_9, fldI_sh_0, fldI_sh_1, isDictC_sm, lookC_sml, lookC_smp, fld_smkey, fld_smlen, fld_smerge, isDict_eT, getL_eT0, getL_eT1, eqv_NW, o_seqT, eqv_row, ap_fGComp, ap_gcompK_live, ap_unset0, ap_unset1, o_kKe, o_kTe, o_kKTe, ap_ptT2, o_mulT, ap_fRev, ap_revK, ap_fLstRg, ap_lstRgK, fT_eT, fT_eW, fT_eH, eqv_T, eqv_W, eqv_H, mapM_eW, eqv_Ws, eq_self, Bool.true_eq_false, Option.isNone_none, Option.isNone_some, R.bind_ok, R.bind_ex, R.bind_bad, R.nox_ok, nox_bad', List.map_cons, List.map_nil, List.length_cons, List.length_nil, List.cons_append, List.nil_append, Nat.zero_add, Nat.reduceAdd, Nat.reduceSub, List.replicate_succ, List.replicate_zero, List.getElem?_cons_zero, List.getElem?_cons_succ, List.set_cons_zero, List.set_cons_succ, List.append_nil, Bool.false_eq_true, if_true, if_false, decide_eq_true_eq, decide_true, decide_false, Nat.add_zero, reduceIte, reduceDIte, Nat.reduceLeDiff, Int.reduceLT, Int.reduceLE, Int.reduceNeg, Int.reducePow, Int.reduceMul, Int.reduceAdd, Int.reduceSub, Nat.reduceEqDiff, Nat.reducePow, true_and, and_true, or_true, true_or, false_or, or_false, and_self, Bool.not_true, Bool.not_false, Nat.reduceLT, ge_iff_le, gt_iff_lt, Nat.le_refl, Option.map_some, Bool.not_eq_true, Bool.not_eq_eq_eq_not, not_true_eq_false, not_false_eq_true, Int.reduceToNat, beq_iff_eq, Int.reduceEq, String.reduceEq, String.reduceNe, Int.reduceNe, List.set_set, get_app, get_app0, get_apps, get_apps0, set_app, set_app0, set_apps, set_apps0, List.append_assoc, Nat.add_assoc, List.toList_toArray, List.size_toArray, List.length_set, List.length_append, h, eO]
  | some o =>
    have hs : ∀ {T : Sto}, oSorted [.ref (S.length + 2)] (S ++ ([.lst [eM o], .lst (cM.es ms), .lst (cM.es (o :: ms))] ++ T)) = .ok (.ref (S.length + (3 + T.length))) (S ++ ([.lst [eM o], .lst (cM.es ms), .lst (cM.es (o :: ms))] ++ T) ++ [.lst (cM.es (cM.sort (o :: ms)))]) := by
      intro T
      have := cM.osort (S := S ++ ([.lst [eM o], .lst (cM.es ms), .lst (cM.es (o :: ms))] ++ T)) (n := S.length + 2) (as := o :: ms) (by rw [get_app]; rfl) ho (by rw [List.length_cons]; omega)
      rw [this]
      rw [List.length_append, List.length_append]
      rfl
    refine ⟨[.lst [eM o], .lst (cM.es ms), .lst (cM.es (o :: ms)), .lst (cM.es (cM.sort (o :: ms)))], ?_⟩
    have hs0 := hs (T := [])
    simp only [List.append_nil, List.length_nil] at hs0
    have hz : [eM o].length + (cM.es ms).length ≤ 100000 := by rw [Cod.es_len]; simp; omega
    have e9 : eM o :: cM.es ms = cM.es (o :: ms) := rfl
    have hz2 : 1 + (cM.es ms).length ≤ 100000 := by rw [Cod.es_len]; omega
    simp only [ap_fVar, varK_some, ap_fC, ap_fBin, ap_binK, ap_fUn, ap_fApp, ap_fNil, ap_fCons, ap_consK, ap_consK2, ap_fTup, ap_fLst, ap_tupK, ap_lstK, ap_fTest, ap_testK, ap_fVal, ap_valK, ap_fAnd, ap_fOr, ap_fNot, ap_andK, ap_orK, ap_notK, ap_fAndV, ap_fOrV, ap_fNotV, ap_andVK, ap_orVK, ap_notVK, ap_fIfE, ap_ifEK, ap_fChain, ap_chK1, ap_chK2, ap_chK3, ap_fSkip, ap_fBrk, ap_fCnt, ap_fSeq, ap_seqK_nx, ap_seqK_rt, ap_seqK_bk, ap_seqK_ct, ap_fIf, ap_ifK, ap_fRet, ap_retK, ap_fRetN, ap_fDrop, ap_dropK, ap_fAsg, ap_asgK, ap_asgK2, ap_gN, ap_gNil, ap_gCons, ap_gsK, ap_gUnp, ap_unpK, ap_gSub, ap_subK1, ap_subK2, ap_subK3, ap_fIx, ap_ixK, isDict_ref, isDict_tup, isDict_rl, isDict_str, isDictC_lst, isDictC_dk, isDictC_dt, getL_tup, getL_rl, getL_str, getL_ref, getLC_lst, retO_some, atI_0, atI_1, atI_2, atI_3, oSet_ref, setC_lst, setLK_some, ixN_0, ixN_1, ap_fCall, ap_callK, ap_fnF, ap_fnK_nx, ap_fnK_rt, o_add, o_addR, o_addC, o_addS, o_addT, o_sub, o_mul, o_mod, o_div, o_pow, o_neg, o_lt, o_le, o_gt, o_ge, o_int, o_min2, o_max2, o_leS1, o_inS1, o_isB, o_eq, o_ne, eqK_some, neK_some, eqv_int, eqv_bool, toP_int, toP_bl, toP_non, toP_str, toP_tup, toP_rl, toP_ref, toPC_lst, toP_mapM_nil, toP_mapM_cons, toP_consO, o_len, lenK_some, lenD_tup, lenD_rl, lenD_str, lenD_ref, lenC_lst, ap_fIsi, ap_isiK0, ap_isiK, ap_isiK2, ap_fTyIs, ap_tyK0, ap_tyK, ap_fFor, ap_forK_fix, ap_forK_live, loopX_nil, loopX_cons, ap_turnK0, ap_turnK_nx, ap_turnK_ct, ap_turnK_bk, ap_turnK_rt, ap_fRng1, ap_rng1K, ap_fIter, ap_iterK_rl, ap_iterK_kt, ap_iterK_tup, ap_iterK_ref, iterC_lst, ap_fIterS, ap_iterSK, ap_fComp, ap_compK_fix, ap_compK_live, compX_nil, compX_cons, ap_compTK, ap_compEK, ap_fYes, ap_fDict0, ap_fDictT0, ap_fSl, ap_slK1, ap_slK2, ap_pNo, ap_pSo, ap_pSoK, oSl_tup, oSl_str, ap_fBm, ap_bmK, tyIn_str, tyIn_ref, tyInC_lst, tyD_ref, fldsOf_ref, fldC_ins, ap_fFld, ap_fldK, ap_fldK2, ap_fSetFld, ap_sfK1, ap_sfK2, ap_sfK3, o_put, ap_putK, ap_fFldAug, ap_faK1, ap_faK2, ap_faK3, ap_faK4, ap_faK5, o_addI, ap_fMeth, ap_meK1, ap_meK2, ap_meK3, ap_fMake, ap_mkK, ap_mkK2, ap_fTru, ap_truK, ap_truK2, truD_ref, truC_lst, o_getD, o_getDK, lookD_ref, lookC_dk, setC_dk, ap_fDisp, ap_dispK, ap_dispK2, ap_prNil, ap_prCons, ap_prK, ap_prK2, ap_prK3, o_append, o_appC, o_isN, o_notN, o_nonD, o_nonT, o_nonR, o_nonI, isDict_eW, getL_eW0, getL_eW1, o_seqW, o_nonW, o_nonH, eqv_Ln, eqv_Lc, o_eH0, o_eH1, fldC_lk, fld_lkv, fld_lkt, fld_lkh, fld_lkw, fld_lkm1, fld_lkm2, fld_lkm3, fld_lkm4, fld_lkm5, fld_lklen, fld_lkpv, fld_lkpt, fld_lkph, fld_lkpw, isDictC_md, isDictC_lk, lookC_mdv, lookC_mdt, lookC_mdh, lookC_mdw, setC_mdv, setC_mdt, setC_mdh, setC_mdw, tyInC_md, o_seqR, o_seqC, fld_i1, fld_i2, fld_i3, fld_i4, fld_keyPs, fld_mdlen, fld_merge, ap_fMakeK, ap_mkKK, ap_fRng2, ap_rng2K, setC_dt, isDict_eK, o_listT, o_listTC, lookN_ref, lookNC_dn, o_inN, o_inNK, ap_fIxN, o_ixN, o_isDn, o_isNC, ap_fGetN, ap_gtK, ap_gtK2, ap_gtK3, o_getN, o_getNK, oSetN_ref, setNC_dn, setNK_some, ap_gSubN, ap_gnK, ap_gnK2, ap_gnK3, ap_fDictN0, o_listN, o_listNC, o_listNL, ap_fProp, ap_prpK, ap_prpK2, o_someMap, o_gtT, o_ltT, o_nonM, isDict_eM, getL_eM0, loopX_inv, loopX_ok, ixN_nn, o_tupR, o_tupC, fldC_mk, isDictC_mk, fldN_mk, fldL_mk_0, fldP_mk_0, fldL_mk_1, fldP_mk_1, fldL_mk_2, fldP_mk_2, fldM_mk_0, fldM_mk_1, fldM_mk_2, fldM_mk_3, fldI_mk_0, fldI_mk_1, fldI_mk_2, o_tyT, o_nonO, o_tellN, o_tellS, o_cut1, o_esN, eqv_O, fldC_sh, isDictC_sh, fldN_sh, fldL_sh_0, fldP_sh_0, fldL_sh_1, fldP_sh_1, fldM_sh_0, fldM_sh_1, fldM_sh_2, fldM_sh_3, fldM_sh_4, fldM_sh_5, fldM_sh_6, fldM_sh_7, fldM_sh_8, fldM_sh_9, fldI_sh_0, fldI_sh_1, isDictC_sm, lookC_sml, lookC_smp, fld_smkey, fld_smlen, fld_smerge, isDict_eT, getL_eT0, getL_eT1, eqv_NW, o_seqT, eqv_row, ap_fGComp, ap_gcompK_live, ap_unset0, ap_unset1, o_kKe, o_kTe, o_kKTe, ap_ptT2, o_mulT, ap_fRev, ap_revK, ap_fLstRg, ap_lstRgK, fT_eT, fT_eW, fT_eH, eqv_T, eqv_W, eqv_H, mapM_eW, eqv_Ws, eq_self, Bool.true_eq_false, Option.isNone_none, Option.isNone_some, R.bind_ok, R.bind_ex, R.bind_bad, R.nox_ok, nox_bad', List.map_cons, List.map_nil, List.length_cons, List.length_nil, List.cons_append, List.nil_append, Nat.zero_add, Nat.reduceAdd, Nat.reduceSub, List.replicate_succ, List.replicate_zero, List.getElem?_cons_zero, List.getElem?_cons_succ, List.set_cons_zero, List.set_cons_succ, List.append_nil, Bool.false_eq_true, if_true, if_false, decide_eq_true_eq, decide_true, decide_false, Nat.add_zero, reduceIte, reduceDIte, Nat.reduceLeDiff, Int.reduceLT, Int.reduceLE, Int.reduceNeg, Int.reducePow, Int.reduceMul, Int.reduceAdd, Int.reduceSub, Nat.reduceEqDiff, Nat.reducePow, true_and, and_true, or_true, true_or, false_or, or_false, and_self, Bool.not_true, Bool.not_false, Nat.reduceLT, ge_iff_le, gt_iff_lt, Nat.le_refl, Option.map_some, Bool.not_eq_true, Bool.not_eq_eq_eq_not, not_true_eq_false, not_false_eq_true, Int.reduceToNat, beq_iff_eq, Int.reduceEq, String.reduceEq, String.reduceNe, Int.reduceNe, List.set_set, get_app, get_app0, get_apps, get_apps0, set_app, set_app0, set_apps, set_apps0, List.append_assoc, Nat.add_assoc, List.toList_toArray, List.size_toArray, List.length_set, List.length_append, h, hy, eO, app_get h, app_get hy, keysN_encM, hz2, e9, hs0]
theorem fold_len {tr : Int × Int} {gs : List Mk} : ∀ {ms : List Mk}, (gs.foldl (addY tr) ms).length ≤ ms.length + gs.length := by
  induction gs with
  | nil => intro ms; exact Nat.le_refl _
  | cons g gs ih =>
    intro ms
    rw [List.foldl_cons, List.length_cons]
    have h1 := ih (ms := addY tr ms g)
    have h2 := addY_len (tr := tr) (ms := ms) (m := g)
    omega
theorem fold_ok {tr : Int × Int} {gs : List Mk} (hg : okMs gs) : ∀ {ms : List Mk}, okMs ms → okMs (gs.foldl (addY tr) ms) := by
  induction gs with
  | nil => intro ms h; exact h
  | cons g gs ih =>
    intro ms h
    rw [List.foldl_cons]
    exact ih (fun m hm => hg m (List.mem_cons_of_mem _ hm)) (okMs_addY h (hg g (List.mem_cons_self ..)))
end Qk17

namespace Qk17
open PySem L2 RF
theorem ltT_irr {a : Int × Int} : ltT a a = false := by unfold ltT; simp
theorem ltT_tr {a b d : Int × Int} (h1 : ltT a b = true) (h2 : ltT b d = true) : ltT a d = true := by
  unfold ltT at *; simp only [decide_eq_true_eq] at *; omega
theorem ltT_asym {a b : Int × Int} (h1 : ltT a b = true) : ltT b a = false := by
  cases h : ltT b a with
  | false => rfl
  | true => have := ltT_tr h1 h; rw [ltT_irr] at this; cases this
theorem ltT_tot {a b : Int × Int} (h : a ≠ b) : ltT a b = true ∨ ltT b a = true := by
  unfold ltT
  simp only [decide_eq_true_eq]
  have : a.1 ≠ b.1 ∨ a.2 ≠ b.2 := by
    by_cases e : a.1 = b.1
    · exact .inr fun e2 => h (Prod.ext e e2)
    · exact .inl e
  omega
theorem addY_mem {tr : Int × Int} {ms : List Mk} {m x : Mk} : x ∈ addY tr ms m ↔ x ∈ ms ∨ (x = m ∧ ltT tr x.1 = true) := by
  unfold addY
  by_cases h : ltT tr m.1 = true
  · rw [if_pos h, addM_mem]
    exact ⟨fun z => z.imp id fun e => ⟨e, by rw [e]; exact h⟩, fun z => z.imp id fun e => e.1⟩
  · rw [if_neg h]
    exact ⟨.inl, fun z => z.elim id fun e => absurd (e.1 ▸ e.2) h⟩
theorem foldY_mem {tr : Int × Int} {x : Mk} : ∀ {gs ms : List Mk}, x ∈ gs.foldl (addY tr) ms ↔ x ∈ ms ∨ (x ∈ gs ∧ ltT tr x.1 = true)
  | [], ms => by simp
  | g :: gs, ms => by
    rw [List.foldl_cons, foldY_mem (gs := gs), addY_mem, List.mem_cons]
    constructor
    · rintro ((h | h) | h)
      · exact .inl h
      · exact .inr ⟨.inl h.1, h.2⟩
      · exact .inr ⟨.inr h.1, h.2⟩
    · rintro (h | ⟨h | h, h2⟩)
      · exact .inl (.inl h)
      · exact .inl (.inr ⟨h, h2⟩)
      · exact .inr ⟨h, h2⟩
theorem addY_nodup {tr : Int × Int} {ms : List Mk} {m : Mk} (h : ms.Nodup) : (addY tr ms m).Nodup := by
  unfold addY addM
  split
  · split
    · exact h
    · rename_i hm
      exact List.nodup_append.mpr ⟨h, (by simp), fun a ha b hb => by rw [List.mem_singleton.mp hb]; exact fun e => hm (e ▸ ha)⟩
  · exact h
theorem foldY_nodup {tr : Int × Int} : ∀ {gs ms : List Mk}, ms.Nodup → (gs.foldl (addY tr) ms).Nodup
  | [], ms, h => h
  | g :: gs, ms, h => by rw [List.foldl_cons]; exact foldY_nodup (addY_nodup h)
theorem nodup_le {α : Type} [DecidableEq α] : ∀ {l m : List α}, l.Nodup → (∀ x ∈ l, x ∈ m) → l.length ≤ m.length
  | [], m, _, _ => Nat.zero_le _
  | a :: l, m, h, hs => by
    have ha := hs a (List.mem_cons_self ..)
    have h2 := List.nodup_cons.mp h
    have := nodup_le (l := l) (m := m.erase a) h2.2 (fun x hx => (List.mem_erase_of_ne (fun (e : x = a) => h2.1 (e ▸ hx))).mpr (hs x (List.mem_cons_of_mem _ hx)))
    rw [List.length_erase_of_mem ha] at this
    have hp : 0 < m.length := List.length_pos_of_mem ha
    rw [List.length_cons]
    omega
/-- a ring (or a chain) of n unlike transactions, each with a mark of its own -/
structure Rg (n : Nat) (o : Nat → Mk) : Prop where
  inj : ∀ i j, i < n → j < n → (o i).1 = (o j).1 → i = j
  two : 2 ≤ n
  top : n ≤ 6
  ok : ∀ i, i < n → okM (o i)
def Up (n : Nat) (o : Nat → Mk) (ring : Bool) (i : Nat) (m : Mk) : Prop := ∃ d, 1 ≤ d ∧ d < n ∧ m = o ((i + d) % n) ∧ (ring = false → i + d < n) ∧ ∀ e, e < d → ltT (o ((i + e) % n)).1 m.1 = true
section
variable {n : Nat} {o : Nat → Mk} {ring : Bool} {i k q M : Nat} {m : Mk}
theorem up_lt (h : Up n o ring i m) (hi : i < n) : ltT (o i).1 m.1 = true := by
  obtain ⟨d, h1, _, _, _, h5⟩ := h
  have := h5 0 (by omega)
  rw [Nat.add_zero, Nat.mod_eq_of_lt hi] at this
  exact this
theorem nxt_lt (h : Rg n o) : (k + 1) % n < n := Nat.mod_lt _ (by have := h.two; omega)
theorem nxt_ne (h : Rg n o) (hk : k < n) : (k + 1) % n ≠ k := by
  have h2 := h.two
  by_cases e : k + 1 = n
  · rw [e, Nat.mod_self]; omega
  · rw [Nat.mod_eq_of_lt (by omega)]; omega
theorem up_own (h : Rg n o) (hk : k < n) (hr : ring = false → k + 1 < n) (hl : ltT (o k).1 (o ((k + 1) % n)).1 = true) : Up n o ring k (o ((k + 1) % n)) :=
  ⟨1, Nat.le_refl _, h.two, rfl, hr, fun e he => by
    have : e = 0 := by omega
    subst this
    rw [Nat.add_zero, Nat.mod_eq_of_lt hk]; exact hl⟩
theorem up_step (hk : k < n) (hr : ring = false → k + 1 < n) (h : Up n o ring ((k + 1) % n) m) (hne : m ≠ o k) (hl : ltT (o k).1 m.1 = true) : Up n o ring k m := by
  obtain ⟨d, h1, h2, h3, h4, h5⟩ := h
  rw [Nat.mod_add_mod, show k + 1 + d = k + (d + 1) by omega] at h3
  refine ⟨d + 1, by omega, ?_, h3, fun r => ?_, fun e he => ?_⟩
  · have : d + 1 ≠ n := fun e => hne (by rw [h3, e, Nat.add_mod_right, Nat.mod_eq_of_lt hk])
    omega
  · have := h4 r
    rw [Nat.mod_eq_of_lt (hr r)] at this
    omega
  · cases e with
    | zero => rw [Nat.add_zero, Nat.mod_eq_of_lt hk]; exact hl
    | succ e =>
      have := h5 e (by omega)
      rw [Nat.mod_add_mod, show k + 1 + e = k + (e + 1) by omega] at this
      exact this
def Top (n : Nat) (o : Nat → Mk) (k : Nat) : Prop := k < n ∧ ∀ i, i < n → i ≠ k → ltT (o i).1 (o k).1 = true
theorem up_home (h : Rg n o) (hk : k < n) (hr : ring = false → k + 1 < n) (u : Up n o ring ((k + 1) % n) (o k)) : ring = true ∧ Top n o k := by
  obtain ⟨d, h1, h2, h3, h4, h5⟩ := u
  rw [Nat.mod_add_mod] at h3
  have hn : 0 < n := by omega
  have e := h.inj k ((k + 1 + d) % n) hk (Nat.mod_lt _ hn) (by rw [← h3])
  have hd : d = n - 1 := by
    by_cases hlt : k + 1 + d < n
    · rw [Nat.mod_eq_of_lt hlt] at e; omega
    · rw [Nat.mod_eq_sub_mod (by omega), Nat.mod_eq_of_lt (by omega)] at e; omega
  refine ⟨?_, hk, fun i hi hne => ?_⟩
  · cases ring with
    | true => rfl
    | false =>
      have a1 := hr rfl
      have a2 := h4 rfl
      rw [Nat.mod_eq_of_lt a1] at a2
      omega
  · by_cases hik : k < i
    · have := h5 (i - k - 1) (by omega)
      rw [Nat.mod_add_mod, show k + 1 + (i - k - 1) = i by omega, Nat.mod_eq_of_lt hi] at this
      exact this
    · have := h5 (n + i - k - 1) (by omega)
      rw [Nat.mod_add_mod, show k + 1 + (n + i - k - 1) = i + n by omega, Nat.add_mod_right, Nat.mod_eq_of_lt hi] at this
      exact this
theorem has_topA (inj : ∀ i j, i < n → j < n → (o i).1 = (o j).1 → i = j) : ∀ r, 1 ≤ r → r ≤ n → ∃ M, M < r ∧ ∀ i, i < r → i ≠ M → ltT (o i).1 (o M).1 = true
  | 0, h, _ => absurd h (by omega)
  | 1, _, _ => ⟨0, by omega, fun i h1 h2 => absurd h2 (by omega)⟩
  | r + 2, _, h => by
    obtain ⟨M, a1, a2⟩ := has_topA inj (r + 1) (by omega) (by omega)
    have hne : (o M).1 ≠ (o (r + 1)).1 := fun e => by have := inj M (r + 1) (by omega) (by omega) e; omega
    rcases ltT_tot hne with hl | hl
    · refine ⟨r + 1, by omega, fun i h1 h2 => ?_⟩
      by_cases e : i = M
      · rw [e]; exact hl
      · exact ltT_tr (a2 i (by omega) e) hl
    · refine ⟨M, by omega, fun i h1 h2 => ?_⟩
      by_cases e : i = r + 1
      · rw [e]; exact hl
      · exact a2 i (by omega) h2
theorem has_top (h : Rg n o) : ∃ M, Top n o M := has_topA h.inj n (by have := h.two; omega) (Nat.le_refl _)
theorem top_uni (h1 : Top n o k) (h2 : Top n o M) : k = M := by
  by_cases e : k = M
  · exact e
  · have a1 := h2.2 k h1.1 e
    have a2 := h1.2 M h2.1 (fun z => e z.symm)
    rw [ltT_asym a1] at a2; cases a2
/-- one row takes what the next one tells -/
def St (n : Nat) (o : Nat → Mk) (ring : Bool) (Y : Nat → List Mk) (k : Nat) : (Nat → List Mk) × Bool :=
  if ring = false ∧ k + 1 = n then (Y, false) else
    if o k ∈ tellL (some (o ((k + 1) % n))) (Y ((k + 1) % n)) then (Y, true)
    else (fun i => if i = k then (tellL (some (o ((k + 1) % n))) (Y ((k + 1) % n))).foldl (addY (o k).1) (Y k) else Y i, false)
structure PInv (n : Nat) (o : Nat → Mk) (ring : Bool) (Y : Nat → List Mk) : Prop where
  up : ∀ i, i < n → ∀ m ∈ Y i, Up n o ring i m
  nd : ∀ i, i < n → (Y i).Nodup
variable {Y : Nat → List Mk}
theorem tell_mem {x y : Mk} {ms : List Mk} : x ∈ tellL (some y) ms ↔ x = y ∨ x ∈ ms := by
  show x ∈ cM.sort (y :: ms) ↔ _
  rw [Cod.sort_mem, List.mem_cons]
theorem PInv.len (p : PInv n o ring Y) (hi : i < n) : (Y i).length ≤ n := by
  have := nodup_le (l := Y i) (m := (List.range n).map o) (p.nd i hi) (fun x hx => by
    obtain ⟨d, _, _, h3, _⟩ := p.up i hi x hx
    rw [h3]
    exact List.mem_map_of_mem (List.mem_range.mpr (Nat.mod_lt _ (by omega))))
  rwa [List.length_map, List.length_range] at this
theorem PInv.oks (g : Rg n o) (p : PInv n o ring Y) (hi : i < n) : okMs (o i :: Y i) := fun m hm => by
  rcases List.mem_cons.mp hm with rfl | hm
  · exact g.ok i hi
  · obtain ⟨d, _, _, h3, _⟩ := p.up i hi m hm
    rw [h3]
    exact g.ok _ (Nat.mod_lt _ (by omega))
theorem PInv.low (p : PInv n o ring Y) (hi : i < n) : ∀ m ∈ tellL (some (o i)) (Y i), ltT m.1 (o i).1 = false := fun m hm => by
  rcases tell_mem.mp hm with rfl | hm
  · exact ltT_irr
  · exact ltT_asym (up_lt (p.up i hi m hm) hi)
theorem hr_of (hk : k < n) (h : ¬ (ring = false ∧ k + 1 = n)) : ring = false → k + 1 < n := fun r => by
  by_cases e : k + 1 = n
  · exact absurd ⟨r, e⟩ h
  · omega
theorem st_inv (g : Rg n o) (p : PInv n o ring Y) (hk : k < n) : PInv n o ring (St n o ring Y k).1 := by
  unfold St
  by_cases h0 : ring = false ∧ k + 1 = n
  · rw [if_pos h0]; exact p
  · rw [if_neg h0]
    have hr := hr_of hk h0
    by_cases h1 : o k ∈ tellL (some (o ((k + 1) % n))) (Y ((k + 1) % n))
    · rw [if_pos h1]; exact p
    · rw [if_neg h1]
      constructor
      · intro i hi m hm
        simp only at hm
        by_cases e : i = k
        · subst e
          rw [if_pos rfl, foldY_mem] at hm
          rcases hm with hm | ⟨hm, hl⟩
          · exact p.up i hi m hm
          · have hne : m ≠ o i := fun z => h1 (z ▸ hm)
            rcases tell_mem.mp hm with rfl | hm
            · exact up_own g hi hr hl
            · exact up_step hi hr (p.up _ (nxt_lt g) m hm) hne hl
        · rw [if_neg e] at hm
          exact p.up i hi m hm
      · intro i hi
        simp only
        split
        · exact foldY_nodup (p.nd k hk)
        · exact p.nd i hi
theorem st_mono {j : Nat} (hm : m ∈ Y j) : m ∈ (St n o ring Y k).1 j := by
  unfold St
  split
  · exact hm
  · split
    · exact hm
    · simp only
      split
      · rename_i e
        rw [foldY_mem]
        exact .inl (e ▸ hm)
      · exact hm
theorem st_home (g : Rg n o) (p : PInv n o ring Y) (hk : k < n) (h : (St n o ring Y k).2 = true) : ring = true ∧ Top n o k := by
  unfold St at h
  by_cases h0 : ring = false ∧ k + 1 = n
  · rw [if_pos h0] at h; cases h
  · rw [if_neg h0] at h
    have hr := hr_of hk h0
    by_cases h1 : o k ∈ tellL (some (o ((k + 1) % n))) (Y ((k + 1) % n))
    · rcases tell_mem.mp h1 with e | hm
      · have := g.inj k _ hk (nxt_lt g) (by rw [← e])
        exact absurd this.symm (nxt_ne g hk)
      · exact up_home g hk hr (p.up _ (nxt_lt g) _ hm)
    · rw [if_neg h1] at h; cases h
theorem st_low (g : Rg n o) (p : PInv n o true Y) (hk : k < n) (t : Top n o M) (h : M = (k + 1) % n ∨ o M ∈ Y ((k + 1) % n)) : (k = M → (St n o true Y k).2 = true) ∧ (k ≠ M → o M ∈ (St n o true Y k).1 k) := by
  have hm : o M ∈ tellL (some (o ((k + 1) % n))) (Y ((k + 1) % n)) := tell_mem.mpr (h.imp (fun e => by rw [← e]) id)
  unfold St
  rw [if_neg (fun z => nomatch z.1)]
  constructor
  · intro e
    rw [e] at hm ⊢
    rw [if_pos hm]
  · intro e
    by_cases h1 : o k ∈ tellL (some (o ((k + 1) % n))) (Y ((k + 1) % n))
    · rcases tell_mem.mp h1 with e | hm
      · have := g.inj k _ hk (nxt_lt g) (by rw [← e])
        exact absurd this.symm (nxt_ne g hk)
      · have := up_home (ring := true) g hk (fun z => nomatch z) (p.up _ (nxt_lt g) _ hm)
        exact absurd (top_uni this.2 t) e
    · rw [if_neg h1]
      simp only [if_true]
      rw [foldY_mem]
      exact .inr ⟨hm, t.2 k hk e⟩
end
end Qk17

namespace Qk17
open PySem L2 RF
structure RI (c : CA) (n : Nat) (o : Nat → Mk) (Rw : Nat) (ls : List Nat) (ys : Nat → Nat) (Y : Nat → List Mk) (S : Sto) : Prop where
  rows : S[Rw]? = some (.lst (ls.map D.ref))
  len : ls.length = n
  row : ∀ i l, ls[i]? = some l → S[l]? = some (mkC c.c_Marks (o i).1 (some (o i)) (ys i))
  you : ∀ i, i < n → S[ys i]? = some (.dn c.w (encM (Y i)))
  inj : ∀ i j, i < n → j < n → ys i = ys j → i = j
section
variable {c : CA} {n : Nat} {o : Nat → Mk} {Rw : Nat} {ls : List Nat} {ys : Nat → Nat} {Y : Nat → List Mk} {S : Sto} {ring : Bool} {k : Nat}
theorem RI.app (h : RI c n o Rw ls ys Y S) (T : Sto) : RI c n o Rw ls ys Y (S ++ T) := ⟨app_get h.rows, h.len, fun i l hi => app_get (h.row i l hi), fun i hi => app_get (h.you i hi), h.inj⟩
theorem RI.set (h : RI c n o Rw ls ys Y S) (hk : k < n) (ms : List Mk) : RI c n o Rw ls ys (fun i => if i = k then ms else Y i) (S.set (ys k) (.dn c.w (encM ms))) := by
  have hy := h.you k hk
  refine ⟨?_, h.len, fun i l hi => ?_, fun i hi => ?_, h.inj⟩
  · rw [List.getElem?_set_ne (ne_of_cell hy h.rows (fun z => nomatch z))]; exact h.rows
  · rw [List.getElem?_set_ne (ne_of_cell hy (h.row i l hi) (by unfold mkC mkc; exact fun z => nomatch z))]; exact h.row i l hi
  · by_cases e : i = k
    · subst e
      simp only [if_true]
      exact set_get hy
    · rw [List.getElem?_set_ne (fun z => e (h.inj _ _ hi hk z.symm)), if_neg e]; exact h.you i hi
theorem RI.setL {p : Nat} {xs zs : List D} (h : RI c n o Rw ls ys Y S) (hp : S[p]? = some (.lst xs)) (hne : p ≠ Rw) : RI c n o Rw ls ys Y (S.set p (.lst zs)) := by
  refine ⟨?_, h.len, fun i l hi => ?_, fun i hi => ?_, h.inj⟩
  · rw [List.getElem?_set_ne hne]; exact h.rows
  · rw [List.getElem?_set_ne (ne_of_cell hp (h.row i l hi) (by unfold mkC mkc; exact fun z => nomatch z))]; exact h.row i l hi
  · rw [List.getElem?_set_ne (ne_of_cell hp (h.you i hi) (fun z => nomatch z))]; exact h.you i hi
theorem RI.at (h : RI c n o Rw ls ys Y S) (hk : k < n) : ∃ l, ls[k]? = some l ∧ atI (ls.map D.ref) (k : Nat) = some (.ref l) := by
  have hl : k < ls.length := by rw [h.len]; exact hk
  refine ⟨ls[k], List.getElem?_eq_getElem hl, ?_⟩
  rw [atI_nn (by omega), List.getElem?_map, show ((k : Int)).toNat = k by omega, List.getElem?_eq_getElem hl]; rfl
/-- the list of names -/
structure NI (n : Nat) (o : Nat → Mk) (N : Nat) (names : List (Int × Int)) (S : Sto) : Prop where
  cell : S[N]? = some (.lst (kT.es names))
  len : names.length = n
  eq : ∀ i, i < n → names[i]? = some (o i).1
theorem NI.at {N : Nat} {names : List (Int × Int)} (h : NI n o N names S) (hk : k < n) : atI (kT.es names) (k : Nat) = some (eT (o k).1) := by
  rw [atI_nn (by omega), show kT.es names = names.map eT from rfl, List.getElem?_map, show ((k : Int)).toNat = k by omega, h.eq k hk]; rfl
theorem nt_loop (c : CA) {N q : Nat} {v0 v2 v3 v5 : Option D} {ds : List D} {t : Int × Int} (hN : S[N]? = some (.lst ds)) (hq : atI ds (q : Nat) = some (eT t)) : ∀ (gs : List Mk) (f6 : Option D), (∀ m ∈ gs, ltT m.1 t = false) →
    ∃ f, loopX (gN 6) (lb_law_next_takes_0 c) (cM.es gs) [v0, some (.ref N), v2, v3, some (.int (q : Nat)), v5, f6] S = .ok (.nx [v0, some (.ref N), v2, v3, some (.int (q : Nat)), v5, f]) S
  | [], f6, _ => ⟨f6, rfl⟩
  | g :: gs, f6, h => by
    obtain ⟨f, hf⟩ := nt_loop c (v0 := v0) (v2 := v2) (v3 := v3) (v5 := v5) hN hq gs (some (eM g)) (fun m hm => h m (List.mem_cons_of_mem _ hm))
    refine ⟨f, ?_⟩
    show loopX (gN 6) (lb_law_next_takes_0 c) (eM g :: cM.es gs) _ S = _
    rw [← hf]
    have hg := h g (List.mem_cons_self ..)
    simp only [ap_fVar, varK_some, ap_fC, ap_fBin, ap_binK, ap_fUn, ap_fApp, ap_fNil, ap_fCons, ap_consK, ap_consK2, ap_fTup, ap_fLst, ap_tupK, ap_lstK, ap_fTest, ap_testK, ap_fVal, ap_valK, ap_fAnd, ap_fOr, ap_fNot, ap_andK, ap_orK, ap_notK, ap_fAndV, ap_fOrV, ap_fNotV, ap_andVK, ap_orVK, ap_notVK, ap_fIfE, ap_ifEK, ap_fChain, ap_chK1, ap_chK2, ap_chK3, ap_fSkip, ap_fBrk, ap_fCnt, ap_fSeq, ap_seqK_nx, ap_seqK_rt, ap_seqK_bk, ap_seqK_ct, ap_fIf, ap_ifK, ap_fRet, ap_retK, ap_fRetN, ap_fDrop, ap_dropK, ap_fAsg, ap_asgK, ap_asgK2, ap_gN, ap_gNil, ap_gCons, ap_gsK, ap_gUnp, ap_unpK, ap_gSub, ap_subK1, ap_subK2, ap_subK3, ap_fIx, ap_ixK, isDict_ref, isDict_tup, isDict_rl, isDict_str, isDictC_lst, isDictC_dk, isDictC_dt, getL_tup, getL_rl, getL_str, getL_ref, getLC_lst, retO_some, atI_0, atI_1, atI_2, atI_3, oSet_ref, setC_lst, setLK_some, ixN_0, ixN_1, ap_fCall, ap_callK, ap_fnF, ap_fnK_nx, ap_fnK_rt, o_add, o_addR, o_addC, o_addS, o_addT, o_sub, o_mul, o_mod, o_div, o_pow, o_neg, o_lt, o_le, o_gt, o_ge, o_int, o_min2, o_max2, o_leS1, o_inS1, o_isB, o_eq, o_ne, eqK_some, neK_some, eqv_int, eqv_bool, toP_int, toP_bl, toP_non, toP_str, toP_tup, toP_rl, toP_ref, toPC_lst, toP_mapM_nil, toP_mapM_cons, toP_consO, o_len, lenK_some, lenD_tup, lenD_rl, lenD_str, lenD_ref, lenC_lst, ap_fIsi, ap_isiK0, ap_isiK, ap_isiK2, ap_fTyIs, ap_tyK0, ap_tyK, ap_fFor, ap_forK_fix, ap_forK_live, loopX_nil, loopX_cons, ap_turnK0, ap_turnK_nx, ap_turnK_ct, ap_turnK_bk, ap_turnK_rt, ap_fRng1, ap_rng1K, ap_fIter, ap_iterK_rl, ap_iterK_kt, ap_iterK_tup, ap_iterK_ref, iterC_lst, ap_fIterS, ap_iterSK, ap_fComp, ap_compK_fix, ap_compK_live, compX_nil, compX_cons, ap_compTK, ap_compEK, ap_fYes, ap_fDict0, ap_fDictT0, ap_fSl, ap_slK1, ap_slK2, ap_pNo, ap_pSo, ap_pSoK, oSl_tup, oSl_str, ap_fBm, ap_bmK, tyIn_str, tyIn_ref, tyInC_lst, tyD_ref, fldsOf_ref, fldC_ins, ap_fFld, ap_fldK, ap_fldK2, ap_fSetFld, ap_sfK1, ap_sfK2, ap_sfK3, o_put, ap_putK, ap_fFldAug, ap_faK1, ap_faK2, ap_faK3, ap_faK4, ap_faK5, o_addI, ap_fMeth, ap_meK1, ap_meK2, ap_meK3, ap_fMake, ap_mkK, ap_mkK2, ap_fTru, ap_truK, ap_truK2, truD_ref, truC_lst, o_getD, o_getDK, lookD_ref, lookC_dk, setC_dk, ap_fDisp, ap_dispK, ap_dispK2, ap_prNil, ap_prCons, ap_prK, ap_prK2, ap_prK3, o_append, o_appC, o_isN, o_notN, o_nonD, o_nonT, o_nonR, o_nonI, isDict_eW, getL_eW0, getL_eW1, o_seqW, o_nonW, o_nonH, eqv_Ln, eqv_Lc, o_eH0, o_eH1, fldC_lk, fld_lkv, fld_lkt, fld_lkh, fld_lkw, fld_lkm1, fld_lkm2, fld_lkm3, fld_lkm4, fld_lkm5, fld_lklen, fld_lkpv, fld_lkpt, fld_lkph, fld_lkpw, isDictC_md, isDictC_lk, lookC_mdv, lookC_mdt, lookC_mdh, lookC_mdw, setC_mdv, setC_mdt, setC_mdh, setC_mdw, tyInC_md, o_seqR, o_seqC, fld_i1, fld_i2, fld_i3, fld_i4, fld_keyPs, fld_mdlen, fld_merge, ap_fMakeK, ap_mkKK, ap_fRng2, ap_rng2K, setC_dt, isDict_eK, o_listT, o_listTC, lookN_ref, lookNC_dn, o_inN, o_inNK, ap_fIxN, o_ixN, o_isDn, o_isNC, ap_fGetN, ap_gtK, ap_gtK2, ap_gtK3, o_getN, o_getNK, oSetN_ref, setNC_dn, setNK_some, ap_gSubN, ap_gnK, ap_gnK2, ap_gnK3, ap_fDictN0, o_listN, o_listNC, o_listNL, ap_fProp, ap_prpK, ap_prpK2, o_someMap, o_gtT, o_ltT, o_nonM, isDict_eM, getL_eM0, loopX_inv, loopX_ok, ixN_nn, o_tupR, o_tupC, fldC_mk, isDictC_mk, fldN_mk, fldL_mk_0, fldP_mk_0, fldL_mk_1, fldP_mk_1, fldL_mk_2, fldP_mk_2, fldM_mk_0, fldM_mk_1, fldM_mk_2, fldM_mk_3, fldI_mk_0, fldI_mk_1, fldI_mk_2, o_tyT, o_nonO, o_tellN, o_tellS, o_cut1, o_esN, eqv_O, fldC_sh, isDictC_sh, fldN_sh, fldL_sh_0, fldP_sh_0, fldL_sh_1, fldP_sh_1, fldM_sh_0, fldM_sh_1, fldM_sh_2, fldM_sh_3, fldM_sh_4, fldM_sh_5, fldM_sh_6, fldM_sh_7, fldM_sh_8, fldM_sh_9, fldI_sh_0, fldI_sh_1, isDictC_sm, lookC_sml, lookC_smp, fld_smkey, fld_smlen, fld_smerge, isDict_eT, getL_eT0, getL_eT1, eqv_NW, o_seqT, eqv_row, ap_fGComp, ap_gcompK_live, ap_unset0, ap_unset1, o_kKe, o_kTe, o_kKTe, ap_ptT2, o_mulT, ap_fRev, ap_revK, ap_fLstRg, ap_lstRgK, fT_eT, fT_eW, fT_eH, eqv_T, eqv_W, eqv_H, mapM_eW, eqv_Ws, eq_self, Bool.true_eq_false, Option.isNone_none, Option.isNone_some, R.bind_ok, R.bind_ex, R.bind_bad, R.nox_ok, nox_bad', List.map_cons, List.map_nil, List.length_cons, List.length_nil, List.cons_append, List.nil_append, Nat.zero_add, Nat.reduceAdd, Nat.reduceSub, List.replicate_succ, List.replicate_zero, List.getElem?_cons_zero, List.getElem?_cons_succ, List.set_cons_zero, List.set_cons_succ, List.append_nil, Bool.false_eq_true, if_true, if_false, decide_eq_true_eq, decide_true, decide_false, Nat.add_zero, reduceIte, reduceDIte, Nat.reduceLeDiff, Int.reduceLT, Int.reduceLE, Int.reduceNeg, Int.reducePow, Int.reduceMul, Int.reduceAdd, Int.reduceSub, Nat.reduceEqDiff, Nat.reducePow, true_and, and_true, or_true, true_or, false_or, or_false, and_self, Bool.not_true, Bool.not_false, Nat.reduceLT, ge_iff_le, gt_iff_lt, Nat.le_refl, Option.map_some, Bool.not_eq_true, Bool.not_eq_eq_eq_not, not_true_eq_false, not_false_eq_true, Int.reduceToNat, beq_iff_eq, Int.reduceEq, String.reduceEq, String.reduceNe, Int.reduceNe, List.set_set, get_app, get_app0, get_apps, get_apps0, set_app, set_app0, set_apps, set_apps0, List.append_assoc, Nat.add_assoc, List.toList_toArray, List.size_toArray, List.length_set, List.length_append, ap_lb_law_next_takes_0, hN, hq, o_ltT, hg]
theorem takes_eq {N : Nat} {names : List (Int × Int)} (g : Rg n o) (p : PInv n o ring Y) (h : RI c n o Rw ls ys Y S) (hN : NI n o N names S) (hk : k < n) :
    ∃ S1, F_law_next_takes c [.ref Rw, .ref N, .int (k : Nat), .bl ring] S = .ok (.bl (St n o ring Y k).2) S1 ∧ RI c n o Rw ls ys (St n o ring Y k).1 S1 ∧ Fr S S1 (fun x => ∃ i, i < n ∧ x = ys i) := by
  have top := g.top
  have hnl : (kT.es names).length = n := by rw [Cod.es_len, hN.len]
  obtain ⟨lk, hlk, hak⟩ := h.at hk
  have hrk := h.row k lk hlk
  by_cases h0 : ring = false ∧ k + 1 = n
  · refine ⟨S, ?_, by unfold St; rw [if_pos h0]; exact h, Fr.refl _ _⟩
    have hk1 : (k : Int) + 1 = ((kT.es names).length : Int) := by rw [hnl]; omega
    obtain ⟨h0, h00⟩ := h0
    have e : (St n o ring Y k).2 = false := by unfold St; rw [if_pos ⟨h0, h00⟩]
    rw [e]
    unfold F_law_next_takes b_law_next_takes
    simp only [ap_fVar, varK_some, ap_fC, ap_fBin, ap_binK, ap_fUn, ap_fApp, ap_fNil, ap_fCons, ap_consK, ap_consK2, ap_fTup, ap_fLst, ap_tupK, ap_lstK, ap_fTest, ap_testK, ap_fVal, ap_valK, ap_fAnd, ap_fOr, ap_fNot, ap_andK, ap_orK, ap_notK, ap_fAndV, ap_fOrV, ap_fNotV, ap_andVK, ap_orVK, ap_notVK, ap_fIfE, ap_ifEK, ap_fChain, ap_chK1, ap_chK2, ap_chK3, ap_fSkip, ap_fBrk, ap_fCnt, ap_fSeq, ap_seqK_nx, ap_seqK_rt, ap_seqK_bk, ap_seqK_ct, ap_fIf, ap_ifK, ap_fRet, ap_retK, ap_fRetN, ap_fDrop, ap_dropK, ap_fAsg, ap_asgK, ap_asgK2, ap_gN, ap_gNil, ap_gCons, ap_gsK, ap_gUnp, ap_unpK, ap_gSub, ap_subK1, ap_subK2, ap_subK3, ap_fIx, ap_ixK, isDict_ref, isDict_tup, isDict_rl, isDict_str, isDictC_lst, isDictC_dk, isDictC_dt, getL_tup, getL_rl, getL_str, getL_ref, getLC_lst, retO_some, atI_0, atI_1, atI_2, atI_3, oSet_ref, setC_lst, setLK_some, ixN_0, ixN_1, ap_fCall, ap_callK, ap_fnF, ap_fnK_nx, ap_fnK_rt, o_add, o_addR, o_addC, o_addS, o_addT, o_sub, o_mul, o_mod, o_div, o_pow, o_neg, o_lt, o_le, o_gt, o_ge, o_int, o_min2, o_max2, o_leS1, o_inS1, o_isB, o_eq, o_ne, eqK_some, neK_some, eqv_int, eqv_bool, toP_int, toP_bl, toP_non, toP_str, toP_tup, toP_rl, toP_ref, toPC_lst, toP_mapM_nil, toP_mapM_cons, toP_consO, o_len, lenK_some, lenD_tup, lenD_rl, lenD_str, lenD_ref, lenC_lst, ap_fIsi, ap_isiK0, ap_isiK, ap_isiK2, ap_fTyIs, ap_tyK0, ap_tyK, ap_fFor, ap_forK_fix, ap_forK_live, loopX_nil, loopX_cons, ap_turnK0, ap_turnK_nx, ap_turnK_ct, ap_turnK_bk, ap_turnK_rt, ap_fRng1, ap_rng1K, ap_fIter, ap_iterK_rl, ap_iterK_kt, ap_iterK_tup, ap_iterK_ref, iterC_lst, ap_fIterS, ap_iterSK, ap_fComp, ap_compK_fix, ap_compK_live, compX_nil, compX_cons, ap_compTK, ap_compEK, ap_fYes, ap_fDict0, ap_fDictT0, ap_fSl, ap_slK1, ap_slK2, ap_pNo, ap_pSo, ap_pSoK, oSl_tup, oSl_str, ap_fBm, ap_bmK, tyIn_str, tyIn_ref, tyInC_lst, tyD_ref, fldsOf_ref, fldC_ins, ap_fFld, ap_fldK, ap_fldK2, ap_fSetFld, ap_sfK1, ap_sfK2, ap_sfK3, o_put, ap_putK, ap_fFldAug, ap_faK1, ap_faK2, ap_faK3, ap_faK4, ap_faK5, o_addI, ap_fMeth, ap_meK1, ap_meK2, ap_meK3, ap_fMake, ap_mkK, ap_mkK2, ap_fTru, ap_truK, ap_truK2, truD_ref, truC_lst, o_getD, o_getDK, lookD_ref, lookC_dk, setC_dk, ap_fDisp, ap_dispK, ap_dispK2, ap_prNil, ap_prCons, ap_prK, ap_prK2, ap_prK3, o_append, o_appC, o_isN, o_notN, o_nonD, o_nonT, o_nonR, o_nonI, isDict_eW, getL_eW0, getL_eW1, o_seqW, o_nonW, o_nonH, eqv_Ln, eqv_Lc, o_eH0, o_eH1, fldC_lk, fld_lkv, fld_lkt, fld_lkh, fld_lkw, fld_lkm1, fld_lkm2, fld_lkm3, fld_lkm4, fld_lkm5, fld_lklen, fld_lkpv, fld_lkpt, fld_lkph, fld_lkpw, isDictC_md, isDictC_lk, lookC_mdv, lookC_mdt, lookC_mdh, lookC_mdw, setC_mdv, setC_mdt, setC_mdh, setC_mdw, tyInC_md, o_seqR, o_seqC, fld_i1, fld_i2, fld_i3, fld_i4, fld_keyPs, fld_mdlen, fld_merge, ap_fMakeK, ap_mkKK, ap_fRng2, ap_rng2K, setC_dt, isDict_eK, o_listT, o_listTC, lookN_ref, lookNC_dn, o_inN, o_inNK, ap_fIxN, o_ixN, o_isDn, o_isNC, ap_fGetN, ap_gtK, ap_gtK2, ap_gtK3, o_getN, o_getNK, oSetN_ref, setNC_dn, setNK_some, ap_gSubN, ap_gnK, ap_gnK2, ap_gnK3, ap_fDictN0, o_listN, o_listNC, o_listNL, ap_fProp, ap_prpK, ap_prpK2, o_someMap, o_gtT, o_ltT, o_nonM, isDict_eM, getL_eM0, loopX_inv, loopX_ok, ixN_nn, o_tupR, o_tupC, fldC_mk, isDictC_mk, fldN_mk, fldL_mk_0, fldP_mk_0, fldL_mk_1, fldP_mk_1, fldL_mk_2, fldP_mk_2, fldM_mk_0, fldM_mk_1, fldM_mk_2, fldM_mk_3, fldI_mk_0, fldI_mk_1, fldI_mk_2, o_tyT, o_nonO, o_tellN, o_tellS, o_cut1, o_esN, eqv_O, fldC_sh, isDictC_sh, fldN_sh, fldL_sh_0, fldP_sh_0, fldL_sh_1, fldP_sh_1, fldM_sh_0, fldM_sh_1, fldM_sh_2, fldM_sh_3, fldM_sh_4, fldM_sh_5, fldM_sh_6, fldM_sh_7, fldM_sh_8, fldM_sh_9, fldI_sh_0, fldI_sh_1, isDictC_sm, lookC_sml, lookC_smp, fld_smkey, fld_smlen, fld_smerge, isDict_eT, getL_eT0, getL_eT1, eqv_NW, o_seqT, eqv_row, ap_fGComp, ap_gcompK_live, ap_unset0, ap_unset1, o_kKe, o_kTe, o_kKTe, ap_ptT2, o_mulT, ap_fRev, ap_revK, ap_fLstRg, ap_lstRgK, fT_eT, fT_eW, fT_eH, eqv_T, eqv_W, eqv_H, mapM_eW, eqv_Ws, eq_self, Bool.true_eq_false, Option.isNone_none, Option.isNone_some, R.bind_ok, R.bind_ex, R.bind_bad, R.nox_ok, nox_bad', List.map_cons, List.map_nil, List.length_cons, List.length_nil, List.cons_append, List.nil_append, Nat.zero_add, Nat.reduceAdd, Nat.reduceSub, List.replicate_succ, List.replicate_zero, List.getElem?_cons_zero, List.getElem?_cons_succ, List.set_cons_zero, List.set_cons_succ, List.append_nil, Bool.false_eq_true, if_true, if_false, decide_eq_true_eq, decide_true, decide_false, Nat.add_zero, reduceIte, reduceDIte, Nat.reduceLeDiff, Int.reduceLT, Int.reduceLE, Int.reduceNeg, Int.reducePow, Int.reduceMul, Int.reduceAdd, Int.reduceSub, Nat.reduceEqDiff, Nat.reducePow, true_and, and_true, or_true, true_or, false_or, or_false, and_self, Bool.not_true, Bool.not_false, Nat.reduceLT, ge_iff_le, gt_iff_lt, Nat.le_refl, Option.map_some, Bool.not_eq_true, Bool.not_eq_eq_eq_not, not_true_eq_false, not_false_eq_true, Int.reduceToNat, beq_iff_eq, Int.reduceEq, String.reduceEq, String.reduceNe, Int.reduceNe, List.set_set, get_app, get_app0, get_apps, get_apps0, set_app, set_app0, set_apps, set_apps0, List.append_assoc, Nat.add_assoc, List.toList_toArray, List.size_toArray, List.length_set, List.length_append, hN.cell, hk1, h0]
  · have hr := hr_of hk h0
    have hq := nxt_lt (k := k) g
    obtain ⟨lq, hlq, haq⟩ := h.at hq
    have hnq := hN.at hq
    have hrq := h.row _ lq hlq
    obtain ⟨T, ht⟩ := told_eq c hrq (h.you _ hq) (p.oks g hq) (by have := p.len hq; omega)
    have hlow := p.low hq
    have hgo : okMs (tellL (some (o ((k + 1) % n))) (Y ((k + 1) % n))) := tellL_ok (p.oks g hq)
    have hgl : (tellL (some (o ((k + 1) % n))) (Y ((k + 1) % n))).length ≤ 1 + n := by
      show (cM.sort _).length ≤ _
      rw [Cod.sort_len, List.length_cons]
      have := p.len hq; omega
    have e2 : St n o ring Y k = if o k ∈ tellL (some (o ((k + 1) % n))) (Y ((k + 1) % n)) then (Y, true)
      else (fun i => if i = k then (tellL (some (o ((k + 1) % n))) (Y ((k + 1) % n))).foldl (addY (o k).1) (Y k) else Y i, false) := by unfold St; rw [if_neg h0]
    rw [e2]
    generalize tellL (some (o ((k + 1) % n))) (Y ((k + 1) % n)) = gs at *
    have hT := h.app T
    obtain ⟨f, hf⟩ := nt_loop c (v0 := some (.ref Rw)) (v2 := some (.int (k : Nat))) (v3 := some (.bl ring)) (v5 := some (.tup (cM.es gs))) (app_get (T := T) hN.cell) hnq gs none hlow
    have hrk2 := hT.row k lk hlk
    have hyk := hT.you k hk
    have tk := take_eq c (gs := gs) hrk2 (ne_of_cell hrk2 hyk (by unfold mkC mkc; exact fun z => nomatch z)) hyk (g.ok k hk) hgo (by have := p.len hk; omega)
    have hq' : (k : Int) + 1 = ((kT.es names).length : Int) ∧ ring = true ∧ (((k + 1) % n : Nat) : Int) = 0 ∨ (¬ (k : Int) + 1 = ((kT.es names).length : Int)) ∧ (((k + 1) % n : Nat) : Int) = (k : Int) + 1 := by
      rw [hnl]
      by_cases e : k + 1 = n
      · refine .inl ⟨by omega, ?_, by rw [e, Nat.mod_self]; rfl⟩
        cases ring with
        | true => rfl
        | false => exact absurd ⟨rfl, e⟩ h0
      · refine .inr ⟨by omega, by rw [Nat.mod_eq_of_lt (by omega)]; omega⟩
    have ff : ∀ i, i < n → (fun x => ∃ i, i < n ∧ x = ys i) (ys i) := fun i hi => ⟨i, hi, rfl⟩
    by_cases hm : o k ∈ gs
    · rw [if_pos hm] at tk ⊢
      refine ⟨S ++ T, ?_, hT, Fr.app _ _ _⟩
      unfold F_law_next_takes b_law_next_takes
      unfold mkC at hrq hrk2
      rcases hq' with ⟨q1, q2, q3⟩ | ⟨q1, q3⟩
      · rw [q3] at haq hf
        simp only [ap_fVar, varK_some, ap_fC, ap_fBin, ap_binK, ap_fUn, ap_fApp, ap_fNil, ap_fCons, ap_consK, ap_consK2, ap_fTup, ap_fLst, ap_tupK, ap_lstK, ap_fTest, ap_testK, ap_fVal, ap_valK, ap_fAnd, ap_fOr, ap_fNot, ap_andK, ap_orK, ap_notK, ap_fAndV, ap_fOrV, ap_fNotV, ap_andVK, ap_orVK, ap_notVK, ap_fIfE, ap_ifEK, ap_fChain, ap_chK1, ap_chK2, ap_chK3, ap_fSkip, ap_fBrk, ap_fCnt, ap_fSeq, ap_seqK_nx, ap_seqK_rt, ap_seqK_bk, ap_seqK_ct, ap_fIf, ap_ifK, ap_fRet, ap_retK, ap_fRetN, ap_fDrop, ap_dropK, ap_fAsg, ap_asgK, ap_asgK2, ap_gN, ap_gNil, ap_gCons, ap_gsK, ap_gUnp, ap_unpK, ap_gSub, ap_subK1, ap_subK2, ap_subK3, ap_fIx, ap_ixK, isDict_ref, isDict_tup, isDict_rl, isDict_str, isDictC_lst, isDictC_dk, isDictC_dt, getL_tup, getL_rl, getL_str, getL_ref, getLC_lst, retO_some, atI_0, atI_1, atI_2, atI_3, oSet_ref, setC_lst, setLK_some, ixN_0, ixN_1, ap_fCall, ap_callK, ap_fnF, ap_fnK_nx, ap_fnK_rt, o_add, o_addR, o_addC, o_addS, o_addT, o_sub, o_mul, o_mod, o_div, o_pow, o_neg, o_lt, o_le, o_gt, o_ge, o_int, o_min2, o_max2, o_leS1, o_inS1, o_isB, o_eq, o_ne, eqK_some, neK_some, eqv_int, eqv_bool, toP_int, toP_bl, toP_non, toP_str, toP_tup, toP_rl, toP_ref, toPC_lst, toP_mapM_nil, toP_mapM_cons, toP_consO, o_len, lenK_some, lenD_tup, lenD_rl, lenD_str, lenD_ref, lenC_lst, ap_fIsi, ap_isiK0, ap_isiK, ap_isiK2, ap_fTyIs, ap_tyK0, ap_tyK, ap_fFor, ap_forK_fix, ap_forK_live, loopX_nil, loopX_cons, ap_turnK0, ap_turnK_nx, ap_turnK_ct, ap_turnK_bk, ap_turnK_rt, ap_fRng1, ap_rng1K, ap_fIter, ap_iterK_rl, ap_iterK_kt, ap_iterK_tup, ap_iterK_ref, iterC_lst, ap_fIterS, ap_iterSK, ap_fComp, ap_compK_fix, ap_compK_live, compX_nil, compX_cons, ap_compTK, ap_compEK, ap_fYes, ap_fDict0, ap_fDictT0, ap_fSl, ap_slK1, ap_slK2, ap_pNo, ap_pSo, ap_pSoK, oSl_tup, oSl_str, ap_fBm, ap_bmK, tyIn_str, tyIn_ref, tyInC_lst, tyD_ref, fldsOf_ref, fldC_ins, ap_fFld, ap_fldK, ap_fldK2, ap_fSetFld, ap_sfK1, ap_sfK2, ap_sfK3, o_put, ap_putK, ap_fFldAug, ap_faK1, ap_faK2, ap_faK3, ap_faK4, ap_faK5, o_addI, ap_fMeth, ap_meK1, ap_meK2, ap_meK3, ap_fMake, ap_mkK, ap_mkK2, ap_fTru, ap_truK, ap_truK2, truD_ref, truC_lst, o_getD, o_getDK, lookD_ref, lookC_dk, setC_dk, ap_fDisp, ap_dispK, ap_dispK2, ap_prNil, ap_prCons, ap_prK, ap_prK2, ap_prK3, o_append, o_appC, o_isN, o_notN, o_nonD, o_nonT, o_nonR, o_nonI, isDict_eW, getL_eW0, getL_eW1, o_seqW, o_nonW, o_nonH, eqv_Ln, eqv_Lc, o_eH0, o_eH1, fldC_lk, fld_lkv, fld_lkt, fld_lkh, fld_lkw, fld_lkm1, fld_lkm2, fld_lkm3, fld_lkm4, fld_lkm5, fld_lklen, fld_lkpv, fld_lkpt, fld_lkph, fld_lkpw, isDictC_md, isDictC_lk, lookC_mdv, lookC_mdt, lookC_mdh, lookC_mdw, setC_mdv, setC_mdt, setC_mdh, setC_mdw, tyInC_md, o_seqR, o_seqC, fld_i1, fld_i2, fld_i3, fld_i4, fld_keyPs, fld_mdlen, fld_merge, ap_fMakeK, ap_mkKK, ap_fRng2, ap_rng2K, setC_dt, isDict_eK, o_listT, o_listTC, lookN_ref, lookNC_dn, o_inN, o_inNK, ap_fIxN, o_ixN, o_isDn, o_isNC, ap_fGetN, ap_gtK, ap_gtK2, ap_gtK3, o_getN, o_getNK, oSetN_ref, setNC_dn, setNK_some, ap_gSubN, ap_gnK, ap_gnK2, ap_gnK3, ap_fDictN0, o_listN, o_listNC, o_listNL, ap_fProp, ap_prpK, ap_prpK2, o_someMap, o_gtT, o_ltT, o_nonM, isDict_eM, getL_eM0, loopX_inv, loopX_ok, ixN_nn, o_tupR, o_tupC, fldC_mk, isDictC_mk, fldN_mk, fldL_mk_0, fldP_mk_0, fldL_mk_1, fldP_mk_1, fldL_mk_2, fldP_mk_2, fldM_mk_0, fldM_mk_1, fldM_mk_2, fldM_mk_3, fldI_mk_0, fldI_mk_1, fldI_mk_2, o_tyT, o_nonO, o_tellN, o_tellS, o_cut1, o_esN, eqv_O, fldC_sh, isDictC_sh, fldN_sh, fldL_sh_0, fldP_sh_0, fldL_sh_1, fldP_sh_1, fldM_sh_0, fldM_sh_1, fldM_sh_2, fldM_sh_3, fldM_sh_4, fldM_sh_5, fldM_sh_6, fldM_sh_7, fldM_sh_8, fldM_sh_9, fldI_sh_0, fldI_sh_1, isDictC_sm, lookC_sml, lookC_smp, fld_smkey, fld_smlen, fld_smerge, isDict_eT, getL_eT0, getL_eT1, eqv_NW, o_seqT, eqv_row, ap_fGComp, ap_gcompK_live, ap_unset0, ap_unset1, o_kKe, o_kTe, o_kKTe, ap_ptT2, o_mulT, ap_fRev, ap_revK, ap_fLstRg, ap_lstRgK, fT_eT, fT_eW, fT_eH, eqv_T, eqv_W, eqv_H, mapM_eW, eqv_Ws, eq_self, Bool.true_eq_false, Option.isNone_none, Option.isNone_some, R.bind_ok, R.bind_ex, R.bind_bad, R.nox_ok, nox_bad', List.map_cons, List.map_nil, List.length_cons, List.length_nil, List.cons_append, List.nil_append, Nat.zero_add, Nat.reduceAdd, Nat.reduceSub, List.replicate_succ, List.replicate_zero, List.getElem?_cons_zero, List.getElem?_cons_succ, List.set_cons_zero, List.set_cons_succ, List.append_nil, Bool.false_eq_true, if_true, if_false, decide_eq_true_eq, decide_true, decide_false, Nat.add_zero, reduceIte, reduceDIte, Nat.reduceLeDiff, Int.reduceLT, Int.reduceLE, Int.reduceNeg, Int.reducePow, Int.reduceMul, Int.reduceAdd, Int.reduceSub, Nat.reduceEqDiff, Nat.reducePow, true_and, and_true, or_true, true_or, false_or, or_false, and_self, Bool.not_true, Bool.not_false, Nat.reduceLT, ge_iff_le, gt_iff_lt, Nat.le_refl, Option.map_some, Bool.not_eq_true, Bool.not_eq_eq_eq_not, not_true_eq_false, not_false_eq_true, Int.reduceToNat, beq_iff_eq, Int.reduceEq, String.reduceEq, String.reduceNe, Int.reduceNe, List.set_set, get_app, get_app0, get_apps, get_apps0, set_app, set_app0, set_apps, set_apps0, List.append_assoc, Nat.add_assoc, List.toList_toArray, List.size_toArray, List.length_set, List.length_append, hN.cell, q1, q2, h.rows, haq, hrq, ht]
        rw [q2] at hf
        simp only [ap_fVar, varK_some, ap_fC, ap_fBin, ap_binK, ap_fUn, ap_fApp, ap_fNil, ap_fCons, ap_consK, ap_consK2, ap_fTup, ap_fLst, ap_tupK, ap_lstK, ap_fTest, ap_testK, ap_fVal, ap_valK, ap_fAnd, ap_fOr, ap_fNot, ap_andK, ap_orK, ap_notK, ap_fAndV, ap_fOrV, ap_fNotV, ap_andVK, ap_orVK, ap_notVK, ap_fIfE, ap_ifEK, ap_fChain, ap_chK1, ap_chK2, ap_chK3, ap_fSkip, ap_fBrk, ap_fCnt, ap_fSeq, ap_seqK_nx, ap_seqK_rt, ap_seqK_bk, ap_seqK_ct, ap_fIf, ap_ifK, ap_fRet, ap_retK, ap_fRetN, ap_fDrop, ap_dropK, ap_fAsg, ap_asgK, ap_asgK2, ap_gN, ap_gNil, ap_gCons, ap_gsK, ap_gUnp, ap_unpK, ap_gSub, ap_subK1, ap_subK2, ap_subK3, ap_fIx, ap_ixK, isDict_ref, isDict_tup, isDict_rl, isDict_str, isDictC_lst, isDictC_dk, isDictC_dt, getL_tup, getL_rl, getL_str, getL_ref, getLC_lst, retO_some, atI_0, atI_1, atI_2, atI_3, oSet_ref, setC_lst, setLK_some, ixN_0, ixN_1, ap_fCall, ap_callK, ap_fnF, ap_fnK_nx, ap_fnK_rt, o_add, o_addR, o_addC, o_addS, o_addT, o_sub, o_mul, o_mod, o_div, o_pow, o_neg, o_lt, o_le, o_gt, o_ge, o_int, o_min2, o_max2, o_leS1, o_inS1, o_isB, o_eq, o_ne, eqK_some, neK_some, eqv_int, eqv_bool, toP_int, toP_bl, toP_non, toP_str, toP_tup, toP_rl, toP_ref, toPC_lst, toP_mapM_nil, toP_mapM_cons, toP_consO, o_len, lenK_some, lenD_tup, lenD_rl, lenD_str, lenD_ref, lenC_lst, ap_fIsi, ap_isiK0, ap_isiK, ap_isiK2, ap_fTyIs, ap_tyK0, ap_tyK, ap_fFor, ap_forK_fix, ap_forK_live, loopX_nil, loopX_cons, ap_turnK0, ap_turnK_nx, ap_turnK_ct, ap_turnK_bk, ap_turnK_rt, ap_fRng1, ap_rng1K, ap_fIter, ap_iterK_rl, ap_iterK_kt, ap_iterK_tup, ap_iterK_ref, iterC_lst, ap_fIterS, ap_iterSK, ap_fComp, ap_compK_fix, ap_compK_live, compX_nil, compX_cons, ap_compTK, ap_compEK, ap_fYes, ap_fDict0, ap_fDictT0, ap_fSl, ap_slK1, ap_slK2, ap_pNo, ap_pSo, ap_pSoK, oSl_tup, oSl_str, ap_fBm, ap_bmK, tyIn_str, tyIn_ref, tyInC_lst, tyD_ref, fldsOf_ref, fldC_ins, ap_fFld, ap_fldK, ap_fldK2, ap_fSetFld, ap_sfK1, ap_sfK2, ap_sfK3, o_put, ap_putK, ap_fFldAug, ap_faK1, ap_faK2, ap_faK3, ap_faK4, ap_faK5, o_addI, ap_fMeth, ap_meK1, ap_meK2, ap_meK3, ap_fMake, ap_mkK, ap_mkK2, ap_fTru, ap_truK, ap_truK2, truD_ref, truC_lst, o_getD, o_getDK, lookD_ref, lookC_dk, setC_dk, ap_fDisp, ap_dispK, ap_dispK2, ap_prNil, ap_prCons, ap_prK, ap_prK2, ap_prK3, o_append, o_appC, o_isN, o_notN, o_nonD, o_nonT, o_nonR, o_nonI, isDict_eW, getL_eW0, getL_eW1, o_seqW, o_nonW, o_nonH, eqv_Ln, eqv_Lc, o_eH0, o_eH1, fldC_lk, fld_lkv, fld_lkt, fld_lkh, fld_lkw, fld_lkm1, fld_lkm2, fld_lkm3, fld_lkm4, fld_lkm5, fld_lklen, fld_lkpv, fld_lkpt, fld_lkph, fld_lkpw, isDictC_md, isDictC_lk, lookC_mdv, lookC_mdt, lookC_mdh, lookC_mdw, setC_mdv, setC_mdt, setC_mdh, setC_mdw, tyInC_md, o_seqR, o_seqC, fld_i1, fld_i2, fld_i3, fld_i4, fld_keyPs, fld_mdlen, fld_merge, ap_fMakeK, ap_mkKK, ap_fRng2, ap_rng2K, setC_dt, isDict_eK, o_listT, o_listTC, lookN_ref, lookNC_dn, o_inN, o_inNK, ap_fIxN, o_ixN, o_isDn, o_isNC, ap_fGetN, ap_gtK, ap_gtK2, ap_gtK3, o_getN, o_getNK, oSetN_ref, setNC_dn, setNK_some, ap_gSubN, ap_gnK, ap_gnK2, ap_gnK3, ap_fDictN0, o_listN, o_listNC, o_listNL, ap_fProp, ap_prpK, ap_prpK2, o_someMap, o_gtT, o_ltT, o_nonM, isDict_eM, getL_eM0, loopX_inv, loopX_ok, ixN_nn, o_tupR, o_tupC, fldC_mk, isDictC_mk, fldN_mk, fldL_mk_0, fldP_mk_0, fldL_mk_1, fldP_mk_1, fldL_mk_2, fldP_mk_2, fldM_mk_0, fldM_mk_1, fldM_mk_2, fldM_mk_3, fldI_mk_0, fldI_mk_1, fldI_mk_2, o_tyT, o_nonO, o_tellN, o_tellS, o_cut1, o_esN, eqv_O, fldC_sh, isDictC_sh, fldN_sh, fldL_sh_0, fldP_sh_0, fldL_sh_1, fldP_sh_1, fldM_sh_0, fldM_sh_1, fldM_sh_2, fldM_sh_3, fldM_sh_4, fldM_sh_5, fldM_sh_6, fldM_sh_7, fldM_sh_8, fldM_sh_9, fldI_sh_0, fldI_sh_1, isDictC_sm, lookC_sml, lookC_smp, fld_smkey, fld_smlen, fld_smerge, isDict_eT, getL_eT0, getL_eT1, eqv_NW, o_seqT, eqv_row, ap_fGComp, ap_gcompK_live, ap_unset0, ap_unset1, o_kKe, o_kTe, o_kKTe, ap_ptT2, o_mulT, ap_fRev, ap_revK, ap_fLstRg, ap_lstRgK, fT_eT, fT_eW, fT_eH, eqv_T, eqv_W, eqv_H, mapM_eW, eqv_Ws, eq_self, Bool.true_eq_false, Option.isNone_none, Option.isNone_some, R.bind_ok, R.bind_ex, R.bind_bad, R.nox_ok, nox_bad', List.map_cons, List.map_nil, List.length_cons, List.length_nil, List.cons_append, List.nil_append, Nat.zero_add, Nat.reduceAdd, Nat.reduceSub, List.replicate_succ, List.replicate_zero, List.getElem?_cons_zero, List.getElem?_cons_succ, List.set_cons_zero, List.set_cons_succ, List.append_nil, Bool.false_eq_true, if_true, if_false, decide_eq_true_eq, decide_true, decide_false, Nat.add_zero, reduceIte, reduceDIte, Nat.reduceLeDiff, Int.reduceLT, Int.reduceLE, Int.reduceNeg, Int.reducePow, Int.reduceMul, Int.reduceAdd, Int.reduceSub, Nat.reduceEqDiff, Nat.reducePow, true_and, and_true, or_true, true_or, false_or, or_false, and_self, Bool.not_true, Bool.not_false, Nat.reduceLT, ge_iff_le, gt_iff_lt, Nat.le_refl, Option.map_some, Bool.not_eq_true, Bool.not_eq_eq_eq_not, not_true_eq_false, not_false_eq_true, Int.reduceToNat, beq_iff_eq, Int.reduceEq, String.reduceEq, String.reduceNe, Int.reduceNe, List.set_set, get_app, get_app0, get_apps, get_apps0, set_app, set_app0, set_apps, set_apps0, List.append_assoc, Nat.add_assoc, List.toList_toArray, List.size_toArray, List.length_set, List.length_append, hf, hT.rows, hak, hrk2, tk]
      · rw [q3] at haq hf
        simp only [ap_fVar, varK_some, ap_fC, ap_fBin, ap_binK, ap_fUn, ap_fApp, ap_fNil, ap_fCons, ap_consK, ap_consK2, ap_fTup, ap_fLst, ap_tupK, ap_lstK, ap_fTest, ap_testK, ap_fVal, ap_valK, ap_fAnd, ap_fOr, ap_fNot, ap_andK, ap_orK, ap_notK, ap_fAndV, ap_fOrV, ap_fNotV, ap_andVK, ap_orVK, ap_notVK, ap_fIfE, ap_ifEK, ap_fChain, ap_chK1, ap_chK2, ap_chK3, ap_fSkip, ap_fBrk, ap_fCnt, ap_fSeq, ap_seqK_nx, ap_seqK_rt, ap_seqK_bk, ap_seqK_ct, ap_fIf, ap_ifK, ap_fRet, ap_retK, ap_fRetN, ap_fDrop, ap_dropK, ap_fAsg, ap_asgK, ap_asgK2, ap_gN, ap_gNil, ap_gCons, ap_gsK, ap_gUnp, ap_unpK, ap_gSub, ap_subK1, ap_subK2, ap_subK3, ap_fIx, ap_ixK, isDict_ref, isDict_tup, isDict_rl, isDict_str, isDictC_lst, isDictC_dk, isDictC_dt, getL_tup, getL_rl, getL_str, getL_ref, getLC_lst, retO_some, atI_0, atI_1, atI_2, atI_3, oSet_ref, setC_lst, setLK_some, ixN_0, ixN_1, ap_fCall, ap_callK, ap_fnF, ap_fnK_nx, ap_fnK_rt, o_add, o_addR, o_addC, o_addS, o_addT, o_sub, o_mul, o_mod, o_div, o_pow, o_neg, o_lt, o_le, o_gt, o_ge, o_int, o_min2, o_max2, o_leS1, o_inS1, o_isB, o_eq, o_ne, eqK_some, neK_some, eqv_int, eqv_bool, toP_int, toP_bl, toP_non, toP_str, toP_tup, toP_rl, toP_ref, toPC_lst, toP_mapM_nil, toP_mapM_cons, toP_consO, o_len, lenK_some, lenD_tup, lenD_rl, lenD_str, lenD_ref, lenC_lst, ap_fIsi, ap_isiK0, ap_isiK, ap_isiK2, ap_fTyIs, ap_tyK0, ap_tyK, ap_fFor, ap_forK_fix, ap_forK_live, loopX_nil, loopX_cons, ap_turnK0, ap_turnK_nx, ap_turnK_ct, ap_turnK_bk, ap_turnK_rt, ap_fRng1, ap_rng1K, ap_fIter, ap_iterK_rl, ap_iterK_kt, ap_iterK_tup, ap_iterK_ref, iterC_lst, ap_fIterS, ap_iterSK, ap_fComp, ap_compK_fix, ap_compK_live, compX_nil, compX_cons, ap_compTK, ap_compEK, ap_fYes, ap_fDict0, ap_fDictT0, ap_fSl, ap_slK1, ap_slK2, ap_pNo, ap_pSo, ap_pSoK, oSl_tup, oSl_str, ap_fBm, ap_bmK, tyIn_str, tyIn_ref, tyInC_lst, tyD_ref, fldsOf_ref, fldC_ins, ap_fFld, ap_fldK, ap_fldK2, ap_fSetFld, ap_sfK1, ap_sfK2, ap_sfK3, o_put, ap_putK, ap_fFldAug, ap_faK1, ap_faK2, ap_faK3, ap_faK4, ap_faK5, o_addI, ap_fMeth, ap_meK1, ap_meK2, ap_meK3, ap_fMake, ap_mkK, ap_mkK2, ap_fTru, ap_truK, ap_truK2, truD_ref, truC_lst, o_getD, o_getDK, lookD_ref, lookC_dk, setC_dk, ap_fDisp, ap_dispK, ap_dispK2, ap_prNil, ap_prCons, ap_prK, ap_prK2, ap_prK3, o_append, o_appC, o_isN, o_notN, o_nonD, o_nonT, o_nonR, o_nonI, isDict_eW, getL_eW0, getL_eW1, o_seqW, o_nonW, o_nonH, eqv_Ln, eqv_Lc, o_eH0, o_eH1, fldC_lk, fld_lkv, fld_lkt, fld_lkh, fld_lkw, fld_lkm1, fld_lkm2, fld_lkm3, fld_lkm4, fld_lkm5, fld_lklen, fld_lkpv, fld_lkpt, fld_lkph, fld_lkpw, isDictC_md, isDictC_lk, lookC_mdv, lookC_mdt, lookC_mdh, lookC_mdw, setC_mdv, setC_mdt, setC_mdh, setC_mdw, tyInC_md, o_seqR, o_seqC, fld_i1, fld_i2, fld_i3, fld_i4, fld_keyPs, fld_mdlen, fld_merge, ap_fMakeK, ap_mkKK, ap_fRng2, ap_rng2K, setC_dt, isDict_eK, o_listT, o_listTC, lookN_ref, lookNC_dn, o_inN, o_inNK, ap_fIxN, o_ixN, o_isDn, o_isNC, ap_fGetN, ap_gtK, ap_gtK2, ap_gtK3, o_getN, o_getNK, oSetN_ref, setNC_dn, setNK_some, ap_gSubN, ap_gnK, ap_gnK2, ap_gnK3, ap_fDictN0, o_listN, o_listNC, o_listNL, ap_fProp, ap_prpK, ap_prpK2, o_someMap, o_gtT, o_ltT, o_nonM, isDict_eM, getL_eM0, loopX_inv, loopX_ok, ixN_nn, o_tupR, o_tupC, fldC_mk, isDictC_mk, fldN_mk, fldL_mk_0, fldP_mk_0, fldL_mk_1, fldP_mk_1, fldL_mk_2, fldP_mk_2, fldM_mk_0, fldM_mk_1, fldM_mk_2, fldM_mk_3, fldI_mk_0, fldI_mk_1, fldI_mk_2, o_tyT, o_nonO, o_tellN, o_tellS, o_cut1, o_esN, eqv_O, fldC_sh, isDictC_sh, fldN_sh, fldL_sh_0, fldP_sh_0, fldL_sh_1, fldP_sh_1, fldM_sh_0, fldM_sh_1, fldM_sh_2, fldM_sh_3, fldM_sh_4, fldM_sh_5, fldM_sh_6, fldM_sh_7, fldM_sh_8, fldM_sh_9, fldI_sh_0, fldI_sh_1, isDictC_sm, lookC_sml, lookC_smp, fld_smkey, fld_smlen, fld_smerge, isDict_eT, getL_eT0, getL_eT1, eqv_NW, o_seqT, eqv_row, ap_fGComp, ap_gcompK_live, ap_unset0, ap_unset1, o_kKe, o_kTe, o_kKTe, ap_ptT2, o_mulT, ap_fRev, ap_revK, ap_fLstRg, ap_lstRgK, fT_eT, fT_eW, fT_eH, eqv_T, eqv_W, eqv_H, mapM_eW, eqv_Ws, eq_self, Bool.true_eq_false, Option.isNone_none, Option.isNone_some, R.bind_ok, R.bind_ex, R.bind_bad, R.nox_ok, nox_bad', List.map_cons, List.map_nil, List.length_cons, List.length_nil, List.cons_append, List.nil_append, Nat.zero_add, Nat.reduceAdd, Nat.reduceSub, List.replicate_succ, List.replicate_zero, List.getElem?_cons_zero, List.getElem?_cons_succ, List.set_cons_zero, List.set_cons_succ, List.append_nil, Bool.false_eq_true, if_true, if_false, decide_eq_true_eq, decide_true, decide_false, Nat.add_zero, reduceIte, reduceDIte, Nat.reduceLeDiff, Int.reduceLT, Int.reduceLE, Int.reduceNeg, Int.reducePow, Int.reduceMul, Int.reduceAdd, Int.reduceSub, Nat.reduceEqDiff, Nat.reducePow, true_and, and_true, or_true, true_or, false_or, or_false, and_self, Bool.not_true, Bool.not_false, Nat.reduceLT, ge_iff_le, gt_iff_lt, Nat.le_refl, Option.map_some, Bool.not_eq_true, Bool.not_eq_eq_eq_not, not_true_eq_false, not_false_eq_true, Int.reduceToNat, beq_iff_eq, Int.reduceEq, String.reduceEq, String.reduceNe, Int.reduceNe, List.set_set, get_app, get_app0, get_apps, get_apps0, set_app, set_app0, set_apps, set_apps0, List.append_assoc, Nat.add_assoc, List.toList_toArray, List.size_toArray, List.length_set, List.length_append, hN.cell, q1, h.rows, haq, hrq, ht, hf, hT.rows, hak, hrk2, tk]
    · rw [if_neg hm] at tk ⊢
      refine ⟨_, ?_, hT.set hk _, (Fr.app _ _ _).trans (Fr.set (ff k hk))⟩
      unfold F_law_next_takes b_law_next_takes
      unfold mkC at hrq hrk2
      rcases hq' with ⟨q1, q2, q3⟩ | ⟨q1, q3⟩
      · rw [q3] at haq hf
        simp only [ap_fVar, varK_some, ap_fC, ap_fBin, ap_binK, ap_fUn, ap_fApp, ap_fNil, ap_fCons, ap_consK, ap_consK2, ap_fTup, ap_fLst, ap_tupK, ap_lstK, ap_fTest, ap_testK, ap_fVal, ap_valK, ap_fAnd, ap_fOr, ap_fNot, ap_andK, ap_orK, ap_notK, ap_fAndV, ap_fOrV, ap_fNotV, ap_andVK, ap_orVK, ap_notVK, ap_fIfE, ap_ifEK, ap_fChain, ap_chK1, ap_chK2, ap_chK3, ap_fSkip, ap_fBrk, ap_fCnt, ap_fSeq, ap_seqK_nx, ap_seqK_rt, ap_seqK_bk, ap_seqK_ct, ap_fIf, ap_ifK, ap_fRet, ap_retK, ap_fRetN, ap_fDrop, ap_dropK, ap_fAsg, ap_asgK, ap_asgK2, ap_gN, ap_gNil, ap_gCons, ap_gsK, ap_gUnp, ap_unpK, ap_gSub, ap_subK1, ap_subK2, ap_subK3, ap_fIx, ap_ixK, isDict_ref, isDict_tup, isDict_rl, isDict_str, isDictC_lst, isDictC_dk, isDictC_dt, getL_tup, getL_rl, getL_str, getL_ref, getLC_lst, retO_some, atI_0, atI_1, atI_2, atI_3, oSet_ref, setC_lst, setLK_some, ixN_0, ixN_1, ap_fCall, ap_callK, ap_fnF, ap_fnK_nx, ap_fnK_rt, o_add, o_addR, o_addC, o_addS, o_addT, o_sub, o_mul, o_mod, o_div, o_pow, o_neg, o_lt, o_le, o_gt, o_ge, o_int, o_min2, o_max2, o_leS1, o_inS1, o_isB, o_eq, o_ne, eqK_some, neK_some, eqv_int, eqv_bool, toP_int, toP_bl, toP_non, toP_str, toP_tup, toP_rl, toP_ref, toPC_lst, toP_mapM_nil, toP_mapM_cons, toP_consO, o_len, lenK_some, lenD_tup, lenD_rl, lenD_str, lenD_ref, lenC_lst, ap_fIsi, ap_isiK0, ap_isiK, ap_isiK2, ap_fTyIs, ap_tyK0, ap_tyK, ap_fFor, ap_forK_fix, ap_forK_live, loopX_nil, loopX_cons, ap_turnK0, ap_turnK_nx, ap_turnK_ct, ap_turnK_bk, ap_turnK_rt, ap_fRng1, ap_rng1K, ap_fIter, ap_iterK_rl, ap_iterK_kt, ap_iterK_tup, ap_iterK_ref, iterC_lst, ap_fIterS, ap_iterSK, ap_fComp, ap_compK_fix, ap_compK_live, compX_nil, compX_cons, ap_compTK, ap_compEK, ap_fYes, ap_fDict0, ap_fDictT0, ap_fSl, ap_slK1, ap_slK2, ap_pNo, ap_pSo, ap_pSoK, oSl_tup, oSl_str, ap_fBm, ap_bmK, tyIn_str, tyIn_ref, tyInC_lst, tyD_ref, fldsOf_ref, fldC_ins, ap_fFld, ap_fldK, ap_fldK2, ap_fSetFld, ap_sfK1, ap_sfK2, ap_sfK3, o_put, ap_putK, ap_fFldAug, ap_faK1, ap_faK2, ap_faK3, ap_faK4, ap_faK5, o_addI, ap_fMeth, ap_meK1, ap_meK2, ap_meK3, ap_fMake, ap_mkK, ap_mkK2, ap_fTru, ap_truK, ap_truK2, truD_ref, truC_lst, o_getD, o_getDK, lookD_ref, lookC_dk, setC_dk, ap_fDisp, ap_dispK, ap_dispK2, ap_prNil, ap_prCons, ap_prK, ap_prK2, ap_prK3, o_append, o_appC, o_isN, o_notN, o_nonD, o_nonT, o_nonR, o_nonI, isDict_eW, getL_eW0, getL_eW1, o_seqW, o_nonW, o_nonH, eqv_Ln, eqv_Lc, o_eH0, o_eH1, fldC_lk, fld_lkv, fld_lkt, fld_lkh, fld_lkw, fld_lkm1, fld_lkm2, fld_lkm3, fld_lkm4, fld_lkm5, fld_lklen, fld_lkpv, fld_lkpt, fld_lkph, fld_lkpw, isDictC_md, isDictC_lk, lookC_mdv, lookC_mdt, lookC_mdh, lookC_mdw, setC_mdv, setC_mdt, setC_mdh, setC_mdw, tyInC_md, o_seqR, o_seqC, fld_i1, fld_i2, fld_i3, fld_i4, fld_keyPs, fld_mdlen, fld_merge, ap_fMakeK, ap_mkKK, ap_fRng2, ap_rng2K, setC_dt, isDict_eK, o_listT, o_listTC, lookN_ref, lookNC_dn, o_inN, o_inNK, ap_fIxN, o_ixN, o_isDn, o_isNC, ap_fGetN, ap_gtK, ap_gtK2, ap_gtK3, o_getN, o_getNK, oSetN_ref, setNC_dn, setNK_some, ap_gSubN, ap_gnK, ap_gnK2, ap_gnK3, ap_fDictN0, o_listN, o_listNC, o_listNL, ap_fProp, ap_prpK, ap_prpK2, o_someMap, o_gtT, o_ltT, o_nonM, isDict_eM, getL_eM0, loopX_inv, loopX_ok, ixN_nn, o_tupR, o_tupC, fldC_mk, isDictC_mk, fldN_mk, fldL_mk_0, fldP_mk_0, fldL_mk_1, fldP_mk_1, fldL_mk_2, fldP_mk_2, fldM_mk_0, fldM_mk_1, fldM_mk_2, fldM_mk_3, fldI_mk_0, fldI_mk_1, fldI_mk_2, o_tyT, o_nonO, o_tellN, o_tellS, o_cut1, o_esN, eqv_O, fldC_sh, isDictC_sh, fldN_sh, fldL_sh_0, fldP_sh_0, fldL_sh_1, fldP_sh_1, fldM_sh_0, fldM_sh_1, fldM_sh_2, fldM_sh_3, fldM_sh_4, fldM_sh_5, fldM_sh_6, fldM_sh_7, fldM_sh_8, fldM_sh_9, fldI_sh_0, fldI_sh_1, isDictC_sm, lookC_sml, lookC_smp, fld_smkey, fld_smlen, fld_smerge, isDict_eT, getL_eT0, getL_eT1, eqv_NW, o_seqT, eqv_row, ap_fGComp, ap_gcompK_live, ap_unset0, ap_unset1, o_kKe, o_kTe, o_kKTe, ap_ptT2, o_mulT, ap_fRev, ap_revK, ap_fLstRg, ap_lstRgK, fT_eT, fT_eW, fT_eH, eqv_T, eqv_W, eqv_H, mapM_eW, eqv_Ws, eq_self, Bool.true_eq_false, Option.isNone_none, Option.isNone_some, R.bind_ok, R.bind_ex, R.bind_bad, R.nox_ok, nox_bad', List.map_cons, List.map_nil, List.length_cons, List.length_nil, List.cons_append, List.nil_append, Nat.zero_add, Nat.reduceAdd, Nat.reduceSub, List.replicate_succ, List.replicate_zero, List.getElem?_cons_zero, List.getElem?_cons_succ, List.set_cons_zero, List.set_cons_succ, List.append_nil, Bool.false_eq_true, if_true, if_false, decide_eq_true_eq, decide_true, decide_false, Nat.add_zero, reduceIte, reduceDIte, Nat.reduceLeDiff, Int.reduceLT, Int.reduceLE, Int.reduceNeg, Int.reducePow, Int.reduceMul, Int.reduceAdd, Int.reduceSub, Nat.reduceEqDiff, Nat.reducePow, true_and, and_true, or_true, true_or, false_or, or_false, and_self, Bool.not_true, Bool.not_false, Nat.reduceLT, ge_iff_le, gt_iff_lt, Nat.le_refl, Option.map_some, Bool.not_eq_true, Bool.not_eq_eq_eq_not, not_true_eq_false, not_false_eq_true, Int.reduceToNat, beq_iff_eq, Int.reduceEq, String.reduceEq, String.reduceNe, Int.reduceNe, List.set_set, get_app, get_app0, get_apps, get_apps0, set_app, set_app0, set_apps, set_apps0, List.append_assoc, Nat.add_assoc, List.toList_toArray, List.size_toArray, List.length_set, List.length_append, hN.cell, q1, q2, h.rows, haq, hrq, ht]
        rw [q2] at hf
        simp only [ap_fVar, varK_some, ap_fC, ap_fBin, ap_binK, ap_fUn, ap_fApp, ap_fNil, ap_fCons, ap_consK, ap_consK2, ap_fTup, ap_fLst, ap_tupK, ap_lstK, ap_fTest, ap_testK, ap_fVal, ap_valK, ap_fAnd, ap_fOr, ap_fNot, ap_andK, ap_orK, ap_notK, ap_fAndV, ap_fOrV, ap_fNotV, ap_andVK, ap_orVK, ap_notVK, ap_fIfE, ap_ifEK, ap_fChain, ap_chK1, ap_chK2, ap_chK3, ap_fSkip, ap_fBrk, ap_fCnt, ap_fSeq, ap_seqK_nx, ap_seqK_rt, ap_seqK_bk, ap_seqK_ct, ap_fIf, ap_ifK, ap_fRet, ap_retK, ap_fRetN, ap_fDrop, ap_dropK, ap_fAsg, ap_asgK, ap_asgK2, ap_gN, ap_gNil, ap_gCons, ap_gsK, ap_gUnp, ap_unpK, ap_gSub, ap_subK1, ap_subK2, ap_subK3, ap_fIx, ap_ixK, isDict_ref, isDict_tup, isDict_rl, isDict_str, isDictC_lst, isDictC_dk, isDictC_dt, getL_tup, getL_rl, getL_str, getL_ref, getLC_lst, retO_some, atI_0, atI_1, atI_2, atI_3, oSet_ref, setC_lst, setLK_some, ixN_0, ixN_1, ap_fCall, ap_callK, ap_fnF, ap_fnK_nx, ap_fnK_rt, o_add, o_addR, o_addC, o_addS, o_addT, o_sub, o_mul, o_mod, o_div, o_pow, o_neg, o_lt, o_le, o_gt, o_ge, o_int, o_min2, o_max2, o_leS1, o_inS1, o_isB, o_eq, o_ne, eqK_some, neK_some, eqv_int, eqv_bool, toP_int, toP_bl, toP_non, toP_str, toP_tup, toP_rl, toP_ref, toPC_lst, toP_mapM_nil, toP_mapM_cons, toP_consO, o_len, lenK_some, lenD_tup, lenD_rl, lenD_str, lenD_ref, lenC_lst, ap_fIsi, ap_isiK0, ap_isiK, ap_isiK2, ap_fTyIs, ap_tyK0, ap_tyK, ap_fFor, ap_forK_fix, ap_forK_live, loopX_nil, loopX_cons, ap_turnK0, ap_turnK_nx, ap_turnK_ct, ap_turnK_bk, ap_turnK_rt, ap_fRng1, ap_rng1K, ap_fIter, ap_iterK_rl, ap_iterK_kt, ap_iterK_tup, ap_iterK_ref, iterC_lst, ap_fIterS, ap_iterSK, ap_fComp, ap_compK_fix, ap_compK_live, compX_nil, compX_cons, ap_compTK, ap_compEK, ap_fYes, ap_fDict0, ap_fDictT0, ap_fSl, ap_slK1, ap_slK2, ap_pNo, ap_pSo, ap_pSoK, oSl_tup, oSl_str, ap_fBm, ap_bmK, tyIn_str, tyIn_ref, tyInC_lst, tyD_ref, fldsOf_ref, fldC_ins, ap_fFld, ap_fldK, ap_fldK2, ap_fSetFld, ap_sfK1, ap_sfK2, ap_sfK3, o_put, ap_putK, ap_fFldAug, ap_faK1, ap_faK2, ap_faK3, ap_faK4, ap_faK5, o_addI, ap_fMeth, ap_meK1, ap_meK2, ap_meK3, ap_fMake, ap_mkK, ap_mkK2, ap_fTru, ap_truK, ap_truK2, truD_ref, truC_lst, o_getD, o_getDK, lookD_ref, lookC_dk, setC_dk, ap_fDisp, ap_dispK, ap_dispK2, ap_prNil, ap_prCons, ap_prK, ap_prK2, ap_prK3, o_append, o_appC, o_isN, o_notN, o_nonD, o_nonT, o_nonR, o_nonI, isDict_eW, getL_eW0, getL_eW1, o_seqW, o_nonW, o_nonH, eqv_Ln, eqv_Lc, o_eH0, o_eH1, fldC_lk, fld_lkv, fld_lkt, fld_lkh, fld_lkw, fld_lkm1, fld_lkm2, fld_lkm3, fld_lkm4, fld_lkm5, fld_lklen, fld_lkpv, fld_lkpt, fld_lkph, fld_lkpw, isDictC_md, isDictC_lk, lookC_mdv, lookC_mdt, lookC_mdh, lookC_mdw, setC_mdv, setC_mdt, setC_mdh, setC_mdw, tyInC_md, o_seqR, o_seqC, fld_i1, fld_i2, fld_i3, fld_i4, fld_keyPs, fld_mdlen, fld_merge, ap_fMakeK, ap_mkKK, ap_fRng2, ap_rng2K, setC_dt, isDict_eK, o_listT, o_listTC, lookN_ref, lookNC_dn, o_inN, o_inNK, ap_fIxN, o_ixN, o_isDn, o_isNC, ap_fGetN, ap_gtK, ap_gtK2, ap_gtK3, o_getN, o_getNK, oSetN_ref, setNC_dn, setNK_some, ap_gSubN, ap_gnK, ap_gnK2, ap_gnK3, ap_fDictN0, o_listN, o_listNC, o_listNL, ap_fProp, ap_prpK, ap_prpK2, o_someMap, o_gtT, o_ltT, o_nonM, isDict_eM, getL_eM0, loopX_inv, loopX_ok, ixN_nn, o_tupR, o_tupC, fldC_mk, isDictC_mk, fldN_mk, fldL_mk_0, fldP_mk_0, fldL_mk_1, fldP_mk_1, fldL_mk_2, fldP_mk_2, fldM_mk_0, fldM_mk_1, fldM_mk_2, fldM_mk_3, fldI_mk_0, fldI_mk_1, fldI_mk_2, o_tyT, o_nonO, o_tellN, o_tellS, o_cut1, o_esN, eqv_O, fldC_sh, isDictC_sh, fldN_sh, fldL_sh_0, fldP_sh_0, fldL_sh_1, fldP_sh_1, fldM_sh_0, fldM_sh_1, fldM_sh_2, fldM_sh_3, fldM_sh_4, fldM_sh_5, fldM_sh_6, fldM_sh_7, fldM_sh_8, fldM_sh_9, fldI_sh_0, fldI_sh_1, isDictC_sm, lookC_sml, lookC_smp, fld_smkey, fld_smlen, fld_smerge, isDict_eT, getL_eT0, getL_eT1, eqv_NW, o_seqT, eqv_row, ap_fGComp, ap_gcompK_live, ap_unset0, ap_unset1, o_kKe, o_kTe, o_kKTe, ap_ptT2, o_mulT, ap_fRev, ap_revK, ap_fLstRg, ap_lstRgK, fT_eT, fT_eW, fT_eH, eqv_T, eqv_W, eqv_H, mapM_eW, eqv_Ws, eq_self, Bool.true_eq_false, Option.isNone_none, Option.isNone_some, R.bind_ok, R.bind_ex, R.bind_bad, R.nox_ok, nox_bad', List.map_cons, List.map_nil, List.length_cons, List.length_nil, List.cons_append, List.nil_append, Nat.zero_add, Nat.reduceAdd, Nat.reduceSub, List.replicate_succ, List.replicate_zero, List.getElem?_cons_zero, List.getElem?_cons_succ, List.set_cons_zero, List.set_cons_succ, List.append_nil, Bool.false_eq_true, if_true, if_false, decide_eq_true_eq, decide_true, decide_false, Nat.add_zero, reduceIte, reduceDIte, Nat.reduceLeDiff, Int.reduceLT, Int.reduceLE, Int.reduceNeg, Int.reducePow, Int.reduceMul, Int.reduceAdd, Int.reduceSub, Nat.reduceEqDiff, Nat.reducePow, true_and, and_true, or_true, true_or, false_or, or_false, and_self, Bool.not_true, Bool.not_false, Nat.reduceLT, ge_iff_le, gt_iff_lt, Nat.le_refl, Option.map_some, Bool.not_eq_true, Bool.not_eq_eq_eq_not, not_true_eq_false, not_false_eq_true, Int.reduceToNat, beq_iff_eq, Int.reduceEq, String.reduceEq, String.reduceNe, Int.reduceNe, List.set_set, get_app, get_app0, get_apps, get_apps0, set_app, set_app0, set_apps, set_apps0, List.append_assoc, Nat.add_assoc, List.toList_toArray, List.size_toArray, List.length_set, List.length_append, hf, hT.rows, hak, hrk2, tk]
      · rw [q3] at haq hf
        simp only [ap_fVar, varK_some, ap_fC, ap_fBin, ap_binK, ap_fUn, ap_fApp, ap_fNil, ap_fCons, ap_consK, ap_consK2, ap_fTup, ap_fLst, ap_tupK, ap_lstK, ap_fTest, ap_testK, ap_fVal, ap_valK, ap_fAnd, ap_fOr, ap_fNot, ap_andK, ap_orK, ap_notK, ap_fAndV, ap_fOrV, ap_fNotV, ap_andVK, ap_orVK, ap_notVK, ap_fIfE, ap_ifEK, ap_fChain, ap_chK1, ap_chK2, ap_chK3, ap_fSkip, ap_fBrk, ap_fCnt, ap_fSeq, ap_seqK_nx, ap_seqK_rt, ap_seqK_bk, ap_seqK_ct, ap_fIf, ap_ifK, ap_fRet, ap_retK, ap_fRetN, ap_fDrop, ap_dropK, ap_fAsg, ap_asgK, ap_asgK2, ap_gN, ap_gNil, ap_gCons, ap_gsK, ap_gUnp, ap_unpK, ap_gSub, ap_subK1, ap_subK2, ap_subK3, ap_fIx, ap_ixK, isDict_ref, isDict_tup, isDict_rl, isDict_str, isDictC_lst, isDictC_dk, isDictC_dt, getL_tup, getL_rl, getL_str, getL_ref, getLC_lst, retO_some, atI_0, atI_1, atI_2, atI_3, oSet_ref, setC_lst, setLK_some, ixN_0, ixN_1, ap_fCall, ap_callK, ap_fnF, ap_fnK_nx, ap_fnK_rt, o_add, o_addR, o_addC, o_addS, o_addT, o_sub, o_mul, o_mod, o_div, o_pow, o_neg, o_lt, o_le, o_gt, o_ge, o_int, o_min2, o_max2, o_leS1, o_inS1, o_isB, o_eq, o_ne, eqK_some, neK_some, eqv_int, eqv_bool, toP_int, toP_bl, toP_non, toP_str, toP_tup, toP_rl, toP_ref, toPC_lst, toP_mapM_nil, toP_mapM_cons, toP_consO, o_len, lenK_some, lenD_tup, lenD_rl, lenD_str, lenD_ref, lenC_lst, ap_fIsi, ap_isiK0, ap_isiK, ap_isiK2, ap_fTyIs, ap_tyK0, ap_tyK, ap_fFor, ap_forK_fix, ap_forK_live, loopX_nil, loopX_cons, ap_turnK0, ap_turnK_nx, ap_turnK_ct, ap_turnK_bk, ap_turnK_rt, ap_fRng1, ap_rng1K, ap_fIter, ap_iterK_rl, ap_iterK_kt, ap_iterK_tup, ap_iterK_ref, iterC_lst, ap_fIterS, ap_iterSK, ap_fComp, ap_compK_fix, ap_compK_live, compX_nil, compX_cons, ap_compTK, ap_compEK, ap_fYes, ap_fDict0, ap_fDictT0, ap_fSl, ap_slK1, ap_slK2, ap_pNo, ap_pSo, ap_pSoK, oSl_tup, oSl_str, ap_fBm, ap_bmK, tyIn_str, tyIn_ref, tyInC_lst, tyD_ref, fldsOf_ref, fldC_ins, ap_fFld, ap_fldK, ap_fldK2, ap_fSetFld, ap_sfK1, ap_sfK2, ap_sfK3, o_put, ap_putK, ap_fFldAug, ap_faK1, ap_faK2, ap_faK3, ap_faK4, ap_faK5, o_addI, ap_fMeth, ap_meK1, ap_meK2, ap_meK3, ap_fMake, ap_mkK, ap_mkK2, ap_fTru, ap_truK, ap_truK2, truD_ref, truC_lst, o_getD, o_getDK, lookD_ref, lookC_dk, setC_dk, ap_fDisp, ap_dispK, ap_dispK2, ap_prNil, ap_prCons, ap_prK, ap_prK2, ap_prK3, o_append, o_appC, o_isN, o_notN, o_nonD, o_nonT, o_nonR, o_nonI, isDict_eW, getL_eW0, getL_eW1, o_seqW, o_nonW, o_nonH, eqv_Ln, eqv_Lc, o_eH0, o_eH1, fldC_lk, fld_lkv, fld_lkt, fld_lkh, fld_lkw, fld_lkm1, fld_lkm2, fld_lkm3, fld_lkm4, fld_lkm5, fld_lklen, fld_lkpv, fld_lkpt, fld_lkph, fld_lkpw, isDictC_md, isDictC_lk, lookC_mdv, lookC_mdt, lookC_mdh, lookC_mdw, setC_mdv, setC_mdt, setC_mdh, setC_mdw, tyInC_md, o_seqR, o_seqC, fld_i1, fld_i2, fld_i3, fld_i4, fld_keyPs, fld_mdlen, fld_merge, ap_fMakeK, ap_mkKK, ap_fRng2, ap_rng2K, setC_dt, isDict_eK, o_listT, o_listTC, lookN_ref, lookNC_dn, o_inN, o_inNK, ap_fIxN, o_ixN, o_isDn, o_isNC, ap_fGetN, ap_gtK, ap_gtK2, ap_gtK3, o_getN, o_getNK, oSetN_ref, setNC_dn, setNK_some, ap_gSubN, ap_gnK, ap_gnK2, ap_gnK3, ap_fDictN0, o_listN, o_listNC, o_listNL, ap_fProp, ap_prpK, ap_prpK2, o_someMap, o_gtT, o_ltT, o_nonM, isDict_eM, getL_eM0, loopX_inv, loopX_ok, ixN_nn, o_tupR, o_tupC, fldC_mk, isDictC_mk, fldN_mk, fldL_mk_0, fldP_mk_0, fldL_mk_1, fldP_mk_1, fldL_mk_2, fldP_mk_2, fldM_mk_0, fldM_mk_1, fldM_mk_2, fldM_mk_3, fldI_mk_0, fldI_mk_1, fldI_mk_2, o_tyT, o_nonO, o_tellN, o_tellS, o_cut1, o_esN, eqv_O, fldC_sh, isDictC_sh, fldN_sh, fldL_sh_0, fldP_sh_0, fldL_sh_1, fldP_sh_1, fldM_sh_0, fldM_sh_1, fldM_sh_2, fldM_sh_3, fldM_sh_4, fldM_sh_5, fldM_sh_6, fldM_sh_7, fldM_sh_8, fldM_sh_9, fldI_sh_0, fldI_sh_1, isDictC_sm, lookC_sml, lookC_smp, fld_smkey, fld_smlen, fld_smerge, isDict_eT, getL_eT0, getL_eT1, eqv_NW, o_seqT, eqv_row, ap_fGComp, ap_gcompK_live, ap_unset0, ap_unset1, o_kKe, o_kTe, o_kKTe, ap_ptT2, o_mulT, ap_fRev, ap_revK, ap_fLstRg, ap_lstRgK, fT_eT, fT_eW, fT_eH, eqv_T, eqv_W, eqv_H, mapM_eW, eqv_Ws, eq_self, Bool.true_eq_false, Option.isNone_none, Option.isNone_some, R.bind_ok, R.bind_ex, R.bind_bad, R.nox_ok, nox_bad', List.map_cons, List.map_nil, List.length_cons, List.length_nil, List.cons_append, List.nil_append, Nat.zero_add, Nat.reduceAdd, Nat.reduceSub, List.replicate_succ, List.replicate_zero, List.getElem?_cons_zero, List.getElem?_cons_succ, List.set_cons_zero, List.set_cons_succ, List.append_nil, Bool.false_eq_true, if_true, if_false, decide_eq_true_eq, decide_true, decide_false, Nat.add_zero, reduceIte, reduceDIte, Nat.reduceLeDiff, Int.reduceLT, Int.reduceLE, Int.reduceNeg, Int.reducePow, Int.reduceMul, Int.reduceAdd, Int.reduceSub, Nat.reduceEqDiff, Nat.reducePow, true_and, and_true, or_true, true_or, false_or, or_false, and_self, Bool.not_true, Bool.not_false, Nat.reduceLT, ge_iff_le, gt_iff_lt, Nat.le_refl, Option.map_some, Bool.not_eq_true, Bool.not_eq_eq_eq_not, not_true_eq_false, not_false_eq_true, Int.reduceToNat, beq_iff_eq, Int.reduceEq, String.reduceEq, String.reduceNe, Int.reduceNe, List.set_set, get_app, get_app0, get_apps, get_apps0, set_app, set_app0, set_apps, set_apps0, List.append_assoc, Nat.add_assoc, List.toList_toArray, List.size_toArray, List.length_set, List.length_append, hN.cell, q1, h.rows, haq, hrq, ht, hf, hT.rows, hak, hrk2, tk]
end
end Qk17

namespace Qk17
open PySem L2 RF
theorem names_turn (c : CA) {st N : Nat} {s : Sd} {S : Sto} {names : List (Int × Int)} {v2 v3 : Option D} {d : D} (hs : S[st]? = some (stC s)) (hN : S[N]? = some (.lst (kT.es names))) (hne : st ≠ N) (hl : names.length < 1000) :
    ∃ S1 s1 t v, Turn1 (gN 2) (lb_law_names_0 c) d [some (.ref st), some (.ref N), v2, v3] S [some (.ref st), some (.ref N), some d, v] S1 ∧ S1[st]? = some (stC s1) ∧ S1[N]? = some (.lst (kT.es (if t ∈ names then names else names ++ [t]))) := by
  have hN2 : ∀ {x : Cell}, (S.set st x)[N]? = some (.lst (kT.es names)) := by intro x; rw [List.getElem?_set_ne hne]; exact hN
  unfold Turn1
  by_cases hm : (dTr s).1 ∈ names
  · have hin := Cod.oin (C := kT.toCod) (neg := true) (hN2 (x := stC (dTr s).2)) (fun _ _ => trivial) (a := (dTr s).1) trivial (b := true) (by simp [hm])
    change oInL true (eT (dTr s).1) _ _ = _ at hin
    refine ⟨S.set st (stC (dTr s).2), (dTr s).2, (dTr s).1, some (eT (dTr s).1), ?_, set_get hs, by rw [if_pos hm]; exact hN2⟩
    simp only [ap_fVar, varK_some, ap_fC, ap_fBin, ap_binK, ap_fUn, ap_fApp, ap_fNil, ap_fCons, ap_consK, ap_consK2, ap_fTup, ap_fLst, ap_tupK, ap_lstK, ap_fTest, ap_testK, ap_fVal, ap_valK, ap_fAnd, ap_fOr, ap_fNot, ap_andK, ap_orK, ap_notK, ap_fAndV, ap_fOrV, ap_fNotV, ap_andVK, ap_orVK, ap_notVK, ap_fIfE, ap_ifEK, ap_fChain, ap_chK1, ap_chK2, ap_chK3, ap_fSkip, ap_fBrk, ap_fCnt, ap_fSeq, ap_seqK_nx, ap_seqK_rt, ap_seqK_bk, ap_seqK_ct, ap_fIf, ap_ifK, ap_fRet, ap_retK, ap_fRetN, ap_fDrop, ap_dropK, ap_fAsg, ap_asgK, ap_asgK2, ap_gN, ap_gNil, ap_gCons, ap_gsK, ap_gUnp, ap_unpK, ap_gSub, ap_subK1, ap_subK2, ap_subK3, ap_fIx, ap_ixK, isDict_ref, isDict_tup, isDict_rl, isDict_str, isDictC_lst, isDictC_dk, isDictC_dt, getL_tup, getL_rl, getL_str, getL_ref, getLC_lst, retO_some, atI_0, atI_1, atI_2, atI_3, oSet_ref, setC_lst, setLK_some, ixN_0, ixN_1, ap_fCall, ap_callK, ap_fnF, ap_fnK_nx, ap_fnK_rt, o_add, o_addR, o_addC, o_addS, o_addT, o_sub, o_mul, o_mod, o_div, o_pow, o_neg, o_lt, o_le, o_gt, o_ge, o_int, o_min2, o_max2, o_leS1, o_inS1, o_isB, o_eq, o_ne, eqK_some, neK_some, eqv_int, eqv_bool, toP_int, toP_bl, toP_non, toP_str, toP_tup, toP_rl, toP_ref, toPC_lst, toP_mapM_nil, toP_mapM_cons, toP_consO, o_len, lenK_some, lenD_tup, lenD_rl, lenD_str, lenD_ref, lenC_lst, ap_fIsi, ap_isiK0, ap_isiK, ap_isiK2, ap_fTyIs, ap_tyK0, ap_tyK, ap_fFor, ap_forK_fix, ap_forK_live, loopX_nil, loopX_cons, ap_turnK0, ap_turnK_nx, ap_turnK_ct, ap_turnK_bk, ap_turnK_rt, ap_fRng1, ap_rng1K, ap_fIter, ap_iterK_rl, ap_iterK_kt, ap_iterK_tup, ap_iterK_ref, iterC_lst, ap_fIterS, ap_iterSK, ap_fComp, ap_compK_fix, ap_compK_live, compX_nil, compX_cons, ap_compTK, ap_compEK, ap_fYes, ap_fDict0, ap_fDictT0, ap_fSl, ap_slK1, ap_slK2, ap_pNo, ap_pSo, ap_pSoK, oSl_tup, oSl_str, ap_fBm, ap_bmK, tyIn_str, tyIn_ref, tyInC_lst, tyD_ref, fldsOf_ref, fldC_ins, ap_fFld, ap_fldK, ap_fldK2, ap_fSetFld, ap_sfK1, ap_sfK2, ap_sfK3, o_put, ap_putK, ap_fFldAug, ap_faK1, ap_faK2, ap_faK3, ap_faK4, ap_faK5, o_addI, ap_fMeth, ap_meK1, ap_meK2, ap_meK3, ap_fMake, ap_mkK, ap_mkK2, ap_fTru, ap_truK, ap_truK2, truD_ref, truC_lst, o_getD, o_getDK, lookD_ref, lookC_dk, setC_dk, ap_fDisp, ap_dispK, ap_dispK2, ap_prNil, ap_prCons, ap_prK, ap_prK2, ap_prK3, o_append, o_appC, o_isN, o_notN, o_nonD, o_nonT, o_nonR, o_nonI, isDict_eW, getL_eW0, getL_eW1, o_seqW, o_nonW, o_nonH, eqv_Ln, eqv_Lc, o_eH0, o_eH1, fldC_lk, fld_lkv, fld_lkt, fld_lkh, fld_lkw, fld_lkm1, fld_lkm2, fld_lkm3, fld_lkm4, fld_lkm5, fld_lklen, fld_lkpv, fld_lkpt, fld_lkph, fld_lkpw, isDictC_md, isDictC_lk, lookC_mdv, lookC_mdt, lookC_mdh, lookC_mdw, setC_mdv, setC_mdt, setC_mdh, setC_mdw, tyInC_md, o_seqR, o_seqC, fld_i1, fld_i2, fld_i3, fld_i4, fld_keyPs, fld_mdlen, fld_merge, ap_fMakeK, ap_mkKK, ap_fRng2, ap_rng2K, setC_dt, isDict_eK, o_listT, o_listTC, lookN_ref, lookNC_dn, o_inN, o_inNK, ap_fIxN, o_ixN, o_isDn, o_isNC, ap_fGetN, ap_gtK, ap_gtK2, ap_gtK3, o_getN, o_getNK, oSetN_ref, setNC_dn, setNK_some, ap_gSubN, ap_gnK, ap_gnK2, ap_gnK3, ap_fDictN0, o_listN, o_listNC, o_listNL, ap_fProp, ap_prpK, ap_prpK2, o_someMap, o_gtT, o_ltT, o_nonM, isDict_eM, getL_eM0, loopX_inv, loopX_ok, ixN_nn, o_tupR, o_tupC, fldC_mk, isDictC_mk, fldN_mk, fldL_mk_0, fldP_mk_0, fldL_mk_1, fldP_mk_1, fldL_mk_2, fldP_mk_2, fldM_mk_0, fldM_mk_1, fldM_mk_2, fldM_mk_3, fldI_mk_0, fldI_mk_1, fldI_mk_2, o_tyT, o_nonO, o_tellN, o_tellS, o_cut1, o_esN, eqv_O, fldC_sh, isDictC_sh, fldN_sh, fldL_sh_0, fldP_sh_0, fldL_sh_1, fldP_sh_1, fldM_sh_0, fldM_sh_1, fldM_sh_2, fldM_sh_3, fldM_sh_4, fldM_sh_5, fldM_sh_6, fldM_sh_7, fldM_sh_8, fldM_sh_9, fldI_sh_0, fldI_sh_1, isDictC_sm, lookC_sml, lookC_smp, fld_smkey, fld_smlen, fld_smerge, isDict_eT, getL_eT0, getL_eT1, eqv_NW, o_seqT, eqv_row, ap_fGComp, ap_gcompK_live, ap_unset0, ap_unset1, o_kKe, o_kTe, o_kKTe, ap_ptT2, o_mulT, ap_fRev, ap_revK, ap_fLstRg, ap_lstRgK, fT_eT, fT_eW, fT_eH, eqv_T, eqv_W, eqv_H, mapM_eW, eqv_Ws, eq_self, Bool.true_eq_false, Option.isNone_none, Option.isNone_some, R.bind_ok, R.bind_ex, R.bind_bad, R.nox_ok, nox_bad', List.map_cons, List.map_nil, List.length_cons, List.length_nil, List.cons_append, List.nil_append, Nat.zero_add, Nat.reduceAdd, Nat.reduceSub, List.replicate_succ, List.replicate_zero, List.getElem?_cons_zero, List.getElem?_cons_succ, List.set_cons_zero, List.set_cons_succ, List.append_nil, Bool.false_eq_true, if_true, if_false, decide_eq_true_eq, decide_true, decide_false, Nat.add_zero, reduceIte, reduceDIte, Nat.reduceLeDiff, Int.reduceLT, Int.reduceLE, Int.reduceNeg, Int.reducePow, Int.reduceMul, Int.reduceAdd, Int.reduceSub, Nat.reduceEqDiff, Nat.reducePow, true_and, and_true, or_true, true_or, false_or, or_false, and_self, Bool.not_true, Bool.not_false, Nat.reduceLT, ge_iff_le, gt_iff_lt, Nat.le_refl, Option.map_some, Bool.not_eq_true, Bool.not_eq_eq_eq_not, not_true_eq_false, not_false_eq_true, Int.reduceToNat, beq_iff_eq, Int.reduceEq, String.reduceEq, String.reduceNe, Int.reduceNe, List.set_set, get_app, get_app0, get_apps, get_apps0, set_app, set_app0, set_apps, set_apps0, List.append_assoc, Nat.add_assoc, List.toList_toArray, List.size_toArray, List.length_set, List.length_append, ap_lb_law_names_0, tr_eq c hs, hin]
  · have hin := Cod.oin (C := kT.toCod) (neg := true) (hN2 (x := stC (dTr s).2)) (fun _ _ => trivial) (a := (dTr s).1) trivial (b := false) (by simp [hm])
    change oInL true (eT (dTr s).1) _ _ = _ at hin
    refine ⟨(S.set st (stC (dTr s).2)).set N (.lst (kT.es (names ++ [(dTr s).1]))), (dTr s).2, (dTr s).1, some (eT (dTr s).1), ?_, ?_, by rw [if_neg hm]; exact set_get hN2⟩
    · have hz : (kT.es names).length < 100000 := by rw [Cod.es_len]; omega
      have e9 : kT.es names ++ [eT (dTr s).1] = kT.es (names ++ [(dTr s).1]) := by unfold Cod.es; rw [List.map_append]; rfl
      simp only [ap_fVar, varK_some, ap_fC, ap_fBin, ap_binK, ap_fUn, ap_fApp, ap_fNil, ap_fCons, ap_consK, ap_consK2, ap_fTup, ap_fLst, ap_tupK, ap_lstK, ap_fTest, ap_testK, ap_fVal, ap_valK, ap_fAnd, ap_fOr, ap_fNot, ap_andK, ap_orK, ap_notK, ap_fAndV, ap_fOrV, ap_fNotV, ap_andVK, ap_orVK, ap_notVK, ap_fIfE, ap_ifEK, ap_fChain, ap_chK1, ap_chK2, ap_chK3, ap_fSkip, ap_fBrk, ap_fCnt, ap_fSeq, ap_seqK_nx, ap_seqK_rt, ap_seqK_bk, ap_seqK_ct, ap_fIf, ap_ifK, ap_fRet, ap_retK, ap_fRetN, ap_fDrop, ap_dropK, ap_fAsg, ap_asgK, ap_asgK2, ap_gN, ap_gNil, ap_gCons, ap_gsK, ap_gUnp, ap_unpK, ap_gSub, ap_subK1, ap_subK2, ap_subK3, ap_fIx, ap_ixK, isDict_ref, isDict_tup, isDict_rl, isDict_str, isDictC_lst, isDictC_dk, isDictC_dt, getL_tup, getL_rl, getL_str, getL_ref, getLC_lst, retO_some, atI_0, atI_1, atI_2, atI_3, oSet_ref, setC_lst, setLK_some, ixN_0, ixN_1, ap_fCall, ap_callK, ap_fnF, ap_fnK_nx, ap_fnK_rt, o_add, o_addR, o_addC, o_addS, o_addT, o_sub, o_mul, o_mod, o_div, o_pow, o_neg, o_lt, o_le, o_gt, o_ge, o_int, o_min2, o_max2, o_leS1, o_inS1, o_isB, o_eq, o_ne, eqK_some, neK_some, eqv_int, eqv_bool, toP_int, toP_bl, toP_non, toP_str, toP_tup, toP_rl, toP_ref, toPC_lst, toP_mapM_nil, toP_mapM_cons, toP_consO, o_len, lenK_some, lenD_tup, lenD_rl, lenD_str, lenD_ref, lenC_lst, ap_fIsi, ap_isiK0, ap_isiK, ap_isiK2, ap_fTyIs, ap_tyK0, ap_tyK, ap_fFor, ap_forK_fix, ap_forK_live, loopX_nil, loopX_cons, ap_turnK0, ap_turnK_nx, ap_turnK_ct, ap_turnK_bk, ap_turnK_rt, ap_fRng1, ap_rng1K, ap_fIter, ap_iterK_rl, ap_iterK_kt, ap_iterK_tup, ap_iterK_ref, iterC_lst, ap_fIterS, ap_iterSK, ap_fComp, ap_compK_fix, ap_compK_live, compX_nil, compX_cons, ap_compTK, ap_compEK, ap_fYes, ap_fDict0, ap_fDictT0, ap_fSl, ap_slK1, ap_slK2, ap_pNo, ap_pSo, ap_pSoK, oSl_tup, oSl_str, ap_fBm, ap_bmK, tyIn_str, tyIn_ref, tyInC_lst, tyD_ref, fldsOf_ref, fldC_ins, ap_fFld, ap_fldK, ap_fldK2, ap_fSetFld, ap_sfK1, ap_sfK2, ap_sfK3, o_put, ap_putK, ap_fFldAug, ap_faK1, ap_faK2, ap_faK3, ap_faK4, ap_faK5, o_addI, ap_fMeth, ap_meK1, ap_meK2, ap_meK3, ap_fMake, ap_mkK, ap_mkK2, ap_fTru, ap_truK, ap_truK2, truD_ref, truC_lst, o_getD, o_getDK, lookD_ref, lookC_dk, setC_dk, ap_fDisp, ap_dispK, ap_dispK2, ap_prNil, ap_prCons, ap_prK, ap_prK2, ap_prK3, o_append, o_appC, o_isN, o_notN, o_nonD, o_nonT, o_nonR, o_nonI, isDict_eW, getL_eW0, getL_eW1, o_seqW, o_nonW, o_nonH, eqv_Ln, eqv_Lc, o_eH0, o_eH1, fldC_lk, fld_lkv, fld_lkt, fld_lkh, fld_lkw, fld_lkm1, fld_lkm2, fld_lkm3, fld_lkm4, fld_lkm5, fld_lklen, fld_lkpv, fld_lkpt, fld_lkph, fld_lkpw, isDictC_md, isDictC_lk, lookC_mdv, lookC_mdt, lookC_mdh, lookC_mdw, setC_mdv, setC_mdt, setC_mdh, setC_mdw, tyInC_md, o_seqR, o_seqC, fld_i1, fld_i2, fld_i3, fld_i4, fld_keyPs, fld_mdlen, fld_merge, ap_fMakeK, ap_mkKK, ap_fRng2, ap_rng2K, setC_dt, isDict_eK, o_listT, o_listTC, lookN_ref, lookNC_dn, o_inN, o_inNK, ap_fIxN, o_ixN, o_isDn, o_isNC, ap_fGetN, ap_gtK, ap_gtK2, ap_gtK3, o_getN, o_getNK, oSetN_ref, setNC_dn, setNK_some, ap_gSubN, ap_gnK, ap_gnK2, ap_gnK3, ap_fDictN0, o_listN, o_listNC, o_listNL, ap_fProp, ap_prpK, ap_prpK2, o_someMap, o_gtT, o_ltT, o_nonM, isDict_eM, getL_eM0, loopX_inv, loopX_ok, ixN_nn, o_tupR, o_tupC, fldC_mk, isDictC_mk, fldN_mk, fldL_mk_0, fldP_mk_0, fldL_mk_1, fldP_mk_1, fldL_mk_2, fldP_mk_2, fldM_mk_0, fldM_mk_1, fldM_mk_2, fldM_mk_3, fldI_mk_0, fldI_mk_1, fldI_mk_2, o_tyT, o_nonO, o_tellN, o_tellS, o_cut1, o_esN, eqv_O, fldC_sh, isDictC_sh, fldN_sh, fldL_sh_0, fldP_sh_0, fldL_sh_1, fldP_sh_1, fldM_sh_0, fldM_sh_1, fldM_sh_2, fldM_sh_3, fldM_sh_4, fldM_sh_5, fldM_sh_6, fldM_sh_7, fldM_sh_8, fldM_sh_9, fldI_sh_0, fldI_sh_1, isDictC_sm, lookC_sml, lookC_smp, fld_smkey, fld_smlen, fld_smerge, isDict_eT, getL_eT0, getL_eT1, eqv_NW, o_seqT, eqv_row, ap_fGComp, ap_gcompK_live, ap_unset0, ap_unset1, o_kKe, o_kTe, o_kKTe, ap_ptT2, o_mulT, ap_fRev, ap_revK, ap_fLstRg, ap_lstRgK, fT_eT, fT_eW, fT_eH, eqv_T, eqv_W, eqv_H, mapM_eW, eqv_Ws, eq_self, Bool.true_eq_false, Option.isNone_none, Option.isNone_some, R.bind_ok, R.bind_ex, R.bind_bad, R.nox_ok, nox_bad', List.map_cons, List.map_nil, List.length_cons, List.length_nil, List.cons_append, List.nil_append, Nat.zero_add, Nat.reduceAdd, Nat.reduceSub, List.replicate_succ, List.replicate_zero, List.getElem?_cons_zero, List.getElem?_cons_succ, List.set_cons_zero, List.set_cons_succ, List.append_nil, Bool.false_eq_true, if_true, if_false, decide_eq_true_eq, decide_true, decide_false, Nat.add_zero, reduceIte, reduceDIte, Nat.reduceLeDiff, Int.reduceLT, Int.reduceLE, Int.reduceNeg, Int.reducePow, Int.reduceMul, Int.reduceAdd, Int.reduceSub, Nat.reduceEqDiff, Nat.reducePow, true_and, and_true, or_true, true_or, false_or, or_false, and_self, Bool.not_true, Bool.not_false, Nat.reduceLT, ge_iff_le, gt_iff_lt, Nat.le_refl, Option.map_some, Bool.not_eq_true, Bool.not_eq_eq_eq_not, not_true_eq_false, not_false_eq_true, Int.reduceToNat, beq_iff_eq, Int.reduceEq, String.reduceEq, String.reduceNe, Int.reduceNe, List.set_set, get_app, get_app0, get_apps, get_apps0, set_app, set_app0, set_apps, set_apps0, List.append_assoc, Nat.add_assoc, List.toList_toArray, List.size_toArray, List.length_set, List.length_append, ap_lb_law_names_0, tr_eq c hs, hin, hN2, hz, e9]
    · rw [List.getElem?_set_ne (fun z => hne z.symm)]; exact set_get hs
theorem names_eq (c : CA) {st : Nat} {s : Sd} {S : Sto} (hs : S[st]? = some (stC s)) :
    ∃ N S1 s1 names, F_law_names c [.ref st] S = .ok (.ref N) S1 ∧ S1[st]? = some (stC s1) ∧ S1[N]? = some (.lst (kT.es names)) ∧ st ≠ N ∧ names.Nodup ∧ 2 ≤ names.length ∧ names.length ≤ 6 := by
  have i1 := dNext_lo (size := 5) (by decide) s
  have i2 := dNext_hi (size := 5) (by decide) s
  have hst : st < S.length := (List.getElem?_eq_some_iff.mp hs).1
  let P : Nat → Lc → Sto → Prop := fun j e S1 => ∃ names s1 f2 f3, e = [some (.ref st), some (.ref S.length), f2, f3] ∧ S1[st]? = some (stC s1) ∧ S1[S.length]? = some (.lst (kT.es names)) ∧ names.Nodup ∧ names.length ≤ j ∧ j ≤ 6 ∧ (1 ≤ j → 1 ≤ names.length)
  have step : ∀ j e S1 d, (rngD 0 (2 + (dNext 5 s).1).toNat)[j]? = some d → P j e S1 → ∃ e1 S2, Turn1 (gN 2) (lb_law_names_0 c) d e S1 e1 S2 ∧ P (j + 1) e1 S2 := by
    intro j e S1 d hd hp
    obtain ⟨names, s1, f2, f3, rfl, h1, h2, h3, h4, h5, h6⟩ := hp
    have hj : j < 6 := by
      have := (List.getElem?_eq_some_iff.mp hd).1
      unfold rngD at this
      rw [List.length_map, List.length_range] at this
      omega
    obtain ⟨S2, s2, t, v, k1, k2, k3⟩ := names_turn c (v2 := f2) (v3 := f3) (d := d) h1 h2 (by omega) (by omega)
    refine ⟨_, S2, k1, _, s2, _, _, rfl, k2, k3, ?_, ?_, by omega, fun _ => ?_⟩
    · split
      · exact h3
      · rename_i hm
        exact List.nodup_append.mpr ⟨h3, (by simp), fun a ha b hb => by rw [List.mem_singleton.mp hb]; exact fun e => hm (e ▸ ha)⟩
    · split
      · omega
      · rw [List.length_append, List.length_singleton]; omega
    · split
      · rename_i hm
        exact List.length_pos_of_mem hm
      · rw [List.length_append, List.length_singleton]; omega
  obtain ⟨e1, S1, k, names, s1, f2, f3, rfl, h1, h2, h3, h4, h5, h6⟩ := loopX_ok (g := gN 2) (body := lb_law_names_0 c) (xs := rngD 0 (2 + (dNext 5 s).1).toNat) P step (e := [some (.ref st), some (.ref S.length), none, none]) (S := S.set st (stC (dNext 5 s).2) ++ [.lst []])
    ⟨[], _, none, none, rfl, app_get (set_get hs), get_apps0, List.nodup_nil, Nat.le_refl _, by omega, by omega⟩
  have hlen : (rngD 0 (2 + (dNext 5 s).1).toNat).length = (2 + (dNext 5 s).1).toNat := by unfold rngD; rw [List.length_map, List.length_range]
  rw [hlen] at h4 h5 h6
  have h6 := h6 (by omega)
  have hr : -4611686018427387904 ≤ 2 + (dNext 5 s).1 ∧ 2 + (dNext 5 s).1 < 4611686018427387904 := by omega
  unfold F_law_names b_law_names
  by_cases hl : names.length < 2
  · obtain ⟨t, rfl⟩ : ∃ t, names = [t] := by
      match names, h6, hl with
      | [t], _, _ => exact ⟨t, rfl⟩
    refine ⟨S.length, S1.set S.length (.lst (kT.es [t, (t.1, t.2 + 1)])), s1, [t, (t.1, t.2 + 1)], ?_, ?_, set_get h2, by omega, ?_, by simp, by simp⟩
    · have e1 : kT.es [t] = [eT t] := (rfl)
      have e2 : kT.es [t, (t.1, t.2 + 1)] = [eT t, .tup [.int t.1, .int (t.2 + 1)]] := (rfl)
      have e3 : eT t = .tup [.int t.1, .int t.2] := (rfl)
      rw [e1] at h2
      rw [e2]
      have hz : ((1 : Nat) : Int) < 2 := by decide
      simp only [ap_fVar, varK_some, ap_fC, ap_fBin, ap_binK, ap_fUn, ap_fApp, ap_fNil, ap_fCons, ap_consK, ap_consK2, ap_fTup, ap_fLst, ap_tupK, ap_lstK, ap_fTest, ap_testK, ap_fVal, ap_valK, ap_fAnd, ap_fOr, ap_fNot, ap_andK, ap_orK, ap_notK, ap_fAndV, ap_fOrV, ap_fNotV, ap_andVK, ap_orVK, ap_notVK, ap_fIfE, ap_ifEK, ap_fChain, ap_chK1, ap_chK2, ap_chK3, ap_fSkip, ap_fBrk, ap_fCnt, ap_fSeq, ap_seqK_nx, ap_seqK_rt, ap_seqK_bk, ap_seqK_ct, ap_fIf, ap_ifK, ap_fRet, ap_retK, ap_fRetN, ap_fDrop, ap_dropK, ap_fAsg, ap_asgK, ap_asgK2, ap_gN, ap_gNil, ap_gCons, ap_gsK, ap_gUnp, ap_unpK, ap_gSub, ap_subK1, ap_subK2, ap_subK3, ap_fIx, ap_ixK, isDict_ref, isDict_tup, isDict_rl, isDict_str, isDictC_lst, isDictC_dk, isDictC_dt, getL_tup, getL_rl, getL_str, getL_ref, getLC_lst, retO_some, atI_0, atI_1, atI_2, atI_3, oSet_ref, setC_lst, setLK_some, ixN_0, ixN_1, ap_fCall, ap_callK, ap_fnF, ap_fnK_nx, ap_fnK_rt, o_add, o_addR, o_addC, o_addS, o_addT, o_sub, o_mul, o_mod, o_div, o_pow, o_neg, o_lt, o_le, o_gt, o_ge, o_int, o_min2, o_max2, o_leS1, o_inS1, o_isB, o_eq, o_ne, eqK_some, neK_some, eqv_int, eqv_bool, toP_int, toP_bl, toP_non, toP_str, toP_tup, toP_rl, toP_ref, toPC_lst, toP_mapM_nil, toP_mapM_cons, toP_consO, o_len, lenK_some, lenD_tup, lenD_rl, lenD_str, lenD_ref, lenC_lst, ap_fIsi, ap_isiK0, ap_isiK, ap_isiK2, ap_fTyIs, ap_tyK0, ap_tyK, ap_fFor, ap_forK_fix, ap_forK_live, loopX_nil, loopX_cons, ap_turnK0, ap_turnK_nx, ap_turnK_ct, ap_turnK_bk, ap_turnK_rt, ap_fRng1, ap_rng1K, ap_fIter, ap_iterK_rl, ap_iterK_kt, ap_iterK_tup, ap_iterK_ref, iterC_lst, ap_fIterS, ap_iterSK, ap_fComp, ap_compK_fix, ap_compK_live, compX_nil, compX_cons, ap_compTK, ap_compEK, ap_fYes, ap_fDict0, ap_fDictT0, ap_fSl, ap_slK1, ap_slK2, ap_pNo, ap_pSo, ap_pSoK, oSl_tup, oSl_str, ap_fBm, ap_bmK, tyIn_str, tyIn_ref, tyInC_lst, tyD_ref, fldsOf_ref, fldC_ins, ap_fFld, ap_fldK, ap_fldK2, ap_fSetFld, ap_sfK1, ap_sfK2, ap_sfK3, o_put, ap_putK, ap_fFldAug, ap_faK1, ap_faK2, ap_faK3, ap_faK4, ap_faK5, o_addI, ap_fMeth, ap_meK1, ap_meK2, ap_meK3, ap_fMake, ap_mkK, ap_mkK2, ap_fTru, ap_truK, ap_truK2, truD_ref, truC_lst, o_getD, o_getDK, lookD_ref, lookC_dk, setC_dk, ap_fDisp, ap_dispK, ap_dispK2, ap_prNil, ap_prCons, ap_prK, ap_prK2, ap_prK3, o_append, o_appC, o_isN, o_notN, o_nonD, o_nonT, o_nonR, o_nonI, isDict_eW, getL_eW0, getL_eW1, o_seqW, o_nonW, o_nonH, eqv_Ln, eqv_Lc, o_eH0, o_eH1, fldC_lk, fld_lkv, fld_lkt, fld_lkh, fld_lkw, fld_lkm1, fld_lkm2, fld_lkm3, fld_lkm4, fld_lkm5, fld_lklen, fld_lkpv, fld_lkpt, fld_lkph, fld_lkpw, isDictC_md, isDictC_lk, lookC_mdv, lookC_mdt, lookC_mdh, lookC_mdw, setC_mdv, setC_mdt, setC_mdh, setC_mdw, tyInC_md, o_seqR, o_seqC, fld_i1, fld_i2, fld_i3, fld_i4, fld_keyPs, fld_mdlen, fld_merge, ap_fMakeK, ap_mkKK, ap_fRng2, ap_rng2K, setC_dt, isDict_eK, o_listT, o_listTC, lookN_ref, lookNC_dn, o_inN, o_inNK, ap_fIxN, o_ixN, o_isDn, o_isNC, ap_fGetN, ap_gtK, ap_gtK2, ap_gtK3, o_getN, o_getNK, oSetN_ref, setNC_dn, setNK_some, ap_gSubN, ap_gnK, ap_gnK2, ap_gnK3, ap_fDictN0, o_listN, o_listNC, o_listNL, ap_fProp, ap_prpK, ap_prpK2, o_someMap, o_gtT, o_ltT, o_nonM, isDict_eM, getL_eM0, loopX_inv, loopX_ok, ixN_nn, o_tupR, o_tupC, fldC_mk, isDictC_mk, fldN_mk, fldL_mk_0, fldP_mk_0, fldL_mk_1, fldP_mk_1, fldL_mk_2, fldP_mk_2, fldM_mk_0, fldM_mk_1, fldM_mk_2, fldM_mk_3, fldI_mk_0, fldI_mk_1, fldI_mk_2, o_tyT, o_nonO, o_tellN, o_tellS, o_cut1, o_esN, eqv_O, fldC_sh, isDictC_sh, fldN_sh, fldL_sh_0, fldP_sh_0, fldL_sh_1, fldP_sh_1, fldM_sh_0, fldM_sh_1, fldM_sh_2, fldM_sh_3, fldM_sh_4, fldM_sh_5, fldM_sh_6, fldM_sh_7, fldM_sh_8, fldM_sh_9, fldI_sh_0, fldI_sh_1, isDictC_sm, lookC_sml, lookC_smp, fld_smkey, fld_smlen, fld_smerge, isDict_eT, getL_eT0, getL_eT1, eqv_NW, o_seqT, eqv_row, ap_fGComp, ap_gcompK_live, ap_unset0, ap_unset1, o_kKe, o_kTe, o_kKTe, ap_ptT2, o_mulT, ap_fRev, ap_revK, ap_fLstRg, ap_lstRgK, fT_eT, fT_eW, fT_eH, eqv_T, eqv_W, eqv_H, mapM_eW, eqv_Ws, eq_self, Bool.true_eq_false, Option.isNone_none, Option.isNone_some, R.bind_ok, R.bind_ex, R.bind_bad, R.nox_ok, nox_bad', List.map_cons, List.map_nil, List.length_cons, List.length_nil, List.cons_append, List.nil_append, Nat.zero_add, Nat.reduceAdd, Nat.reduceSub, List.replicate_succ, List.replicate_zero, List.getElem?_cons_zero, List.getElem?_cons_succ, List.set_cons_zero, List.set_cons_succ, List.append_nil, Bool.false_eq_true, if_true, if_false, decide_eq_true_eq, decide_true, decide_false, Nat.add_zero, reduceIte, reduceDIte, Nat.reduceLeDiff, Int.reduceLT, Int.reduceLE, Int.reduceNeg, Int.reducePow, Int.reduceMul, Int.reduceAdd, Int.reduceSub, Nat.reduceEqDiff, Nat.reducePow, true_and, and_true, or_true, true_or, false_or, or_false, and_self, Bool.not_true, Bool.not_false, Nat.reduceLT, ge_iff_le, gt_iff_lt, Nat.le_refl, Option.map_some, Bool.not_eq_true, Bool.not_eq_eq_eq_not, not_true_eq_false, not_false_eq_true, Int.reduceToNat, beq_iff_eq, Int.reduceEq, String.reduceEq, String.reduceNe, Int.reduceNe, List.set_set, get_app, get_app0, get_apps, get_apps0, set_app, set_app0, set_apps, set_apps0, List.append_assoc, Nat.add_assoc, List.toList_toArray, List.size_toArray, List.length_set, List.length_append, next_eq, fT_nextC, app_get hs, app_set hs, hr, k, h2, e3, hz]
    · rw [List.getElem?_set_ne (by omega)]; exact h1
    · rw [List.nodup_cons]
      refine ⟨fun z => ?_, by simp⟩
      rw [List.mem_singleton] at z
      have := congrArg Prod.snd z
      simp only at this
      omega
  · refine ⟨S.length, S1, s1, names, ?_, h1, h2, by omega, h3, by omega, by omega⟩
    have hz : ¬ ((kT.es names).length : Int) < 2 := by rw [Cod.es_len]; omega
    simp only [ap_fVar, varK_some, ap_fC, ap_fBin, ap_binK, ap_fUn, ap_fApp, ap_fNil, ap_fCons, ap_consK, ap_consK2, ap_fTup, ap_fLst, ap_tupK, ap_lstK, ap_fTest, ap_testK, ap_fVal, ap_valK, ap_fAnd, ap_fOr, ap_fNot, ap_andK, ap_orK, ap_notK, ap_fAndV, ap_fOrV, ap_fNotV, ap_andVK, ap_orVK, ap_notVK, ap_fIfE, ap_ifEK, ap_fChain, ap_chK1, ap_chK2, ap_chK3, ap_fSkip, ap_fBrk, ap_fCnt, ap_fSeq, ap_seqK_nx, ap_seqK_rt, ap_seqK_bk, ap_seqK_ct, ap_fIf, ap_ifK, ap_fRet, ap_retK, ap_fRetN, ap_fDrop, ap_dropK, ap_fAsg, ap_asgK, ap_asgK2, ap_gN, ap_gNil, ap_gCons, ap_gsK, ap_gUnp, ap_unpK, ap_gSub, ap_subK1, ap_subK2, ap_subK3, ap_fIx, ap_ixK, isDict_ref, isDict_tup, isDict_rl, isDict_str, isDictC_lst, isDictC_dk, isDictC_dt, getL_tup, getL_rl, getL_str, getL_ref, getLC_lst, retO_some, atI_0, atI_1, atI_2, atI_3, oSet_ref, setC_lst, setLK_some, ixN_0, ixN_1, ap_fCall, ap_callK, ap_fnF, ap_fnK_nx, ap_fnK_rt, o_add, o_addR, o_addC, o_addS, o_addT, o_sub, o_mul, o_mod, o_div, o_pow, o_neg, o_lt, o_le, o_gt, o_ge, o_int, o_min2, o_max2, o_leS1, o_inS1, o_isB, o_eq, o_ne, eqK_some, neK_some, eqv_int, eqv_bool, toP_int, toP_bl, toP_non, toP_str, toP_tup, toP_rl, toP_ref, toPC_lst, toP_mapM_nil, toP_mapM_cons, toP_consO, o_len, lenK_some, lenD_tup, lenD_rl, lenD_str, lenD_ref, lenC_lst, ap_fIsi, ap_isiK0, ap_isiK, ap_isiK2, ap_fTyIs, ap_tyK0, ap_tyK, ap_fFor, ap_forK_fix, ap_forK_live, loopX_nil, loopX_cons, ap_turnK0, ap_turnK_nx, ap_turnK_ct, ap_turnK_bk, ap_turnK_rt, ap_fRng1, ap_rng1K, ap_fIter, ap_iterK_rl, ap_iterK_kt, ap_iterK_tup, ap_iterK_ref, iterC_lst, ap_fIterS, ap_iterSK, ap_fComp, ap_compK_fix, ap_compK_live, compX_nil, compX_cons, ap_compTK, ap_compEK, ap_fYes, ap_fDict0, ap_fDictT0, ap_fSl, ap_slK1, ap_slK2, ap_pNo, ap_pSo, ap_pSoK, oSl_tup, oSl_str, ap_fBm, ap_bmK, tyIn_str, tyIn_ref, tyInC_lst, tyD_ref, fldsOf_ref, fldC_ins, ap_fFld, ap_fldK, ap_fldK2, ap_fSetFld, ap_sfK1, ap_sfK2, ap_sfK3, o_put, ap_putK, ap_fFldAug, ap_faK1, ap_faK2, ap_faK3, ap_faK4, ap_faK5, o_addI, ap_fMeth, ap_meK1, ap_meK2, ap_meK3, ap_fMake, ap_mkK, ap_mkK2, ap_fTru, ap_truK, ap_truK2, truD_ref, truC_lst, o_getD, o_getDK, lookD_ref, lookC_dk, setC_dk, ap_fDisp, ap_dispK, ap_dispK2, ap_prNil, ap_prCons, ap_prK, ap_prK2, ap_prK3, o_append, o_appC, o_isN, o_notN, o_nonD, o_nonT, o_nonR, o_nonI, isDict_eW, getL_eW0, getL_eW1, o_seqW, o_nonW, o_nonH, eqv_Ln, eqv_Lc, o_eH0, o_eH1, fldC_lk, fld_lkv, fld_lkt, fld_lkh, fld_lkw, fld_lkm1, fld_lkm2, fld_lkm3, fld_lkm4, fld_lkm5, fld_lklen, fld_lkpv, fld_lkpt, fld_lkph, fld_lkpw, isDictC_md, isDictC_lk, lookC_mdv, lookC_mdt, lookC_mdh, lookC_mdw, setC_mdv, setC_mdt, setC_mdh, setC_mdw, tyInC_md, o_seqR, o_seqC, fld_i1, fld_i2, fld_i3, fld_i4, fld_keyPs, fld_mdlen, fld_merge, ap_fMakeK, ap_mkKK, ap_fRng2, ap_rng2K, setC_dt, isDict_eK, o_listT, o_listTC, lookN_ref, lookNC_dn, o_inN, o_inNK, ap_fIxN, o_ixN, o_isDn, o_isNC, ap_fGetN, ap_gtK, ap_gtK2, ap_gtK3, o_getN, o_getNK, oSetN_ref, setNC_dn, setNK_some, ap_gSubN, ap_gnK, ap_gnK2, ap_gnK3, ap_fDictN0, o_listN, o_listNC, o_listNL, ap_fProp, ap_prpK, ap_prpK2, o_someMap, o_gtT, o_ltT, o_nonM, isDict_eM, getL_eM0, loopX_inv, loopX_ok, ixN_nn, o_tupR, o_tupC, fldC_mk, isDictC_mk, fldN_mk, fldL_mk_0, fldP_mk_0, fldL_mk_1, fldP_mk_1, fldL_mk_2, fldP_mk_2, fldM_mk_0, fldM_mk_1, fldM_mk_2, fldM_mk_3, fldI_mk_0, fldI_mk_1, fldI_mk_2, o_tyT, o_nonO, o_tellN, o_tellS, o_cut1, o_esN, eqv_O, fldC_sh, isDictC_sh, fldN_sh, fldL_sh_0, fldP_sh_0, fldL_sh_1, fldP_sh_1, fldM_sh_0, fldM_sh_1, fldM_sh_2, fldM_sh_3, fldM_sh_4, fldM_sh_5, fldM_sh_6, fldM_sh_7, fldM_sh_8, fldM_sh_9, fldI_sh_0, fldI_sh_1, isDictC_sm, lookC_sml, lookC_smp, fld_smkey, fld_smlen, fld_smerge, isDict_eT, getL_eT0, getL_eT1, eqv_NW, o_seqT, eqv_row, ap_fGComp, ap_gcompK_live, ap_unset0, ap_unset1, o_kKe, o_kTe, o_kKTe, ap_ptT2, o_mulT, ap_fRev, ap_revK, ap_fLstRg, ap_lstRgK, fT_eT, fT_eW, fT_eH, eqv_T, eqv_W, eqv_H, mapM_eW, eqv_Ws, eq_self, Bool.true_eq_false, Option.isNone_none, Option.isNone_some, R.bind_ok, R.bind_ex, R.bind_bad, R.nox_ok, nox_bad', List.map_cons, List.map_nil, List.length_cons, List.length_nil, List.cons_append, List.nil_append, Nat.zero_add, Nat.reduceAdd, Nat.reduceSub, List.replicate_succ, List.replicate_zero, List.getElem?_cons_zero, List.getElem?_cons_succ, List.set_cons_zero, List.set_cons_succ, List.append_nil, Bool.false_eq_true, if_true, if_false, decide_eq_true_eq, decide_true, decide_false, Nat.add_zero, reduceIte, reduceDIte, Nat.reduceLeDiff, Int.reduceLT, Int.reduceLE, Int.reduceNeg, Int.reducePow, Int.reduceMul, Int.reduceAdd, Int.reduceSub, Nat.reduceEqDiff, Nat.reducePow, true_and, and_true, or_true, true_or, false_or, or_false, and_self, Bool.not_true, Bool.not_false, Nat.reduceLT, ge_iff_le, gt_iff_lt, Nat.le_refl, Option.map_some, Bool.not_eq_true, Bool.not_eq_eq_eq_not, not_true_eq_false, not_false_eq_true, Int.reduceToNat, beq_iff_eq, Int.reduceEq, String.reduceEq, String.reduceNe, Int.reduceNe, List.set_set, get_app, get_app0, get_apps, get_apps0, set_app, set_app0, set_apps, set_apps0, List.append_assoc, Nat.add_assoc, List.toList_toArray, List.size_toArray, List.length_set, List.length_append, next_eq, fT_nextC, app_get hs, app_set hs, hr, k, h2, hz]
end Qk17

namespace Qk17
open PySem L2 RF
/-- one more row -/
theorem RI.more {c : CA} {j : Nat} {o : Nat → Mk} {Rw : Nat} {ls : List Nat} {ys : Nat → Nat} {Y : Nat → List Mk} {S S1 : Sto} {m : Mk} {l y : Nat} (h : RI c j o Rw ls ys Y S) (hr : S1[Rw]? = some (.lst ((ls ++ [l]).map D.ref)))
    (fr : ∀ i x, i < S.length → i ≠ Rw → S[i]? = some x → (∀ a b, x ≠ stC (a, b)) → S1[i]? = some x) (hl : S1[l]? = some (mkC c.c_Marks m.1 (some m) y)) (hy : S1[y]? = some (.dn c.w [])) (hyn : S.length ≤ y) :
    RI c (j + 1) (fun i => if i = j then m else o i) Rw (ls ++ [l]) (fun i => if i = j then y else ys i) (fun i => if i = j then [] else Y i) S1 := by
  have hlt : ∀ {i : Nat} {x : Cell}, S[i]? = some x → i < S.length := fun e => (List.getElem?_eq_some_iff.mp e).1
  refine ⟨hr, by rw [List.length_append, h.len]; rfl, fun i l' hi => ?_, fun i hi => ?_, fun a b ha hb e => ?_⟩
  · by_cases e : i = j
    · subst e
      rw [List.getElem?_append_right (by rw [h.len]; exact Nat.le_refl _), h.len, Nat.sub_self] at hi
      cases hi
      simp only [if_true]; exact hl
    · have hi' : i < ls.length := by
        have := (List.getElem?_eq_some_iff.mp hi).1
        rw [List.length_append, List.length_singleton] at this
        have := h.len
        omega
      rw [List.getElem?_append_left hi'] at hi
      have k := h.row i l' hi
      simp only [if_neg e]
      exact fr l' _ (hlt k) (ne_of_cell k h.rows (by unfold mkC mkc; exact fun z => nomatch z)) k (fun a b => by unfold mkC mkc stC; exact fun z => nomatch z)
  · by_cases e : i = j
    · subst e
      simp only [if_true]; exact hy
    · have k := h.you i (by omega)
      simp only [if_neg e]
      exact fr _ _ (hlt k) (ne_of_cell k h.rows (fun z => nomatch z)) k (fun a b => by unfold stC; exact fun z => nomatch z)
  · have e : (if a = j then y else ys a) = (if b = j then y else ys b) := e
    by_cases e1 : a = j <;> by_cases e2 : b = j
    · omega
    · rw [if_pos e1, if_neg e2] at e
      have := hlt (h.you b (by omega)); omega
    · rw [if_neg e1, if_pos e2] at e
      have := hlt (h.you a (by omega)); omega
    · rw [if_neg e1, if_neg e2] at e
      exact h.inj a b (by omega) (by omega) e
def aS : Str := ⟨#[97]⟩
theorem row_turn (c : CA) {j st N Rw : Nat} {o : Nat → Mk} {ls : List Nat} {ys : Nat → Nat} {S : Sto} {s : Sd} {names : List (Int × Int)} {t : Int × Int} {v0 v1 v4 f6 v7 v8 v9 v10 v11 : Option D} (h : RI c j o Rw ls ys (fun _ => []) S) (hs : S[st]? = some (stC s)) (hN : S[N]? = some (.lst (kT.es names)))
    (ht : names[j]? = some t) (n1 : st ≠ N) (n2 : st ≠ Rw) (n3 : N ≠ Rw) (hj : j < 6) :
    ∃ m ls1 ys1 S1 s1, Turn1 (gN 6) (lb_law_0 c) (.int (0 + (j : Nat))) [v0, v1, some (.ref st), some (.ref N), v4, some (.ref Rw), f6, v7, v8, v9, v10, v11] S [v0, v1, some (.ref st), some (.ref N), v4, some (.ref Rw), some (.int (0 + (j : Nat))), v7, v8, v9, v10, v11] S1 ∧
      RI c (j + 1) (fun i => if i = j then m else o i) Rw ls1 ys1 (fun _ => []) S1 ∧ S1[st]? = some (stC s1) ∧ S1[N]? = some (.lst (kT.es names)) ∧ m.1 = t ∧ okM m := by
  have hlt : ∀ {i : Nat} {x : Cell}, S[i]? = some x → i < S.length := fun e => (List.getElem?_eq_some_iff.mp e).1
  have hst := hlt hs
  have hNl := hlt hN
  have hRl := hlt h.rows
  have hat : atI (kT.es names) (0 + (j : Nat)) = some (eT t) := by
    rw [Int.zero_add, atI_nn (by omega), show kT.es names = names.map eT from rfl, List.getElem?_map, show ((j : Int)).toNat = j by omega, ht]; rfl
  have hlen : ls.length < 100000 := by have := h.len; omega
  have hlz : (ls.map D.ref).length < 100000 := by rw [List.length_map]; exact hlen
  have hat2 : atI (ls.map D.ref ++ [D.ref S.length]) (0 + (j : Nat)) = some (.ref S.length) := by
    rw [Int.zero_add, atI_nn (by omega), show ((j : Int)).toNat = j by omega, List.getElem?_append_right (by rw [List.length_map, h.len]; exact Nat.le_refl _), List.length_map, h.len, Nat.sub_self]; rfl
  let s1 := (dNext 3 s).2
  let m : Mk := (t, 1 + (dNext 3 s).1, (0 + (j : Nat), aS), 1 + (dNext 9 s1).1)
  let s2 := (dNext 9 s1).2
  have hmk : F_Marks_init__ c [.ref S.length, eT t] (S ++ [.ins c.c_Marks []]) = .ok .non (S ++ [mkC c.c_Marks t none (S.length + 1), .dn c.w []]) := by
    have k := init_eq c (l := S.length) (S := S ++ [.ins c.c_Marks []]) (tr := t) (by rw [get_app0]; rfl)
    rw [k, set_app0, List.append_assoc, List.length_append]; rfl
  have hbg : ∀ {A : Sto}, A.length = S.length → F_Marks_begin c [.ref S.length, eM m] (A ++ [mkC c.c_Marks t none (S.length + 1), .dn c.w []]) = .ok .non (A ++ [mkC c.c_Marks t (some m) (S.length + 2), .dn c.w [], .dn c.w []]) := by
    intro A hA
    rw [← hA]
    have k := begin_eq c (l := A.length) (S := A ++ [mkC c.c_Marks t none (A.length + 1), .dn c.w []]) (tr := t) (own := none) (y := A.length + 1) (m := m) (by rw [get_app0]; rfl)
    rw [k, set_app0, List.append_assoc, List.length_append]; rfl
  have em : eM m = .tup [eT t, .int (1 + (dNext 3 s).1), .tup [.int (0 + (j : Nat)), .str aS], .int (1 + (dNext 9 s1).1)] := (rfl)
  have e8 : aS = ⟨#[97]⟩ := (rfl)
  let A := ((S.set Rw (.lst (ls.map D.ref ++ [.ref S.length]))).set st (stC s2))
  have hA : A.length = S.length := by show List.length ((S.set _ _).set _ _) = _; rw [List.length_set, List.length_set]
  have hb := hbg hA
  have a1 : A[Rw]? = some (.lst (ls.map D.ref ++ [.ref S.length])) := by
    show ((S.set _ _).set _ _)[Rw]? = _
    rw [List.getElem?_set_ne n2]; exact set_get h.rows
  have a2 : A[st]? = some (stC s2) := by
    show ((S.set _ _).set _ _)[st]? = _
    refine List.getElem?_set_self ?_
    rw [List.length_set]; exact hst
  have a3 : A[N]? = some (.lst (kT.es names)) := by
    show ((S.set _ _).set _ _)[N]? = _
    rw [List.getElem?_set_ne n1, List.getElem?_set_ne (fun z => n3 z.symm)]; exact hN
  have hRI := RI.more (m := m) (l := S.length) (y := S.length + 2) (S1 := A ++ [mkC c.c_Marks t (some m) (S.length + 2), .dn c.w [], .dn c.w []]) h (by rw [List.map_append]; exact app_get a1) (fun i x h1 h2 h3 h4 => by
      refine app_get ?_
      show ((S.set _ _).set _ _)[i]? = _
      rw [List.getElem?_set_ne (fun z => ?_), List.getElem?_set_ne (fun z => h2 z.symm)]
      · exact h3
      · subst z
        rw [hs] at h3
        exact h4 s.1 s.2 (Option.some.inj h3).symm) (by rw [← hA]; exact get_app0) (by rw [← hA, get_app]; rfl) (by omega)
  have hY : (fun i => if i = j then [] else (fun _ : Nat => ([] : List Mk)) i) = fun _ => [] := by funext i; split <;> rfl
  rw [hY] at hRI
  refine ⟨m, _, _, _, s2, ?_, hRI, app_get a2, app_get a3, rfl, ?_⟩
  · unfold Turn1
    have b1 : (S.set Rw (.lst (ls.map D.ref ++ [.ref S.length])))[st]? = some (stC s) := by rw [List.getElem?_set_ne (fun z => n2 z.symm)]; exact hs
    have b2 : (S.set Rw (.lst (ls.map D.ref ++ [.ref S.length])))[N]? = some (.lst (kT.es names)) := by rw [List.getElem?_set_ne (fun z => n3 z.symm)]; exact hN
    have b3 : ((S.set Rw (.lst (ls.map D.ref ++ [.ref S.length]))).set st (stC (dNext 3 s).2))[st]? = some (stC (dNext 3 s).2) := set_get b1
    have hb2 : F_Marks_begin c [.ref S.length, .tup [eT t, .int (1 + (dNext 3 s).1), .tup [.int (0 + (j : Nat)), .str ⟨#[97]⟩], .int (1 + (dNext 9 (dNext 3 s).2).1)]] ((S.set Rw (.lst (ls.map D.ref ++ [.ref S.length]))).set st (stC (dNext 9 (dNext 3 s).2).2) ++ [mkc c.c_Marks (eT t) (eO none) (.ref (S.length + 1)), .dn c.w []]) = .ok .non (A ++ [mkC c.c_Marks t (some m) (S.length + 2), .dn c.w [], .dn c.w []]) := hb
    unfold mkC at hmk
    simp only [ap_fVar, varK_some, ap_fC, ap_fBin, ap_binK, ap_fUn, ap_fApp, ap_fNil, ap_fCons, ap_consK, ap_consK2, ap_fTup, ap_fLst, ap_tupK, ap_lstK, ap_fTest, ap_testK, ap_fVal, ap_valK, ap_fAnd, ap_fOr, ap_fNot, ap_andK, ap_orK, ap_notK, ap_fAndV, ap_fOrV, ap_fNotV, ap_andVK, ap_orVK, ap_notVK, ap_fIfE, ap_ifEK, ap_fChain, ap_chK1, ap_chK2, ap_chK3, ap_fSkip, ap_fBrk, ap_fCnt, ap_fSeq, ap_seqK_nx, ap_seqK_rt, ap_seqK_bk, ap_seqK_ct, ap_fIf, ap_ifK, ap_fRet, ap_retK, ap_fRetN, ap_fDrop, ap_dropK, ap_fAsg, ap_asgK, ap_asgK2, ap_gN, ap_gNil, ap_gCons, ap_gsK, ap_gUnp, ap_unpK, ap_gSub, ap_subK1, ap_subK2, ap_subK3, ap_fIx, ap_ixK, isDict_ref, isDict_tup, isDict_rl, isDict_str, isDictC_lst, isDictC_dk, isDictC_dt, getL_tup, getL_rl, getL_str, getL_ref, getLC_lst, retO_some, atI_0, atI_1, atI_2, atI_3, oSet_ref, setC_lst, setLK_some, ixN_0, ixN_1, ap_fCall, ap_callK, ap_fnF, ap_fnK_nx, ap_fnK_rt, o_add, o_addR, o_addC, o_addS, o_addT, o_sub, o_mul, o_mod, o_div, o_pow, o_neg, o_lt, o_le, o_gt, o_ge, o_int, o_min2, o_max2, o_leS1, o_inS1, o_isB, o_eq, o_ne, eqK_some, neK_some, eqv_int, eqv_bool, toP_int, toP_bl, toP_non, toP_str, toP_tup, toP_rl, toP_ref, toPC_lst, toP_mapM_nil, toP_mapM_cons, toP_consO, o_len, lenK_some, lenD_tup, lenD_rl, lenD_str, lenD_ref, lenC_lst, ap_fIsi, ap_isiK0, ap_isiK, ap_isiK2, ap_fTyIs, ap_tyK0, ap_tyK, ap_fFor, ap_forK_fix, ap_forK_live, loopX_nil, loopX_cons, ap_turnK0, ap_turnK_nx, ap_turnK_ct, ap_turnK_bk, ap_turnK_rt, ap_fRng1, ap_rng1K, ap_fIter, ap_iterK_rl, ap_iterK_kt, ap_iterK_tup, ap_iterK_ref, iterC_lst, ap_fIterS, ap_iterSK, ap_fComp, ap_compK_fix, ap_compK_live, compX_nil, compX_cons, ap_compTK, ap_compEK, ap_fYes, ap_fDict0, ap_fDictT0, ap_fSl, ap_slK1, ap_slK2, ap_pNo, ap_pSo, ap_pSoK, oSl_tup, oSl_str, ap_fBm, ap_bmK, tyIn_str, tyIn_ref, tyInC_lst, tyD_ref, fldsOf_ref, fldC_ins, ap_fFld, ap_fldK, ap_fldK2, ap_fSetFld, ap_sfK1, ap_sfK2, ap_sfK3, o_put, ap_putK, ap_fFldAug, ap_faK1, ap_faK2, ap_faK3, ap_faK4, ap_faK5, o_addI, ap_fMeth, ap_meK1, ap_meK2, ap_meK3, ap_fMake, ap_mkK, ap_mkK2, ap_fTru, ap_truK, ap_truK2, truD_ref, truC_lst, o_getD, o_getDK, lookD_ref, lookC_dk, setC_dk, ap_fDisp, ap_dispK, ap_dispK2, ap_prNil, ap_prCons, ap_prK, ap_prK2, ap_prK3, o_append, o_appC, o_isN, o_notN, o_nonD, o_nonT, o_nonR, o_nonI, isDict_eW, getL_eW0, getL_eW1, o_seqW, o_nonW, o_nonH, eqv_Ln, eqv_Lc, o_eH0, o_eH1, fldC_lk, fld_lkv, fld_lkt, fld_lkh, fld_lkw, fld_lkm1, fld_lkm2, fld_lkm3, fld_lkm4, fld_lkm5, fld_lklen, fld_lkpv, fld_lkpt, fld_lkph, fld_lkpw, isDictC_md, isDictC_lk, lookC_mdv, lookC_mdt, lookC_mdh, lookC_mdw, setC_mdv, setC_mdt, setC_mdh, setC_mdw, tyInC_md, o_seqR, o_seqC, fld_i1, fld_i2, fld_i3, fld_i4, fld_keyPs, fld_mdlen, fld_merge, ap_fMakeK, ap_mkKK, ap_fRng2, ap_rng2K, setC_dt, isDict_eK, o_listT, o_listTC, lookN_ref, lookNC_dn, o_inN, o_inNK, ap_fIxN, o_ixN, o_isDn, o_isNC, ap_fGetN, ap_gtK, ap_gtK2, ap_gtK3, o_getN, o_getNK, oSetN_ref, setNC_dn, setNK_some, ap_gSubN, ap_gnK, ap_gnK2, ap_gnK3, ap_fDictN0, o_listN, o_listNC, o_listNL, ap_fProp, ap_prpK, ap_prpK2, o_someMap, o_gtT, o_ltT, o_nonM, isDict_eM, getL_eM0, loopX_inv, loopX_ok, ixN_nn, o_tupR, o_tupC, fldC_mk, isDictC_mk, fldN_mk, fldL_mk_0, fldP_mk_0, fldL_mk_1, fldP_mk_1, fldL_mk_2, fldP_mk_2, fldM_mk_0, fldM_mk_1, fldM_mk_2, fldM_mk_3, fldI_mk_0, fldI_mk_1, fldI_mk_2, o_tyT, o_nonO, o_tellN, o_tellS, o_cut1, o_esN, eqv_O, fldC_sh, isDictC_sh, fldN_sh, fldL_sh_0, fldP_sh_0, fldL_sh_1, fldP_sh_1, fldM_sh_0, fldM_sh_1, fldM_sh_2, fldM_sh_3, fldM_sh_4, fldM_sh_5, fldM_sh_6, fldM_sh_7, fldM_sh_8, fldM_sh_9, fldI_sh_0, fldI_sh_1, isDictC_sm, lookC_sml, lookC_smp, fld_smkey, fld_smlen, fld_smerge, isDict_eT, getL_eT0, getL_eT1, eqv_NW, o_seqT, eqv_row, ap_fGComp, ap_gcompK_live, ap_unset0, ap_unset1, o_kKe, o_kTe, o_kKTe, ap_ptT2, o_mulT, ap_fRev, ap_revK, ap_fLstRg, ap_lstRgK, fT_eT, fT_eW, fT_eH, eqv_T, eqv_W, eqv_H, mapM_eW, eqv_Ws, eq_self, Bool.true_eq_false, Option.isNone_none, Option.isNone_some, R.bind_ok, R.bind_ex, R.bind_bad, R.nox_ok, nox_bad', List.map_cons, List.map_nil, List.length_cons, List.length_nil, List.cons_append, List.nil_append, Nat.zero_add, Nat.reduceAdd, Nat.reduceSub, List.replicate_succ, List.replicate_zero, List.getElem?_cons_zero, List.getElem?_cons_succ, List.set_cons_zero, List.set_cons_succ, List.append_nil, Bool.false_eq_true, if_true, if_false, decide_eq_true_eq, decide_true, decide_false, Nat.add_zero, reduceIte, reduceDIte, Nat.reduceLeDiff, Int.reduceLT, Int.reduceLE, Int.reduceNeg, Int.reducePow, Int.reduceMul, Int.reduceAdd, Int.reduceSub, Nat.reduceEqDiff, Nat.reducePow, true_and, and_true, or_true, true_or, false_or, or_false, and_self, Bool.not_true, Bool.not_false, Nat.reduceLT, ge_iff_le, gt_iff_lt, Nat.le_refl, Option.map_some, Bool.not_eq_true, Bool.not_eq_eq_eq_not, not_true_eq_false, not_false_eq_true, Int.reduceToNat, beq_iff_eq, Int.reduceEq, String.reduceEq, String.reduceNe, Int.reduceNe, List.set_set, get_app, get_app0, get_apps, get_apps0, set_app, set_app0, set_apps, set_apps0, List.append_assoc, Nat.add_assoc, List.toList_toArray, List.size_toArray, List.length_set, List.length_append, ap_lb_law_0, hN, hat, hmk, h.rows, app_get h.rows, app_set h.rows, hlz, next_eq, fT_nextC, app_get b1, app_set b1, app_get b2, hat2, set_get h.rows, app_get (set_get h.rows), app_get b3, app_set b3, hb2]
  · show PyData.strOk aS = true
    decide +kernel
end Qk17

namespace Qk17
open PySem L2 RF
theorem rng_at {n j : Nat} {d : D} (h : (rngD 0 n)[j]? = some d) : d = .int (0 + (j : Nat)) ∧ j < n := by
  unfold rngD at h
  rw [List.getElem?_map] at h
  obtain ⟨k, hk, rfl⟩ := Option.map_eq_some_iff.mp h
  have := List.getElem?_eq_some_iff.mp hk
  obtain ⟨h1, h2⟩ := this
  rw [List.getElem_range] at h2
  rw [List.length_range] at h1
  subst h2
  exact ⟨rfl, h1⟩
theorem rng_len {n : Nat} : (rngD 0 n).length = n := by unfold rngD; rw [List.length_map, List.length_range]
theorem rows_loop (c : CA) {st N Rw : Nat} {S : Sto} {s : Sd} {names : List (Int × Int)} {v0 v1 v4 : Option D} (hs : S[st]? = some (stC s)) (hN : S[N]? = some (.lst (kT.es names))) (hR : S[Rw]? = some (.lst [])) (n1 : st ≠ N) (n2 : st ≠ Rw) (n3 : N ≠ Rw) (hd : names.Nodup) (h2 : 2 ≤ names.length) (h6 : names.length ≤ 6) :
    ∃ o ls ys s1 f6 S1, loopX (gN 6) (lb_law_0 c) (rngD 0 names.length) [v0, v1, some (.ref st), some (.ref N), v4, some (.ref Rw), none, none, none, none, none, none] S = .ok (.nx [v0, v1, some (.ref st), some (.ref N), v4, some (.ref Rw), f6, none, none, none, none, none]) S1 ∧
      RI c names.length o Rw ls ys (fun _ => []) S1 ∧ S1[st]? = some (stC s1) ∧ NI names.length o N names S1 ∧ Rg names.length o := by
  let P : Nat → Lc → Sto → Prop := fun j e S1 => ∃ o ls ys s1 f6, e = [v0, v1, some (.ref st), some (.ref N), v4, some (.ref Rw), f6, none, none, none, none, none] ∧ RI c j o Rw ls ys (fun _ => []) S1 ∧ S1[st]? = some (stC s1) ∧ S1[N]? = some (.lst (kT.es names)) ∧ (∀ i, i < j → names[i]? = some (o i).1 ∧ okM (o i)) ∧ j ≤ names.length
  have step : ∀ j e S1 d, (rngD 0 names.length)[j]? = some d → P j e S1 → ∃ e1 S2, Turn1 (gN 6) (lb_law_0 c) d e S1 e1 S2 ∧ P (j + 1) e1 S2 := by
    intro j e S1 d hd hp
    obtain ⟨rfl, hj⟩ := rng_at hd
    obtain ⟨o, ls, ys, s1, f6, rfl, k1, k2, k3, k4, k5⟩ := hp
    obtain ⟨m, ls1, ys1, S2, s2, t1, t2, t3, t4, t5, t6⟩ := row_turn c (v0 := v0) (v1 := v1) (v4 := v4) (f6 := f6) (v7 := none) (v8 := none) (v9 := none) (v10 := none) (v11 := none) k1 k2 k3 (List.getElem?_eq_getElem hj) n1 n2 n3 (by omega)
    refine ⟨_, S2, t1, _, ls1, ys1, s2, _, rfl, t2, t3, t4, fun i hi => ?_, by omega⟩
    by_cases e : i = j
    · subst e
      simp only [if_true]
      exact ⟨by rw [t5]; exact List.getElem?_eq_getElem hj, t6⟩
    · simp only [if_neg e]
      exact k4 i (by omega)
  obtain ⟨e1, S1, k, o, ls, ys, s1, f6, rfl, k1, k2, k3, k4, _⟩ := loopX_ok (g := gN 6) (body := lb_law_0 c) (xs := rngD 0 names.length) P step (e := [v0, v1, some (.ref st), some (.ref N), v4, some (.ref Rw), none, none, none, none, none, none]) (S := S)
    ⟨fun _ => ((0, 0), 0, (0, aS), 0), [], fun _ => 0, s, none, rfl, ⟨hR, rfl, fun i l h => (by simp at h), fun i h => absurd h (by omega), fun i j h => absurd h (by omega)⟩, hs, hN, fun i h => absurd h (by omega), Nat.zero_le _⟩
  rw [rng_len] at k1 k4
  refine ⟨o, ls, ys, s1, f6, S1, k, k1, k2, ⟨k3, rfl, fun i hi => (k4 i hi).1⟩, ⟨fun i j hi hj e => ?_, h2, h6, fun i hi => (k4 i hi).2⟩⟩
  have a1 := (k4 i hi).1
  have a2 := (k4 j hj).1
  rw [e] at a1
  have b1 := List.getElem?_eq_some_iff.mp a1
  have b2 := List.getElem?_eq_some_iff.mp a2
  obtain ⟨c1, d1⟩ := b1
  obtain ⟨c2, d2⟩ := b2
  exact (List.getElem_inj hd).mp (d1.trans d2.symm)
/-- the places that are left in a round -/
def ordD (rem : List Nat) : List D := rem.map fun i => D.int (0 + (i : Nat))
theorem ordD_rng {n : Nat} : rngD 0 n = ordD (List.range n) := (rfl)
theorem ord_len {rem : List Nat} : (ordD rem).length = rem.length := List.length_map ..
theorem erase_map {α β : Type} {f : α → β} : ∀ (l : List α) (i : Nat), (l.map f).eraseIdx i = (l.eraseIdx i).map f
  | [], i => by simp
  | a :: l, 0 => by simp
  | a :: l, i + 1 => by simp [erase_map l i]
theorem pop_at {p : Nat} {S : Sto} {rem : List Nat} {x : Int} (h : S[p]? = some (.lst (ordD rem))) (h0 : 0 ≤ x) (h1 : x < rem.length) (h2 : rem.length < 1000) :
    ∃ k, k ∈ rem ∧ mPopAt (.ref p) [.int x] S = .ok (.int (k : Nat)) (S.set p (.lst (ordD (rem.eraseIdx x.toNat)))) ∧ ∀ i ∈ rem, i ∉ rem.eraseIdx x.toNat → i = k := by
  have hlt : x.toNat < rem.length := by omega
  refine ⟨rem[x.toNat], List.getElem_mem hlt, ?_, fun i hi hn => ?_⟩
  · unfold mPopAt
    have e1 : (ordD rem)[x.toNat]? = some (.int (0 + (rem[x.toNat] : Nat))) := by unfold ordD; rw [List.getElem?_map, List.getElem?_eq_getElem hlt]; rfl
    have e2 : (ordD rem).eraseIdx x.toNat = ordD (rem.eraseIdx x.toNat) := by unfold ordD; rw [erase_map]
    simp only [h]
    rw [if_pos ⟨h0, by rw [ord_len]; exact h1, by rw [ord_len]; omega⟩, e1, e2, Int.zero_add]
  · obtain ⟨j, hj⟩ := List.getElem?_of_mem hi
    by_cases e : j = x.toNat
    · subst e
      rw [List.getElem?_eq_getElem hlt] at hj
      exact (Option.some.inj hj).symm
    · exact absurd (List.mem_eraseIdx_iff_getElem?.mpr ⟨j, e, hj⟩) hn
end Qk17

namespace Qk17
open PySem L2 RF
section
variable {c : CA} {n : Nat} {o : Nat → Mk} {ring : Bool} {Rw : Nat} {ls : List Nat} {ys : Nat → Nat} {N st h M : Nat} {names : List (Int × Int)} {Y : Nat → List Mk} {hm : List (Int × Int)} {s : Sd} {S : Sto} {r k : Nat}
/-- what the law keeps while the marks go round -/
structure MI (c : CA) (n : Nat) (o : Nat → Mk) (ring : Bool) (Rw : Nat) (ls : List Nat) (ys : Nat → Nat) (N st h M : Nat) (names : List (Int × Int)) (Y : Nat → List Mk) (hm : List (Int × Int)) (s : Sd) (S : Sto) : Prop where
  ri : RI c n o Rw ls ys Y S
  pi : PInv n o ring Y
  ni : NI n o N names S
  ss : S[st]? = some (stC s)
  hh : S[h]? = some (.lst (kT.es hm))
  ho : hm = [] ∨ (ring = true ∧ hm = [(o M).1])
theorem MI.app (m : MI c n o ring Rw ls ys N st h M names Y hm s S) (T : Sto) : MI c n o ring Rw ls ys N st h M names Y hm s (S ++ T) :=
  ⟨m.ri.app T, m.pi, ⟨app_get m.ni.cell, m.ni.len, m.ni.eq⟩, app_get m.ss, app_get m.hh, m.ho⟩
/-- the places of the law's own lists are unlike -/
structure Dst (Rw N st h : Nat) : Prop where
  a : st ≠ Rw
  b : st ≠ N
  d : st ≠ h
  e : h ≠ Rw
  f : h ≠ N
theorem MI.draw (D : Dst Rw N st h) (m : MI c n o ring Rw ls ys N st h M names Y hm s S) (s2 : Sd) : MI c n o ring Rw ls ys N st h M names Y hm s2 (S.set st (stC s2)) :=
  ⟨m.ri.setL m.ss D.a, m.pi, ⟨by rw [List.getElem?_set_ne D.b]; exact m.ni.cell, m.ni.len, m.ni.eq⟩, set_get m.ss, by rw [List.getElem?_set_ne D.d]; exact m.hh, m.ho⟩
theorem MI.pop {p : Nat} {xs zs : List D} (m : MI c n o ring Rw ls ys N st h M names Y hm s S) (hp : S[p]? = some (.lst xs)) (p1 : p ≠ Rw) (p2 : p ≠ N) (p3 : p ≠ st) (p4 : p ≠ h) : MI c n o ring Rw ls ys N st h M names Y hm s (S.set p (.lst zs)) :=
  ⟨m.ri.setL hp p1, m.pi, ⟨by rw [List.getElem?_set_ne p2]; exact m.ni.cell, m.ni.len, m.ni.eq⟩, by rw [List.getElem?_set_ne p3]; exact m.ss, by rw [List.getElem?_set_ne p4]; exact m.hh, m.ho⟩
theorem MI.home (D : Dst Rw N st h) (m : MI c n o ring Rw ls ys N st h M names Y hm s S) (hr : ring = true) : MI c n o ring Rw ls ys N st h M names Y [(o M).1] s (S.set h (.lst (kT.es [(o M).1]))) :=
  ⟨m.ri.setL m.hh D.e, m.pi, ⟨by rw [List.getElem?_set_ne D.f]; exact m.ni.cell, m.ni.len, m.ni.eq⟩, by rw [List.getElem?_set_ne (fun z => D.d z.symm)]; exact m.ss, set_get m.hh, .inr ⟨hr, rfl⟩⟩
theorem MI.takes (g : Rg n o) (m : MI c n o ring Rw ls ys N st h M names Y hm s S) (hk : k < n) :
    ∃ S1, F_law_next_takes c [.ref Rw, .ref N, .int (k : Nat), .bl ring] S = .ok (.bl (St n o ring Y k).2) S1 ∧ MI c n o ring Rw ls ys N st h M names (St n o ring Y k).1 hm s S1 ∧ ∀ (i : Nat) (xs : List D), S[i]? = some (Cell.lst xs) → S1[i]? = some (Cell.lst xs) := by
  obtain ⟨S1, a1, a2, a3⟩ := takes_eq g m.pi m.ri m.ni hk
  have kp : ∀ (i : Nat) (xs : List D), S[i]? = some (Cell.lst xs) → S1[i]? = some (Cell.lst xs) := fun i xs hi => a3.get hi (fun ⟨j, hj, e⟩ => ne_of_cell hi (m.ri.you j hj) (fun z => nomatch z) e)
  exact ⟨S1, a1, ⟨a2, st_inv g m.pi hk, ⟨kp _ _ m.ni.cell, m.ni.len, m.ni.eq⟩, kp _ _ m.ss, kp _ _ m.hh, m.ho⟩, kp⟩
/-- r rounds are done -/
def Low (n : Nat) (o : Nat → Mk) (ring : Bool) (M : Nat) (Y : Nat → List Mk) (r : Nat) : Prop := ring = true → ∀ d, 1 ≤ d → d ≤ r → d < n → o M ∈ Y ((M + n - d) % n)
/-- within a round: what the places have that had their turn -/
def Done (n : Nat) (o : Nat → Mk) (ring : Bool) (M : Nat) (Y : Nat → List Mk) (r : Nat) (hm : List (Int × Int)) (rem : List Nat) : Prop :=
  (ring = true → ∀ i, i < n → i ∉ rem → ∀ d, 1 ≤ d → d ≤ r + 1 → d < n → i = (M + n - d) % n → o M ∈ Y i) ∧ (ring = true → M ∉ rem → n ≤ r + 1 → hm ≠ [])
theorem Low.mono (l : Low n o ring M Y r) : Low n o ring M (St n o ring Y k).1 r := fun a d b c e => st_mono (l a d b c e)
theorem prem (g : Rg n o) (hM : M < n) {Y : Nat → List Mk} (l : Low n o true M Y r) {d : Nat} (d1 : 1 ≤ d) (d2 : d ≤ r + 1) (d3 : d ≤ n) (e : k = (M + n - d) % n) : M = (k + 1) % n ∨ o M ∈ Y ((k + 1) % n) := by
  have e2 : (k + 1) % n = (M + n - (d - 1)) % n := by
    rw [e, Nat.mod_add_mod, show M + n - d + 1 = M + n - (d - 1) by omega]
  by_cases h1 : d = 1
  · subst h1
    left
    rw [e2, show M + n - (1 - 1) = M + n by omega, Nat.add_mod_right, Nat.mod_eq_of_lt hM]
  · right
    rw [e2]
    exact l rfl (d - 1) (by omega) (by omega) (by omega)
theorem done_step (g : Rg n o) (t : Top n o M) (p : PInv n o ring Y) (l : Low n o ring M Y r) {rem rem2 : List Nat} {hm2 : List (Int × Int)} (dn : Done n o ring M Y r hm rem) (hk : k < n) (hrem : ∀ i ∈ rem, i ∉ rem2 → i = k)
    (hg : hm ≠ [] → hm2 ≠ []) (hb : (St n o ring Y k).2 = true → hm2 ≠ []) : Done n o ring M (St n o ring Y k).1 r hm2 rem2 := by
  have hM := t.1
  constructor
  · intro hr i hi hn d d1 d2 d3 e
    by_cases h1 : i ∈ rem
    · have hik := hrem i h1 hn
      subst hr
      rw [← hik] at hb ⊢
      have hne : i ≠ M := fun z => by
        rw [z] at e
        by_cases h2 : d ≤ M
        · rw [show M + n - d = (M - d) + n by omega, Nat.add_mod_right, Nat.mod_eq_of_lt (by omega)] at e; omega
        · rw [Nat.mod_eq_of_lt (by omega)] at e; omega
      exact (st_low g p hi t (prem g hM l d1 d2 (by omega) e)).2 hne
    · exact st_mono (dn.1 hr i hi h1 d d1 d2 d3 e)
  · intro hr hn hnr
    by_cases h1 : M ∈ rem
    · have hik := hrem M h1 hn
      subst hr
      rw [← hik] at hb
      refine hb ((st_low g p hM t (prem (k := M) g hM l (d := n) (by omega) hnr (Nat.le_refl _) ?_)).1 rfl)
      rw [Nat.add_sub_cancel, Nat.mod_eq_of_lt hM]
    · exact hg (dn.2 hr h1 hnr)
end
end Qk17

namespace Qk17
open PySem L2 RF
theorem o_nonBl {b : Bool} : isNonD (.bl b) = false := (rfl)
section
variable {c : CA} {n : Nat} {o : Nat → Mk} {ring : Bool} {Rw : Nat} {ls : List Nat} {ys : Nat → Nat} {N st h M : Nat} {names : List (Int × Int)} {Y : Nat → List Mk} {hm : List (Int × Int)} {s : Sd} {S : Sto} {r p : Nat} {rem : List Nat}
theorem turn1 (Ds : Dst Rw N st h) (g : Rg n o) (t : Top n o M) (m : MI c n o ring Rw ls ys N st h M names Y hm s S) (hp : S[p]? = some (.lst (ordD rem))) (p1 : p ≠ Rw) (p2 : p ≠ N) (p3 : p ≠ st) (p4 : p ≠ h)
    (hl0 : 0 < rem.length) (hl : rem.length ≤ 6) (hlt : ∀ i ∈ rem, i < n) (l : Low n o ring M Y r) (dn : Done n o ring M Y r hm rem) (d : D) (v0 v1 f6 v8 f10 f11 : Option D) :
    ∃ S1 Y1 hm1 s1 rem1 e10 e11, Turn1 (gN 6) (lb_law_1 c) d [v0, v1, some (.ref st), some (.ref N), some (.bl ring), some (.ref Rw), f6, some (.ref h), v8, some (.ref p), f10, f11] S [v0, v1, some (.ref st), some (.ref N), some (.bl ring), some (.ref Rw), some d, some (.ref h), v8, some (.ref p), e10, e11] S1 ∧
      MI c n o ring Rw ls ys N st h M names Y1 hm1 s1 S1 ∧ S1[p]? = some (.lst (ordD rem1)) ∧ rem1.length + 1 = rem.length ∧ (∀ i ∈ rem1, i < n) ∧ Low n o ring M Y1 r ∧ Done n o ring M Y1 r hm1 rem1 := by
  have j1 := dNext_lo (size := (rem.length : Int)) (by omega) s
  have j2 := dNext_hi (size := (rem.length : Int)) (by omega) s
  have b1 : (0 : Int) < (rem.length : Int) := by omega
  have b2 : (rem.length : Int) < 1267650600228229401496703205376 := by omega
  have m1 := m.draw Ds (dNext (rem.length : Int) s).2
  have hp1 : (S.set st (stC (dNext (rem.length : Int) s).2))[p]? = some (.lst (ordD rem)) := by rw [List.getElem?_set_ne (fun z => p3 z.symm)]; exact hp
  obtain ⟨k, hk, hpop, hrem⟩ := pop_at hp1 j1 j2 (by omega)
  have hkn := hlt k hk
  have m2 := m1.pop (zs := ordD (rem.eraseIdx (dNext (rem.length : Int) s).1.toNat)) hp1 p1 p2 p3 p4
  have hp2 : ((S.set st (stC (dNext (rem.length : Int) s).2)).set p (.lst (ordD (rem.eraseIdx (dNext (rem.length : Int) s).1.toNat))))[p]? = some (.lst (ordD (rem.eraseIdx (dNext (rem.length : Int) s).1.toNat))) := set_get hp1
  obtain ⟨S2, a1, a2, a3⟩ := m2.takes g hkn
  have hp3 := a3 _ _ hp2
  have hle : (rem.eraseIdx (dNext (rem.length : Int) s).1.toNat).length + 1 = rem.length := by
    rw [List.length_eraseIdx_of_lt (by omega)]; omega
  have hlt1 : ∀ i ∈ rem.eraseIdx (dNext (rem.length : Int) s).1.toNat, i < n := fun i hi => hlt i (List.mem_of_mem_eraseIdx hi)
  have hla : ((ordD rem).length : Int) = (rem.length : Int) := by rw [ord_len]
  have hat := a2.ni.at hkn
  unfold Turn1
  generalize hx : (dNext (rem.length : Int) s).1 = x at *
  generalize hs2 : (dNext (rem.length : Int) s).2 = s2 at *
  generalize hr2 : rem.eraseIdx x.toNat = rem2 at *
  cases hb : (St n o ring Y k).2 with
  | false =>
    refine ⟨S2, _, hm, s2, rem2, some (.int (k : Nat)), some (.bl false), ?_, a2, hp3, hle, hlt1, l.mono, done_step g t m.pi l dn hkn hrem id (fun z => by rw [hb] at z; cases z)⟩
    rw [hb] at a1
    simp only [ap_fVar, varK_some, ap_fC, ap_fBin, ap_binK, ap_fUn, ap_fApp, ap_fNil, ap_fCons, ap_consK, ap_consK2, ap_fTup, ap_fLst, ap_tupK, ap_lstK, ap_fTest, ap_testK, ap_fVal, ap_valK, ap_fAnd, ap_fOr, ap_fNot, ap_andK, ap_orK, ap_notK, ap_fAndV, ap_fOrV, ap_fNotV, ap_andVK, ap_orVK, ap_notVK, ap_fIfE, ap_ifEK, ap_fChain, ap_chK1, ap_chK2, ap_chK3, ap_fSkip, ap_fBrk, ap_fCnt, ap_fSeq, ap_seqK_nx, ap_seqK_rt, ap_seqK_bk, ap_seqK_ct, ap_fIf, ap_ifK, ap_fRet, ap_retK, ap_fRetN, ap_fDrop, ap_dropK, ap_fAsg, ap_asgK, ap_asgK2, ap_gN, ap_gNil, ap_gCons, ap_gsK, ap_gUnp, ap_unpK, ap_gSub, ap_subK1, ap_subK2, ap_subK3, ap_fIx, ap_ixK, isDict_ref, isDict_tup, isDict_rl, isDict_str, isDictC_lst, isDictC_dk, isDictC_dt, getL_tup, getL_rl, getL_str, getL_ref, getLC_lst, retO_some, atI_0, atI_1, atI_2, atI_3, oSet_ref, setC_lst, setLK_some, ixN_0, ixN_1, ap_fCall, ap_callK, ap_fnF, ap_fnK_nx, ap_fnK_rt, o_add, o_addR, o_addC, o_addS, o_addT, o_sub, o_mul, o_mod, o_div, o_pow, o_neg, o_lt, o_le, o_gt, o_ge, o_int, o_min2, o_max2, o_leS1, o_inS1, o_isB, o_eq, o_ne, eqK_some, neK_some, eqv_int, eqv_bool, toP_int, toP_bl, toP_non, toP_str, toP_tup, toP_rl, toP_ref, toPC_lst, toP_mapM_nil, toP_mapM_cons, toP_consO, o_len, lenK_some, lenD_tup, lenD_rl, lenD_str, lenD_ref, lenC_lst, ap_fIsi, ap_isiK0, ap_isiK, ap_isiK2, ap_fTyIs, ap_tyK0, ap_tyK, ap_fFor, ap_forK_fix, ap_forK_live, loopX_nil, loopX_cons, ap_turnK0, ap_turnK_nx, ap_turnK_ct, ap_turnK_bk, ap_turnK_rt, ap_fRng1, ap_rng1K, ap_fIter, ap_iterK_rl, ap_iterK_kt, ap_iterK_tup, ap_iterK_ref, iterC_lst, ap_fIterS, ap_iterSK, ap_fComp, ap_compK_fix, ap_compK_live, compX_nil, compX_cons, ap_compTK, ap_compEK, ap_fYes, ap_fDict0, ap_fDictT0, ap_fSl, ap_slK1, ap_slK2, ap_pNo, ap_pSo, ap_pSoK, oSl_tup, oSl_str, ap_fBm, ap_bmK, tyIn_str, tyIn_ref, tyInC_lst, tyD_ref, fldsOf_ref, fldC_ins, ap_fFld, ap_fldK, ap_fldK2, ap_fSetFld, ap_sfK1, ap_sfK2, ap_sfK3, o_put, ap_putK, ap_fFldAug, ap_faK1, ap_faK2, ap_faK3, ap_faK4, ap_faK5, o_addI, ap_fMeth, ap_meK1, ap_meK2, ap_meK3, ap_fMake, ap_mkK, ap_mkK2, ap_fTru, ap_truK, ap_truK2, truD_ref, truC_lst, o_getD, o_getDK, lookD_ref, lookC_dk, setC_dk, ap_fDisp, ap_dispK, ap_dispK2, ap_prNil, ap_prCons, ap_prK, ap_prK2, ap_prK3, o_append, o_appC, o_isN, o_notN, o_nonD, o_nonT, o_nonR, o_nonI, isDict_eW, getL_eW0, getL_eW1, o_seqW, o_nonW, o_nonH, eqv_Ln, eqv_Lc, o_eH0, o_eH1, fldC_lk, fld_lkv, fld_lkt, fld_lkh, fld_lkw, fld_lkm1, fld_lkm2, fld_lkm3, fld_lkm4, fld_lkm5, fld_lklen, fld_lkpv, fld_lkpt, fld_lkph, fld_lkpw, isDictC_md, isDictC_lk, lookC_mdv, lookC_mdt, lookC_mdh, lookC_mdw, setC_mdv, setC_mdt, setC_mdh, setC_mdw, tyInC_md, o_seqR, o_seqC, fld_i1, fld_i2, fld_i3, fld_i4, fld_keyPs, fld_mdlen, fld_merge, ap_fMakeK, ap_mkKK, ap_fRng2, ap_rng2K, setC_dt, isDict_eK, o_listT, o_listTC, lookN_ref, lookNC_dn, o_inN, o_inNK, ap_fIxN, o_ixN, o_isDn, o_isNC, ap_fGetN, ap_gtK, ap_gtK2, ap_gtK3, o_getN, o_getNK, oSetN_ref, setNC_dn, setNK_some, ap_gSubN, ap_gnK, ap_gnK2, ap_gnK3, ap_fDictN0, o_listN, o_listNC, o_listNL, ap_fProp, ap_prpK, ap_prpK2, o_someMap, o_gtT, o_ltT, o_nonM, isDict_eM, getL_eM0, loopX_inv, loopX_ok, ixN_nn, o_tupR, o_tupC, fldC_mk, isDictC_mk, fldN_mk, fldL_mk_0, fldP_mk_0, fldL_mk_1, fldP_mk_1, fldL_mk_2, fldP_mk_2, fldM_mk_0, fldM_mk_1, fldM_mk_2, fldM_mk_3, fldI_mk_0, fldI_mk_1, fldI_mk_2, o_tyT, o_nonO, o_tellN, o_tellS, o_cut1, o_esN, eqv_O, fldC_sh, isDictC_sh, fldN_sh, fldL_sh_0, fldP_sh_0, fldL_sh_1, fldP_sh_1, fldM_sh_0, fldM_sh_1, fldM_sh_2, fldM_sh_3, fldM_sh_4, fldM_sh_5, fldM_sh_6, fldM_sh_7, fldM_sh_8, fldM_sh_9, fldI_sh_0, fldI_sh_1, isDictC_sm, lookC_sml, lookC_smp, fld_smkey, fld_smlen, fld_smerge, isDict_eT, getL_eT0, getL_eT1, eqv_NW, o_seqT, eqv_row, ap_fGComp, ap_gcompK_live, ap_unset0, ap_unset1, o_kKe, o_kTe, o_kKTe, ap_ptT2, o_mulT, ap_fRev, ap_revK, ap_fLstRg, ap_lstRgK, fT_eT, fT_eW, fT_eH, eqv_T, eqv_W, eqv_H, mapM_eW, eqv_Ws, eq_self, Bool.true_eq_false, Option.isNone_none, Option.isNone_some, R.bind_ok, R.bind_ex, R.bind_bad, R.nox_ok, nox_bad', List.map_cons, List.map_nil, List.length_cons, List.length_nil, List.cons_append, List.nil_append, Nat.zero_add, Nat.reduceAdd, Nat.reduceSub, List.replicate_succ, List.replicate_zero, List.getElem?_cons_zero, List.getElem?_cons_succ, List.set_cons_zero, List.set_cons_succ, List.append_nil, Bool.false_eq_true, if_true, if_false, decide_eq_true_eq, decide_true, decide_false, Nat.add_zero, reduceIte, reduceDIte, Nat.reduceLeDiff, Int.reduceLT, Int.reduceLE, Int.reduceNeg, Int.reducePow, Int.reduceMul, Int.reduceAdd, Int.reduceSub, Nat.reduceEqDiff, Nat.reducePow, true_and, and_true, or_true, true_or, false_or, or_false, and_self, Bool.not_true, Bool.not_false, Nat.reduceLT, ge_iff_le, gt_iff_lt, Nat.le_refl, Option.map_some, Bool.not_eq_true, Bool.not_eq_eq_eq_not, not_true_eq_false, not_false_eq_true, Int.reduceToNat, beq_iff_eq, Int.reduceEq, String.reduceEq, String.reduceNe, Int.reduceNe, List.set_set, get_app, get_app0, get_apps, get_apps0, set_app, set_app0, set_apps, set_apps0, List.append_assoc, Nat.add_assoc, List.toList_toArray, List.size_toArray, List.length_set, List.length_append, ap_lb_law_1, hp, next_eq, fT_nextC, b1, b2, m.ss, hla, hx, hs2, hpop, o_nonBl, a1]
  | true =>
    obtain ⟨hr, ht⟩ := st_home g m.pi hkn hb
    have e := top_uni ht t
    subst e
    rw [hb] at a1
    rcases m.ho with h0 | ⟨_, h0⟩
    · subst h0
      have hin := Cod.oin (C := kT.toCod) (neg := true) a2.hh (fun _ _ => trivial) (a := (o k).1) trivial (b := false) (by simp)
      change oInL true (eT (o k).1) _ _ = _ at hin
      have m3 := a2.home Ds hr
      have e9 : kT.es [(o k).1] = [eT (o k).1] := (rfl)
      have e8 : kT.es ([] : List (Int × Int)) = [] := (rfl)
      have hh := a2.hh
      rw [e8] at hh
      refine ⟨_, _, _, s2, rem2, some (.int (k : Nat)), some (.bl true), ?_, m3, ?_, hle, hlt1, l.mono, done_step g t m.pi l dn hkn hrem (fun z => absurd rfl z) (fun _ => by simp)⟩
      · rw [e9]
        simp only [ap_fVar, varK_some, ap_fC, ap_fBin, ap_binK, ap_fUn, ap_fApp, ap_fNil, ap_fCons, ap_consK, ap_consK2, ap_fTup, ap_fLst, ap_tupK, ap_lstK, ap_fTest, ap_testK, ap_fVal, ap_valK, ap_fAnd, ap_fOr, ap_fNot, ap_andK, ap_orK, ap_notK, ap_fAndV, ap_fOrV, ap_fNotV, ap_andVK, ap_orVK, ap_notVK, ap_fIfE, ap_ifEK, ap_fChain, ap_chK1, ap_chK2, ap_chK3, ap_fSkip, ap_fBrk, ap_fCnt, ap_fSeq, ap_seqK_nx, ap_seqK_rt, ap_seqK_bk, ap_seqK_ct, ap_fIf, ap_ifK, ap_fRet, ap_retK, ap_fRetN, ap_fDrop, ap_dropK, ap_fAsg, ap_asgK, ap_asgK2, ap_gN, ap_gNil, ap_gCons, ap_gsK, ap_gUnp, ap_unpK, ap_gSub, ap_subK1, ap_subK2, ap_subK3, ap_fIx, ap_ixK, isDict_ref, isDict_tup, isDict_rl, isDict_str, isDictC_lst, isDictC_dk, isDictC_dt, getL_tup, getL_rl, getL_str, getL_ref, getLC_lst, retO_some, atI_0, atI_1, atI_2, atI_3, oSet_ref, setC_lst, setLK_some, ixN_0, ixN_1, ap_fCall, ap_callK, ap_fnF, ap_fnK_nx, ap_fnK_rt, o_add, o_addR, o_addC, o_addS, o_addT, o_sub, o_mul, o_mod, o_div, o_pow, o_neg, o_lt, o_le, o_gt, o_ge, o_int, o_min2, o_max2, o_leS1, o_inS1, o_isB, o_eq, o_ne, eqK_some, neK_some, eqv_int, eqv_bool, toP_int, toP_bl, toP_non, toP_str, toP_tup, toP_rl, toP_ref, toPC_lst, toP_mapM_nil, toP_mapM_cons, toP_consO, o_len, lenK_some, lenD_tup, lenD_rl, lenD_str, lenD_ref, lenC_lst, ap_fIsi, ap_isiK0, ap_isiK, ap_isiK2, ap_fTyIs, ap_tyK0, ap_tyK, ap_fFor, ap_forK_fix, ap_forK_live, loopX_nil, loopX_cons, ap_turnK0, ap_turnK_nx, ap_turnK_ct, ap_turnK_bk, ap_turnK_rt, ap_fRng1, ap_rng1K, ap_fIter, ap_iterK_rl, ap_iterK_kt, ap_iterK_tup, ap_iterK_ref, iterC_lst, ap_fIterS, ap_iterSK, ap_fComp, ap_compK_fix, ap_compK_live, compX_nil, compX_cons, ap_compTK, ap_compEK, ap_fYes, ap_fDict0, ap_fDictT0, ap_fSl, ap_slK1, ap_slK2, ap_pNo, ap_pSo, ap_pSoK, oSl_tup, oSl_str, ap_fBm, ap_bmK, tyIn_str, tyIn_ref, tyInC_lst, tyD_ref, fldsOf_ref, fldC_ins, ap_fFld, ap_fldK, ap_fldK2, ap_fSetFld, ap_sfK1, ap_sfK2, ap_sfK3, o_put, ap_putK, ap_fFldAug, ap_faK1, ap_faK2, ap_faK3, ap_faK4, ap_faK5, o_addI, ap_fMeth, ap_meK1, ap_meK2, ap_meK3, ap_fMake, ap_mkK, ap_mkK2, ap_fTru, ap_truK, ap_truK2, truD_ref, truC_lst, o_getD, o_getDK, lookD_ref, lookC_dk, setC_dk, ap_fDisp, ap_dispK, ap_dispK2, ap_prNil, ap_prCons, ap_prK, ap_prK2, ap_prK3, o_append, o_appC, o_isN, o_notN, o_nonD, o_nonT, o_nonR, o_nonI, isDict_eW, getL_eW0, getL_eW1, o_seqW, o_nonW, o_nonH, eqv_Ln, eqv_Lc, o_eH0, o_eH1, fldC_lk, fld_lkv, fld_lkt, fld_lkh, fld_lkw, fld_lkm1, fld_lkm2, fld_lkm3, fld_lkm4, fld_lkm5, fld_lklen, fld_lkpv, fld_lkpt, fld_lkph, fld_lkpw, isDictC_md, isDictC_lk, lookC_mdv, lookC_mdt, lookC_mdh, lookC_mdw, setC_mdv, setC_mdt, setC_mdh, setC_mdw, tyInC_md, o_seqR, o_seqC, fld_i1, fld_i2, fld_i3, fld_i4, fld_keyPs, fld_mdlen, fld_merge, ap_fMakeK, ap_mkKK, ap_fRng2, ap_rng2K, setC_dt, isDict_eK, o_listT, o_listTC, lookN_ref, lookNC_dn, o_inN, o_inNK, ap_fIxN, o_ixN, o_isDn, o_isNC, ap_fGetN, ap_gtK, ap_gtK2, ap_gtK3, o_getN, o_getNK, oSetN_ref, setNC_dn, setNK_some, ap_gSubN, ap_gnK, ap_gnK2, ap_gnK3, ap_fDictN0, o_listN, o_listNC, o_listNL, ap_fProp, ap_prpK, ap_prpK2, o_someMap, o_gtT, o_ltT, o_nonM, isDict_eM, getL_eM0, loopX_inv, loopX_ok, ixN_nn, o_tupR, o_tupC, fldC_mk, isDictC_mk, fldN_mk, fldL_mk_0, fldP_mk_0, fldL_mk_1, fldP_mk_1, fldL_mk_2, fldP_mk_2, fldM_mk_0, fldM_mk_1, fldM_mk_2, fldM_mk_3, fldI_mk_0, fldI_mk_1, fldI_mk_2, o_tyT, o_nonO, o_tellN, o_tellS, o_cut1, o_esN, eqv_O, fldC_sh, isDictC_sh, fldN_sh, fldL_sh_0, fldP_sh_0, fldL_sh_1, fldP_sh_1, fldM_sh_0, fldM_sh_1, fldM_sh_2, fldM_sh_3, fldM_sh_4, fldM_sh_5, fldM_sh_6, fldM_sh_7, fldM_sh_8, fldM_sh_9, fldI_sh_0, fldI_sh_1, isDictC_sm, lookC_sml, lookC_smp, fld_smkey, fld_smlen, fld_smerge, isDict_eT, getL_eT0, getL_eT1, eqv_NW, o_seqT, eqv_row, ap_fGComp, ap_gcompK_live, ap_unset0, ap_unset1, o_kKe, o_kTe, o_kKTe, ap_ptT2, o_mulT, ap_fRev, ap_revK, ap_fLstRg, ap_lstRgK, fT_eT, fT_eW, fT_eH, eqv_T, eqv_W, eqv_H, mapM_eW, eqv_Ws, eq_self, Bool.true_eq_false, Option.isNone_none, Option.isNone_some, R.bind_ok, R.bind_ex, R.bind_bad, R.nox_ok, nox_bad', List.map_cons, List.map_nil, List.length_cons, List.length_nil, List.cons_append, List.nil_append, Nat.zero_add, Nat.reduceAdd, Nat.reduceSub, List.replicate_succ, List.replicate_zero, List.getElem?_cons_zero, List.getElem?_cons_succ, List.set_cons_zero, List.set_cons_succ, List.append_nil, Bool.false_eq_true, if_true, if_false, decide_eq_true_eq, decide_true, decide_false, Nat.add_zero, reduceIte, reduceDIte, Nat.reduceLeDiff, Int.reduceLT, Int.reduceLE, Int.reduceNeg, Int.reducePow, Int.reduceMul, Int.reduceAdd, Int.reduceSub, Nat.reduceEqDiff, Nat.reducePow, true_and, and_true, or_true, true_or, false_or, or_false, and_self, Bool.not_true, Bool.not_false, Nat.reduceLT, ge_iff_le, gt_iff_lt, Nat.le_refl, Option.map_some, Bool.not_eq_true, Bool.not_eq_eq_eq_not, not_true_eq_false, not_false_eq_true, Int.reduceToNat, beq_iff_eq, Int.reduceEq, String.reduceEq, String.reduceNe, Int.reduceNe, List.set_set, get_app, get_app0, get_apps, get_apps0, set_app, set_app0, set_apps, set_apps0, List.append_assoc, Nat.add_assoc, List.toList_toArray, List.size_toArray, List.length_set, List.length_append, ap_lb_law_1, hp, next_eq, fT_nextC, b1, b2, m.ss, hla, hx, hs2, hpop, o_nonBl, a1, a2.ni.cell, hat, hin, hh]
      · rw [List.getElem?_set_ne (fun z => p4 z.symm)]; exact hp3
    · subst h0
      have hin := Cod.oin (C := kT.toCod) (neg := true) a2.hh (fun _ _ => trivial) (a := (o k).1) trivial (b := true) (by simp)
      change oInL true (eT (o k).1) _ _ = _ at hin
      refine ⟨S2, _, _, s2, rem2, some (.int (k : Nat)), some (.bl true), ?_, a2, hp3, hle, hlt1, l.mono, done_step g t m.pi l dn hkn hrem id (fun _ => by simp)⟩
      simp only [ap_fVar, varK_some, ap_fC, ap_fBin, ap_binK, ap_fUn, ap_fApp, ap_fNil, ap_fCons, ap_consK, ap_consK2, ap_fTup, ap_fLst, ap_tupK, ap_lstK, ap_fTest, ap_testK, ap_fVal, ap_valK, ap_fAnd, ap_fOr, ap_fNot, ap_andK, ap_orK, ap_notK, ap_fAndV, ap_fOrV, ap_fNotV, ap_andVK, ap_orVK, ap_notVK, ap_fIfE, ap_ifEK, ap_fChain, ap_chK1, ap_chK2, ap_chK3, ap_fSkip, ap_fBrk, ap_fCnt, ap_fSeq, ap_seqK_nx, ap_seqK_rt, ap_seqK_bk, ap_seqK_ct, ap_fIf, ap_ifK, ap_fRet, ap_retK, ap_fRetN, ap_fDrop, ap_dropK, ap_fAsg, ap_asgK, ap_asgK2, ap_gN, ap_gNil, ap_gCons, ap_gsK, ap_gUnp, ap_unpK, ap_gSub, ap_subK1, ap_subK2, ap_subK3, ap_fIx, ap_ixK, isDict_ref, isDict_tup, isDict_rl, isDict_str, isDictC_lst, isDictC_dk, isDictC_dt, getL_tup, getL_rl, getL_str, getL_ref, getLC_lst, retO_some, atI_0, atI_1, atI_2, atI_3, oSet_ref, setC_lst, setLK_some, ixN_0, ixN_1, ap_fCall, ap_callK, ap_fnF, ap_fnK_nx, ap_fnK_rt, o_add, o_addR, o_addC, o_addS, o_addT, o_sub, o_mul, o_mod, o_div, o_pow, o_neg, o_lt, o_le, o_gt, o_ge, o_int, o_min2, o_max2, o_leS1, o_inS1, o_isB, o_eq, o_ne, eqK_some, neK_some, eqv_int, eqv_bool, toP_int, toP_bl, toP_non, toP_str, toP_tup, toP_rl, toP_ref, toPC_lst, toP_mapM_nil, toP_mapM_cons, toP_consO, o_len, lenK_some, lenD_tup, lenD_rl, lenD_str, lenD_ref, lenC_lst, ap_fIsi, ap_isiK0, ap_isiK, ap_isiK2, ap_fTyIs, ap_tyK0, ap_tyK, ap_fFor, ap_forK_fix, ap_forK_live, loopX_nil, loopX_cons, ap_turnK0, ap_turnK_nx, ap_turnK_ct, ap_turnK_bk, ap_turnK_rt, ap_fRng1, ap_rng1K, ap_fIter, ap_iterK_rl, ap_iterK_kt, ap_iterK_tup, ap_iterK_ref, iterC_lst, ap_fIterS, ap_iterSK, ap_fComp, ap_compK_fix, ap_compK_live, compX_nil, compX_cons, ap_compTK, ap_compEK, ap_fYes, ap_fDict0, ap_fDictT0, ap_fSl, ap_slK1, ap_slK2, ap_pNo, ap_pSo, ap_pSoK, oSl_tup, oSl_str, ap_fBm, ap_bmK, tyIn_str, tyIn_ref, tyInC_lst, tyD_ref, fldsOf_ref, fldC_ins, ap_fFld, ap_fldK, ap_fldK2, ap_fSetFld, ap_sfK1, ap_sfK2, ap_sfK3, o_put, ap_putK, ap_fFldAug, ap_faK1, ap_faK2, ap_faK3, ap_faK4, ap_faK5, o_addI, ap_fMeth, ap_meK1, ap_meK2, ap_meK3, ap_fMake, ap_mkK, ap_mkK2, ap_fTru, ap_truK, ap_truK2, truD_ref, truC_lst, o_getD, o_getDK, lookD_ref, lookC_dk, setC_dk, ap_fDisp, ap_dispK, ap_dispK2, ap_prNil, ap_prCons, ap_prK, ap_prK2, ap_prK3, o_append, o_appC, o_isN, o_notN, o_nonD, o_nonT, o_nonR, o_nonI, isDict_eW, getL_eW0, getL_eW1, o_seqW, o_nonW, o_nonH, eqv_Ln, eqv_Lc, o_eH0, o_eH1, fldC_lk, fld_lkv, fld_lkt, fld_lkh, fld_lkw, fld_lkm1, fld_lkm2, fld_lkm3, fld_lkm4, fld_lkm5, fld_lklen, fld_lkpv, fld_lkpt, fld_lkph, fld_lkpw, isDictC_md, isDictC_lk, lookC_mdv, lookC_mdt, lookC_mdh, lookC_mdw, setC_mdv, setC_mdt, setC_mdh, setC_mdw, tyInC_md, o_seqR, o_seqC, fld_i1, fld_i2, fld_i3, fld_i4, fld_keyPs, fld_mdlen, fld_merge, ap_fMakeK, ap_mkKK, ap_fRng2, ap_rng2K, setC_dt, isDict_eK, o_listT, o_listTC, lookN_ref, lookNC_dn, o_inN, o_inNK, ap_fIxN, o_ixN, o_isDn, o_isNC, ap_fGetN, ap_gtK, ap_gtK2, ap_gtK3, o_getN, o_getNK, oSetN_ref, setNC_dn, setNK_some, ap_gSubN, ap_gnK, ap_gnK2, ap_gnK3, ap_fDictN0, o_listN, o_listNC, o_listNL, ap_fProp, ap_prpK, ap_prpK2, o_someMap, o_gtT, o_ltT, o_nonM, isDict_eM, getL_eM0, loopX_inv, loopX_ok, ixN_nn, o_tupR, o_tupC, fldC_mk, isDictC_mk, fldN_mk, fldL_mk_0, fldP_mk_0, fldL_mk_1, fldP_mk_1, fldL_mk_2, fldP_mk_2, fldM_mk_0, fldM_mk_1, fldM_mk_2, fldM_mk_3, fldI_mk_0, fldI_mk_1, fldI_mk_2, o_tyT, o_nonO, o_tellN, o_tellS, o_cut1, o_esN, eqv_O, fldC_sh, isDictC_sh, fldN_sh, fldL_sh_0, fldP_sh_0, fldL_sh_1, fldP_sh_1, fldM_sh_0, fldM_sh_1, fldM_sh_2, fldM_sh_3, fldM_sh_4, fldM_sh_5, fldM_sh_6, fldM_sh_7, fldM_sh_8, fldM_sh_9, fldI_sh_0, fldI_sh_1, isDictC_sm, lookC_sml, lookC_smp, fld_smkey, fld_smlen, fld_smerge, isDict_eT, getL_eT0, getL_eT1, eqv_NW, o_seqT, eqv_row, ap_fGComp, ap_gcompK_live, ap_unset0, ap_unset1, o_kKe, o_kTe, o_kKTe, ap_ptT2, o_mulT, ap_fRev, ap_revK, ap_fLstRg, ap_lstRgK, fT_eT, fT_eW, fT_eH, eqv_T, eqv_W, eqv_H, mapM_eW, eqv_Ws, eq_self, Bool.true_eq_false, Option.isNone_none, Option.isNone_some, R.bind_ok, R.bind_ex, R.bind_bad, R.nox_ok, nox_bad', List.map_cons, List.map_nil, List.length_cons, List.length_nil, List.cons_append, List.nil_append, Nat.zero_add, Nat.reduceAdd, Nat.reduceSub, List.replicate_succ, List.replicate_zero, List.getElem?_cons_zero, List.getElem?_cons_succ, List.set_cons_zero, List.set_cons_succ, List.append_nil, Bool.false_eq_true, if_true, if_false, decide_eq_true_eq, decide_true, decide_false, Nat.add_zero, reduceIte, reduceDIte, Nat.reduceLeDiff, Int.reduceLT, Int.reduceLE, Int.reduceNeg, Int.reducePow, Int.reduceMul, Int.reduceAdd, Int.reduceSub, Nat.reduceEqDiff, Nat.reducePow, true_and, and_true, or_true, true_or, false_or, or_false, and_self, Bool.not_true, Bool.not_false, Nat.reduceLT, ge_iff_le, gt_iff_lt, Nat.le_refl, Option.map_some, Bool.not_eq_true, Bool.not_eq_eq_eq_not, not_true_eq_false, not_false_eq_true, Int.reduceToNat, beq_iff_eq, Int.reduceEq, String.reduceEq, String.reduceNe, Int.reduceNe, List.set_set, get_app, get_app0, get_apps, get_apps0, set_app, set_app0, set_apps, set_apps0, List.append_assoc, Nat.add_assoc, List.toList_toArray, List.size_toArray, List.length_set, List.length_append, ap_lb_law_1, hp, next_eq, fT_nextC, b1, b2, m.ss, hla, hx, hs2, hpop, o_nonBl, a1, a2.ni.cell, hat, hin]
end
end Qk17

namespace Qk17
open PySem L2 RF
section
variable {c : CA} {n : Nat} {o : Nat → Mk} {ring : Bool} {Rw : Nat} {ls : List Nat} {ys : Nat → Nat} {N st h M : Nat} {names : List (Int × Int)} {Y : Nat → List Mk} {hm : List (Int × Int)} {s : Sd} {S : Sto} {r p : Nat} {rem : List Nat}
theorem round_loop (Ds : Dst Rw N st h) (g : Rg n o) (t : Top n o M) (m : MI c n o ring Rw ls ys N st h M names Y hm s S) (hp : S[p]? = some (.lst (rngD 0 n))) (p1 : p ≠ Rw) (p2 : p ≠ N) (p3 : p ≠ st) (p4 : p ≠ h) (l : Low n o ring M Y r) (v0 v1 v6 v8 v10 v11 : Option D) :
    ∃ S1 Y1 hm1 s1 e6 e10 e11, loopX (gN 6) (lb_law_1 c) (rngD 0 n) [v0, v1, some (.ref st), some (.ref N), some (.bl ring), some (.ref Rw), v6, some (.ref h), v8, some (.ref p), v10, v11] S = .ok (.nx [v0, v1, some (.ref st), some (.ref N), some (.bl ring), some (.ref Rw), e6, some (.ref h), v8, some (.ref p), e10, e11]) S1 ∧
      MI c n o ring Rw ls ys N st h M names Y1 hm1 s1 S1 ∧ Low n o ring M Y1 (r + 1) ∧ (ring = true → n ≤ r + 1 → hm1 ≠ []) := by
  have top := g.top
  let P : Nat → Lc → Sto → Prop := fun j e S1 => ∃ Y1 hm1 s1 rem e6 e10 e11, e = [v0, v1, some (.ref st), some (.ref N), some (.bl ring), some (.ref Rw), e6, some (.ref h), v8, some (.ref p), e10, e11] ∧ MI c n o ring Rw ls ys N st h M names Y1 hm1 s1 S1 ∧ S1[p]? = some (.lst (ordD rem)) ∧ rem.length + j = n ∧ (∀ i ∈ rem, i < n) ∧ Low n o ring M Y1 r ∧ Done n o ring M Y1 r hm1 rem
  have step : ∀ j e S1 d, (rngD 0 n)[j]? = some d → P j e S1 → ∃ e1 S2, Turn1 (gN 6) (lb_law_1 c) d e S1 e1 S2 ∧ P (j + 1) e1 S2 := by
    intro j e S1 d hd hq
    obtain ⟨rfl, hj⟩ := rng_at hd
    obtain ⟨Y1, hm1, s1, rem, e6, e10, e11, rfl, k1, k2, k3, k4, k5, k6⟩ := hq
    obtain ⟨S2, Y2, hm2, s2, rem2, f10, f11, t1, t2, t3, t4, t5, t6, t7⟩ := turn1 Ds g t k1 k2 p1 p2 p3 p4 (by omega) (by omega) k4 k5 k6 (.int (0 + (j : Nat))) v0 v1 e6 v8 e10 e11
    exact ⟨_, S2, t1, Y2, hm2, s2, rem2, _, f10, f11, rfl, t2, t3, by omega, t5, t6, t7⟩
  obtain ⟨e1, S1, k, Y1, hm1, s1, rem, e6, e10, e11, rfl, k1, k2, k3, k4, k5, k6⟩ := loopX_ok (g := gN 6) (body := lb_law_1 c) (xs := rngD 0 n) P step (e := [v0, v1, some (.ref st), some (.ref N), some (.bl ring), some (.ref Rw), v6, some (.ref h), v8, some (.ref p), v10, v11]) (S := S)
    ⟨Y, hm, s, List.range n, v6, v10, v11, rfl, m, hp, by rw [List.length_range]; rfl, fun i hi => List.mem_range.mp hi, l, fun _ i hi hn => absurd (List.mem_range.mpr hi) hn, fun _ hn => absurd (List.mem_range.mpr t.1) hn⟩
  rw [rng_len] at k3
  have hrem : rem = [] := List.length_eq_zero_iff.mp (by omega)
  subst hrem
  refine ⟨S1, Y1, hm1, s1, e6, e10, e11, k, k1, fun hr d d1 d2 d3 => ?_, fun hr hn => k6.2 hr (by simp) hn⟩
  exact k6.1 hr _ (Nat.mod_lt _ (by omega)) (by simp) d d1 d2 d3 rfl
theorem round_turn (Ds : Dst Rw N st h) (g : Rg n o) (t : Top n o M) (m : MI c n o ring Rw ls ys N st h M names Y hm s S) (l : Low n o ring M Y r) (d : D) (v0 v1 v6 v8 v9 v10 v11 : Option D) :
    ∃ S1 Y1 hm1 s1 e6 e9 e10 e11, Turn1 (gN 8) (lb_law_2 c) d [v0, v1, some (.ref st), some (.ref N), some (.bl ring), some (.ref Rw), v6, some (.ref h), v8, v9, v10, v11] S [v0, v1, some (.ref st), some (.ref N), some (.bl ring), some (.ref Rw), e6, some (.ref h), some d, e9, e10, e11] S1 ∧
      MI c n o ring Rw ls ys N st h M names Y1 hm1 s1 S1 ∧ Low n o ring M Y1 (r + 1) ∧ (ring = true → n ≤ r + 1 → hm1 ≠ []) := by
  have top := g.top
  have hlt : ∀ {i : Nat} {x : Cell}, S[i]? = some x → i < S.length := fun e => (List.getElem?_eq_some_iff.mp e).1
  have q1 := hlt m.ri.rows
  have q2 := hlt m.ni.cell
  have q3 := hlt m.ss
  have q4 := hlt m.hh
  obtain ⟨S1, Y1, hm1, s1, e6, e10, e11, k1, k2⟩ := round_loop (p := S.length) (S := S ++ [.lst (rngD 0 n)]) Ds g t (m.app _) (by rw [get_app0]; rfl) (by omega) (by omega) (by omega) (by omega) l v0 v1 v6 (some d) v10 v11
  refine ⟨S1, Y1, hm1, s1, e6, some (.ref S.length), e10, e11, ?_, k2⟩
  have hn : ((kT.es names).length : Int) = (n : Int) := by rw [Cod.es_len, m.ni.len]
  have hr : -4611686018427387904 ≤ (n : Int) ∧ (n : Int) < 4611686018427387904 := by omega
  have hr2 : 0 ≤ (n : Int) ∧ (n : Int) ≤ 1000 := by omega
  unfold Turn1
  simp only [ap_fVar, varK_some, ap_fC, ap_fBin, ap_binK, ap_fUn, ap_fApp, ap_fNil, ap_fCons, ap_consK, ap_consK2, ap_fTup, ap_fLst, ap_tupK, ap_lstK, ap_fTest, ap_testK, ap_fVal, ap_valK, ap_fAnd, ap_fOr, ap_fNot, ap_andK, ap_orK, ap_notK, ap_fAndV, ap_fOrV, ap_fNotV, ap_andVK, ap_orVK, ap_notVK, ap_fIfE, ap_ifEK, ap_fChain, ap_chK1, ap_chK2, ap_chK3, ap_fSkip, ap_fBrk, ap_fCnt, ap_fSeq, ap_seqK_nx, ap_seqK_rt, ap_seqK_bk, ap_seqK_ct, ap_fIf, ap_ifK, ap_fRet, ap_retK, ap_fRetN, ap_fDrop, ap_dropK, ap_fAsg, ap_asgK, ap_asgK2, ap_gN, ap_gNil, ap_gCons, ap_gsK, ap_gUnp, ap_unpK, ap_gSub, ap_subK1, ap_subK2, ap_subK3, ap_fIx, ap_ixK, isDict_ref, isDict_tup, isDict_rl, isDict_str, isDictC_lst, isDictC_dk, isDictC_dt, getL_tup, getL_rl, getL_str, getL_ref, getLC_lst, retO_some, atI_0, atI_1, atI_2, atI_3, oSet_ref, setC_lst, setLK_some, ixN_0, ixN_1, ap_fCall, ap_callK, ap_fnF, ap_fnK_nx, ap_fnK_rt, o_add, o_addR, o_addC, o_addS, o_addT, o_sub, o_mul, o_mod, o_div, o_pow, o_neg, o_lt, o_le, o_gt, o_ge, o_int, o_min2, o_max2, o_leS1, o_inS1, o_isB, o_eq, o_ne, eqK_some, neK_some, eqv_int, eqv_bool, toP_int, toP_bl, toP_non, toP_str, toP_tup, toP_rl, toP_ref, toPC_lst, toP_mapM_nil, toP_mapM_cons, toP_consO, o_len, lenK_some, lenD_tup, lenD_rl, lenD_str, lenD_ref, lenC_lst, ap_fIsi, ap_isiK0, ap_isiK, ap_isiK2, ap_fTyIs, ap_tyK0, ap_tyK, ap_fFor, ap_forK_fix, ap_forK_live, loopX_nil, loopX_cons, ap_turnK0, ap_turnK_nx, ap_turnK_ct, ap_turnK_bk, ap_turnK_rt, ap_fRng1, ap_rng1K, ap_fIter, ap_iterK_rl, ap_iterK_kt, ap_iterK_tup, ap_iterK_ref, iterC_lst, ap_fIterS, ap_iterSK, ap_fComp, ap_compK_fix, ap_compK_live, compX_nil, compX_cons, ap_compTK, ap_compEK, ap_fYes, ap_fDict0, ap_fDictT0, ap_fSl, ap_slK1, ap_slK2, ap_pNo, ap_pSo, ap_pSoK, oSl_tup, oSl_str, ap_fBm, ap_bmK, tyIn_str, tyIn_ref, tyInC_lst, tyD_ref, fldsOf_ref, fldC_ins, ap_fFld, ap_fldK, ap_fldK2, ap_fSetFld, ap_sfK1, ap_sfK2, ap_sfK3, o_put, ap_putK, ap_fFldAug, ap_faK1, ap_faK2, ap_faK3, ap_faK4, ap_faK5, o_addI, ap_fMeth, ap_meK1, ap_meK2, ap_meK3, ap_fMake, ap_mkK, ap_mkK2, ap_fTru, ap_truK, ap_truK2, truD_ref, truC_lst, o_getD, o_getDK, lookD_ref, lookC_dk, setC_dk, ap_fDisp, ap_dispK, ap_dispK2, ap_prNil, ap_prCons, ap_prK, ap_prK2, ap_prK3, o_append, o_appC, o_isN, o_notN, o_nonD, o_nonT, o_nonR, o_nonI, isDict_eW, getL_eW0, getL_eW1, o_seqW, o_nonW, o_nonH, eqv_Ln, eqv_Lc, o_eH0, o_eH1, fldC_lk, fld_lkv, fld_lkt, fld_lkh, fld_lkw, fld_lkm1, fld_lkm2, fld_lkm3, fld_lkm4, fld_lkm5, fld_lklen, fld_lkpv, fld_lkpt, fld_lkph, fld_lkpw, isDictC_md, isDictC_lk, lookC_mdv, lookC_mdt, lookC_mdh, lookC_mdw, setC_mdv, setC_mdt, setC_mdh, setC_mdw, tyInC_md, o_seqR, o_seqC, fld_i1, fld_i2, fld_i3, fld_i4, fld_keyPs, fld_mdlen, fld_merge, ap_fMakeK, ap_mkKK, ap_fRng2, ap_rng2K, setC_dt, isDict_eK, o_listT, o_listTC, lookN_ref, lookNC_dn, o_inN, o_inNK, ap_fIxN, o_ixN, o_isDn, o_isNC, ap_fGetN, ap_gtK, ap_gtK2, ap_gtK3, o_getN, o_getNK, oSetN_ref, setNC_dn, setNK_some, ap_gSubN, ap_gnK, ap_gnK2, ap_gnK3, ap_fDictN0, o_listN, o_listNC, o_listNL, ap_fProp, ap_prpK, ap_prpK2, o_someMap, o_gtT, o_ltT, o_nonM, isDict_eM, getL_eM0, loopX_inv, loopX_ok, ixN_nn, o_tupR, o_tupC, fldC_mk, isDictC_mk, fldN_mk, fldL_mk_0, fldP_mk_0, fldL_mk_1, fldP_mk_1, fldL_mk_2, fldP_mk_2, fldM_mk_0, fldM_mk_1, fldM_mk_2, fldM_mk_3, fldI_mk_0, fldI_mk_1, fldI_mk_2, o_tyT, o_nonO, o_tellN, o_tellS, o_cut1, o_esN, eqv_O, fldC_sh, isDictC_sh, fldN_sh, fldL_sh_0, fldP_sh_0, fldL_sh_1, fldP_sh_1, fldM_sh_0, fldM_sh_1, fldM_sh_2, fldM_sh_3, fldM_sh_4, fldM_sh_5, fldM_sh_6, fldM_sh_7, fldM_sh_8, fldM_sh_9, fldI_sh_0, fldI_sh_1, isDictC_sm, lookC_sml, lookC_smp, fld_smkey, fld_smlen, fld_smerge, isDict_eT, getL_eT0, getL_eT1, eqv_NW, o_seqT, eqv_row, ap_fGComp, ap_gcompK_live, ap_unset0, ap_unset1, o_kKe, o_kTe, o_kKTe, ap_ptT2, o_mulT, ap_fRev, ap_revK, ap_fLstRg, ap_lstRgK, fT_eT, fT_eW, fT_eH, eqv_T, eqv_W, eqv_H, mapM_eW, eqv_Ws, eq_self, Bool.true_eq_false, Option.isNone_none, Option.isNone_some, R.bind_ok, R.bind_ex, R.bind_bad, R.nox_ok, nox_bad', List.map_cons, List.map_nil, List.length_cons, List.length_nil, List.cons_append, List.nil_append, Nat.zero_add, Nat.reduceAdd, Nat.reduceSub, List.replicate_succ, List.replicate_zero, List.getElem?_cons_zero, List.getElem?_cons_succ, List.set_cons_zero, List.set_cons_succ, List.append_nil, Bool.false_eq_true, if_true, if_false, decide_eq_true_eq, decide_true, decide_false, Nat.add_zero, reduceIte, reduceDIte, Nat.reduceLeDiff, Int.reduceLT, Int.reduceLE, Int.reduceNeg, Int.reducePow, Int.reduceMul, Int.reduceAdd, Int.reduceSub, Nat.reduceEqDiff, Nat.reducePow, true_and, and_true, or_true, true_or, false_or, or_false, and_self, Bool.not_true, Bool.not_false, Nat.reduceLT, ge_iff_le, gt_iff_lt, Nat.le_refl, Option.map_some, Bool.not_eq_true, Bool.not_eq_eq_eq_not, not_true_eq_false, not_false_eq_true, Int.reduceToNat, beq_iff_eq, Int.reduceEq, String.reduceEq, String.reduceNe, Int.reduceNe, List.set_set, get_app, get_app0, get_apps, get_apps0, set_app, set_app0, set_apps, set_apps0, List.append_assoc, Nat.add_assoc, List.toList_toArray, List.size_toArray, List.length_set, List.length_append, ap_lb_law_2, m.ni.cell, app_get m.ni.cell, hn, hr, hr2, ap_fLstRg, ap_lstRgK, Int.toNat_natCast, k1]
theorem rounds (Ds : Dst Rw N st h) (g : Rg n o) (t : Top n o M) (m : MI c n o ring Rw ls ys N st h M names (fun _ => []) [] s S) (v0 v1 v6 : Option D) :
    ∃ S1 hm1 e6 e8 e9 e10 e11, loopX (gN 8) (lb_law_2 c) (rngD 0 n) [v0, v1, some (.ref st), some (.ref N), some (.bl ring), some (.ref Rw), v6, some (.ref h), none, none, none, none] S = .ok (.nx [v0, v1, some (.ref st), some (.ref N), some (.bl ring), some (.ref Rw), e6, some (.ref h), e8, e9, e10, e11]) S1 ∧
      S1[h]? = some (.lst (kT.es hm1)) ∧ S1[N]? = some (.lst (kT.es names)) ∧ hm1 = (if ring = true then [(o M).1] else []) := by
  have two := g.two
  let P : Nat → Lc → Sto → Prop := fun j e S1 => ∃ Y1 hm1 s1 e6 e8 e9 e10 e11, e = [v0, v1, some (.ref st), some (.ref N), some (.bl ring), some (.ref Rw), e6, some (.ref h), e8, e9, e10, e11] ∧ MI c n o ring Rw ls ys N st h M names Y1 hm1 s1 S1 ∧ Low n o ring M Y1 j ∧ (ring = true → n ≤ j → hm1 ≠ [])
  have step : ∀ j e S1 d, (rngD 0 n)[j]? = some d → P j e S1 → ∃ e1 S2, Turn1 (gN 8) (lb_law_2 c) d e S1 e1 S2 ∧ P (j + 1) e1 S2 := by
    rintro j e S1 d hd ⟨Y1, hm1, s1, e6, e8, e9, e10, e11, rfl, k1, k2, k3⟩
    obtain ⟨S2, Y2, hm2, s2, f6, f9, f10, f11, t1, t2, t3, t4⟩ := round_turn Ds g t k1 k2 d v0 v1 e6 e8 e9 e10 e11
    exact ⟨_, S2, t1, Y2, hm2, s2, f6, some d, f9, f10, f11, rfl, t2, t3, t4⟩
  obtain ⟨e1, S1, k, Y1, hm1, s1, e6, e8, e9, e10, e11, rfl, k1, k2, k3⟩ := loopX_ok (g := gN 8) (body := lb_law_2 c) (xs := rngD 0 n) P step (e := [v0, v1, some (.ref st), some (.ref N), some (.bl ring), some (.ref Rw), v6, some (.ref h), none, none, none, none]) (S := S)
    ⟨_, [], s, v6, none, none, none, none, rfl, m, fun _ d a b => absurd b (by omega), fun _ a => absurd a (by omega)⟩
  rw [rng_len] at k3
  refine ⟨S1, hm1, e6, e8, e9, e10, e11, k, k1.hh, k1.ni.cell, ?_⟩
  rcases k1.ho with h0 | ⟨hr, h0⟩
  · cases ring with
    | true => exact absurd h0 (k3 rfl (Nat.le_refl _))
    | false => exact h0
  · rw [hr, if_pos rfl]; exact h0
end
/-! the greatest name -/
def maxT (a : Int × Int) (r : List (Int × Int)) : Int × Int := r.foldl (fun a y => if ltT a y = true then y else a) a
theorem lt_pT {a b : Int × Int} : PySem.W.dataLt (pT a) (pT b) = ltT a b := by
  unfold pT ltT
  rw [PySem.W.dataLt_ii]
theorem max_T (a : Int × Int) (r : List (Int × Int)) : PySem.W.maxD (pT a) (r.map pT) = pT (maxT a r) := by
  unfold PySem.W.maxD maxT
  induction r generalizing a with
  | nil => rfl
  | cons y r ih =>
    rw [List.map_cons, List.foldl_cons, List.foldl_cons, lt_pT]
    cases h : ltT a y
    · exact ih a
    · exact ih y
theorem maxT_eq {t : Int × Int} : ∀ (r : List (Int × Int)) (a : Int × Int), t ∈ a :: r → (∀ x ∈ a :: r, x ≠ t → ltT x t = true) → maxT a r = t
  | [], a, h, _ => (List.mem_singleton.mp h).symm
  | y :: r, a, h, hx => by
    show maxT (if ltT a y = true then y else a) r = t
    refine maxT_eq r _ ?_ (fun x h1 h2 => ?_)
    · rcases List.mem_cons.mp h with rfl | h
      · by_cases e : y = t
        · rw [e, ltT_irr]; simp
        · have := ltT_asym (hx y (by simp) e)
          rw [this]; simp
      · rcases List.mem_cons.mp h with rfl | h
        · by_cases e : a = t
          · rw [e, ltT_irr]; simp
          · rw [hx a (by simp) e]; simp
        · exact List.mem_cons_of_mem _ h
    · rcases List.mem_cons.mp h1 with h1 | h1
      · refine hx x ?_ h2
        rw [h1]
        split <;> simp
      · exact hx x (by simp [h1]) h2
theorem toPs_T {S : Sto} {k : Nat} {ws : List (Int × Int)} : (kT.es ws).mapM (toP S (k + 6)) = some (ws.map pT) := Cod.toPs (C := kT.toCod) (fun _ _ => trivial)
theorem pure_T {ws : List (Int × Int)} : pureTs (kT.es ws) = true := by
  induction ws with
  | nil => rfl
  | cons w ws ih => show (pureT (eT w) && pureTs (kT.es ws)) = true; rw [ih]; simp [eT, pureT, pureTs]
theorem o_maxT {a : Int × Int} {ws : List (Int × Int)} {q : Nat} {S : Sto} (h1 : S[q]? = some (.lst (kT.es (a :: ws)))) : oMax1 [.ref q] S = .ok (eT (maxT a ws)) S := by
  unfold oMax1
  simp only
  have e : lstD S (.ref q) = some (kT.es (a :: ws)) := by unfold lstD; simp only [h1]
  rw [e]
  simp only
  rw [show (20 : Nat) = 14 + 6 from rfl, toPs_T]
  simp only [List.map_cons]
  have hn : notNoneB (pT a :: ws.map pT) = true := by
    unfold notNoneB
    simp only [List.all_cons, List.all_map, Bool.and_eq_true, List.all_eq_true, Function.comp]
    exact ⟨rfl, fun _ _ => rfl⟩
  have hk : likeB (pT a :: ws.map pT) = true := by
    show likeB ((a :: ws).map pT) = true
    unfold likeB
    simp only [List.all_map, List.all_eq_true, Function.comp]
    intro x _ y _
    exact kT.alike x y
  rw [if_pos ⟨hk, hn, pure_T⟩, max_T]
  simp [pT, toD, toDs, eT]
end Qk17

namespace Qk17
open PySem L2 RF
theorem hlt' {α : Type} {l : List α} {i : Nat} {x : α} (e : l[i]? = some x) : i < l.length := (List.getElem?_eq_some_iff.mp e).1
theorem main_law (c : CA) (ns : List Int) (h1 : ns.length ≤ 63) (h2 : ∀ z ∈ ns, Builtin.Int.intBits z ≤ 1048576) : isTrue1 (F_law c [.rl (ns.map D.int)] []) := by
  have hc : ∃ x : Int, (0 < (ns.length : Int) ∧ atI (ns.map D.int) 0 = some (.int x)) ∨ (¬ 0 < (ns.length : Int) ∧ x = 0) := by
    cases ns with
    | nil => exact ⟨0, .inr ⟨by simp, rfl⟩⟩
    | cons n r => exact ⟨n, .inl ⟨by simp, by rw [atI_nn (by omega)]; rfl⟩⟩
  obtain ⟨x, hx⟩ := hc
  obtain ⟨s, hs⟩ := stream_eq c x 0 [] (by omega)
  simp only [List.length_nil, List.nil_append] at hs
  obtain ⟨N, S1, s1, names, k1, k2, k3, k4, k5, k6, k7⟩ := names_eq c (st := 0) (s := s) (S := [stC s]) rfl
  have hlt : ∀ {S : Sto} {i : Nat} {x : Cell}, S[i]? = some x → i < S.length := fun e => (List.getElem?_eq_some_iff.mp e).1
  have l0 := hlt k2
  have lN := hlt k3
  have a3 : (S1.set 0 (stC (dNext 2 s1).2))[N]? = some (.lst (kT.es names)) := by rw [List.getElem?_set_ne k4]; exact k3
  have a2 : (S1.set 0 (stC (dNext 2 s1).2))[0]? = some (stC (dNext 2 s1).2) := set_get k2
  have lA : (S1.set 0 (stC (dNext 2 s1).2)).length = S1.length := List.length_set
  generalize hA : S1.set 0 (stC (dNext 2 s1).2) = A at a2 a3 lA
  generalize hring : ((dNext 2 s1).1 == 0) = ring
  obtain ⟨o, ls, ys, s3, f6, S2, r1, r2, r3, r4, r5⟩ := rows_loop c (st := 0) (N := N) (Rw := S1.length) (S := A ++ [.lst []]) (v0 := some (.rl (ns.map D.int))) (v1 := some (.int x)) (v4 := some (.bl ring)) (app_get a2) (app_get a3) (by rw [← lA]; rw [get_app0]; rfl) k4 (by omega) (by omega) k5 k6 k7
  obtain ⟨M, tM⟩ := has_top r5
  have t0 := hlt r2.rows
  have t1 := hlt r3
  have t2 := hlt r4.cell
  have two := r5.two
  obtain ⟨S3, hm, e6, e8, e9, e10, e11, q1, q2, q3, q4⟩ := rounds (c := c) (ring := ring) (h := S2.length) (S := S2 ++ [.lst []]) (s := s3) ⟨by omega, k4, by omega, by omega, by omega⟩ r5 tM ⟨r2.app _, ⟨fun i _ m hm => (by cases hm), fun i _ => List.nodup_nil⟩, ⟨app_get r4.cell, r4.len, r4.eq⟩, app_get r3, (by rw [get_app0]; rfl), .inl rfl⟩ (some (.rl (ns.map D.int))) (some (.int x)) f6
  have hn : ((kT.es names).length : Int) = (names.length : Int) := by rw [Cod.es_len]
  have hr : -4611686018427387904 ≤ (names.length : Int) ∧ (names.length : Int) < 4611686018427387904 := by omega
  have hmax : oMax1 [.ref N] S3 = .ok (eT (o M).1) S3 := by
    obtain ⟨a, nr, rfl⟩ : ∃ a nr, names = a :: nr := by
      cases names with
      | nil => exact absurd k6 (by simp)
      | cons a nr => exact ⟨a, nr, rfl⟩
    have hmax := o_maxT q3
    have hmem : ∀ x ∈ a :: nr, ∃ i, i < (a :: nr).length ∧ x = (o i).1 := fun x hx => by
      obtain ⟨i, hi⟩ := List.getElem?_of_mem hx
      have hil := hlt' hi
      refine ⟨i, hil, ?_⟩
      have := r4.eq i hil
      rw [hi] at this
      exact Option.some.inj this
    have hmx : maxT a nr = (o M).1 := maxT_eq nr a (List.mem_of_getElem? (r4.eq M tM.1)) (fun x hx hne => by
      obtain ⟨i, hi, rfl⟩ := hmem x hx
      exact tM.2 i hi (fun e => hne (by rw [e])))
    rw [hmx] at hmax
    exact hmax
  have l3 := hlt q2
  cases ring with
  | true =>
    rw [if_pos rfl] at q4
    subst q4
    have he : PyData.eqv (.list [pT (o M).1]) (.list [pT (o M).1]) = true := by simp [PyData.eqv, PyData.eqvAll, eqv_T]
    have e9 : kT.es [(o M).1] = [eT (o M).1] := (rfl)
    rw [e9] at q2
    have q2 := fun T => app_get (T := T) q2
    unfold F_law b_law
    rcases hx with ⟨hx, ha⟩ | ⟨hx, rfl⟩
    · simp only [ap_fVar, varK_some, ap_fC, ap_fBin, ap_binK, ap_fUn, ap_fApp, ap_fNil, ap_fCons, ap_consK, ap_consK2, ap_fTup, ap_fLst, ap_tupK, ap_lstK, ap_fTest, ap_testK, ap_fVal, ap_valK, ap_fAnd, ap_fOr, ap_fNot, ap_andK, ap_orK, ap_notK, ap_fAndV, ap_fOrV, ap_fNotV, ap_andVK, ap_orVK, ap_notVK, ap_fIfE, ap_ifEK, ap_fChain, ap_chK1, ap_chK2, ap_chK3, ap_fSkip, ap_fBrk, ap_fCnt, ap_fSeq, ap_seqK_nx, ap_seqK_rt, ap_seqK_bk, ap_seqK_ct, ap_fIf, ap_ifK, ap_fRet, ap_retK, ap_fRetN, ap_fDrop, ap_dropK, ap_fAsg, ap_asgK, ap_asgK2, ap_gN, ap_gNil, ap_gCons, ap_gsK, ap_gUnp, ap_unpK, ap_gSub, ap_subK1, ap_subK2, ap_subK3, ap_fIx, ap_ixK, isDict_ref, isDict_tup, isDict_rl, isDict_str, isDictC_lst, isDictC_dk, isDictC_dt, getL_tup, getL_rl, getL_str, getL_ref, getLC_lst, retO_some, atI_0, atI_1, atI_2, atI_3, oSet_ref, setC_lst, setLK_some, ixN_0, ixN_1, ap_fCall, ap_callK, ap_fnF, ap_fnK_nx, ap_fnK_rt, o_add, o_addR, o_addC, o_addS, o_addT, o_sub, o_mul, o_mod, o_div, o_pow, o_neg, o_lt, o_le, o_gt, o_ge, o_int, o_min2, o_max2, o_leS1, o_inS1, o_isB, o_eq, o_ne, eqK_some, neK_some, eqv_int, eqv_bool, toP_int, toP_bl, toP_non, toP_str, toP_tup, toP_rl, toP_ref, toPC_lst, toP_mapM_nil, toP_mapM_cons, toP_consO, o_len, lenK_some, lenD_tup, lenD_rl, lenD_str, lenD_ref, lenC_lst, ap_fIsi, ap_isiK0, ap_isiK, ap_isiK2, ap_fTyIs, ap_tyK0, ap_tyK, ap_fFor, ap_forK_fix, ap_forK_live, loopX_nil, loopX_cons, ap_turnK0, ap_turnK_nx, ap_turnK_ct, ap_turnK_bk, ap_turnK_rt, ap_fRng1, ap_rng1K, ap_fIter, ap_iterK_rl, ap_iterK_kt, ap_iterK_tup, ap_iterK_ref, iterC_lst, ap_fIterS, ap_iterSK, ap_fComp, ap_compK_fix, ap_compK_live, compX_nil, compX_cons, ap_compTK, ap_compEK, ap_fYes, ap_fDict0, ap_fDictT0, ap_fSl, ap_slK1, ap_slK2, ap_pNo, ap_pSo, ap_pSoK, oSl_tup, oSl_str, ap_fBm, ap_bmK, tyIn_str, tyIn_ref, tyInC_lst, tyD_ref, fldsOf_ref, fldC_ins, ap_fFld, ap_fldK, ap_fldK2, ap_fSetFld, ap_sfK1, ap_sfK2, ap_sfK3, o_put, ap_putK, ap_fFldAug, ap_faK1, ap_faK2, ap_faK3, ap_faK4, ap_faK5, o_addI, ap_fMeth, ap_meK1, ap_meK2, ap_meK3, ap_fMake, ap_mkK, ap_mkK2, ap_fTru, ap_truK, ap_truK2, truD_ref, truC_lst, o_getD, o_getDK, lookD_ref, lookC_dk, setC_dk, ap_fDisp, ap_dispK, ap_dispK2, ap_prNil, ap_prCons, ap_prK, ap_prK2, ap_prK3, o_append, o_appC, o_isN, o_notN, o_nonD, o_nonT, o_nonR, o_nonI, isDict_eW, getL_eW0, getL_eW1, o_seqW, o_nonW, o_nonH, eqv_Ln, eqv_Lc, o_eH0, o_eH1, fldC_lk, fld_lkv, fld_lkt, fld_lkh, fld_lkw, fld_lkm1, fld_lkm2, fld_lkm3, fld_lkm4, fld_lkm5, fld_lklen, fld_lkpv, fld_lkpt, fld_lkph, fld_lkpw, isDictC_md, isDictC_lk, lookC_mdv, lookC_mdt, lookC_mdh, lookC_mdw, setC_mdv, setC_mdt, setC_mdh, setC_mdw, tyInC_md, o_seqR, o_seqC, fld_i1, fld_i2, fld_i3, fld_i4, fld_keyPs, fld_mdlen, fld_merge, ap_fMakeK, ap_mkKK, ap_fRng2, ap_rng2K, setC_dt, isDict_eK, o_listT, o_listTC, lookN_ref, lookNC_dn, o_inN, o_inNK, ap_fIxN, o_ixN, o_isDn, o_isNC, ap_fGetN, ap_gtK, ap_gtK2, ap_gtK3, o_getN, o_getNK, oSetN_ref, setNC_dn, setNK_some, ap_gSubN, ap_gnK, ap_gnK2, ap_gnK3, ap_fDictN0, o_listN, o_listNC, o_listNL, ap_fProp, ap_prpK, ap_prpK2, o_someMap, o_gtT, o_ltT, o_nonM, isDict_eM, getL_eM0, loopX_inv, loopX_ok, ixN_nn, o_tupR, o_tupC, fldC_mk, isDictC_mk, fldN_mk, fldL_mk_0, fldP_mk_0, fldL_mk_1, fldP_mk_1, fldL_mk_2, fldP_mk_2, fldM_mk_0, fldM_mk_1, fldM_mk_2, fldM_mk_3, fldI_mk_0, fldI_mk_1, fldI_mk_2, o_tyT, o_nonO, o_tellN, o_tellS, o_cut1, o_esN, eqv_O, fldC_sh, isDictC_sh, fldN_sh, fldL_sh_0, fldP_sh_0, fldL_sh_1, fldP_sh_1, fldM_sh_0, fldM_sh_1, fldM_sh_2, fldM_sh_3, fldM_sh_4, fldM_sh_5, fldM_sh_6, fldM_sh_7, fldM_sh_8, fldM_sh_9, fldI_sh_0, fldI_sh_1, isDictC_sm, lookC_sml, lookC_smp, fld_smkey, fld_smlen, fld_smerge, isDict_eT, getL_eT0, getL_eT1, eqv_NW, o_seqT, eqv_row, ap_fGComp, ap_gcompK_live, ap_unset0, ap_unset1, o_kKe, o_kTe, o_kKTe, ap_ptT2, o_mulT, ap_fRev, ap_revK, ap_fLstRg, ap_lstRgK, fT_eT, fT_eW, fT_eH, eqv_T, eqv_W, eqv_H, mapM_eW, eqv_Ws, eq_self, Bool.true_eq_false, Option.isNone_none, Option.isNone_some, R.bind_ok, R.bind_ex, R.bind_bad, R.nox_ok, nox_bad', List.map_cons, List.map_nil, List.length_cons, List.length_nil, List.cons_append, List.nil_append, Nat.zero_add, Nat.reduceAdd, Nat.reduceSub, List.replicate_succ, List.replicate_zero, List.getElem?_cons_zero, List.getElem?_cons_succ, List.set_cons_zero, List.set_cons_succ, List.append_nil, Bool.false_eq_true, if_true, if_false, decide_eq_true_eq, decide_true, decide_false, Nat.add_zero, reduceIte, reduceDIte, Nat.reduceLeDiff, Int.reduceLT, Int.reduceLE, Int.reduceNeg, Int.reducePow, Int.reduceMul, Int.reduceAdd, Int.reduceSub, Nat.reduceEqDiff, Nat.reducePow, true_and, and_true, or_true, true_or, false_or, or_false, and_self, Bool.not_true, Bool.not_false, Nat.reduceLT, ge_iff_le, gt_iff_lt, Nat.le_refl, Option.map_some, Bool.not_eq_true, Bool.not_eq_eq_eq_not, not_true_eq_false, not_false_eq_true, Int.reduceToNat, beq_iff_eq, Int.reduceEq, String.reduceEq, String.reduceNe, Int.reduceNe, List.set_set, get_app, get_app0, get_apps, get_apps0, set_app, set_app0, set_apps, set_apps0, List.append_assoc, Nat.add_assoc, List.toList_toArray, List.size_toArray, List.length_set, List.length_append, List.length_map, hx, ha, hs, k1, next_eq, fT_nextC, k2, hring, hA, lA, app_get a3, r4.cell, app_get r4.cell, hn, hr, Int.toNat_natCast, r1, q1, hmax, q2, he, isTrue1]
    · simp only [ap_fVar, varK_some, ap_fC, ap_fBin, ap_binK, ap_fUn, ap_fApp, ap_fNil, ap_fCons, ap_consK, ap_consK2, ap_fTup, ap_fLst, ap_tupK, ap_lstK, ap_fTest, ap_testK, ap_fVal, ap_valK, ap_fAnd, ap_fOr, ap_fNot, ap_andK, ap_orK, ap_notK, ap_fAndV, ap_fOrV, ap_fNotV, ap_andVK, ap_orVK, ap_notVK, ap_fIfE, ap_ifEK, ap_fChain, ap_chK1, ap_chK2, ap_chK3, ap_fSkip, ap_fBrk, ap_fCnt, ap_fSeq, ap_seqK_nx, ap_seqK_rt, ap_seqK_bk, ap_seqK_ct, ap_fIf, ap_ifK, ap_fRet, ap_retK, ap_fRetN, ap_fDrop, ap_dropK, ap_fAsg, ap_asgK, ap_asgK2, ap_gN, ap_gNil, ap_gCons, ap_gsK, ap_gUnp, ap_unpK, ap_gSub, ap_subK1, ap_subK2, ap_subK3, ap_fIx, ap_ixK, isDict_ref, isDict_tup, isDict_rl, isDict_str, isDictC_lst, isDictC_dk, isDictC_dt, getL_tup, getL_rl, getL_str, getL_ref, getLC_lst, retO_some, atI_0, atI_1, atI_2, atI_3, oSet_ref, setC_lst, setLK_some, ixN_0, ixN_1, ap_fCall, ap_callK, ap_fnF, ap_fnK_nx, ap_fnK_rt, o_add, o_addR, o_addC, o_addS, o_addT, o_sub, o_mul, o_mod, o_div, o_pow, o_neg, o_lt, o_le, o_gt, o_ge, o_int, o_min2, o_max2, o_leS1, o_inS1, o_isB, o_eq, o_ne, eqK_some, neK_some, eqv_int, eqv_bool, toP_int, toP_bl, toP_non, toP_str, toP_tup, toP_rl, toP_ref, toPC_lst, toP_mapM_nil, toP_mapM_cons, toP_consO, o_len, lenK_some, lenD_tup, lenD_rl, lenD_str, lenD_ref, lenC_lst, ap_fIsi, ap_isiK0, ap_isiK, ap_isiK2, ap_fTyIs, ap_tyK0, ap_tyK, ap_fFor, ap_forK_fix, ap_forK_live, loopX_nil, loopX_cons, ap_turnK0, ap_turnK_nx, ap_turnK_ct, ap_turnK_bk, ap_turnK_rt, ap_fRng1, ap_rng1K, ap_fIter, ap_iterK_rl, ap_iterK_kt, ap_iterK_tup, ap_iterK_ref, iterC_lst, ap_fIterS, ap_iterSK, ap_fComp, ap_compK_fix, ap_compK_live, compX_nil, compX_cons, ap_compTK, ap_compEK, ap_fYes, ap_fDict0, ap_fDictT0, ap_fSl, ap_slK1, ap_slK2, ap_pNo, ap_pSo, ap_pSoK, oSl_tup, oSl_str, ap_fBm, ap_bmK, tyIn_str, tyIn_ref, tyInC_lst, tyD_ref, fldsOf_ref, fldC_ins, ap_fFld, ap_fldK, ap_fldK2, ap_fSetFld, ap_sfK1, ap_sfK2, ap_sfK3, o_put, ap_putK, ap_fFldAug, ap_faK1, ap_faK2, ap_faK3, ap_faK4, ap_faK5, o_addI, ap_fMeth, ap_meK1, ap_meK2, ap_meK3, ap_fMake, ap_mkK, ap_mkK2, ap_fTru, ap_truK, ap_truK2, truD_ref, truC_lst, o_getD, o_getDK, lookD_ref, lookC_dk, setC_dk, ap_fDisp, ap_dispK, ap_dispK2, ap_prNil, ap_prCons, ap_prK, ap_prK2, ap_prK3, o_append, o_appC, o_isN, o_notN, o_nonD, o_nonT, o_nonR, o_nonI, isDict_eW, getL_eW0, getL_eW1, o_seqW, o_nonW, o_nonH, eqv_Ln, eqv_Lc, o_eH0, o_eH1, fldC_lk, fld_lkv, fld_lkt, fld_lkh, fld_lkw, fld_lkm1, fld_lkm2, fld_lkm3, fld_lkm4, fld_lkm5, fld_lklen, fld_lkpv, fld_lkpt, fld_lkph, fld_lkpw, isDictC_md, isDictC_lk, lookC_mdv, lookC_mdt, lookC_mdh, lookC_mdw, setC_mdv, setC_mdt, setC_mdh, setC_mdw, tyInC_md, o_seqR, o_seqC, fld_i1, fld_i2, fld_i3, fld_i4, fld_keyPs, fld_mdlen, fld_merge, ap_fMakeK, ap_mkKK, ap_fRng2, ap_rng2K, setC_dt, isDict_eK, o_listT, o_listTC, lookN_ref, lookNC_dn, o_inN, o_inNK, ap_fIxN, o_ixN, o_isDn, o_isNC, ap_fGetN, ap_gtK, ap_gtK2, ap_gtK3, o_getN, o_getNK, oSetN_ref, setNC_dn, setNK_some, ap_gSubN, ap_gnK, ap_gnK2, ap_gnK3, ap_fDictN0, o_listN, o_listNC, o_listNL, ap_fProp, ap_prpK, ap_prpK2, o_someMap, o_gtT, o_ltT, o_nonM, isDict_eM, getL_eM0, loopX_inv, loopX_ok, ixN_nn, o_tupR, o_tupC, fldC_mk, isDictC_mk, fldN_mk, fldL_mk_0, fldP_mk_0, fldL_mk_1, fldP_mk_1, fldL_mk_2, fldP_mk_2, fldM_mk_0, fldM_mk_1, fldM_mk_2, fldM_mk_3, fldI_mk_0, fldI_mk_1, fldI_mk_2, o_tyT, o_nonO, o_tellN, o_tellS, o_cut1, o_esN, eqv_O, fldC_sh, isDictC_sh, fldN_sh, fldL_sh_0, fldP_sh_0, fldL_sh_1, fldP_sh_1, fldM_sh_0, fldM_sh_1, fldM_sh_2, fldM_sh_3, fldM_sh_4, fldM_sh_5, fldM_sh_6, fldM_sh_7, fldM_sh_8, fldM_sh_9, fldI_sh_0, fldI_sh_1, isDictC_sm, lookC_sml, lookC_smp, fld_smkey, fld_smlen, fld_smerge, isDict_eT, getL_eT0, getL_eT1, eqv_NW, o_seqT, eqv_row, ap_fGComp, ap_gcompK_live, ap_unset0, ap_unset1, o_kKe, o_kTe, o_kKTe, ap_ptT2, o_mulT, ap_fRev, ap_revK, ap_fLstRg, ap_lstRgK, fT_eT, fT_eW, fT_eH, eqv_T, eqv_W, eqv_H, mapM_eW, eqv_Ws, eq_self, Bool.true_eq_false, Option.isNone_none, Option.isNone_some, R.bind_ok, R.bind_ex, R.bind_bad, R.nox_ok, nox_bad', List.map_cons, List.map_nil, List.length_cons, List.length_nil, List.cons_append, List.nil_append, Nat.zero_add, Nat.reduceAdd, Nat.reduceSub, List.replicate_succ, List.replicate_zero, List.getElem?_cons_zero, List.getElem?_cons_succ, List.set_cons_zero, List.set_cons_succ, List.append_nil, Bool.false_eq_true, if_true, if_false, decide_eq_true_eq, decide_true, decide_false, Nat.add_zero, reduceIte, reduceDIte, Nat.reduceLeDiff, Int.reduceLT, Int.reduceLE, Int.reduceNeg, Int.reducePow, Int.reduceMul, Int.reduceAdd, Int.reduceSub, Nat.reduceEqDiff, Nat.reducePow, true_and, and_true, or_true, true_or, false_or, or_false, and_self, Bool.not_true, Bool.not_false, Nat.reduceLT, ge_iff_le, gt_iff_lt, Nat.le_refl, Option.map_some, Bool.not_eq_true, Bool.not_eq_eq_eq_not, not_true_eq_false, not_false_eq_true, Int.reduceToNat, beq_iff_eq, Int.reduceEq, String.reduceEq, String.reduceNe, Int.reduceNe, List.set_set, get_app, get_app0, get_apps, get_apps0, set_app, set_app0, set_apps, set_apps0, List.append_assoc, Nat.add_assoc, List.toList_toArray, List.size_toArray, List.length_set, List.length_append, List.length_map, hx, hs, k1, next_eq, fT_nextC, k2, hring, hA, lA, app_get a3, r4.cell, app_get r4.cell, hn, hr, Int.toNat_natCast, r1, q1, hmax, q2, he, isTrue1]
  | false =>
    have q4 : hm = [] := q4
    subst q4
    have he : PyData.eqv (.list []) (.list []) = true := by simp [PyData.eqv, PyData.eqvAll]
    have e9 : kT.es ([] : List (Int × Int)) = [] := (rfl)
    rw [e9] at q2
    have q2 := fun T => app_get (T := T) q2
    unfold F_law b_law
    rcases hx with ⟨hx, ha⟩ | ⟨hx, rfl⟩
    · simp only [ap_fVar, varK_some, ap_fC, ap_fBin, ap_binK, ap_fUn, ap_fApp, ap_fNil, ap_fCons, ap_consK, ap_consK2, ap_fTup, ap_fLst, ap_tupK, ap_lstK, ap_fTest, ap_testK, ap_fVal, ap_valK, ap_fAnd, ap_fOr, ap_fNot, ap_andK, ap_orK, ap_notK, ap_fAndV, ap_fOrV, ap_fNotV, ap_andVK, ap_orVK, ap_notVK, ap_fIfE, ap_ifEK, ap_fChain, ap_chK1, ap_chK2, ap_chK3, ap_fSkip, ap_fBrk, ap_fCnt, ap_fSeq, ap_seqK_nx, ap_seqK_rt, ap_seqK_bk, ap_seqK_ct, ap_fIf, ap_ifK, ap_fRet, ap_retK, ap_fRetN, ap_fDrop, ap_dropK, ap_fAsg, ap_asgK, ap_asgK2, ap_gN, ap_gNil, ap_gCons, ap_gsK, ap_gUnp, ap_unpK, ap_gSub, ap_subK1, ap_subK2, ap_subK3, ap_fIx, ap_ixK, isDict_ref, isDict_tup, isDict_rl, isDict_str, isDictC_lst, isDictC_dk, isDictC_dt, getL_tup, getL_rl, getL_str, getL_ref, getLC_lst, retO_some, atI_0, atI_1, atI_2, atI_3, oSet_ref, setC_lst, setLK_some, ixN_0, ixN_1, ap_fCall, ap_callK, ap_fnF, ap_fnK_nx, ap_fnK_rt, o_add, o_addR, o_addC, o_addS, o_addT, o_sub, o_mul, o_mod, o_div, o_pow, o_neg, o_lt, o_le, o_gt, o_ge, o_int, o_min2, o_max2, o_leS1, o_inS1, o_isB, o_eq, o_ne, eqK_some, neK_some, eqv_int, eqv_bool, toP_int, toP_bl, toP_non, toP_str, toP_tup, toP_rl, toP_ref, toPC_lst, toP_mapM_nil, toP_mapM_cons, toP_consO, o_len, lenK_some, lenD_tup, lenD_rl, lenD_str, lenD_ref, lenC_lst, ap_fIsi, ap_isiK0, ap_isiK, ap_isiK2, ap_fTyIs, ap_tyK0, ap_tyK, ap_fFor, ap_forK_fix, ap_forK_live, loopX_nil, loopX_cons, ap_turnK0, ap_turnK_nx, ap_turnK_ct, ap_turnK_bk, ap_turnK_rt, ap_fRng1, ap_rng1K, ap_fIter, ap_iterK_rl, ap_iterK_kt, ap_iterK_tup, ap_iterK_ref, iterC_lst, ap_fIterS, ap_iterSK, ap_fComp, ap_compK_fix, ap_compK_live, compX_nil, compX_cons, ap_compTK, ap_compEK, ap_fYes, ap_fDict0, ap_fDictT0, ap_fSl, ap_slK1, ap_slK2, ap_pNo, ap_pSo, ap_pSoK, oSl_tup, oSl_str, ap_fBm, ap_bmK, tyIn_str, tyIn_ref, tyInC_lst, tyD_ref, fldsOf_ref, fldC_ins, ap_fFld, ap_fldK, ap_fldK2, ap_fSetFld, ap_sfK1, ap_sfK2, ap_sfK3, o_put, ap_putK, ap_fFldAug, ap_faK1, ap_faK2, ap_faK3, ap_faK4, ap_faK5, o_addI, ap_fMeth, ap_meK1, ap_meK2, ap_meK3, ap_fMake, ap_mkK, ap_mkK2, ap_fTru, ap_truK, ap_truK2, truD_ref, truC_lst, o_getD, o_getDK, lookD_ref, lookC_dk, setC_dk, ap_fDisp, ap_dispK, ap_dispK2, ap_prNil, ap_prCons, ap_prK, ap_prK2, ap_prK3, o_append, o_appC, o_isN, o_notN, o_nonD, o_nonT, o_nonR, o_nonI, isDict_eW, getL_eW0, getL_eW1, o_seqW, o_nonW, o_nonH, eqv_Ln, eqv_Lc, o_eH0, o_eH1, fldC_lk, fld_lkv, fld_lkt, fld_lkh, fld_lkw, fld_lkm1, fld_lkm2, fld_lkm3, fld_lkm4, fld_lkm5, fld_lklen, fld_lkpv, fld_lkpt, fld_lkph, fld_lkpw, isDictC_md, isDictC_lk, lookC_mdv, lookC_mdt, lookC_mdh, lookC_mdw, setC_mdv, setC_mdt, setC_mdh, setC_mdw, tyInC_md, o_seqR, o_seqC, fld_i1, fld_i2, fld_i3, fld_i4, fld_keyPs, fld_mdlen, fld_merge, ap_fMakeK, ap_mkKK, ap_fRng2, ap_rng2K, setC_dt, isDict_eK, o_listT, o_listTC, lookN_ref, lookNC_dn, o_inN, o_inNK, ap_fIxN, o_ixN, o_isDn, o_isNC, ap_fGetN, ap_gtK, ap_gtK2, ap_gtK3, o_getN, o_getNK, oSetN_ref, setNC_dn, setNK_some, ap_gSubN, ap_gnK, ap_gnK2, ap_gnK3, ap_fDictN0, o_listN, o_listNC, o_listNL, ap_fProp, ap_prpK, ap_prpK2, o_someMap, o_gtT, o_ltT, o_nonM, isDict_eM, getL_eM0, loopX_inv, loopX_ok, ixN_nn, o_tupR, o_tupC, fldC_mk, isDictC_mk, fldN_mk, fldL_mk_0, fldP_mk_0, fldL_mk_1, fldP_mk_1, fldL_mk_2, fldP_mk_2, fldM_mk_0, fldM_mk_1, fldM_mk_2, fldM_mk_3, fldI_mk_0, fldI_mk_1, fldI_mk_2, o_tyT, o_nonO, o_tellN, o_tellS, o_cut1, o_esN, eqv_O, fldC_sh, isDictC_sh, fldN_sh, fldL_sh_0, fldP_sh_0, fldL_sh_1, fldP_sh_1, fldM_sh_0, fldM_sh_1, fldM_sh_2, fldM_sh_3, fldM_sh_4, fldM_sh_5, fldM_sh_6, fldM_sh_7, fldM_sh_8, fldM_sh_9, fldI_sh_0, fldI_sh_1, isDictC_sm, lookC_sml, lookC_smp, fld_smkey, fld_smlen, fld_smerge, isDict_eT, getL_eT0, getL_eT1, eqv_NW, o_seqT, eqv_row, ap_fGComp, ap_gcompK_live, ap_unset0, ap_unset1, o_kKe, o_kTe, o_kKTe, ap_ptT2, o_mulT, ap_fRev, ap_revK, ap_fLstRg, ap_lstRgK, fT_eT, fT_eW, fT_eH, eqv_T, eqv_W, eqv_H, mapM_eW, eqv_Ws, eq_self, Bool.true_eq_false, Option.isNone_none, Option.isNone_some, R.bind_ok, R.bind_ex, R.bind_bad, R.nox_ok, nox_bad', List.map_cons, List.map_nil, List.length_cons, List.length_nil, List.cons_append, List.nil_append, Nat.zero_add, Nat.reduceAdd, Nat.reduceSub, List.replicate_succ, List.replicate_zero, List.getElem?_cons_zero, List.getElem?_cons_succ, List.set_cons_zero, List.set_cons_succ, List.append_nil, Bool.false_eq_true, if_true, if_false, decide_eq_true_eq, decide_true, decide_false, Nat.add_zero, reduceIte, reduceDIte, Nat.reduceLeDiff, Int.reduceLT, Int.reduceLE, Int.reduceNeg, Int.reducePow, Int.reduceMul, Int.reduceAdd, Int.reduceSub, Nat.reduceEqDiff, Nat.reducePow, true_and, and_true, or_true, true_or, false_or, or_false, and_self, Bool.not_true, Bool.not_false, Nat.reduceLT, ge_iff_le, gt_iff_lt, Nat.le_refl, Option.map_some, Bool.not_eq_true, Bool.not_eq_eq_eq_not, not_true_eq_false, not_false_eq_true, Int.reduceToNat, beq_iff_eq, Int.reduceEq, String.reduceEq, String.reduceNe, Int.reduceNe, List.set_set, get_app, get_app0, get_apps, get_apps0, set_app, set_app0, set_apps, set_apps0, List.append_assoc, Nat.add_assoc, List.toList_toArray, List.size_toArray, List.length_set, List.length_append, List.length_map, hx, ha, hs, k1, next_eq, fT_nextC, k2, hring, hA, lA, app_get a3, r4.cell, app_get r4.cell, hn, hr, Int.toNat_natCast, r1, q1, q2, he, isTrue1]
    · simp only [ap_fVar, varK_some, ap_fC, ap_fBin, ap_binK, ap_fUn, ap_fApp, ap_fNil, ap_fCons, ap_consK, ap_consK2, ap_fTup, ap_fLst, ap_tupK, ap_lstK, ap_fTest, ap_testK, ap_fVal, ap_valK, ap_fAnd, ap_fOr, ap_fNot, ap_andK, ap_orK, ap_notK, ap_fAndV, ap_fOrV, ap_fNotV, ap_andVK, ap_orVK, ap_notVK, ap_fIfE, ap_ifEK, ap_fChain, ap_chK1, ap_chK2, ap_chK3, ap_fSkip, ap_fBrk, ap_fCnt, ap_fSeq, ap_seqK_nx, ap_seqK_rt, ap_seqK_bk, ap_seqK_ct, ap_fIf, ap_ifK, ap_fRet, ap_retK, ap_fRetN, ap_fDrop, ap_dropK, ap_fAsg, ap_asgK, ap_asgK2, ap_gN, ap_gNil, ap_gCons, ap_gsK, ap_gUnp, ap_unpK, ap_gSub, ap_subK1, ap_subK2, ap_subK3, ap_fIx, ap_ixK, isDict_ref, isDict_tup, isDict_rl, isDict_str, isDictC_lst, isDictC_dk, isDictC_dt, getL_tup, getL_rl, getL_str, getL_ref, getLC_lst, retO_some, atI_0, atI_1, atI_2, atI_3, oSet_ref, setC_lst, setLK_some, ixN_0, ixN_1, ap_fCall, ap_callK, ap_fnF, ap_fnK_nx, ap_fnK_rt, o_add, o_addR, o_addC, o_addS, o_addT, o_sub, o_mul, o_mod, o_div, o_pow, o_neg, o_lt, o_le, o_gt, o_ge, o_int, o_min2, o_max2, o_leS1, o_inS1, o_isB, o_eq, o_ne, eqK_some, neK_some, eqv_int, eqv_bool, toP_int, toP_bl, toP_non, toP_str, toP_tup, toP_rl, toP_ref, toPC_lst, toP_mapM_nil, toP_mapM_cons, toP_consO, o_len, lenK_some, lenD_tup, lenD_rl, lenD_str, lenD_ref, lenC_lst, ap_fIsi, ap_isiK0, ap_isiK, ap_isiK2, ap_fTyIs, ap_tyK0, ap_tyK, ap_fFor, ap_forK_fix, ap_forK_live, loopX_nil, loopX_cons, ap_turnK0, ap_turnK_nx, ap_turnK_ct, ap_turnK_bk, ap_turnK_rt, ap_fRng1, ap_rng1K, ap_fIter, ap_iterK_rl, ap_iterK_kt, ap_iterK_tup, ap_iterK_ref, iterC_lst, ap_fIterS, ap_iterSK, ap_fComp, ap_compK_fix, ap_compK_live, compX_nil, compX_cons, ap_compTK, ap_compEK, ap_fYes, ap_fDict0, ap_fDictT0, ap_fSl, ap_slK1, ap_slK2, ap_pNo, ap_pSo, ap_pSoK, oSl_tup, oSl_str, ap_fBm, ap_bmK, tyIn_str, tyIn_ref, tyInC_lst, tyD_ref, fldsOf_ref, fldC_ins, ap_fFld, ap_fldK, ap_fldK2, ap_fSetFld, ap_sfK1, ap_sfK2, ap_sfK3, o_put, ap_putK, ap_fFldAug, ap_faK1, ap_faK2, ap_faK3, ap_faK4, ap_faK5, o_addI, ap_fMeth, ap_meK1, ap_meK2, ap_meK3, ap_fMake, ap_mkK, ap_mkK2, ap_fTru, ap_truK, ap_truK2, truD_ref, truC_lst, o_getD, o_getDK, lookD_ref, lookC_dk, setC_dk, ap_fDisp, ap_dispK, ap_dispK2, ap_prNil, ap_prCons, ap_prK, ap_prK2, ap_prK3, o_append, o_appC, o_isN, o_notN, o_nonD, o_nonT, o_nonR, o_nonI, isDict_eW, getL_eW0, getL_eW1, o_seqW, o_nonW, o_nonH, eqv_Ln, eqv_Lc, o_eH0, o_eH1, fldC_lk, fld_lkv, fld_lkt, fld_lkh, fld_lkw, fld_lkm1, fld_lkm2, fld_lkm3, fld_lkm4, fld_lkm5, fld_lklen, fld_lkpv, fld_lkpt, fld_lkph, fld_lkpw, isDictC_md, isDictC_lk, lookC_mdv, lookC_mdt, lookC_mdh, lookC_mdw, setC_mdv, setC_mdt, setC_mdh, setC_mdw, tyInC_md, o_seqR, o_seqC, fld_i1, fld_i2, fld_i3, fld_i4, fld_keyPs, fld_mdlen, fld_merge, ap_fMakeK, ap_mkKK, ap_fRng2, ap_rng2K, setC_dt, isDict_eK, o_listT, o_listTC, lookN_ref, lookNC_dn, o_inN, o_inNK, ap_fIxN, o_ixN, o_isDn, o_isNC, ap_fGetN, ap_gtK, ap_gtK2, ap_gtK3, o_getN, o_getNK, oSetN_ref, setNC_dn, setNK_some, ap_gSubN, ap_gnK, ap_gnK2, ap_gnK3, ap_fDictN0, o_listN, o_listNC, o_listNL, ap_fProp, ap_prpK, ap_prpK2, o_someMap, o_gtT, o_ltT, o_nonM, isDict_eM, getL_eM0, loopX_inv, loopX_ok, ixN_nn, o_tupR, o_tupC, fldC_mk, isDictC_mk, fldN_mk, fldL_mk_0, fldP_mk_0, fldL_mk_1, fldP_mk_1, fldL_mk_2, fldP_mk_2, fldM_mk_0, fldM_mk_1, fldM_mk_2, fldM_mk_3, fldI_mk_0, fldI_mk_1, fldI_mk_2, o_tyT, o_nonO, o_tellN, o_tellS, o_cut1, o_esN, eqv_O, fldC_sh, isDictC_sh, fldN_sh, fldL_sh_0, fldP_sh_0, fldL_sh_1, fldP_sh_1, fldM_sh_0, fldM_sh_1, fldM_sh_2, fldM_sh_3, fldM_sh_4, fldM_sh_5, fldM_sh_6, fldM_sh_7, fldM_sh_8, fldM_sh_9, fldI_sh_0, fldI_sh_1, isDictC_sm, lookC_sml, lookC_smp, fld_smkey, fld_smlen, fld_smerge, isDict_eT, getL_eT0, getL_eT1, eqv_NW, o_seqT, eqv_row, ap_fGComp, ap_gcompK_live, ap_unset0, ap_unset1, o_kKe, o_kTe, o_kKTe, ap_ptT2, o_mulT, ap_fRev, ap_revK, ap_fLstRg, ap_lstRgK, fT_eT, fT_eW, fT_eH, eqv_T, eqv_W, eqv_H, mapM_eW, eqv_Ws, eq_self, Bool.true_eq_false, Option.isNone_none, Option.isNone_some, R.bind_ok, R.bind_ex, R.bind_bad, R.nox_ok, nox_bad', List.map_cons, List.map_nil, List.length_cons, List.length_nil, List.cons_append, List.nil_append, Nat.zero_add, Nat.reduceAdd, Nat.reduceSub, List.replicate_succ, List.replicate_zero, List.getElem?_cons_zero, List.getElem?_cons_succ, List.set_cons_zero, List.set_cons_succ, List.append_nil, Bool.false_eq_true, if_true, if_false, decide_eq_true_eq, decide_true, decide_false, Nat.add_zero, reduceIte, reduceDIte, Nat.reduceLeDiff, Int.reduceLT, Int.reduceLE, Int.reduceNeg, Int.reducePow, Int.reduceMul, Int.reduceAdd, Int.reduceSub, Nat.reduceEqDiff, Nat.reducePow, true_and, and_true, or_true, true_or, false_or, or_false, and_self, Bool.not_true, Bool.not_false, Nat.reduceLT, ge_iff_le, gt_iff_lt, Nat.le_refl, Option.map_some, Bool.not_eq_true, Bool.not_eq_eq_eq_not, not_true_eq_false, not_false_eq_true, Int.reduceToNat, beq_iff_eq, Int.reduceEq, String.reduceEq, String.reduceNe, Int.reduceNe, List.set_set, get_app, get_app0, get_apps, get_apps0, set_app, set_app0, set_apps, set_apps0, List.append_assoc, Nat.add_assoc, List.toList_toArray, List.size_toArray, List.length_set, List.length_append, List.length_map, hx, hs, k1, next_eq, fT_nextC, k2, hring, hA, lA, app_get a3, r4.cell, app_get r4.cell, hn, hr, Int.toNat_natCast, r1, q1, q2, he, isTrue1]
end Qk17

namespace Qk17
open PySem L2 RF
theorem all_mk {l : PySem.W.OpenLaw} {w : World} {K : PySem.W.Frag} {h : Heap} {mg : Str → Option Value} {fa C0 : Addr} (X : K.In h) (G : h.Ns mainGlobals mg) (hfa : mg "law" = some (.ref fa))
    {f0 : Addr} {od0 an0 : Option Addr} {sl0 : Array (Option Value)} {oc0 kV0 dc0 pm0 cd0 ct0 : Value}
    {f1 : Addr} {od1 an1 : Option Addr} {sl1 : Array (Option Value)} {oc1 kV1 dc1 pm1 cd1 ct1 : Value}
    {f2 : Addr} {od2 an2 : Option Addr} {sl2 : Array (Option Value)} {oc2 kV2 dc2 pm2 cd2 ct2 : Value}
    {f3 : Addr} {od3 an3 : Option Addr} {sl3 : Array (Option Value)} {oc3 kV3 dc3 pm3 cd3 ct3 : Value}
    {f4 : Addr} {od4 an4 : Option Addr} {sl4 : Array (Option Value)} {oc4 kV4 dc4 pm4 cd4 ct4 : Value}
    {f5 : Addr} {od5 an5 : Option Addr} {sl5 : Array (Option Value)} {oc5 kV5 dc5 pm5 cd5 ct5 : Value}
    {f6 : Addr} {od6 an6 : Option Addr} {sl6 : Array (Option Value)} {oc6 kV6 dc6 pm6 cd6 ct6 : Value}
    {f7 : Addr} {od7 an7 : Option Addr} {sl7 : Array (Option Value)} {oc7 kV7 dc7 pm7 cd7 ct7 : Value}
    {f8 : Addr} {od8 an8 : Option Addr} {sl8 : Array (Option Value)} {oc8 kV8 dc8 pm8 cd8 ct8 : Value}
    {f9 : Addr} {od9 an9 : Option Addr} {sl9 : Array (Option Value)} {oc9 kV9 dc9 pm9 cd9 ct9 : Value}
    (main : ∀ (c : CA) (ns : List Int), ns.length ≤ 63 → (∀ z ∈ ns, Builtin.Int.intBits z ≤ 1048576) → isTrue1 (F_law c [.rl (ns.map D.int)] []))
    (aC0 : PySem.W.nsIn K mainGlobals "Marks" = some (some (.ref C0)))
    (pg0 : PySem.W.plainGet K C0 Str.empty = true)
    (hd0 : PySem.W.hasDictIn K C0 = true)
    (po0 : PySem.W.plainOver K C0 = true)
    (sa0 : PySem.W.findIn K (.ref C0) "__setattr__" = some (some (.builtin "object.__setattr__")))
    (n0_transaction : PySem.W.findIn K (.ref C0) ⟨#[95, 116, 114, 97, 110, 115, 97, 99, 116, 105, 111, 110]⟩ = some none)
    (n0_own : PySem.W.findIn K (.ref C0) ⟨#[95, 111, 119, 110]⟩ = some none)
    (n0_younger : PySem.W.findIn K (.ref C0) ⟨#[95, 121, 111, 117, 110, 103, 101, 114]⟩ = some none)
    (mk0 : PySem.W.makesIn K C0 = true)
    (kc0 : PySem.W.keepIn K (.ref C0) = true)
    (a0 : PySem.W.nsIn K mainGlobals "_law_stream" = some (some (.ref f0)))
    (l0 : K.lookup f0 = some ⟨oc0, od0, .func (PySem.W.fnOf "_law_stream" "_law_stream" (defArgs s_law_stream) (defBody s_law_stream) (defScope s_law_stream) .none kV0 dc0 pm0 an0 cd0 ct0), sl0⟩)
    (c0 : PySem.W.codeIn K cd0 "_law_stream" = true)
    (k0 : PySem.W.keepIn K (.ref f0) = true)
    (a1 : PySem.W.nsIn K mainGlobals "_law_next" = some (some (.ref f1)))
    (l1 : K.lookup f1 = some ⟨oc1, od1, .func (PySem.W.fnOf "_law_next" "_law_next" (defArgs s_law_next) (defBody s_law_next) (defScope s_law_next) .none kV1 dc1 pm1 an1 cd1 ct1), sl1⟩)
    (c1 : PySem.W.codeIn K cd1 "_law_next" = true)
    (k1 : PySem.W.keepIn K (.ref f1) = true)
    (a2 : PySem.W.nsIn K mainGlobals "_law_transaction" = some (some (.ref f2)))
    (l2 : K.lookup f2 = some ⟨oc2, od2, .func (PySem.W.fnOf "_law_transaction" "_law_transaction" (defArgs s_law_transaction) (defBody s_law_transaction) (defScope s_law_transaction) .none kV2 dc2 pm2 an2 cd2 ct2), sl2⟩)
    (c2 : PySem.W.codeIn K cd2 "_law_transaction" = true)
    (k2 : PySem.W.keepIn K (.ref f2) = true)
    (a3 : PySem.W.nsIn K mainGlobals "_law_names" = some (some (.ref f3)))
    (l3 : K.lookup f3 = some ⟨oc3, od3, .func (PySem.W.fnOf "_law_names" "_law_names" (defArgs s_law_names) (defBody s_law_names) (defScope s_law_names) .none kV3 dc3 pm3 an3 cd3 ct3), sl3⟩)
    (c3 : PySem.W.codeIn K cd3 "_law_names" = true)
    (k3 : PySem.W.keepIn K (.ref f3) = true)
    (a4 : PySem.W.findIn K (.ref C0) ⟨#[95, 95, 105, 110, 105, 116, 95, 95]⟩ = some (some (.ref f4)))
    (i4 : PySem.W.isFn K (.ref f4) = true)
    (l4 : K.lookup f4 = some ⟨oc4, od4, .func (PySem.W.fnOf "__init__" "Marks.__init__" (defArgs s_Marks_init__) (defBody s_Marks_init__) (defScope s_Marks_init__) .none kV4 dc4 pm4 an4 cd4 ct4), sl4⟩)
    (c4 : PySem.W.codeIn K cd4 "Marks.__init__" = true)
    (k4 : PySem.W.keepIn K (.ref f4) = true)
    (a5 : PySem.W.findIn K (.ref C0) ⟨#[98, 101, 103, 105, 110]⟩ = some (some (.ref f5)))
    (i5 : PySem.W.isFn K (.ref f5) = true)
    (l5 : K.lookup f5 = some ⟨oc5, od5, .func (PySem.W.fnOf "begin" "Marks.begin" (defArgs s_Marks_begin) (defBody s_Marks_begin) (defScope s_Marks_begin) .none kV5 dc5 pm5 an5 cd5 ct5), sl5⟩)
    (c5 : PySem.W.codeIn K cd5 "Marks.begin" = true)
    (k5 : PySem.W.keepIn K (.ref f5) = true)
    (a6 : PySem.W.findIn K (.ref C0) ⟨#[116, 111, 108, 100]⟩ = some (some (.ref f6)))
    (i6 : PySem.W.isFn K (.ref f6) = true)
    (l6 : K.lookup f6 = some ⟨oc6, od6, .func (PySem.W.fnOf "told" "Marks.told" (defArgs s_Marks_told) (defBody s_Marks_told) (defScope s_Marks_told) .none kV6 dc6 pm6 an6 cd6 ct6), sl6⟩)
    (c6 : PySem.W.codeIn K cd6 "Marks.told" = true)
    (k6 : PySem.W.keepIn K (.ref f6) = true)
    (a7 : PySem.W.findIn K (.ref C0) ⟨#[116, 97, 107, 101]⟩ = some (some (.ref f7)))
    (i7 : PySem.W.isFn K (.ref f7) = true)
    (l7 : K.lookup f7 = some ⟨oc7, od7, .func (PySem.W.fnOf "take" "Marks.take" (defArgs s_Marks_take) (defBody s_Marks_take) (defScope s_Marks_take) .none kV7 dc7 pm7 an7 cd7 ct7), sl7⟩)
    (c7 : PySem.W.codeIn K cd7 "Marks.take" = true)
    (k7 : PySem.W.keepIn K (.ref f7) = true)
    (a8 : PySem.W.nsIn K mainGlobals "_law_next_takes" = some (some (.ref f8)))
    (l8 : K.lookup f8 = some ⟨oc8, od8, .func (PySem.W.fnOf "_law_next_takes" "_law_next_takes" (defArgs s_law_next_takes) (defBody s_law_next_takes) (defScope s_law_next_takes) .none kV8 dc8 pm8 an8 cd8 ct8), sl8⟩)
    (c8 : PySem.W.codeIn K cd8 "_law_next_takes" = true)
    (k8 : PySem.W.keepIn K (.ref f8) = true)
    (a9 : PySem.W.nsIn K mainGlobals "law" = some (some (.ref f9)))
    (l9 : K.lookup f9 = some ⟨oc9, od9, .func (PySem.W.fnOf "law" "law" (defArgs s_law) (defBody s_law) (defScope s_law) .none kV9 dc9 pm9 an9 cd9 ct9), sl9⟩)
    (c9 : PySem.W.codeIn K cd9 "law" = true)
    (k9 : PySem.W.keepIn K (.ref f9) = true)
    (z_int : PySem.W.nsIn K mainGlobals "int" = some none)
    (z_len : PySem.W.nsIn K mainGlobals "len" = some none)
    (z_list : PySem.W.nsIn K mainGlobals "list" = some none)
    (z_max : PySem.W.nsIn K mainGlobals "max" = some none)
    (z_range : PySem.W.nsIn K mainGlobals "range" = some none)
    (z_sorted : PySem.W.nsIn K mainGlobals "sorted" = some none)
    (z_tuple : PySem.W.nsIn K mainGlobals "tuple" = some none) :
    ∃ fd : FuncData, (∀ (s : Shared) (v : Value), BindsTo s fd ⟨[v], []⟩ [("script", v)]) ∧ ∀ base : Heap, K.In base → base.Ns mainGlobals mg → FnOk l.prog w K mg base CX0 4 fa fd ["script"] (spLaw K) := by
  have e := hfa.symm.trans (PySem.W.mg_of X G a9)
  cases e
  have GG : Gm K mg { w := w, c_Marks := C0, a_law_stream := f0, d_law_stream := PySem.W.fnOf "_law_stream" "_law_stream" (defArgs s_law_stream) (defBody s_law_stream) (defScope s_law_stream) .none kV0 dc0 pm0 an0 cd0 ct0, a_law_next := f1, d_law_next := PySem.W.fnOf "_law_next" "_law_next" (defArgs s_law_next) (defBody s_law_next) (defScope s_law_next) .none kV1 dc1 pm1 an1 cd1 ct1, a_law_transaction := f2, d_law_transaction := PySem.W.fnOf "_law_transaction" "_law_transaction" (defArgs s_law_transaction) (defBody s_law_transaction) (defScope s_law_transaction) .none kV2 dc2 pm2 an2 cd2 ct2, a_law_names := f3, d_law_names := PySem.W.fnOf "_law_names" "_law_names" (defArgs s_law_names) (defBody s_law_names) (defScope s_law_names) .none kV3 dc3 pm3 an3 cd3 ct3, a_Marks_init__ := f4, d_Marks_init__ := PySem.W.fnOf "__init__" "Marks.__init__" (defArgs s_Marks_init__) (defBody s_Marks_init__) (defScope s_Marks_init__) .none kV4 dc4 pm4 an4 cd4 ct4, a_Marks_begin := f5, d_Marks_begin := PySem.W.fnOf "begin" "Marks.begin" (defArgs s_Marks_begin) (defBody s_Marks_begin) (defScope s_Marks_begin) .none kV5 dc5 pm5 an5 cd5 ct5, a_Marks_told := f6, d_Marks_told := PySem.W.fnOf "told" "Marks.told" (defArgs s_Marks_told) (defBody s_Marks_told) (defScope s_Marks_told) .none kV6 dc6 pm6 an6 cd6 ct6, a_Marks_take := f7, d_Marks_take := PySem.W.fnOf "take" "Marks.take" (defArgs s_Marks_take) (defBody s_Marks_take) (defScope s_Marks_take) .none kV7 dc7 pm7 an7 cd7 ct7, a_law_next_takes := f8, d_law_next_takes := PySem.W.fnOf "_law_next_takes" "_law_next_takes" (defArgs s_law_next_takes) (defBody s_law_next_takes) (defScope s_law_next_takes) .none kV8 dc8 pm8 an8 cd8 ct8, a_law := fa, d_law := PySem.W.fnOf "law" "law" (defArgs s_law) (defBody s_law) (defScope s_law) .none kV9 dc9 pm9 an9 cd9 ct9 } := { z_int := PySem.W.mg_none_of X G z_int, z_len := PySem.W.mg_none_of X G z_len, z_list := PySem.W.mg_none_of X G z_list, z_max := PySem.W.mg_none_of X G z_max, z_range := PySem.W.mg_none_of X G z_range, z_sorted := PySem.W.mg_none_of X G z_sorted, z_tuple := PySem.W.mg_none_of X G z_tuple, T_Marks := ⟨pg0, hd0, po0, sa0⟩, n_Marks_transaction := n0_transaction, n_Marks_own := n0_own, n_Marks_younger := n0_younger, g_Marks := PySem.W.mg_of X G aC0, M_Marks := ⟨mk0, (by exact a4), i4, kc0⟩, F_law_stream := fun_mk (st := s_law_stream) l0 c0 k0, b_law_stream := (fun_mk (st := s_law_stream) l0 c0 k0).binds (ps := ["cell", "k"]) fun _ _ _ _ _ _ us hl => match us, hl with | [_, _], _ => rfl, g_law_stream := PySem.W.mg_of X G a0, F_law_next := fun_mk (st := s_law_next) l1 c1 k1, b_law_next := (fun_mk (st := s_law_next) l1 c1 k1).binds (ps := ["stream", "size"]) fun _ _ _ _ _ _ us hl => match us, hl with | [_, _], _ => rfl, g_law_next := PySem.W.mg_of X G a1, F_law_transaction := fun_mk (st := s_law_transaction) l2 c2 k2, b_law_transaction := (fun_mk (st := s_law_transaction) l2 c2 k2).binds (ps := ["stream"]) fun _ _ _ _ _ _ us hl => match us, hl with | [_], _ => rfl, g_law_transaction := PySem.W.mg_of X G a2, F_law_names := fun_mk (st := s_law_names) l3 c3 k3, b_law_names := (fun_mk (st := s_law_names) l3 c3 k3).binds (ps := ["stream"]) fun _ _ _ _ _ _ us hl => match us, hl with | [_], _ => rfl, g_law_names := PySem.W.mg_of X G a3, F_Marks_init__ := fun_mk (st := s_Marks_init__) l4 c4 k4, b_Marks_init__ := (fun_mk (st := s_Marks_init__) l4 c4 k4).binds (ps := ["self", "transaction"]) fun _ _ _ _ _ _ us hl => match us, hl with | [_, _], _ => rfl, m_Marks_init__ := ⟨a4, i4, k4⟩, F_Marks_begin := fun_mk (st := s_Marks_begin) l5 c5 k5, b_Marks_begin := (fun_mk (st := s_Marks_begin) l5 c5 k5).binds (ps := ["self", "mark"]) fun _ _ _ _ _ _ us hl => match us, hl with | [_, _], _ => rfl, m_Marks_begin := ⟨a5, i5, k5⟩, F_Marks_told := fun_mk (st := s_Marks_told) l6 c6 k6, b_Marks_told := (fun_mk (st := s_Marks_told) l6 c6 k6).binds (ps := ["self"]) fun _ _ _ _ _ _ us hl => match us, hl with | [_], _ => rfl, m_Marks_told := ⟨a6, i6, k6⟩, F_Marks_take := fun_mk (st := s_Marks_take) l7 c7 k7, b_Marks_take := (fun_mk (st := s_Marks_take) l7 c7 k7).binds (ps := ["self", "marks"]) fun _ _ _ _ _ _ us hl => match us, hl with | [_, _], _ => rfl, m_Marks_take := ⟨a7, i7, k7⟩, F_law_next_takes := fun_mk (st := s_law_next_takes) l8 c8 k8, b_law_next_takes := (fun_mk (st := s_law_next_takes) l8 c8 k8).binds (ps := ["rows", "names", "k", "ring"]) fun _ _ _ _ _ _ us hl => match us, hl with | [_, _, _, _], _ => rfl, g_law_next_takes := PySem.W.mg_of X G a8, F_law := fun_mk (st := s_law) l9 c9 k9, b_law := (fun_mk (st := s_law) l9 c9 k9).binds (ps := ["script"]) fun _ _ _ _ _ _ us hl => match us, hl with | [_], _ => rfl, g_law := PySem.W.mg_of X G a9 }
  exact ⟨PySem.W.fnOf "law" "law" (defArgs s_law) (defBody s_law) (defScope s_law) .none kV9 dc9 pm9 an9 cd9 ct9, fun s v => .of_eq rfl, fun base _ _ => law_sp (ok_law GG) (main _)⟩
theorem walk {l : PySem.W.OpenLaw} {q : Program} {loose : List Str} {XP : (Str → Option Value) → Heap → Prop} {YP : World → Heap → Prop} {d : DefRec} {K : Params → PySem.W.Frag} (hn : l.most = some 63) (hdf : d.params.defaults = [])
    (hY : ∀ (w : World) (h : Heap), YP w h → (K w.params).In h)
    (F : ∀ (w : World) (mg : Str → Option Value) (fa : Addr) (h : Heap), (K w.params).In h → h.Ns mainGlobals mg → mg d.name = some (.ref fa) →
      ∃ fd : FuncData, (∀ (s : Shared) (u : Value), BindsTo s fd ⟨[u], []⟩ [("script", u)]) ∧ ∀ base : Heap, (K w.params).In base → base.Ns mainGlobals mg → FnOk l.prog w (K w.params) mg base CX0 4 fa fd ["script"] (spLaw (K w.params))) :
    PySem.W.WalkO q loose XP YP l.row.toRowW d [] (fun f vs => PySem.call f vs) :=
  L2.walk_ofB (n := 63) (k := 4) (x := "script") (CX := fun _ => CX0) (sp := fun w => spLaw (K w.params)) hn (by rw [sizeLine_eq]; decide) hdf ⟨rfl, by decide, by decide⟩ hY F (fun _ _ a ns hl hb hO hS => ⟨a, ns, rfl, hO, hS, hl, hb, fun _ => rfl⟩) fun _ _ _ _ _ z => z
end Qk17
open PySem PySem.W PyProof.Rows in
set_option maxRecDepth 100000 in
set_option maxHeartbeats 0 in
theorem PySem.Challenge.cw_ringloosed_k17_marks_come_home_round_a_r_holds : PySem.Challenge.rw_ringloosed_k17_marks_come_home_round_a_r.Holds := by
  w_on; o_law; k_head; (case hw => w_witness2)
  k_fill
  refine Qk17.walk (l := PySem.Challenge.rw_ringloosed_k17_marks_come_home_round_a_r) rfl rfl (fun w h Y => PySem.W.kIn_of Y) ?F
  case F =>
    intro w mg fa h KX G hmg
    refine' Qk17.all_mk KX G hmg Qk17.main_law ?aC0 ?pg0 ?hd0 ?po0 ?sa0 ?n0_transaction ?n0_own ?n0_younger ?mk0 ?kc0 ?a0 ?l0 ?c0 ?k0 ?a1 ?l1 ?c1 ?k1 ?a2 ?l2 ?c2 ?k2 ?a3 ?l3 ?c3 ?k3 ?a4 ?i4 ?l4 ?c4 ?k4 ?a5 ?i5 ?l5 ?c5 ?k5 ?a6 ?i6 ?l6 ?c6 ?k6 ?a7 ?i7 ?l7 ?c7 ?k7 ?a8 ?l8 ?c8 ?k8 ?a9 ?l9 ?c9 ?k9 ?z_int ?z_len ?z_list ?z_max ?z_range ?z_sorted ?z_tuple
    (case aC0 => k_is)
    (case pg0 => k_is)
    (case hd0 => k_is)
    (case po0 => k_is)
    (case sa0 => k_is)
    (case n0_transaction => k_is)
    (case n0_own => k_is)
    (case n0_younger => k_is)
    (case mk0 => k_is)
    (case kc0 => k_is)
    (case a0 => k_is)
    (case l0 => k_is)
    (case c0 => k_is)
    (case k0 => k_is)
    (case a1 => k_is)
    (case l1 => k_is)
    (case c1 => k_is)
    (case k1 => k_is)
    (case a2 => k_is)
    (case l2 => k_is)
    (case c2 => k_is)
    (case k2 => k_is)
    (case a3 => k_is)
    (case l3 => k_is)
    (case c3 => k_is)
    (case k3 => k_is)
    (case a4 => k_is)
    (case i4 => k_is)
    (case l4 => k_is)
    (case c4 => k_is)
    (case k4 => k_is)
    (case a5 => k_is)
    (case i5 => k_is)
    (case l5 => k_is)
    (case c5 => k_is)
    (case k5 => k_is)
    (case a6 => k_is)
    (case i6 => k_is)
    (case l6 => k_is)
    (case c6 => k_is)
    (case k6 => k_is)
    (case a7 => k_is)
    (case i7 => k_is)
    (case l7 => k_is)
    (case c7 => k_is)
    (case k7 => k_is)
    (case a8 => k_is)
    (case l8 => k_is)
    (case c8 => k_is)
    (case k8 => k_is)
    (case a9 => k_is)
    (case l9 => k_is)
    (case c9 => k_is)
    (case k9 => k_is)
    (case z_int => k_is)
    (case z_len => k_is)
    (case z_list => k_is)
    (case z_max => k_is)
    (case z_range => k_is)
    (case z_sorted => k_is)
    (case z_tuple => k_is)
