import PyProof.Rows.All
import Wide.All
import OpenK.AllK
import Wide.FinOn
import HandS.ForMost
import HandS.Wide
import HandS.Flow
import HandS.NoneIn
import HandS.IsInst
import HandS.More
import HandS.Deep
import HandS.Text
import HandS.TupAny
import HandS.TupLen
import HandS.TupLe
import HandS.EndBits
import PySem.Challenge.RW_ringloosed_k01_numbers_and_names
set_option Elab.async false
set_option linter.all false
set_option maxRecDepth 100000
set_option maxHeartbeats 4000000
/-! RF: a functional layer over the hand layer: a piece of Python is simulated by a Lean function over data and a store -/
namespace RF
open PySem L2

/-- data: tuples by value, lists, dicts and instances by their place in the store -/
inductive D where
  | non | bl (b : Bool) | int (i : Int) | str (x : Str) | ref (n : Nat) | rl (xs : List D) | tup (xs : List D)
inductive Cell where
  | lst (xs : List D) | dk (kvs : List (Key × D)) | dt (kvs : List (List Key × D)) | ins (C : Addr) (fs : List (Str × D))
abbrev Sto := List Cell
abbrev Lc := List (Option D)
/-- an outcome: a value and the store; an own exception of the class at c; anything else -/
inductive R (α : Type) where
  | ok (a : α) (S : Sto) | ex (c : Addr) (S : Sto) | bad
def R.bind {α β : Type} (x : R α) (k : α → Sto → R β) : R β := match x with
  | .ok a S => k a S
  | .ex c S => .ex c S
  | .bad => .bad
@[simp] theorem R.bind_ok {α β : Type} (a : α) (S : Sto) (k : α → Sto → R β) : (R.ok a S).bind k = k a S := (rfl)
@[simp] theorem R.bind_ex {α β : Type} (c : Addr) (S : Sto) (k : α → Sto → R β) : (R.ex c S : R α).bind k = .ex c S := (rfl)
@[simp] theorem R.bind_bad {α β : Type} (k : α → Sto → R β) : (R.bad : R α).bind k = .bad := (rfl)

/-! ### what stands for what -/
mutual
inductive RD (K : PySem.W.Frag) (L : List Addr) (H : Hp) : V → D → Prop
  | non : RD K L H .non .non
  | bl (b : Bool) : RD K L H (.bl b) (.bl b)
  | int (i : Int) : RD K L H (.int i) (.int i)
  | str (x : Str) : RD K L H (.str x) (.str x)
  | ref {a : Addr} {n : Nat} : L[n]? = some a → RD K L H (.ref a) (.ref n)
  | rl {a : Addr} {vs : List V} {ds : List D} : (∀ H1 : Hp, (∀ b o u, H b = some (.frz o u) → H1 b = some (.frz o u)) → SqL K H1 a vs) → RDs K L H vs ds → RD K L H (.ref a) (.rl ds)
  | tup {a : Addr} {vs : List V} {ds : List D} : H a = some (.tup vs) → RDs K L H vs ds → RD K L H (.ref a) (.tup ds)
inductive RDs (K : PySem.W.Frag) (L : List Addr) (H : Hp) : List V → List D → Prop
  | nil : RDs K L H [] []
  | cons {v : V} {vs : List V} {d : D} {ds : List D} : RD K L H v d → RDs K L H vs ds → RDs K L H (v :: vs) (d :: ds)
end
/-- the store and what is tracked may have grown or changed within the store -/
structure Gr (L : List Addr) (H : Hp) (L1 : List Addr) (H1 : Hp) : Prop where
  px : ∀ (n : Nat) a, L[n]? = some a → L1[n]? = some a
  tp : ∀ a xs, H a = some (.tup xs) → H1 a = some (.tup xs)
  fz : ∀ a o u, H a = some (.frz o u) → H1 a = some (.frz o u)
structure Ex (L : List Addr) (H : Hp) (L1 : List Addr) (H1 : Hp) : Prop where
  px : ∀ (n : Nat) a, L[n]? = some a → L1[n]? = some a
  nw : ∀ a ∈ L1, a ∈ L ∨ H a = none
  fr : ∀ a o, a ∉ L → H a = some o → H1 a = some o
  tp : ∀ a xs, H a = some (.tup xs) → H1 a = some (.tup xs)
  fz : ∀ a o u, H a = some (.frz o u) → H1 a = some (.frz o u)
theorem Ex.gr {L L1 : List Addr} {H H1 : Hp} (e : Ex L H L1 H1) : Gr L H L1 H1 := ⟨e.px, e.tp, e.fz⟩
theorem Ex.refl (L : List Addr) (H : Hp) : Ex L H L H := ⟨fun _ _ h => h, fun _ h => .inl h, fun _ _ _ h => h, fun _ _ h => h, fun _ _ _ h => h⟩
theorem Ex.trans {L L1 L2 : List Addr} {H H1 H2 : Hp} (a : Ex L H L1 H1) (b : Ex L1 H1 L2 H2) : Ex L H L2 H2 where
  px := fun n x h => b.px n x (a.px n x h)
  nw := fun x h => by
    rcases b.nw x h with h | h
    · exact a.nw x h
    · by_cases hx : x ∈ L
      · exact .inl hx
      · refine .inr ?_
        cases q : H x with
        | none => rfl
        | some o => rw [a.fr x o hx q] at h; cases h
  fr := fun x o hx h => by
    refine b.fr x o (fun z => ?_) (a.fr x o hx h)
    rcases a.nw x z with z | z
    · exact hx z
    · rw [h] at z; cases z
  tp := fun x xs h => b.tp x xs (a.tp x xs h)
  fz := fun x o u h => b.fz x o u (a.fz x o u h)
mutual
theorem RD.grow {K : PySem.W.Frag} {L L1 : List Addr} {H H1 : Hp} (e : Gr L H L1 H1) : ∀ {v : V} {d : D}, RD K L H v d → RD K L1 H1 v d
  | _, _, .non => .non
  | _, _, .bl b => .bl b
  | _, _, .int i => .int i
  | _, _, .str x => .str x
  | _, _, .ref h => .ref (e.px _ _ h)
  | _, _, .rl h r => .rl (fun H2 k => h H2 fun b o u q => k b o u (e.fz b o u q)) (RDs.grow e r)
  | _, _, .tup h r => .tup (e.tp _ _ h) (RDs.grow e r)
theorem RDs.grow {K : PySem.W.Frag} {L L1 : List Addr} {H H1 : Hp} (e : Gr L H L1 H1) : ∀ {v : List V} {d : List D}, RDs K L H v d → RDs K L1 H1 v d
  | _, _, .nil => .nil
  | _, _, .cons a b => .cons (RD.grow e a) (RDs.grow e b)
end
theorem RD.mono {K : PySem.W.Frag} {L L1 : List Addr} {H H1 : Hp} (e : Ex L H L1 H1) {v : V} {d : D} (h : RD K L H v d) : RD K L1 H1 v d := RD.grow e.gr h
theorem RDs.mono {K : PySem.W.Frag} {L L1 : List Addr} {H H1 : Hp} (e : Ex L H L1 H1) {v : List V} {d : List D} (h : RDs K L H v d) : RDs K L1 H1 v d := RDs.grow e.gr h
theorem RDs.length {K : PySem.W.Frag} {L : List Addr} {H : Hp} : ∀ {vs : List V} {ds : List D}, RDs K L H vs ds → vs.length = ds.length
  | _, _, .nil => rfl
  | _, _, .cons _ b => by rw [List.length_cons, List.length_cons, b.length]
theorem RDs.get {K : PySem.W.Frag} {L : List Addr} {H : Hp} : ∀ {vs : List V} {ds : List D} {i : Nat} {d : D}, RDs K L H vs ds → ds[i]? = some d → ∃ v, vs[i]? = some v ∧ RD K L H v d
  | _, _, _, _, .nil, h => by simp at h
  | _, _, 0, _, .cons a b, h => by simp at h; subst h; exact ⟨_, rfl, a⟩
  | _, _, i + 1, _, .cons a b, h => by
    obtain ⟨v, h1, h2⟩ := RDs.get (i := i) b (by simpa using h)
    exact ⟨v, by simpa using h1, h2⟩
theorem RDs.getV {K : PySem.W.Frag} {L : List Addr} {H : Hp} : ∀ {vs : List V} {ds : List D} {i : Nat} {v : V}, RDs K L H vs ds → vs[i]? = some v → ∃ d, ds[i]? = some d ∧ RD K L H v d
  | _, _, _, _, .nil, h => by simp at h
  | _, _, 0, _, .cons a b, h => by simp at h; subst h; exact ⟨_, rfl, a⟩
  | _, _, i + 1, _, .cons a b, h => by
    obtain ⟨v, h1, h2⟩ := RDs.getV (i := i) b (by simpa using h)
    exact ⟨v, by simpa using h1, h2⟩
theorem RDs.append {K : PySem.W.Frag} {L : List Addr} {H : Hp} : ∀ {vs ws : List V} {ds es : List D}, RDs K L H vs ds → RDs K L H ws es → RDs K L H (vs ++ ws) (ds ++ es)
  | _, _, _, _, .nil, h => h
  | _, _, _, _, .cons a b, h => .cons a (RDs.append b h)
theorem RDs.set {K : PySem.W.Frag} {L : List Addr} {H : Hp} {v : V} {d : D} (r : RD K L H v d) : ∀ {vs : List V} {ds : List D} (i : Nat), RDs K L H vs ds → RDs K L H (vs.set i v) (ds.set i d)
  | _, _, _, .nil => .nil
  | _, _, 0, .cons _ b => .cons r b
  | _, _, i + 1, .cons a b => .cons a (RDs.set r i b)
theorem RDs.take {K : PySem.W.Frag} {L : List Addr} {H : Hp} : ∀ {vs : List V} {ds : List D} (n : Nat), RDs K L H vs ds → RDs K L H (vs.take n) (ds.take n)
  | _, _, 0, _ => .nil
  | _, _, _ + 1, .nil => .nil
  | _, _, n + 1, .cons a b => .cons a (RDs.take n b)
theorem RDs.drop {K : PySem.W.Frag} {L : List Addr} {H : Hp} : ∀ {vs : List V} {ds : List D} (n : Nat), RDs K L H vs ds → RDs K L H (vs.drop n) (ds.drop n)
  | _, _, 0, h => h
  | _, _, _ + 1, .nil => .nil
  | _, _, n + 1, .cons _ b => RDs.drop n b
theorem RDs.eraseIdx {K : PySem.W.Frag} {L : List Addr} {H : Hp} : ∀ {vs : List V} {ds : List D} (n : Nat), RDs K L H vs ds → RDs K L H (vs.eraseIdx n) (ds.eraseIdx n)
  | _, _, _, .nil => .nil
  | _, _, 0, .cons _ b => b
  | _, _, n + 1, .cons a b => .cons a (RDs.eraseIdx n b)
/-- named parts -/
def RK {κ : Type} (K : PySem.W.Frag) (L : List Addr) (H : Hp) : List (κ × V) → List (κ × D) → Prop
  | [], [] => True
  | p :: ps, q :: qs => p.1 = q.1 ∧ RD K L H p.2 q.2 ∧ RK K L H ps qs
  | _, _ => False
theorem RK.grow {κ : Type} {K : PySem.W.Frag} {L L1 : List Addr} {H H1 : Hp} (e : Gr L H L1 H1) : ∀ {ps : List (κ × V)} {qs : List (κ × D)}, RK K L H ps qs → RK K L1 H1 ps qs
  | [], [], _ => trivial
  | p :: ps, q :: qs, ⟨a, b, c⟩ => ⟨a, b.grow e, RK.grow e c⟩
  | [], _ :: _, h => h.elim
  | _ :: _, [], h => h.elim
theorem RK.mono {κ : Type} {K : PySem.W.Frag} {L L1 : List Addr} {H H1 : Hp} (e : Ex L H L1 H1) {ps : List (κ × V)} {qs : List (κ × D)} (h : RK K L H ps qs) : RK K L1 H1 ps qs := RK.grow e.gr h
theorem RK.length {κ : Type} {K : PySem.W.Frag} {L : List Addr} {H : Hp} : ∀ {ps : List (κ × V)} {qs : List (κ × D)}, RK K L H ps qs → ps.length = qs.length
  | [], [], _ => rfl
  | p :: ps, q :: qs, ⟨_, _, c⟩ => by rw [List.length_cons, List.length_cons, RK.length c]
  | [], _ :: _, h => h.elim
  | _ :: _, [], h => h.elim
theorem RK.lookup {κ : Type} [BEq κ] [LawfulBEq κ] {K : PySem.W.Frag} {L : List Addr} {H : Hp} (k : κ) : ∀ {ps : List (κ × V)} {qs : List (κ × D)}, RK K L H ps qs → (qs.lookup k = none ∧ ps.lookup k = none) ∨ ∃ v d, qs.lookup k = some d ∧ ps.lookup k = some v ∧ RD K L H v d
  | [], [], _ => .inl ⟨rfl, rfl⟩
  | (a, v) :: ps, (b, d) :: qs, ⟨e, r, c⟩ => by
    have e : a = b := e
    subst e
    rw [List.lookup_cons, List.lookup_cons]
    cases q : k == a with
    | true => exact .inr ⟨v, d, rfl, rfl, r⟩
    | false => exact RK.lookup k c
  | [], _ :: _, h => h.elim
  | _ :: _, [], h => h.elim

/-- what stands at the address of a cell -/
def RC (K : PySem.W.Frag) (L : List Addr) (H : Hp) (a : Addr) : Cell → Prop
  | .lst ds => ∃ vs, H a = some (.lst vs) ∧ RDs K L H vs ds
  | .dk kvs => ∃ ws, H a = some (.dK ws) ∧ RK K L H ws kvs
  | .dt kvs => ∃ ws, H a = some (.dT ws) ∧ RK K L H ws kvs
  | .ins C fs => ∃ dx ws, H a = some (.ins C dx ws) ∧ RK K L H ws fs
structure Rep (K : PySem.W.Frag) (L : List Addr) (H : Hp) (S : Sto) : Prop where
  len : L.length = S.length
  nd : L.Nodup
  cel : ∀ (n : Nat) a c, L[n]? = some a → S[n]? = some c → RC K L H a c
section
variable {K : PySem.W.Frag} {L L1 : List Addr} {H H1 : Hp} {S S1 : Sto} {a p : Addr} {o : HO} {c : Cell} {n : Nat} {E : XK}
theorem RC.some (r : RC K L H a c) : ∃ o, H a = some o ∧ Mut (some o) := by
  cases c with
  | lst _ => obtain ⟨_, h, _⟩ := r; exact ⟨_, h, trivial⟩
  | dk _ => obtain ⟨_, h, _⟩ := r; exact ⟨_, h, trivial⟩
  | dt _ => obtain ⟨_, h, _⟩ := r; exact ⟨_, h, trivial⟩
  | ins _ _ => obtain ⟨_, _, h, _⟩ := r; exact ⟨_, h, trivial⟩
theorem RC.grow (r : RC K L H a c) (e : Gr L H L1 H1) (h : H1 a = H a) : RC K L1 H1 a c := by
  cases c with
  | lst _ => obtain ⟨vs, q, t⟩ := r; exact ⟨vs, h.trans q, t.grow e⟩
  | dk _ => obtain ⟨vs, q, t⟩ := r; exact ⟨vs, h.trans q, t.grow e⟩
  | dt _ => obtain ⟨vs, q, t⟩ := r; exact ⟨vs, h.trans q, t.grow e⟩
  | ins _ _ => obtain ⟨dx, vs, q, t⟩ := r; exact ⟨dx, vs, h.trans q, t.grow e⟩
theorem RC.mono (r : RC K L H a c) (e : Ex L H L1 H1) (h : H1 a = H a) : RC K L1 H1 a c := r.grow e.gr h
theorem Rep.adr (r : Rep K L H S) (h : L[n]? = some a) : ∃ c, S[n]? = some c ∧ RC K L H a c := by
  have hn : n < S.length := by rw [← r.len]; exact (List.getElem?_eq_some_iff.mp h).1
  exact ⟨S[n], List.getElem?_eq_getElem hn, r.cel n a _ h (List.getElem?_eq_getElem hn)⟩
theorem Rep.at (r : Rep K L H S) (h : S[n]? = some c) : ∃ a, L[n]? = some a ∧ RC K L H a c := by
  have hn : n < L.length := by rw [r.len]; exact (List.getElem?_eq_some_iff.mp h).1
  exact ⟨L[n], List.getElem?_eq_getElem hn, r.cel n _ c (List.getElem?_eq_getElem hn) h⟩
theorem Rep.there (r : Rep K L H S) (h : a ∈ L) : ∃ o, H a = some o ∧ Mut (some o) := by
  obtain ⟨n, hn, rfl⟩ := List.mem_iff_getElem.mp h
  obtain ⟨c, _, q⟩ := r.adr (List.getElem?_eq_getElem hn)
  exact q.some
theorem Rep.fresh (r : Rep K L H S) (h : H p = none) : p ∉ L := fun z => by
  obtain ⟨o, q, _⟩ := r.there z
  rw [h] at q; cases q
theorem Rep.notup (r : Rep K L H S) (h : a ∈ L) : (∀ xs, H a ≠ some (.tup xs)) ∧ ∀ o u, H a ≠ some (.frz o u) := by
  obtain ⟨o, q, m⟩ := r.there h
  refine ⟨fun xs z => ?_, fun o' u z => ?_⟩
  · rw [q] at z; cases z; exact m
  · rw [q] at z; cases z; exact m
/-- a new object that is no cell -/
theorem Ex.new (h : H p = none) : Ex L H L (upd H p o) :=
  ⟨fun _ _ h => h, fun _ h => .inl h, fun b u _ q => (upd_ne (ne_of_none q h)).trans q, fun b xs q => (upd_ne (ne_of_none q h)).trans q, fun b ob u q => (upd_ne (ne_of_none q h)).trans q⟩
theorem Ex.newc (h : H p = none) : Ex L H (L ++ [p]) (upd H p o) where
  px := fun n b q => by
    have hn := (List.getElem?_eq_some_iff.mp q).1
    rw [List.getElem?_append_left hn]; exact q
  nw := fun b q => by
    rcases List.mem_append.mp q with q | q
    · exact .inl q
    · rw [List.mem_singleton.mp q]; exact .inr h
  fr := fun b u _ q => (upd_ne (ne_of_none q h)).trans q
  tp := fun b xs q => (upd_ne (ne_of_none q h)).trans q
  fz := fun b ob u q => (upd_ne (ne_of_none q h)).trans q
theorem Ex.wr (r : Rep K L H S) (h : a ∈ L) : Ex L H L (upd H a o) where
  px := fun _ _ q => q
  nw := fun _ q => .inl q
  fr := fun b u hb q => (upd_ne (fun z => hb (by rw [z]; exact h))).trans q
  tp := fun b xs q => (upd_ne (fun z => (r.notup h).1 xs (by rw [← z]; exact q))).trans q
  fz := fun b ob u q => (upd_ne (fun z => (r.notup h).2 ob u (by rw [← z]; exact q))).trans q
theorem Rep.new (r : Rep K L H S) (h : H p = none) : Rep K L (upd H p o) S :=
  ⟨r.len, r.nd, fun n b c h1 h2 => (r.cel n b c h1 h2).mono (Ex.new h) (upd_ne fun z => r.fresh h (z ▸ List.mem_of_getElem? h1))⟩
theorem Rep.newc (r : Rep K L H S) (h : H p = none) (hc : RC K (L ++ [p]) (upd H p o) p c) : Rep K (L ++ [p]) (upd H p o) (S ++ [c]) where
  len := by rw [List.length_append, List.length_append, r.len]; rfl
  nd := by
    rw [List.nodup_append]
    refine ⟨r.nd, by simp, fun b hb d hd e => ?_⟩
    rw [List.mem_singleton] at hd
    subst hd; subst e
    exact r.fresh h hb
  cel := fun n b c' h1 h2 => by
    by_cases hn : n < L.length
    · rw [List.getElem?_append_left hn] at h1
      rw [List.getElem?_append_left (by rw [← r.len]; exact hn)] at h2
      exact (r.cel n b c' h1 h2).mono (Ex.newc h) (upd_ne fun z => r.fresh h (z ▸ List.mem_of_getElem? h1))
    · rw [List.getElem?_append_right (Nat.le_of_not_lt hn)] at h1
      rw [List.getElem?_append_right (by rw [← r.len]; exact Nat.le_of_not_lt hn)] at h2
      rw [← r.len] at h2
      have e : n - L.length = 0 := by
        have := (List.getElem?_eq_some_iff.mp h1).1
        simp at this; omega
      rw [e] at h1 h2
      simp at h1 h2
      subst h1; subst h2
      exact hc
theorem Rep.wr (r : Rep K L H S) (h : L[n]? = some a) (hc : RC K L (upd H a o) a c) : Rep K L (upd H a o) (S.set n c) where
  len := by rw [List.length_set, r.len]
  nd := r.nd
  cel := fun m b c' h1 h2 => by
    by_cases hm : n = m
    · subst hm
      rw [h] at h1; cases h1
      have hn : n < S.length := by rw [← r.len]; exact (List.getElem?_eq_some_iff.mp h).1
      rw [List.getElem?_set_self hn] at h2
      cases h2
      exact hc
    · rw [List.getElem?_set_ne hm] at h2
      refine (r.cel m b c' h1 h2).mono (Ex.wr r (List.mem_of_getElem? h)) (upd_ne fun z => hm ?_)
      obtain ⟨l1, e1⟩ := List.getElem?_eq_some_iff.mp h
      obtain ⟨l2, e2⟩ := List.getElem?_eq_some_iff.mp h1
      exact (List.getElem_inj r.nd).mp (e1.trans (z.symm.trans e2.symm))

/-! ### outcomes -/
def End {α : Type} (K : PySem.W.Frag) (E : XK) (L : List Addr) (H : Hp) (Q : α → Sto → List Addr → Hp → Prop) : R α → Prop
  | .ok a S => ∀ L1 H1, Ex L H L1 H1 → Rep K L1 H1 S → Q a S L1 H1
  | .ex c S => ∀ L1 H1, Ex L H L1 H1 → Rep K L1 H1 S → E (.ref c) none H1
  | .bad => False
variable {α β : Type} {Q Q' : α → Sto → List Addr → Hp → Prop} {x : R α}
theorem End.later (h : End K E L H Q x) (e : Ex L H L1 H1) : End K E L1 H1 Q x := by
  cases x with
  | ok b T => exact fun L2 H2 e2 r => h L2 H2 (e.trans e2) r
  | ex b T => exact fun L2 H2 e2 r => h L2 H2 (e.trans e2) r
  | bad => exact h
theorem End.imp (h : End K E L H Q x) (k : ∀ a S1 L1 H1, Ex L H L1 H1 → Rep K L1 H1 S1 → Q a S1 L1 H1 → Q' a S1 L1 H1) : End K E L H Q' x := by
  cases x with
  | ok b T => exact fun L2 H2 e2 r => k _ _ _ _ e2 r (h L2 H2 e2 r)
  | ex b T => exact h
  | bad => exact h
theorem End.imp' (h : End K E L H Q x) (k : ∀ a S1 L1 H1, x = .ok a S1 → Ex L H L1 H1 → Rep K L1 H1 S1 → Q a S1 L1 H1 → Q' a S1 L1 H1) : End K E L H Q' x := by
  cases x with
  | ok b T => exact fun L2 H2 e2 r => k _ _ _ _ rfl e2 r (h L2 H2 e2 r)
  | ex b T => exact h
  | bad => exact h
theorem End.bind {Q : β → Sto → List Addr → Hp → Prop} {k : α → Sto → R β} (h : End K E L H Q (x.bind k)) : End K E L H (fun a S1 L1 H1 => End K E L1 H1 Q (k a S1)) x := by
  cases x with
  | ok b T => exact fun L2 H2 e2 r => End.later h e2
  | ex b T => exact h
  | bad => exact h
/-- a value comes back -/
abbrev EndV (K : PySem.W.Frag) (E : XK) (L : List Addr) (H : Hp) (Q : VK) (x : R D) : Prop := End K E L H (fun d _ L1 H1 => ∀ v, RD K L1 H1 v d → Q v H1) x
theorem EndV.val {Q : VK} {d : D} {v : V} (h : EndV K E L H Q (.ok d S)) (r : Rep K L H S) (rv : RD K L H v d) : Q v H := h L H (Ex.refl L H) r v rv
end

/-- the names' values -/
structure RE (K : PySem.W.Frag) (L : List Addr) (H : Hp) (σ : St) (env : Lc) : Prop where
  len : σ.length = env.length
  val : ∀ (i : Nat) d, env[i]? = some (some d) → ∃ v, σ[i]? = some (some v) ∧ RD K L H v d
section
variable {K : PySem.W.Frag} {L L1 : List Addr} {H H1 : Hp} {σ : St} {env : Lc}
theorem RE.mono (r : RE K L H σ env) (e : Ex L H L1 H1) : RE K L1 H1 σ env := ⟨r.len, fun i d h => let ⟨v, h1, h2⟩ := r.val i d h; ⟨v, h1, h2.mono e⟩⟩
theorem RE.set {i : Nat} {v : V} {d : D} (r : RE K L H σ env) (rv : RD K L H v d) : RE K L H (σ.set i (some v)) (env.set i (some d)) := by
  refine ⟨by rw [List.length_set, List.length_set, r.len], fun j e h => ?_⟩
  by_cases hj : i = j
  · subst hj
    by_cases hi : i < env.length
    · rw [List.getElem?_set_self hi] at h
      cases h
      exact ⟨v, List.getElem?_set_self (by rw [r.len]; exact hi), rv⟩
    · rw [List.getElem?_eq_none (by rw [List.length_set]; exact Nat.le_of_not_lt hi)] at h
      cases h
  · rw [List.getElem?_set_ne hj] at h ⊢
    exact r.val j e h
end
end RF

namespace RF
open PySem L2

abbrev EF := Lc → Sto → R D
abbrev BF := Lc → Sto → R Bool
abbrev AF := Lc → Sto → R (List D)
inductive Fl where
  | nx (e : Lc) | rt (d : D) | bk (e : Lc) | ct (e : Lc)
abbrev SF := Lc → Sto → R Fl

def tE (K : PySem.W.Frag) (E : XK) (f : EF) : TE := fun σ H Q => ∃ L env S, Rep K L H S ∧ RE K L H σ env ∧ EndV K E L H Q (f env S)
def tT (K : PySem.W.Frag) (E : XK) (f : BF) : TT := fun σ H Q => ∃ L env S, Rep K L H S ∧ RE K L H σ env ∧ End K E L H (fun b _ _ H1 => Q b H1) (f env S)
def tA (K : PySem.W.Frag) (E : XK) (f : AF) : TA := fun σ H Q => ∃ L env S, Rep K L H S ∧ RE K L H σ env ∧ End K E L H (fun ds _ L1 H1 => ∀ vs, RDs K L1 H1 vs ds → Q vs H1) (f env S)
def FlQ (K : PySem.W.Frag) (D : Ends) (L : List Addr) (H : Hp) : Fl → Prop
  | .nx env => ∀ σ, RE K L H σ env → D.nx σ H
  | .rt d => ∀ v, RD K L H v d → D.rt v H
  | .bk env => ∀ σ, RE K L H σ env → D.bk σ H
  | .ct env => ∀ σ, RE K L H σ env → D.ct σ H
def tS (K : PySem.W.Frag) (E : XK) (f : SF) : TS := fun D σ H => ∃ L env S, Rep K L H S ∧ RE K L H σ env ∧ End K E L H (fun fl _ L1 H1 => FlQ K D L1 H1 fl) (f env S)

section
variable {X : Cx} {e : Expr} {st : Stmt} {sts : List Stmt} {es : List Expr}
theorem monoE {t t' : TE} (h : PE X e t) (k : ∀ σ H Q, t' σ H Q → t σ H Q) : PE X e t' := ⟨fun pins s σ H Q I q => h.run pins s σ H Q I (k σ H Q q)⟩
theorem monoT {t t' : TT} (h : PT X e t) (k : ∀ σ H Q, t' σ H Q → t σ H Q) : PT X e t' := ⟨fun pins s σ H Q I q => h.run pins s σ H Q I (k σ H Q q)⟩
theorem monoW {t t' : TT} (h : PW X e t) (k : ∀ σ H Q, t' σ H Q → t σ H Q) : PW X e t' := ⟨fun w pins s σ H Q I q => h.run w pins s σ H Q I (k σ H Q q)⟩
theorem monoA {t t' : TA} (h : PA X es t) (k : ∀ σ H Q, t' σ H Q → t σ H Q) : PA X es t' := ⟨fun pos pins s σ H Q I q => h.run pos pins s σ H Q I (k σ H Q q)⟩
theorem monoS {t t' : TS} (h : PS X st t) (k : ∀ D σ H, t' D σ H → t D σ H) : PS X st t' := ⟨fun pins s σ H D I q => h.run pins s σ H D I (k D σ H q)⟩
theorem monoSs {t t' : TS} (h : PSs X sts t) (k : ∀ D σ H, t' D σ H → t D σ H) : PSs X sts t' := ⟨fun pins s σ H D I q => h.run pins s σ H D I (k D σ H q)⟩
end

/-! ### expressions -/
def fVar (i : Nat) : EF := fun env S => match env[i]? with | some (some d) => .ok d S | _ => .bad
def fC (d : D) : EF := fun _ S => .ok d S
abbrev Op2 := D → D → Sto → R D
abbrev Op1 := D → Sto → R D
abbrev OpN := List D → Sto → R D
def fBin (o : Op2) (fa fb : EF) : EF := fun env S => (fa env S).bind fun x S1 => (fb env S1).bind fun y S2 => o x y S2
def fUn (o : Op1) (fa : EF) : EF := fun env S => (fa env S).bind fun x S1 => o x S1
def fApp (o : OpN) (fs : AF) : EF := fun env S => (fs env S).bind fun xs S1 => o xs S1
def fNil : AF := fun _ S => .ok [] S
def fCons (fa : EF) (fs : AF) : AF := fun env S => (fa env S).bind fun x S1 => (fs env S1).bind fun xs S2 => .ok (x :: xs) S2
def fTup (fs : AF) : EF := fun env S => (fs env S).bind fun xs S1 => if xs.length ≤ 100000 then .ok (.tup xs) S1 else .bad
def fLst (fs : AF) : EF := fun env S => (fs env S).bind fun xs S1 => if xs.length ≤ 100000 then .ok (.ref S1.length) (S1 ++ [.lst xs]) else .bad
def fTest (fa : EF) : BF := fun env S => (fa env S).bind fun x S1 => match x with | .bl b => .ok b S1 | _ => .bad
def fVal (ft : BF) : EF := fun env S => (ft env S).bind fun b S1 => .ok (.bl b) S1
def fAnd (f g : BF) : BF := fun env S => (f env S).bind fun b S1 => if b = true then g env S1 else .ok false S1
def fOr (f g : BF) : BF := fun env S => (f env S).bind fun b S1 => if b = true then .ok true S1 else g env S1
def fNot (f : BF) : BF := fun env S => (f env S).bind fun b S1 => .ok (!b) S1
def fAndV (f g : EF) : EF := fun env S => (f env S).bind fun x S1 => match x with | .bl b => (if b = true then g env S1 else .ok (.bl false) S1) | _ => .bad
def fOrV (f g : EF) : EF := fun env S => (f env S).bind fun x S1 => match x with | .bl b => (if b = true then .ok (.bl true) S1 else g env S1) | _ => .bad
def fNotV (f : EF) : EF := fun env S => (f env S).bind fun x S1 => match x with | .bl b => .ok (.bl (!b)) S1 | _ => .bad
def fIfE (c : BF) (f g : EF) : EF := fun env S => (c env S).bind fun b S1 => if b = true then f env S1 else g env S1
def fChain (o o' : Op2) (fa fb fc : EF) : EF := fun env S => (fa env S).bind fun x S1 => (fb env S1).bind fun y S2 => (o x y S2).bind fun z S3 => match z with
  | .bl b => if b = true then (fc env S3).bind fun w S4 => o' y w S4 else .ok (.bl false) S3
  | _ => .bad

/-- an operator by values, simulated -/
def OpF (K : PySem.W.Frag) (E : XK) (r : R2) (o : Op2) : Prop := ∀ L H S x y d1 d2 Q, Rep K L H S → RD K L H x d1 → RD K L H y d2 → EndV K E L H Q (o d1 d2 S) → r x y H Q
def UnF (K : PySem.W.Frag) (E : XK) (r : V → Hp → VK → Prop) (o : Op1) : Prop := ∀ L H S x d1 Q, Rep K L H S → RD K L H x d1 → EndV K E L H Q (o d1 S) → r x H Q
def CaF (K : PySem.W.Frag) (E : XK) (r : List V → Hp → VK → Prop) (o : OpN) : Prop := ∀ L H S xs ds Q, Rep K L H S → RDs K L H xs ds → EndV K E L H Q (o ds S) → r xs H Q
/-- a built-in method by values -/
def MtF (K : PySem.W.Frag) (E : XK) (r : V → List V → Hp → VK → Prop) (o : D → List D → Sto → R D) : Prop := ∀ L H S x xs d ds Q, Rep K L H S → RD K L H x d → RDs K L H xs ds → EndV K E L H Q (o d ds S) → r x xs H Q

theorem sz5 {n : Nat} (h : n ≤ 100000) : n ≤ sizeLine := Nat.le_trans h (by rw [sizeLine_eq]; decide)
theorem sz5l {n : Nat} (h : n < 100000) : n < sizeLine := Nat.lt_of_lt_of_le h (by rw [sizeLine_eq]; decide)

section
variable {X : Cx} {E : XK} {a b c e : Expr} {es : List Expr} {pos : Pos} {fa fb fc : EF} {fs : AF} {ft fu : BF}

theorem xVar (i : Nat) {x : Str} (hN : X.N[i]? = some x := by rfl) (hv : Vis X.env.scope x := by first | exact Or.inl rfl | exact Or.inr (Or.inl rfl) | exact Or.inr (Or.inr rfl)) (hd : (x == ("__debug__" : Str)) = false := by decide)
    (hcd : (x == ("__classdict__" : Str)) = false := by decide) : PE X (.Name x pos) (tE X.K E (fVar i)) :=
  monoE (pe_var (i := i) hN hv hd hcd) fun σ H Q h => by
    obtain ⟨L, env, S, rep, re, h⟩ := h
    unfold fVar at h
    cases q : env[i]? with
    | none => rw [q] at h; exact h.elim
    | some o =>
      cases o with
      | none => rw [q] at h; exact h.elim
      | some d =>
        rw [q] at h
        obtain ⟨v, h1, h2⟩ := re.val i d q
        exact ⟨v, h1, EndV.val h rep h2⟩
theorem xConst {v : V} {d : D} (he : PE X e (tC v)) (h : ∀ L H, RD X.K L H v d) : PE X e (tE X.K E (fC d)) :=
  monoE he fun σ H Q ⟨L, env, S, rep, re, q⟩ => EndV.val q rep (h L H)
theorem xInt {i : Int} {j : Nat} : PE X (.Constant (.int i) j pos) (tE X.K E (fC (.int i))) := xConst pe_int fun _ _ => .int i
theorem xBl {i : Bool} {j : Nat} : PE X (.Constant (.bool i) j pos) (tE X.K E (fC (.bl i))) := xConst pe_bl fun _ _ => .bl i
theorem xNon {j : Nat} : PE X (.Constant .none j pos) (tE X.K E (fC .non)) := xConst pe_non fun _ _ => .non
theorem xStr {x y : Str} {j : Nat} (h : x = y) : PE X (.Constant (.str x) j pos) (tE X.K E (fC (.str y))) := by subst h; exact xConst pe_str fun _ _ => .str x
theorem xGlob {x : Str} {v : V} {u : Value} {d : D} (hg : Gl X x) (hm : X.mg x = some u) (r : RelV v u) (h : ∀ L H, RD X.K L H v d) (hd : (x == ("__debug__" : Str)) = false := by decide) : PE X (.Name x pos) (tE X.K E (fC d)) := xConst (pe_glob hg hm r hd) h

theorem bin_of {K : PySem.W.Frag} {r : R2} {o : Op2} (hf : OpF K E r o) {σ : St} {H : Hp} {Q : VK} (h : tE K E (fBin o fa fb) σ H Q) : tOp r (tE K E fa) (tE K E fb) σ H Q := by
  obtain ⟨L, env, S, rep, re, h⟩ := h
  refine ⟨L, env, S, rep, re, (End.bind h).imp fun x S1 L1 H1 e1 rep1 h1 v rv => ?_⟩
  refine ⟨L1, env, S1, rep1, re.mono e1, (End.bind h1).imp fun y S2 L2 H2 e2 rep2 h2 w rw => ?_⟩
  exact hf L2 H2 S2 _ _ _ _ _ rep2 (rv.mono e2) rw h2
theorem xOp {op : Operator} {r : R2} {o : Op2} (ho : OpR X (binaryOp op) r) (hf : OpF X.K E r o) (ha : PE X a (tE X.K E fa)) (hb : PE X b (tE X.K E fb)) : PE X (.BinOp a op b pos) (tE X.K E (fBin o fa fb)) :=
  monoE (pe_op ho ha hb) fun _ _ _ h => bin_of hf h
theorem xCmp {op : CmpOp} {r : R2} {o : Op2} (ho : OpR X (compareOp op) r) (hf : OpF X.K E r o) (hm : behindInMarks op b = false) (ha : PE X a (tE X.K E fa)) (hb : PE X b (tE X.K E fb)) : PE X (.Compare a [op] [b] pos) (tE X.K E (fBin o fa fb)) :=
  monoE (pe_cmpR ho ha hb hm) fun _ _ _ h => bin_of hf h
theorem test_of {K : PySem.W.Frag} {σ : St} {H : Hp} {Q : Bool → Hp → Prop} (h : tT K E (fTest fa) σ H Q) : tE K E fa σ H fun x H1 => ∃ c, x = .bl c ∧ Q c H1 := by
  obtain ⟨L, env, S, rep, re, h⟩ := h
  refine ⟨L, env, S, rep, re, (End.bind h).imp fun x S1 L1 H1 e1 rep1 h1 v rv => ?_⟩
  cases x with
  | bl c => cases rv; exact ⟨c, rfl, h1 L1 H1 (Ex.refl _ _) rep1⟩
  | _ => exact h1.elim
theorem xCmpT {op : CmpOp} {r : R2} {o : Op2} (ho : OpR X (compareOp op) r) (hf : OpF X.K E r o) (hm : behindInMarks op b = false) (ha : PE X a (tE X.K E fa)) (hb : PE X b (tE X.K E fb)) : PT X (.Compare a [op] [b] pos) (tT X.K E (fTest (fBin o fa fb))) :=
  monoT (pt_cmpR ho ha hb hm) fun _ _ _ h => bin_of hf (test_of h)
theorem xUn {op : UnaryOp} {r : V → Hp → VK → Prop} {o : Op1} (ho : UnR X (unaryOp op) r) (hf : UnF X.K E r o) (ha : PE X a (tE X.K E fa)) : PE X (.UnaryOp op a pos) (tE X.K E (fUn o fa)) :=
  monoE (pe_un ho ha) fun σ H Q h => by
    obtain ⟨L, env, S, rep, re, h⟩ := h
    exact ⟨L, env, S, rep, re, (End.bind h).imp fun x S1 L1 H1 e1 rep1 h1 v rv => hf L1 H1 S1 _ _ _ rep1 rv h1⟩
theorem xVal (he : PE X e (tE X.K E fa)) (hp : ∀ whole, isTrue e X.env whole = (do let v ← whole; standAt e.pos; holding [v] (truthy v)) := by intro _; rfl) : PT X e (tT X.K E (fTest fa)) :=
  monoT (pt_val he hp) fun _ _ _ h => test_of h
theorem xAnd1 (ha : PT X a (tT X.K E ft)) : PW X (.BoolOp .And [a] pos) (tT X.K E ft) := pw_and1 ha
theorem xOr1 (ha : PT X a (tT X.K E ft)) : PW X (.BoolOp .Or [a] pos) (tT X.K E ft) := pw_or1 ha
theorem xAnd (ha : PT X a (tT X.K E ft)) (hb : PW X (.BoolOp .And (b :: es) pos) (tT X.K E fu)) : PW X (.BoolOp .And (a :: b :: es) pos) (tT X.K E (fAnd ft fu)) :=
  monoW (pw_and ha hb) fun σ H Q h => by
    obtain ⟨L, env, S, rep, re, h⟩ := h
    refine ⟨L, env, S, rep, re, (End.bind h).imp fun x S1 L1 H1 e1 rep1 h1 => ?_⟩
    cases x with
    | true => exact iteT ⟨L1, env, S1, rep1, re.mono e1, h1⟩
    | false => exact iteF (h1 L1 H1 (Ex.refl _ _) rep1)
theorem xOr (ha : PT X a (tT X.K E ft)) (hb : PW X (.BoolOp .Or (b :: es) pos) (tT X.K E fu)) : PW X (.BoolOp .Or (a :: b :: es) pos) (tT X.K E (fOr ft fu)) :=
  monoW (pw_or ha hb) fun σ H Q h => by
    obtain ⟨L, env, S, rep, re, h⟩ := h
    refine ⟨L, env, S, rep, re, (End.bind h).imp fun x S1 L1 H1 e1 rep1 h1 => ?_⟩
    cases x with
    | true => exact iteT (h1 L1 H1 (Ex.refl _ _) rep1)
    | false => exact iteF ⟨L1, env, S1, rep1, re.mono e1, h1⟩
theorem xNot (ha : PT X a (tT X.K E ft)) : PT X (.UnaryOp .Not a pos) (tT X.K E (fNot ft)) :=
  monoT (pt_not ha) fun σ H Q h => by
    obtain ⟨L, env, S, rep, re, h⟩ := h
    exact ⟨L, env, S, rep, re, (End.bind h).imp fun x S1 L1 H1 e1 rep1 h1 => h1 L1 H1 (Ex.refl _ _) rep1⟩
theorem xOneV {op : BoolOp} (h : PE X a (tE X.K E fa)) : PE X (.BoolOp op [a] pos) (tE X.K E fa) := pe_one h
theorem xAndV (ha : PE X a (tE X.K E fa)) (hb : PE X (.BoolOp .And (b :: es) pos) (tE X.K E fb)) : PE X (.BoolOp .And (a :: b :: es) pos) (tE X.K E (fAndV fa fb)) :=
  monoE (pe_and ha hb) fun σ H Q h => by
    obtain ⟨L, env, S, rep, re, h⟩ := h
    refine ⟨L, env, S, rep, re, (End.bind h).imp fun x S1 L1 H1 e1 rep1 h1 v rv => ?_⟩
    cases x with
    | bl c =>
      cases rv
      refine ⟨c, rfl, ?_⟩
      cases c with
      | true => exact iteT ⟨L1, env, S1, rep1, re.mono e1, h1⟩
      | false => exact iteF (EndV.val (d := .bl false) h1 rep1 (.bl false))
    | _ => exact h1.elim
theorem xOrV (ha : PE X a (tE X.K E fa)) (hb : PE X (.BoolOp .Or (b :: es) pos) (tE X.K E fb)) : PE X (.BoolOp .Or (a :: b :: es) pos) (tE X.K E (fOrV fa fb)) :=
  monoE (pe_or ha hb) fun σ H Q h => by
    obtain ⟨L, env, S, rep, re, h⟩ := h
    refine ⟨L, env, S, rep, re, (End.bind h).imp fun x S1 L1 H1 e1 rep1 h1 v rv => ?_⟩
    cases x with
    | bl c =>
      cases rv
      refine ⟨c, rfl, ?_⟩
      cases c with
      | true => exact iteT (EndV.val (d := .bl true) h1 rep1 (.bl true))
      | false => exact iteF ⟨L1, env, S1, rep1, re.mono e1, h1⟩
    | _ => exact h1.elim
theorem xNotV (ha : PE X a (tE X.K E fa)) : PE X (.UnaryOp .Not a pos) (tE X.K E (fNotV fa)) :=
  monoE (pe_not ha) fun σ H Q h => by
    obtain ⟨L, env, S, rep, re, h⟩ := h
    refine ⟨L, env, S, rep, re, (End.bind h).imp fun x S1 L1 H1 e1 rep1 h1 v rv => ?_⟩
    cases x with
    | bl c =>
      cases rv
      exact ⟨c, rfl, EndV.val h1 rep1 (.bl _)⟩
    | _ => exact h1.elim
theorem xIfE (hc : PT X c (tT X.K E ft)) (ha : PE X a (tE X.K E fa)) (hb : PE X b (tE X.K E fb)) : PE X (.IfExp c a b pos) (tE X.K E (fIfE ft fa fb)) :=
  monoE (pe_ifExp hc ha hb) fun σ H Q h => by
    obtain ⟨L, env, S, rep, re, h⟩ := h
    refine ⟨L, env, S, rep, re, (End.bind h).imp fun x S1 L1 H1 e1 rep1 h1 => ?_⟩
    cases x with
    | true => exact iteT ⟨L1, env, S1, rep1, re.mono e1, h1⟩
    | false => exact iteF ⟨L1, env, S1, rep1, re.mono e1, h1⟩
theorem chain_of {K : PySem.W.Frag} {r r' : R2} {o o' : Op2} (hf : OpF K E r o) (hf' : OpF K E r' o') {σ : St} {H : Hp} {Q : VK} (h : tE K E (fChain o o' fa fb fc) σ H Q) :
    tChain r r' (tE K E fa) (tE K E fb) (tE K E fc) σ H Q := by
  obtain ⟨L, env, S, rep, re, h⟩ := h
  refine ⟨L, env, S, rep, re, (End.bind h).imp fun x S1 L1 H1 e1 rep1 h1 v rv => ?_⟩
  refine ⟨L1, env, S1, rep1, re.mono e1, (End.bind h1).imp fun y S2 L2 H2 e2 rep2 h2 w rw => ?_⟩
  refine hf L2 H2 S2 _ _ _ _ _ rep2 (rv.mono e2) rw ((End.bind h2).imp fun z S3 L3 H3 e3 rep3 h3 u ru => ?_)
  cases z with
  | bl k =>
    cases ru
    refine ⟨k, rfl, ?_⟩
    cases k with
    | true =>
      refine iteT ⟨L3, env, S3, rep3, re.mono ((e1.trans e2).trans e3), (End.bind h3).imp fun z S4 L4 H4 e4 rep4 h4 t rt => ?_⟩
      exact hf' L4 H4 S4 _ _ _ _ _ rep4 (rw.mono (e3.trans e4)) rt h4
    | false => exact iteF (EndV.val (d := .bl false) h3 rep3 (.bl false))
  | _ => exact h3.elim
theorem xChain {op op' : CmpOp} {r r' : R2} {o o' : Op2} (ho : OpR X (compareOp op) r) (ho' : OpR X (compareOp op') r') (hf : OpF X.K E r o) (hf' : OpF X.K E r' o')
    (ha : PE X a (tE X.K E fa)) (hb : PE X b (tE X.K E fb)) (hc : PE X c (tE X.K E fc)) (hm : lastMarks [op, op'] [b, c] = false := by rfl) : PE X (.Compare a [op, op'] [b, c] pos) (tE X.K E (fChain o o' fa fb fc)) :=
  monoE (pe_chain ho ho' ha hb hc hm) fun _ _ _ h => chain_of hf hf' h
theorem xChainT {op op' : CmpOp} {r r' : R2} {o o' : Op2} (ho : OpR X (compareOp op) r) (ho' : OpR X (compareOp op') r') (hf : OpF X.K E r o) (hf' : OpF X.K E r' o')
    (ha : PE X a (tE X.K E fa)) (hb : PE X b (tE X.K E fb)) (hc : PE X c (tE X.K E fc)) (hm : lastMarks [op, op'] [b, c] = false := by rfl) : PT X (.Compare a [op, op'] [b, c] pos) (tT X.K E (fTest (fChain o o' fa fb fc))) :=
  monoT (pt_chain ho ho' ha hb hc hm) fun _ _ _ h => chain_of hf hf' (test_of h)

/-! ### lists of expressions -/
theorem xNil : PA X [] (tA X.K E fNil) := monoA pa_nil fun σ H Q ⟨L, env, S, rep, re, h⟩ => h L H (Ex.refl _ _) rep [] .nil
theorem xCons (ha : PE X e (tE X.K E fa)) (hr : PA X es (tA X.K E fs)) (hs : starEach (e :: es) X.env = (false, eval e X.env) :: starEach es X.env := by rfl) : PA X (e :: es) (tA X.K E (fCons fa fs)) :=
  monoA (pa_cons ha hr hs) fun σ H Q h => by
    obtain ⟨L, env, S, rep, re, h⟩ := h
    refine ⟨L, env, S, rep, re, (End.bind h).imp fun x S1 L1 H1 e1 rep1 h1 v rv => ?_⟩
    refine ⟨L1, env, S1, rep1, re.mono e1, (End.bind h1).imp fun xs S2 L2 H2 e2 rep2 h2 vs rvs => ?_⟩
    exact h2 L2 H2 (Ex.refl _ _) rep2 _ (.cons (rv.mono e2) rvs)
theorem xTup {x1} (h : PA X es (tA X.K E fs)) : PE X (.Tuple es x1 pos) (tE X.K E (fTup fs)) :=
  monoE (pe_tup h) fun σ H Q h => by
    obtain ⟨L, env, S, rep, re, h⟩ := h
    refine ⟨L, env, S, rep, re, (End.bind h).imp fun xs S1 L1 H1 e1 rep1 h1 vs rvs => ?_⟩
    by_cases hl : xs.length ≤ 100000
    · rw [if_pos hl] at h1
      refine ⟨by rw [rvs.length]; exact sz5 hl, fun p hp => ?_⟩
      exact EndV.val (h1.later (Ex.new hp)) (rep1.new hp) (.tup upd_same (rvs.mono (Ex.new hp)))
    · rw [if_neg hl] at h1; exact h1.elim
theorem newList {K : PySem.W.Frag} {L : List Addr} {H : Hp} {S : Sto} {Q : VK} {vs : List V} {ds : List D} (h : EndV K E L H Q (.ok (.ref S.length) (S ++ [.lst ds]))) (rep : Rep K L H S) (r : RDs K L H vs ds) (p : Addr) (hp : H p = none) : Q (.ref p) (upd H p (.lst vs)) := by
  have ex := Ex.newc (L := L) (o := .lst vs) hp
  refine EndV.val (h.later ex) (rep.newc hp ⟨vs, upd_same, r.mono ex⟩) (.ref ?_)
  rw [← rep.len, List.getElem?_append_right (Nat.le_refl _)]
  simp
theorem xLst (h : PA X es (tA X.K E fs)) : PE X (.List es pos) (tE X.K E (fLst fs)) :=
  monoE (pe_lst h) fun σ H Q h => by
    obtain ⟨L, env, S, rep, re, h⟩ := h
    refine ⟨L, env, S, rep, re, (End.bind h).imp fun xs S1 L1 H1 e1 rep1 h1 vs rvs => ?_⟩
    by_cases hl : xs.length ≤ 100000
    · rw [if_pos hl] at h1
      exact ⟨by rw [rvs.length]; exact sz5 hl, fun p hp => newList h1 rep1 rvs p hp⟩
    · rw [if_neg hl] at h1; exact h1.elim
theorem app_of {K : PySem.W.Frag} {r : List V → Hp → VK → Prop} {o : OpN} (hf : CaF K E r o) {σ : St} {H : Hp} {Q : VK} (h : tE K E (fApp o fs) σ H Q) : tCB r (tA K E fs) σ H Q := by
  obtain ⟨L, env, S, rep, re, h⟩ := h
  exact ⟨L, env, S, rep, re, (End.bind h).imp fun xs S1 L1 H1 e1 rep1 h1 vs rvs => hf L1 H1 S1 _ _ _ rep1 rvs h1⟩
theorem xCB {x : Str} {id : String} {r : List V → Hp → VK → Prop} {o : OpN} {p : Pos} (hc : CallR X (.builtin id) r) (hf : CaF X.K E r o) (hg : Gl X x) (hm : X.mg x = none) (hv : bootBuiltins x = some (.builtin id)) (ha : PA X (e :: es) (tA X.K E fs)) (hn : x ≠ "__name__" := by decide) (hdb : (x == ("__debug__" : Str)) = false := by decide)
    (he : starEach (e :: es) X.env = (false, eval e X.env) :: starEach es X.env := by rfl) (hpl : (backTo pos (starEach es X.env)).any (·.1) = false := by rfl) : PE X (.Call (.Name x p) (e :: es) [] pos) (tE X.K E (fApp o fs)) :=
  monoE (pe_callB hc hg hm hv ha hn hdb he hpl) fun _ _ _ h => app_of hf h
theorem xCT {x : Str} {T : String} {r : List V → Hp → VK → Prop} {o : OpN} {p : Pos} (hc : CallR X (.type T) r) (hf : CaF X.K E r o) (hg : Gl X x) (hm : X.mg x = none) (hv : bootBuiltins x = some (.type T)) (ha : PA X (e :: es) (tA X.K E fs)) (hn : x ≠ "__name__" := by decide) (hdb : (x == ("__debug__" : Str)) = false := by decide)
    (he : starEach (e :: es) X.env = (false, eval e X.env) :: starEach es X.env := by rfl) (hpl : (backTo pos (starEach es X.env)).any (·.1) = false := by rfl) : PE X (.Call (.Name x p) (e :: es) [] pos) (tE X.K E (fApp o fs)) :=
  monoE (pe_callTy hc hg hm hv ha hn hdb he hpl) fun _ _ _ h => app_of hf h
end

/-! ### statements -/
def fSkip : SF := fun env S => .ok (.nx env) S
def fSeq (f g : SF) : SF := fun env S => (f env S).bind fun fl S1 => match fl with | .nx e => g e S1 | .rt d => .ok (.rt d) S1 | .bk e => .ok (.bk e) S1 | .ct e => .ok (.ct e) S1
def fIf (c : BF) (f g : SF) : SF := fun env S => (c env S).bind fun b S1 => if b = true then f env S1 else g env S1
def fRet (f : EF) : SF := fun env S => (f env S).bind fun d S1 => .ok (.rt d) S1
def fRetN : SF := fun _ S => .ok (.rt .non) S
def fDrop (f : EF) : SF := fun env S => (f env S).bind fun _ S1 => .ok (.nx env) S1
abbrev GF := D → Lc → Sto → R Lc
def gN (i : Nat) : GF := fun d env S => .ok (env.set i (some d)) S
def fAsg (f : EF) (g : GF) : SF := fun env S => (f env S).bind fun d S1 => (g d env S1).bind fun env1 S2 => .ok (.nx env1) S2
def fBrk : SF := fun env S => .ok (.bk env) S
def fCnt : SF := fun env S => .ok (.ct env) S
abbrev GsF := List D → Lc → Sto → R Lc
def gNil' : GsF := fun ds env S => match ds with | [] => .ok env S | _ => .bad
def gCons' (g : GF) (gs : GsF) : GsF := fun ds env S => match ds with | d :: r => (g d env S).bind fun env1 S1 => gs r env1 S1 | [] => .bad
def gTup' (n : Nat) (gs : GsF) : GF := fun d env S => match d with | .tup ds => if ds.length = n then gs ds env S else .bad | _ => .bad
/-- a, b = a list of that length -/
def tG (K : PySem.W.Frag) (E : XK) (g : GF) : TG := fun v σ H Q => ∃ L env S d, Rep K L H S ∧ RE K L H σ env ∧ RD K L H v d ∧ End K E L H (fun env1 _ L1 H1 => ∀ σ1, RE K L1 H1 σ1 env1 → Q σ1 H1) (g d env S)
def tGs (K : PySem.W.Frag) (E : XK) (g : GsF) : TGs := fun vs σ H Q => ∃ L env S ds, Rep K L H S ∧ RE K L H σ env ∧ RDs K L H vs ds ∧ End K E L H (fun env1 _ L1 H1 => ∀ σ1, RE K L1 H1 σ1 env1 → Q σ1 H1) (g ds env S)

section
variable {X : Cx} {E : XK} {a b c e : Expr} {es : List Expr} {pos : Pos} {fa fb fc : EF} {fs : AF} {ft fu : BF} {st : Stmt} {rest : List Stmt} {f g : SF}
theorem xSkip : PSs X [] (tS X.K E fSkip) := monoSs pss_nil fun D σ H ⟨L, env, S, rep, re, h⟩ => h L H (Ex.refl _ _) rep σ re
theorem xPass : PS X (.Pass pos) (tS X.K E fSkip) := monoS ps_pass fun D σ H ⟨L, env, S, rep, re, h⟩ => h L H (Ex.refl _ _) rep σ re
theorem xBrk : PS X (.Break pos) (tS X.K E fBrk) := monoS ps_break fun D σ H ⟨L, env, S, rep, re, h⟩ => h L H (Ex.refl _ _) rep σ re
theorem xCnt : PS X (.Continue pos) (tS X.K E fCnt) := monoS ps_continue fun D σ H ⟨L, env, S, rep, re, h⟩ => h L H (Ex.refl _ _) rep σ re
theorem xDoc {x j} {pos' : Pos} : PS X (.Expr (.Constant (.str x) j pos) pos') (tS X.K E fSkip) := monoS ps_doc fun D σ H ⟨L, env, S, rep, re, h⟩ => h L H (Ex.refl _ _) rep σ re
theorem xOne (h : PS X st (tS X.K E f)) : PSs X [st] (tS X.K E f) := pss_one h
theorem xSeq (h1 : PS X st (tS X.K E f)) (h2 : PSs X rest (tS X.K E g)) : PSs X (st :: rest) (tS X.K E (fSeq f g)) :=
  monoSs (pss_cons h1 h2) fun D σ H h => by
    obtain ⟨L, env, S, rep, re, h⟩ := h
    refine ⟨L, env, S, rep, re, (End.bind h).imp fun fl S1 L1 H1 e1 rep1 h1 => ?_⟩
    cases fl with
    | nx env1 => exact fun σ1 r1 => ⟨L1, env1, S1, rep1, r1, h1⟩
    | rt d => exact h1 L1 H1 (Ex.refl _ _) rep1
    | bk d => exact h1 L1 H1 (Ex.refl _ _) rep1
    | ct d => exact h1 L1 H1 (Ex.refl _ _) rep1
theorem xIf {sa sb : List Stmt} (hc : PT X c (tT X.K E ft)) (ha : PSs X sa (tS X.K E f)) (hb : PSs X sb (tS X.K E g)) : PS X (.If c sa sb pos) (tS X.K E (fIf ft f g)) :=
  monoS (ps_if hc ha hb) fun D σ H h => by
    obtain ⟨L, env, S, rep, re, h⟩ := h
    refine ⟨L, env, S, rep, re, (End.bind h).imp fun b S1 L1 H1 e1 rep1 h1 => ?_⟩
    cases b with
    | true => exact iteT ⟨L1, env, S1, rep1, re.mono e1, h1⟩
    | false => exact iteF ⟨L1, env, S1, rep1, re.mono e1, h1⟩
theorem xRet (he : PE X e (tE X.K E fa)) : PS X (.Return (some e) pos) (tS X.K E (fRet fa)) :=
  monoS (ps_ret he) fun D σ H h => by
    obtain ⟨L, env, S, rep, re, h⟩ := h
    exact ⟨L, env, S, rep, re, (End.bind h).imp fun d S1 L1 H1 e1 rep1 h1 v rv => h1 L1 H1 (Ex.refl _ _) rep1 v rv⟩
theorem xRetN : PS X (.Return none pos) (tS X.K E fRetN) := monoS ps_retN fun D σ H ⟨L, env, S, rep, re, h⟩ => h L H (Ex.refl _ _) rep .non .non
theorem xExpr (he : PE X e (tE X.K E fa)) (hs : swapsWith e none pos.line X.env = pure false := by rfl) : PS X (.Expr e pos) (tS X.K E (fDrop fa)) :=
  monoS (ps_expr he hs) fun D σ H h => by
    obtain ⟨L, env, S, rep, re, h⟩ := h
    exact ⟨L, env, S, rep, re, (End.bind h).imp fun d S1 L1 H1 e1 rep1 h1 v rv => h1 L1 H1 (Ex.refl _ _) rep1 σ (re.mono e1)⟩
theorem xgN {i : Nat} {x : Str} (hN : X.N.Nodup) (hi : X.N[i]? = some x) (hx : Loc X.env.scope x) (hf : X.fn x = true ∨ X.env.scope.names.lookup x = some .local := by first | exact .inl rfl | exact .inr rfl | assumption) : PG X (.Name x pos) (tG X.K E (gN i)) := by
  have h := pg_name (pos := pos) hN hi hx hf
  refine ⟨fun pins s σ H v u Q I r q => h.run pins s σ H v u Q I r ?_⟩
  obtain ⟨L, env, S, d, rep, re, rd, q⟩ := q
  exact q L H (Ex.refl _ _) rep _ (re.set rd)
theorem xAsg {tg : Expr} {gf : GF} (he : PE X e (tE X.K E fa)) (hg : PG X tg (tG X.K E gf)) (hs : swapsWithSole [tg] e pos.line X.env = pure false := by rfl) (hw : swappedStores [tg] e X.env = pure none := by rfl) (h1 : (assignEach [tg] X.env).map (·.2) = [assign tg X.env] := by rfl) : PS X (.Assign [tg] e pos) (tS X.K E (fAsg fa gf)) :=
  monoS (ps_asg he hg hs hw h1) fun D σ H h => by
    obtain ⟨L, env, S, rep, re, h⟩ := h
    refine ⟨L, env, S, rep, re, (End.bind h).imp fun d S1 L1 H1 e1 rep1 h1 v rv => ?_⟩
    exact ⟨L1, env, S1, d, rep1, re.mono e1, rv, (End.bind h1).imp fun env1 S2 L2 H2 e2 rep2 h2 σ1 r1 => h2 L2 H2 (Ex.refl _ _) rep2 σ1 r1⟩
theorem xSet {i : Nat} {x : Str} {pos' : Pos} (hN : X.N.Nodup) (hi : X.N[i]? = some x) (hx : Loc X.env.scope x) (he : PE X e (tE X.K E fa)) (hs : swapsWith e (some (.Name x pos')) pos.line X.env = pure false := by rfl) (hf : X.fn x = true ∨ X.env.scope.names.lookup x = some .local := by first | exact .inl rfl | exact .inr rfl | assumption) :
    PS X (.Assign [.Name x pos'] e pos) (tS X.K E (fAsg fa (gN i))) :=
  monoS (ps_set hN hi hx he hs hf) fun D σ H h => by
    obtain ⟨L, env, S, rep, re, h⟩ := h
    refine ⟨L, env, S, rep, re, (End.bind h).imp fun d S1 L1 H1 e1 rep1 h1 v rv => ?_⟩
    exact h1 L1 H1 (Ex.refl _ _) rep1 _ ((re.mono e1).set rv)
theorem xgNil : PGs X [] (tGs X.K E gNil') := by
  refine ⟨fun pins s σ H vs us Q I r q => pgs_nil.run pins s σ H vs us Q I r ?_⟩
  obtain ⟨L, env, S, ds, rep, re, rd, q⟩ := q
  cases rd with
  | nil => exact ⟨rfl, q L H (Ex.refl _ _) rep σ re⟩
  | cons _ _ => exact q.elim
theorem xgCons {g : GF} {gs : GsF} (h1 : PG X e (tG X.K E g)) (h2 : PGs X es (tGs X.K E gs)) (hs : (assignEach (e :: es) X.env).map (·.2) = assign e X.env :: (assignEach es X.env).map (·.2) := by rfl) : PGs X (e :: es) (tGs X.K E (gCons' g gs)) := by
  refine ⟨fun pins s σ H vs us Q I r q => (pgs_cons h1 h2 hs).run pins s σ H vs us Q I r ?_⟩
  obtain ⟨L, env, S, ds, rep, re, rd, q⟩ := q
  cases rd with
  | nil => exact q.elim
  | cons r1 r2 =>
    refine ⟨_, _, rfl, L, env, S, _, rep, re, r1, (End.bind q).imp fun env1 S1 L1 H1 e1 rep1 h1 σ1 rσ => ?_⟩
    exact ⟨L1, env1, S1, _, rep1, rσ, r2.mono e1, h1⟩
theorem xgTup {k n : Nat} {gs : GsF} (hc : X.calm = true) (h : PGs X es (tGs X.K E gs)) (hn : (assignEach es X.env).length = n := by rfl) (hst : (assignEach es X.env).findIdx? (·.1) = none := by rfl) : PG X (.Tuple es k pos) (tG X.K E (gTup' n gs)) := by
  refine ⟨fun pins s σ H v u Q I r q => (pg_tup hc h hn hst).run pins s σ H v u Q I r ?_⟩
  obtain ⟨L, env, S, d, rep, re, rd, q⟩ := q
  cases rd with
  | @tup a vs ds hs rs =>
    have q : End X.K E L H (fun env1 _ L1 H1 => ∀ σ1, RE X.K L1 H1 σ1 env1 → Q σ1 H1) (if ds.length = n then gs ds env S else .bad) := q
    by_cases hl : ds.length = n
    · rw [if_pos hl] at q
      exact ⟨a, vs, rfl, .of hs, by rw [rs.length]; exact hl, L, env, S, ds, rep, re, rs, q⟩
    · rw [if_neg hl] at q; exact q.elim
  | _ => exact q.elim
end
end RF

namespace RF
open PySem L2

/-- what a loop goes over: fixed items, or the list at a place as it stands at each turn -/
inductive It' where
  | fix (xs : List D) | live (n : Nat) (xs : List D)
def ItOk (K : PySem.W.Frag) (L : List Addr) (H : Hp) (J : It) : It' → Prop
  | .fix xs => ∀ (i : Nat) L1 H1 S1, Ex L H L1 H1 → Rep K L1 H1 S1 → (∀ d, xs[i]? = some d → J.go i H1 ∧ ∀ x H2, J.yld i H1 x H2 → Ex L1 H1 L1 H2 ∧ Rep K L1 H2 S1 ∧ RD K L1 H2 x d) ∧ (xs.length ≤ i → J.stop i H1)
  | .live n _ => ∀ (i : Nat) L1 H1 S1 ys, Ex L H L1 H1 → Rep K L1 H1 S1 → S1[n]? = some (.lst ys) → (∀ d, ys[i]? = some d → J.go i H1 ∧ ∀ x H2, J.yld i H1 x H2 → Ex L1 H1 L1 H2 ∧ Rep K L1 H2 S1 ∧ RD K L1 H2 x d) ∧ (ys.length ≤ i → J.stop i H1)
abbrev IF := Lc → Sto → R It'
def tI (K : PySem.W.Frag) (E : XK) (f : IF) : TI := fun σ H R => ∃ L env S, Rep K L H S ∧ RE K L H σ env ∧ End K E L H (fun it _ L1 H1 => ∀ J, ItOk K L1 H1 J it → R J H1) (f env S)

def fIter (fa : EF) : IF := fun env S => (fa env S).bind fun d S1 => match d with
  | .rl xs => .ok (.fix xs) S1
  | .tup xs => .ok (.fix xs) S1
  | .ref n => match S1[n]? with
    | some (.lst xs) => .ok (.live n xs) S1
    | _ => .bad
  | _ => .bad
def rngD (lo : Int) (n : Nat) : List D := (List.range n).map fun k => .int (lo + (k : Nat))
def fRng1 (fs : AF) : IF := fun env S => (fs env S).bind fun ds S1 => match ds with
  | [.int j] => if -(2 ^ 62) ≤ j ∧ j < 2 ^ 62 then .ok (.fix (rngD 0 j.toNat)) S1 else .bad
  | _ => .bad
def fRng2 (fs : AF) : IF := fun env S => (fs env S).bind fun ds S1 => match ds with
  | [.int i, .int j] => if -(2 ^ 62) ≤ i ∧ i < 2 ^ 62 ∧ -(2 ^ 62) ≤ j ∧ j < 2 ^ 62 then .ok (.fix (rngD i (j - i).toNat)) S1 else .bad
  | _ => .bad
def loopX (g : GF) (body : SF) : List D → Lc → Sto → R Fl
  | [], env, S => .ok (.nx env) S
  | d :: xs, env, S => (g d env S).bind fun env1 S1 => (body env1 S1).bind fun fl S2 => match fl with
    | .nx e => loopX g body xs e S2
    | .ct e => loopX g body xs e S2
    | .bk e => .ok (.nx e) S2
    | .rt d => .ok (.rt d) S2
def loopL (n : Nat) (g : GF) (body : SF) : List D → Nat → Lc → Sto → R Fl
  | [], i, env, S => match S[n]? with
    | some (.lst ys) => if ys.length ≤ i then .ok (.nx env) S else .bad
    | _ => .bad
  | _ :: xs, i, env, S => match S[n]? with
    | some (.lst ys) => match ys[i]? with
      | none => .ok (.nx env) S
      | some d => (g d env S).bind fun env1 S1 => (body env1 S1).bind fun fl S2 => match fl with
        | .nx e => loopL n g body xs (i + 1) e S2
        | .ct e => loopL n g body xs (i + 1) e S2
        | .bk e => .ok (.nx e) S2
        | .rt d => .ok (.rt d) S2
    | _ => .bad
def fFor (fi : IF) (g : GF) (body : SF) : SF := fun env S => (fi env S).bind fun it S1 => match it with
  | .fix xs => loopX g body xs env S1
  | .live n xs => loopL n g body xs 0 env S1

section
variable {X : Cx} {E : XK} {tg l iter a b : Expr} {fa fb : EF} {fs : AF} {pos : Pos}
theorem xIter (h : PE X l (tE X.K E fa)) : PI X tg l (tI X.K E (fIter fa)) := by
  have h1 := pi_list (tg := tg) h
  have h2 := pi_tup (tg := tg) h
  refine ⟨fun pins s σ H R I q => ?_⟩
  obtain ⟨L, env, S, rep, re, q⟩ := q
  have key : iList X.K (tE X.K E fa) σ H R ∨ iTup X.K (tE X.K E fa) σ H R := by
    have q' := End.bind q
    cases e : fa env S with
    | bad => rw [e] at q'; exact q'.elim
    | ex c S1 =>
      rw [e] at q'
      refine .inl ⟨L, env, S, rep, re, ?_⟩
      rw [e]; exact q'
    | ok d S1 =>
      rw [e] at q'
      have step : ∀ {Q : VK}, (∀ L1 H1, Ex L H L1 H1 → Rep X.K L1 H1 S1 → ∀ v, RD X.K L1 H1 v d → Q v H1) → tE X.K E fa σ H Q := fun k => ⟨L, env, S, rep, re, by rw [e]; exact k⟩
      cases d with
      | tup xs =>
        refine .inr (step fun L1 H1 e1 rep1 v rv => ?_)
        have q1 := (q' L1 H1 e1 rep1) L1 H1 (Ex.refl _ _) rep1
        cases rv with
        | @tup a vs _ hs rs =>
          refine ⟨a, rfl, ⟨vs, .of hs⟩, q1 _ fun i L2 H2 S2 e2 rep2 => ?_⟩
          have t2 : SqT X.K H2 a vs := .of (e2.tp _ _ hs)
          have r2 := rs.mono e2
          refine ⟨fun d hd => ?_, fun hl => ⟨vs, t2, by rw [rs.length]; exact hl⟩⟩
          obtain ⟨x, hx, rx⟩ := r2.get hd
          refine ⟨⟨vs, x, t2, hx⟩, fun y H3 hy => ?_⟩
          obtain ⟨rfl, hy⟩ := hy
          have := hy vs t2
          rw [hx] at this; cases this
          exact ⟨Ex.refl _ _, rep2, rx⟩
      | rl xs =>
        refine .inl (step fun L1 H1 e1 rep1 v rv => ?_)
        have q1 := (q' L1 H1 e1 rep1) L1 H1 (Ex.refl _ _) rep1
        cases rv with
        | @rl a vs _ hs rs =>
          refine ⟨a, rfl, ⟨vs, hs _ fun _ _ _ z => z⟩, q1 _ fun i L2 H2 S2 e2 rep2 => ?_⟩
          have t2 : SqL X.K H2 a vs := hs _ e2.fz
          have r2 := rs.mono e2
          refine ⟨fun d hd => ?_, fun hl => ⟨vs, t2, by rw [rs.length]; exact hl⟩⟩
          obtain ⟨x, hx, rx⟩ := r2.get hd
          refine ⟨⟨vs, x, t2, hx⟩, fun y H3 hy => ?_⟩
          obtain ⟨rfl, hy⟩ := hy
          have := hy vs t2
          rw [hx] at this; cases this
          exact ⟨Ex.refl _ _, rep2, rx⟩
      | ref n =>
        refine .inl (step fun L1 H1 e1 rep1 v rv => ?_)
        have q0 := q' L1 H1 e1 rep1
        cases rv with
        | @ref a _ ha =>
          obtain ⟨c, hc, rc⟩ := rep1.adr ha
          simp only [hc] at q0
          cases c with
          | lst xs =>
            have q1 := q0 L1 H1 (Ex.refl _ _) rep1
            obtain ⟨vs, hv, rvs⟩ := rc
            refine ⟨a, rfl, ⟨vs, .of hv⟩, q1 _ fun i L2 H2 S2 ys e2 rep2 hy => ?_⟩
            obtain ⟨a', ha', vs2, hv2, rvs2⟩ := rep2.at hy
            rw [e2.px _ _ ha] at ha'; cases ha'
            refine ⟨fun d hd => ?_, fun hl => ⟨vs2, .of hv2, by rw [rvs2.length]; exact hl⟩⟩
            obtain ⟨x, hx, rx⟩ := rvs2.get hd
            refine ⟨⟨vs2, x, .of hv2, hx⟩, fun y H3 hy => ?_⟩
            obtain ⟨rfl, hy⟩ := hy
            have := hy vs2 (.of hv2)
            rw [hx] at this; cases this
            exact ⟨Ex.refl _ _, rep2, rx⟩
          | _ => exact q0.elim
      | _ => exact .inl (step fun L1 H1 e1 rep1 v rv => False.elim (q' L1 H1 e1 rep1))
  rcases key with k | k
  · exact h1.run pins s σ H R I k
  · exact h2.run pins s σ H R I k
theorem rngD_get {lo : Int} {n i : Nat} {d : D} (h : (rngD lo n)[i]? = some d) : i < n ∧ d = .int (lo + (i : Nat)) := by
  unfold rngD at h
  rw [List.getElem?_map] at h
  by_cases hi : i < n
  · rw [List.getElem?_eq_getElem (by rw [List.length_range]; exact hi)] at h
    simp at h
    exact ⟨hi, h.symm⟩
  · rw [List.getElem?_eq_none (by rw [List.length_range]; omega)] at h
    simp at h
theorem rngD_len {lo : Int} {n : Nat} : (rngD lo n).length = n := by unfold rngD; rw [List.length_map, List.length_range]
theorem itr_ok {K : PySem.W.Frag} {L : List Addr} {H : Hp} (lo : Int) (n : Nat) : ItOk K L H (Itr lo n) (.fix (rngD lo n)) := fun i L1 H1 S1 e1 rep1 => by
  refine ⟨fun d hd => ?_, fun hl => by rw [rngD_len] at hl; exact hl⟩
  obtain ⟨h1, rfl⟩ := rngD_get hd
  refine ⟨h1, fun x H2 y => ?_⟩
  obtain ⟨rfl, rfl⟩ := y
  exact ⟨Ex.refl _ _, rep1, .int _⟩
theorem xRng1 {p : Pos} (hg : Gl X "range") (hm : X.mg "range" = none) (ha : PA X [a] (tA X.K E fs)) (hs : starEach [a] X.env = [(false, eval a X.env)] := by rfl) : PI X tg (.Call (.Name "range" p) [a] [] pos) (tI X.K E (fRng1 fs)) := by
  refine ⟨fun pins s σ H R I q => (pi_range1 hg hm ha hs).run pins s σ H R I ?_⟩
  obtain ⟨L, env, S, rep, re, q⟩ := q
  refine ⟨L, env, S, rep, re, (End.bind q).imp fun ds S1 L1 H1 e1 rep1 h1 vs rvs => ?_⟩
  cases rvs with
  | nil => exact h1.elim
  | cons r1 r2 =>
    cases r1 with
    | int j =>
      cases r2 with
      | cons _ _ => exact h1.elim
      | nil =>
        have h1 : End X.K E L1 H1 (fun it _ L1 H1 => ∀ J, ItOk X.K L1 H1 J it → R J H1) (if -(2 ^ 62) ≤ j ∧ j < 2 ^ 62 then .ok (.fix (rngD 0 j.toNat)) S1 else .bad) := h1
        by_cases hj : -(2 ^ 62) ≤ j ∧ j < 2 ^ 62
        · rw [if_pos hj] at h1
          exact ⟨j, rfl, hj.1, hj.2, h1 L1 H1 (Ex.refl _ _) rep1 _ (itr_ok 0 _)⟩
        · rw [if_neg hj] at h1; exact h1.elim
    | _ => exact h1.elim
theorem xRng2 {p : Pos} (hg : Gl X "range") (hm : X.mg "range" = none) (ha : PA X [a, b] (tA X.K E fs)) (hs : starEach [a, b] X.env = [(false, eval a X.env), (false, eval b X.env)] := by rfl) (hs2 : starEach [b] X.env = [(false, eval b X.env)] := by rfl) : PI X tg (.Call (.Name "range" p) [a, b] [] pos) (tI X.K E (fRng2 fs)) := by
  refine ⟨fun pins s σ H R I q => (pi_range2 hg hm ha hs hs2).run pins s σ H R I ?_⟩
  obtain ⟨L, env, S, rep, re, q⟩ := q
  refine ⟨L, env, S, rep, re, (End.bind q).imp fun ds S1 L1 H1 e1 rep1 h1 vs rvs => ?_⟩
  cases rvs with
  | nil => exact h1.elim
  | cons r1 r2 =>
    cases r1 with
    | int i =>
      cases r2 with
      | nil => exact h1.elim
      | cons r2 r3 =>
        cases r2 with
        | int j =>
          cases r3 with
          | cons _ _ => exact h1.elim
          | nil =>
            have h1 : End X.K E L1 H1 (fun it _ L1 H1 => ∀ J, ItOk X.K L1 H1 J it → R J H1) (if -(2 ^ 62) ≤ i ∧ i < 2 ^ 62 ∧ -(2 ^ 62) ≤ j ∧ j < 2 ^ 62 then .ok (.fix (rngD i (j - i).toNat)) S1 else .bad) := h1
            by_cases hj : -(2 ^ 62) ≤ i ∧ i < 2 ^ 62 ∧ -(2 ^ 62) ≤ j ∧ j < 2 ^ 62
            · rw [if_pos hj] at h1
              exact ⟨i, j, rfl, hj, h1 L1 H1 (Ex.refl _ _) rep1 _ (itr_ok i _)⟩
            · rw [if_neg hj] at h1; exact h1.elim
        | _ => exact h1.elim
    | _ => exact h1.elim
/-- behind a turn -/
theorem turn_of {K : PySem.W.Frag} {D : Ends} {L : List Addr} {H : Hp} {nxt : Lc → Sto → R Fl} {N : St → Hp → Prop} {fl : Fl} {S : Sto} (rep : Rep K L H S) (hN : ∀ env σ, RE K L H σ env → End K E L H (fun fl _ L1 H1 => FlQ K D L1 H1 fl) (nxt env S) → N σ H)
    (h : End K E L H (fun fl _ L1 H1 => FlQ K D L1 H1 fl) (match fl with
      | .nx e => nxt e S
      | .ct e => nxt e S
      | .bk e => .ok (.nx e) S
      | .rt d => .ok (.rt d) S)) : FlQ K { D with nx := N, ct := N, bk := D.nx } L H fl := by
  cases fl with
  | nx e => exact fun σ r => hN e σ r h
  | ct e => exact fun σ r => hN e σ r h
  | bk e => exact fun σ r => h L H (Ex.refl _ _) rep σ r
  | rt d => exact fun v r => h L H (Ex.refl _ _) rep v r
theorem xFor {body : List Stmt} {fi : IF} {g : GF} {fb : SF} (hp : PassesOwn (model X.prog X.w) X.A X.env X.xe) (hc : X.calm = true) (hi : PI X tg iter (tI X.K E fi)) (hg : PG X tg (tG X.K E g)) (hb : PSs X body (tS X.K E fb))
    (hs : ∀ x, foldedSetIterable iter X.env x = pure x := by intro _; rfl) : PS X (.For tg iter body [] pos) (tS X.K E (fFor fi g fb)) :=
  monoS (ps_for hp hc hi hg hb hs) fun D σ H h => by
    obtain ⟨L, env, S, rep, re, h⟩ := h
    refine ⟨L, env, S, rep, re, (End.bind h).imp fun it S1 L1 H1 e1 rep1 h1 J hJ => ?_⟩
    cases it with
    | fix xs =>
      refine ⟨fun i m σ H => m = xs.length - i ∧ i ≤ xs.length ∧ ∃ L2 env S, Ex L1 H1 L2 H ∧ Rep X.K L2 H S ∧ RE X.K L2 H σ env ∧ End X.K E L2 H (fun fl _ L1 H1 => FlQ X.K D L1 H1 fl) (loopX g fb (xs.drop i) env S),
        ⟨xs.length, by simp, Nat.zero_le _, L1, env, S1, Ex.refl _ _, rep1, re.mono e1, h1⟩, ?_⟩
      rintro i m σ2 H2 ⟨rfl, hi, L2, env2, S2, e2, rep2, re2, h2⟩
      have ok := hJ i L2 H2 S2 e2 rep2
      by_cases hlt : i < xs.length
      · have hd : xs[i]? = some xs[i] := List.getElem?_eq_getElem hlt
        obtain ⟨hgo, hy⟩ := ok.1 _ hd
        rw [List.drop_eq_getElem_cons hlt] at h2
        refine .inr ⟨hgo, fun σ3 H3 => ∃ L2 env S, Ex L1 H1 L2 H3 ∧ Rep X.K L2 H3 S ∧ RE X.K L2 H3 σ3 env ∧ End X.K E L2 H3 (fun fl _ L1 H1 => FlQ X.K D L1 H1 fl) (loopX g fb (xs.drop (i + 1)) env S),
          fun σ3 H3 q => ⟨_, by omega, rfl, hlt, q⟩, fun x H3 y => ?_⟩
        obtain ⟨e3, rep3, rx⟩ := hy x H3 y
        refine ⟨L2, env2, S2, _, rep3, re2.mono e3, rx, (End.bind (h2.later e3)).imp fun env4 S4 L4 H4 e4 rep4 h4 σ4 r4 => ?_⟩
        refine ⟨L4, env4, S4, rep4, r4, (End.bind h4).imp fun fl S5 L5 H5 e5 rep5 h5 => ?_⟩
        exact turn_of (nxt := fun e S => loopX g fb (xs.drop (i + 1)) e S) rep5 (fun env6 σ6 r6 h6 => ⟨L5, env6, S5, ((e2.trans e3).trans e4).trans e5, rep5, r6, h6⟩) h5
      · have e : i = xs.length := by omega
        refine .inl ⟨ok.2 (by omega), ?_⟩
        rw [List.drop_eq_nil_of_le (by omega)] at h2
        exact h2 L2 H2 (Ex.refl _ _) rep2 σ2 re2
    | live n xs =>
      refine ⟨fun i m σ H => ∃ rest L2 env S, m = List.length rest ∧ Ex L1 H1 L2 H ∧ Rep X.K L2 H S ∧ RE X.K L2 H σ env ∧ End X.K E L2 H (fun fl _ L1 H1 => FlQ X.K D L1 H1 fl) (loopL n g fb rest i env S),
        ⟨xs.length, xs, L1, env, S1, rfl, Ex.refl _ _, rep1, re.mono e1, h1⟩, ?_⟩
      rintro i m σ2 H2 ⟨rest, L2, env2, S2, rfl, e2, rep2, re2, h2⟩
      have fin : ∀ ys, S2[n]? = some (.lst ys) → ys.length ≤ i → End X.K E L2 H2 (fun fl _ L1 H1 => FlQ X.K D L1 H1 fl) (.ok (.nx env2) S2) → (J.stop i H2 ∧ D.nx σ2 H2) := fun ys q hl h =>
        ⟨(hJ i L2 H2 S2 ys e2 rep2 q).2 hl, h L2 H2 (Ex.refl _ _) rep2 σ2 re2⟩
      cases rest with
      | nil =>
        unfold loopL at h2
        cases q : S2[n]? with
        | none => rw [q] at h2; exact h2.elim
        | some c =>
          cases c with
          | lst ys =>
            rw [q] at h2
            simp only at h2
            by_cases hl : ys.length ≤ i
            · rw [if_pos hl] at h2
              exact .inl (fin ys q hl h2)
            · rw [if_neg hl] at h2; exact h2.elim
          | _ => rw [q] at h2; exact h2.elim
      | cons r0 rest =>
        unfold loopL at h2
        cases q : S2[n]? with
        | none => rw [q] at h2; exact h2.elim
        | some c =>
          cases c with
          | lst ys =>
            rw [q] at h2
            simp only at h2
            cases hd : ys[i]? with
            | none =>
              rw [hd] at h2
              exact .inl (fin ys q (List.getElem?_eq_none_iff.mp hd) h2)
            | some d =>
              rw [hd] at h2
              simp only at h2
              obtain ⟨hgo, hy⟩ := (hJ i L2 H2 S2 ys e2 rep2 q).1 _ hd
              refine .inr ⟨hgo, fun σ3 H3 => ∃ L2 env S, Ex L1 H1 L2 H3 ∧ Rep X.K L2 H3 S ∧ RE X.K L2 H3 σ3 env ∧ End X.K E L2 H3 (fun fl _ L1 H1 => FlQ X.K D L1 H1 fl) (loopL n g fb rest (i + 1) env S),
                fun σ3 H3 ⟨L5, env5, S5, q1, q2, q3, q4⟩ => ⟨_, by simp, rest, L5, env5, S5, rfl, q1, q2, q3, q4⟩, fun x H3 y => ?_⟩
              obtain ⟨e3, rep3, rx⟩ := hy x H3 y
              refine ⟨L2, env2, S2, _, rep3, re2.mono e3, rx, (End.bind (h2.later e3)).imp fun env4 S4 L4 H4 e4 rep4 h4 σ4 r4 => ?_⟩
              refine ⟨L4, env4, S4, rep4, r4, (End.bind h4).imp fun fl S5 L5 H5 e5 rep5 h5 => ?_⟩
              exact turn_of (nxt := fun e S => loopL n g fb rest (i + 1) e S) rep5 (fun env6 σ6 r6 h6 => ⟨L5, env6, S5, ((e2.trans e3).trans e4).trans e5, rep5, r6, h6⟩) h5
          | _ => rw [q] at h2; exact h2.elim
end
end RF

namespace RF
open PySem L2

/-! ### list comprehensions: one name as the target -/
def R.nox {α : Type} : R α → R α
  | .ok a S => .ok a S
  | _ => .bad
@[simp] theorem R.nox_ok {α : Type} (a : α) (S : Sto) : (R.ok a S).nox = .ok a S := (rfl)
abbrev D' := D
abbrev E0' : XK := fun _ _ _ => False
def compX (i : Nat) (ft : BF) (fe : EF) (env : Lc) : List D → List D → Sto → R D
  | [], acc, S => .ok (.ref S.length) (S ++ [.lst acc])
  | d :: xs, acc, S => (ft (env.set i (some d)) S).nox.bind fun b S1 => if b = true then ((fe (env.set i (some d)) S1).nox.bind fun y S2 => if acc.length < 100000 then compX i ft fe env xs (acc ++ [y]) S2 else .bad) else compX i ft fe env xs acc S1
def compL (n i : Nat) (ft : BF) (fe : EF) (env : Lc) : List D → Nat → List D → Sto → R D
  | [], j, acc, S => match S[n]? with
    | some (.lst ys) => if ys.length ≤ j then .ok (.ref S.length) (S ++ [.lst acc]) else .bad
    | _ => .bad
  | _ :: xs, j, acc, S => match S[n]? with
    | some (.lst ys) => match ys[j]? with
      | none => .ok (.ref S.length) (S ++ [.lst acc])
      | some d => (ft (env.set i (some d)) S).nox.bind fun b S1 => if b = true then ((fe (env.set i (some d)) S1).nox.bind fun y S2 => if acc.length < 100000 then compL n i ft fe env xs (j + 1) (acc ++ [y]) S2 else .bad) else compL n i ft fe env xs (j + 1) acc S1
    | _ => .bad
def fComp (fi : IF) (i : Nat) (ft : BF) (fe : EF) : EF := fun env S => (fi env S).bind fun it S1 => match it with
  | .fix xs => compX i ft fe (env.set i none) xs [] S1
  | .live n xs => compL n i ft fe (env.set i none) xs 0 [] S1
def fYes : BF := fun _ S => .ok true S

section
variable {K : PySem.W.Frag} {L L1 : List Addr} {H H1 : Hp} {S S1 : Sto} {E : XK} {α β : Type}
theorem End.keep {Q : β → Sto → List Addr → Hp → Prop} {x : R α} {k : α → Sto → R β} (h : End K E L H Q (x.nox.bind k)) : End K E0' L1 H1 (fun a S2 _ _ => End K E L H Q (k a S2)) x := by
  cases x with
  | ok a S => exact fun _ _ _ _ => h
  | ex c S => exact h.elim
  | bad => exact h.elim
/-- a list that was made outside of the store comes into it -/
theorem Rep.adopt {D : Addr} {vs : List V} {ds : List D'} (r : Rep K L H S) (hD : H D = some (.lst vs)) (hn : D ∉ L) (rd : RDs K L H vs ds) : Rep K (L ++ [D]) H (S ++ [.lst ds]) := by
  have gr : Gr L H (L ++ [D]) H := ⟨fun n a h => by rw [List.getElem?_append_left (List.getElem?_eq_some_iff.mp h).1]; exact h, fun _ _ h => h, fun _ _ _ h => h⟩
  refine ⟨by rw [List.length_append, List.length_append, r.len]; rfl, ?_, fun n b c' h1 h2 => ?_⟩
  · rw [List.nodup_append]
    refine ⟨r.nd, by simp, fun b hb d hd e => ?_⟩
    rw [List.mem_singleton] at hd
    subst hd; subst e
    exact hn hb
  · by_cases hl : n < L.length
    · rw [List.getElem?_append_left hl] at h1
      rw [List.getElem?_append_left (by rw [← r.len]; exact hl)] at h2
      exact (r.cel n b c' h1 h2).grow gr rfl
    · rw [List.getElem?_append_right (Nat.le_of_not_lt hl)] at h1
      rw [List.getElem?_append_right (by rw [← r.len]; exact Nat.le_of_not_lt hl)] at h2
      rw [← r.len] at h2
      have e : n - L.length = 0 := by
        have := (List.getElem?_eq_some_iff.mp h1).1
        simp at this; omega
      rw [e] at h1 h2
      simp at h1 h2
      subst h1; subst h2
      exact ⟨vs, hD, rd.grow gr⟩
theorem adopt_val {D : Addr} {vs : List V} {ds : List D'} {L0 : List Addr} {H0 : Hp} {Q : VK} (h : EndV K E L0 H0 Q (.ok (.ref S.length) (S ++ [.lst ds]))) (r : Rep K L H S) (hD : H D = some (.lst vs)) (hn : D ∉ L) (hf : H0 D = none) (ex : Ex L0 H0 L H) (rd : RDs K L H vs ds) : Q (.ref D) H := by
  refine h (L ++ [D]) H ⟨fun n a q => ?_, fun a q => ?_, ex.fr, ex.tp, ex.fz⟩ (r.adopt hD hn rd) _ (.ref ?_)
  · rw [List.getElem?_append_left (List.getElem?_eq_some_iff.mp (ex.px n a q)).1]; exact ex.px n a q
  · rcases List.mem_append.mp q with q | q
    · exact ex.nw a q
    · rw [List.mem_singleton.mp q]; exact .inr hf
  · rw [← r.len, List.getElem?_append_right (Nat.le_refl _)]; simp
/-- what stands outside of the store stays so -/
theorem Ex.outside {D : Addr} {o : HO} (e : Ex L H L1 H1) (hn : D ∉ L) (h : H D = some o) : D ∉ L1 ∧ H1 D = some o := by
  refine ⟨fun z => ?_, e.fr D o hn h⟩
  rcases e.nw D z with z | z
  · exact hn z
  · rw [h] at z; cases z
/-- an object outside of the store changes -/
theorem Gr.out {D : Addr} {o u : HO} (h : H D = some u) (h1 : ∀ xs, u ≠ .tup xs) (h2 : ∀ o w, u ≠ .frz o w) : Gr L H L (upd H D o) :=
  ⟨fun _ _ q => q, fun b xs q => by rw [upd_ne (fun z => by rw [z, h] at q; exact h1 xs (Option.some.inj q))]; exact q, fun b o' w q => by rw [upd_ne (fun z => by rw [z, h] at q; exact h2 o' w (Option.some.inj q))]; exact q⟩
theorem Rep.out {D : Addr} {o u : HO} (r : Rep K L H S) (hn : D ∉ L) (h : H D = some u) (h1 : ∀ xs, u ≠ .tup xs) (h2 : ∀ o w, u ≠ .frz o w) : Rep K L (upd H D o) S :=
  ⟨r.len, r.nd, fun n b c q1 q2 => (r.cel n b c q1 q2).grow (Gr.out h h1 h2) (upd_ne fun z => hn (z ▸ List.mem_of_getElem? q1))⟩
theorem Ex.out {D : Addr} {o u : HO} {L0 : List Addr} {H0 : Hp} (e : Ex L0 H0 L H) (hf : H0 D = none) (h : H D = some u) : Ex L0 H0 L (upd H D o) :=
  have ne : ∀ {b : Addr} {w : HO}, H0 b = some w → b ≠ D := fun q z => by rw [z, hf] at q; cases q
  ⟨e.px, e.nw, fun b w hb q => (upd_ne (ne q)).trans (e.fr b w hb q), fun b xs q => (upd_ne (ne q)).trans (e.tp b xs q), fun b o' w q => (upd_ne (ne q)).trans (e.fz b o' w q)⟩
end
theorem RE.wipe {K : PySem.W.Frag} {L : List Addr} {H : Hp} {σ : St} {env : Lc} (r : RE K L H σ env) (i : Nat) : RE K L H (wipe σ [i]) (env.set i none) := by
  refine ⟨by rw [wipe_length, List.length_set, r.len], fun j d h => ?_⟩
  by_cases hj : i = j
  · subst hj
    by_cases hi : i < env.length
    · rw [List.getElem?_set_self hi] at h; cases h
    · rw [List.getElem?_eq_none (by rw [List.length_set]; exact Nat.le_of_not_lt hi)] at h; cases h
  · rw [List.getElem?_set_ne hj] at h
    show ∃ v, (σ.set i none)[j]? = _ ∧ _
    rw [List.getElem?_set_ne hj]
    exact r.val j d h
theorem wipe_set {σ : St} {i : Nat} {x : V} : wipe ((wipe σ [i]).set i (some x)) [i] = wipe σ [i] := by
  show (((σ.set i none).set i (some x)).set i none) = σ.set i none
  rw [List.set_set, List.set_set]
section
variable {X : Cx} {E : XK} {tg l iter elt : Expr} {fa fe : EF} {ft : BF} {fi : IF} {pos : Pos}
/-- the turns of a comprehension -/
theorem comp_of {K : PySem.W.Frag} {i : Nat} {σ : St} {H : Hp} {Q : VK} (h : tE K E (fComp fi i ft fe) σ H Q) : tLc (tI K E fi) (gName i) (tT K E0' ft) (tE K E0' fe) [i] σ H Q := by
  obtain ⟨L, env, S, rep, re, h⟩ := h
  refine ⟨L, env, S, rep, re, (End.bind h).imp fun it S1 L1 H1 e1 rep1 h1 J hJ D hD => ?_⟩
  have re1 := (re.mono e1).wipe i
  have exD : Ex L1 H1 L1 (upd H1 D (.lst [])) := Ex.new hD
  have nD : D ∉ L1 := rep1.fresh hD
  -- one turn, whatever follows
  have turn : ∀ {fin : List D' → Sto → R D'} {Nx : Hp → Prop} {L2 : List Addr} {H2 : Hp} {S2 : Sto} {d : D'} {x : V} {H3 : Hp} {acc : List D'} {vs : List V}, Ex L1 H1 L2 H2 → Rep K L2 H2 S2 → D ∉ L2 → H2 D = some (.lst vs) → RDs K L2 H2 vs acc →
      Ex L2 H2 L2 H3 → Rep K L2 H3 S2 → RD K L2 H3 x d →
      (∀ {L4 : List Addr} {H4 : Hp} {S4 : Sto} {ws : List V} {acc2 : List D'}, Ex L1 H1 L4 H4 → Rep K L4 H4 S4 → D ∉ L4 → H4 D = some (.lst ws) → RDs K L4 H4 ws acc2 → EndV K E L1 H1 Q (fin acc2 S4) → Nx H4) →
      EndV K E L1 H1 Q ((ft ((env.set i none).set i (some d)) S2).nox.bind fun b S1 => if b = true then ((fe ((env.set i none).set i (some d)) S1).nox.bind fun y S2 => if acc.length < 100000 then fin (acc ++ [y]) S2 else .bad) else fin acc S1) →
      gName i x (wipe σ [i]) H3 fun σ2 H2 => wipe σ2 [i] = wipe σ [i] ∧ (tT K E0' ft) σ2 H2 fun b H3 =>
        if b = true then (tE K E0' fe) σ2 H3 fun y H4 => ∃ acc, H4 D = some (.lst acc) ∧ acc.length < sizeLine ∧ Nx (upd H4 D (.lst (acc ++ [y]))) else Nx H3 := by
    intro fin Nx L2 H2 S2 d x H3 acc vs e2 rep2 n2 hD2 rd2 e3 rep3 rx hN hq
    refine ⟨wipe_set, ?_⟩
    have re3 : RE K L2 H3 ((wipe σ [i]).set i (some x)) ((env.set i none).set i (some d)) := ((re1.mono e2).mono e3).set rx
    obtain ⟨n3, hD3⟩ := e3.outside n2 hD2
    refine ⟨L2, _, S2, rep3, re3, (End.keep hq).imp fun b S4 L4 H4 e4 rep4 q4 => ?_⟩
    obtain ⟨n4, hD4⟩ := e4.outside n3 hD3
    cases b with
    | false => exact iteF (hN ((e2.trans e3).trans e4) rep4 n4 hD4 ((rd2.mono e3).mono e4) q4)
    | true =>
      refine iteT ⟨L4, _, S4, rep4, re3.mono e4, (End.keep q4).imp fun y S5 L5 H5 e5 rep5 q5 v rv => ?_⟩
      obtain ⟨n5, hD5⟩ := e5.outside n4 hD4
      by_cases hl : acc.length < 100000
      · rw [if_pos hl] at q5
        have rl : vs.length = acc.length := rd2.length
        have gr : Gr L5 H5 L5 (upd H5 D (.lst (vs ++ [v]))) := Gr.out hD5 (fun _ z => nomatch z) (fun _ _ z => nomatch z)
        refine ⟨vs, hD5, by rw [rl]; exact sz5l hl, ?_⟩
        refine hN (Ex.out (((e2.trans e3).trans e4).trans e5) hD hD5) (rep5.out n5 hD5 (fun _ z => nomatch z) (fun _ _ z => nomatch z)) n5 upd_same ?_ q5
        exact RDs.append ((((rd2.mono e3).mono e4).mono e5).grow gr) (.cons (rv.grow gr) .nil)
      · rw [if_neg hl] at q5; exact q5.elim
  cases it with
  | fix xs =>
    refine ⟨fun j m H => m = xs.length - j ∧ j ≤ xs.length ∧ ∃ L2 S2 acc vs, Ex L1 H1 L2 H ∧ Rep K L2 H S2 ∧ D ∉ L2 ∧ H D = some (.lst vs) ∧ RDs K L2 H vs acc ∧ EndV K E L1 H1 Q (compX i ft fe (env.set i none) (xs.drop j) acc S2),
      ⟨xs.length, by simp, Nat.zero_le _, L1, S1, [], [], exD, rep1.new hD, nD, upd_same, .nil, h1⟩, ?_⟩
    rintro j m H2 ⟨rfl, hj, L2, S2, acc, vs, e2, rep2, n2, hD2, rd2, h2⟩
    have ok := hJ j L2 H2 S2 e2 rep2
    by_cases hlt : j < xs.length
    · have hd : xs[j]? = some xs[j] := List.getElem?_eq_getElem hlt
      obtain ⟨hgo, hy⟩ := ok.1 _ hd
      rw [List.drop_eq_getElem_cons hlt] at h2
      refine .inr ⟨hgo, fun H3 => ∃ L2 S2 acc vs, Ex L1 H1 L2 H3 ∧ Rep K L2 H3 S2 ∧ D ∉ L2 ∧ H3 D = some (.lst vs) ∧ RDs K L2 H3 vs acc ∧ EndV K E L1 H1 Q (compX i ft fe (env.set i none) (xs.drop (j + 1)) acc S2),
        fun H3 q => ⟨_, by omega, rfl, hlt, q⟩, fun x H3 y => ?_⟩
      obtain ⟨e3, rep3, rx⟩ := hy x H3 y
      exact turn (fin := fun a s => compX i ft fe (env.set i none) (xs.drop (j + 1)) a s) e2 rep2 n2 hD2 rd2 e3 rep3 rx (fun q1 q2 q3 q4 q5 q6 => ⟨_, _, _, _, q1, q2, q3, q4, q5, q6⟩) h2
    · refine .inl ⟨ok.2 (by omega), ?_⟩
      rw [List.drop_eq_nil_of_le (by omega)] at h2
      exact adopt_val h2 rep2 hD2 n2 hD e2 rd2
  | live n xs =>
    refine ⟨fun j m H => ∃ rest L2 S2 acc vs, m = List.length rest ∧ Ex L1 H1 L2 H ∧ Rep K L2 H S2 ∧ D ∉ L2 ∧ H D = some (.lst vs) ∧ RDs K L2 H vs acc ∧ EndV K E L1 H1 Q (compL n i ft fe (env.set i none) rest j acc S2),
      ⟨xs.length, xs, L1, S1, [], [], rfl, exD, rep1.new hD, nD, upd_same, .nil, h1⟩, ?_⟩
    rintro j m H2 ⟨rest, L2, S2, acc, vs, rfl, e2, rep2, n2, hD2, rd2, h2⟩
    cases rest with
    | nil =>
      unfold compL at h2
      cases q : S2[n]? with
      | none => rw [q] at h2; exact h2.elim
      | some c =>
        cases c with
        | lst ys =>
          rw [q] at h2
          simp only at h2
          by_cases hl : ys.length ≤ j
          · rw [if_pos hl] at h2
            exact .inl ⟨(hJ j L2 H2 S2 ys e2 rep2 q).2 hl, adopt_val h2 rep2 hD2 n2 hD e2 rd2⟩
          · rw [if_neg hl] at h2; exact h2.elim
        | _ => rw [q] at h2; exact h2.elim
    | cons r0 rest =>
      unfold compL at h2
      cases q : S2[n]? with
      | none => rw [q] at h2; exact h2.elim
      | some c =>
        cases c with
        | lst ys =>
          rw [q] at h2
          simp only at h2
          cases hd : ys[j]? with
          | none =>
            rw [hd] at h2
            exact .inl ⟨(hJ j L2 H2 S2 ys e2 rep2 q).2 (List.getElem?_eq_none_iff.mp hd), adopt_val h2 rep2 hD2 n2 hD e2 rd2⟩
          | some d =>
            rw [hd] at h2
            simp only at h2
            obtain ⟨hgo, hy⟩ := (hJ j L2 H2 S2 ys e2 rep2 q).1 _ hd
            refine .inr ⟨hgo, fun H3 => ∃ L2 S2 acc vs, Ex L1 H1 L2 H3 ∧ Rep K L2 H3 S2 ∧ D ∉ L2 ∧ H3 D = some (.lst vs) ∧ RDs K L2 H3 vs acc ∧ EndV K E L1 H1 Q (compL n i ft fe (env.set i none) rest (j + 1) acc S2),
              fun H3 ⟨q0, q1, q2, q3, q4⟩ => ⟨_, by simp, rest, q0, q1, q2, q3, rfl, q4⟩, fun x H3 y => ?_⟩
            obtain ⟨e3, rep3, rx⟩ := hy x H3 y
            exact turn (fin := fun a s => compL n i ft fe (env.set i none) rest (j + 1) a s) e2 rep2 n2 hD2 rd2 e3 rep3 rx (fun q1 q2 q3 q4 q5 q6 => ⟨_, _, _, _, q1, q2, q3, q4, q5, q6⟩) h2
        | _ => rw [q] at h2; exact h2.elim
theorem xYes {Y : Cx} : PTs Y [] (tT Y.K E fYes) := ⟨fun pins s σ H Q I ⟨L, env, S, rep, re, h⟩ => pts_nil.run pins s σ H Q I (h L H (Ex.refl _ _) rep)⟩
theorem xTst {Y : Cx} {c : Expr} (h : PT Y c (tT Y.K E ft)) : PTs Y [c] (tT Y.K E ft) := pts_one h
/-- [elt for x in iter], [elt for x in iter if c], x in slot i -/
theorem xComp {x : Str} {i : Nat} {px : Pos} {ifs : List Expr} {scope : Scope} (hc : X.calm = true) (hN : X.N.Nodup) (hi : PI X (.Name x px) iter (tI X.K E fi)) (ok : BlkOk X.N X.env.scope scope [(x, i)])
    (hg : ∀ (s : Shared) (H : Hp) (C : Addr) (cl : List (Str × Addr)) (fp : List Addr), PG (X.blk s H scope (compEnvC scope cl C X.env) fp) (.Name x px) (gName i)) (ht : ∀ (s : Shared) (H : Hp) (C : Addr) (cl : List (Str × Addr)) (fp : List Addr), PTs (X.blk s H scope (compEnvC scope cl C X.env) fp) ifs (tT X.K E0' ft))
    (he : ∀ (s : Shared) (H : Hp) (C : Addr) (cl : List (Str × Addr)) (fp : List Addr), PE (X.blk s H scope (compEnvC scope cl C X.env) fp) elt (tE X.K E0' fe)) (hs : ∀ x, foldedSetIterable iter X.env x = pure x := by intro _; rfl) :
    PE X (.ListComp elt [⟨.Name x px, iter, ifs, 0⟩] scope pos) (tE X.K E (fComp fi i ft fe)) :=
  monoE (pe_lc (own := [(x, i)]) hc hN hi ok hg ht he hs) fun σ H Q h => comp_of h
/-- y = [..] -/
theorem xSetComp {x y : Str} {i j : Nat} {px py spos : Pos} {ifs : List Expr} {scope : Scope} (hc : X.calm = true) (hN : X.N.Nodup) (hy : X.N[j]? = some y) (hyl : X.env.scope.names.lookup y = some .local)
    (hsw : swapsWith (.ListComp elt [⟨.Name x px, iter, ifs, 0⟩] scope pos) (some (.Name y py)) spos.line X.env = pure true) (hi : PI X (.Name x px) iter (tI X.K E fi)) (ok : BlkOk X.N X.env.scope scope [(x, i)])
    (hg : ∀ (s : Shared) (H : Hp) (C : Addr) (cl : List (Str × Addr)) (fp : List Addr), PG (X.blk s H scope (compEnvC scope cl C X.env) fp) (.Name x px) (gName i)) (ht : ∀ (s : Shared) (H : Hp) (C : Addr) (cl : List (Str × Addr)) (fp : List Addr), PTs (X.blk s H scope (compEnvC scope cl C X.env) fp) ifs (tT X.K E0' ft))
    (he : ∀ (s : Shared) (H : Hp) (C : Addr) (cl : List (Str × Addr)) (fp : List Addr), PE (X.blk s H scope (compEnvC scope cl C X.env) fp) elt (tE X.K E0' fe)) (hs : ∀ x, foldedSetIterable iter X.env x = pure x := by intro _; rfl) :
    PS X (.Assign [.Name y py] (.ListComp elt [⟨.Name x px, iter, ifs, 0⟩] scope pos) spos) (tS X.K E (fAsg (fComp fi i ft fe) (gN j))) :=
  monoS (ps_setLc (own := [(x, i)]) hc hN hy hyl hsw hi ok hg ht he hs) fun D σ H h => by
    obtain ⟨L, env, S, rep, re, h⟩ := h
    refine comp_of ⟨L, env, S, rep, re, (End.bind h).imp fun d S1 L1 H1 e1 rep1 h1 v rv => ?_⟩
    exact h1 L1 H1 (Ex.refl _ _) rep1 _ ((re.mono e1).set rv)
end
end RF

namespace RF
open PySem L2

/-! ### subscripts -/
def keyD : D → Option Key
  | .int i => some (.inl i)
  | .str x => some (.inr x)
  | _ => none
def keysD : D → Option (List Key)
  | .tup ds => ds.mapM keyD
  | _ => none
def valK {κ β : Type} [DecidableEq κ] (kvs : List (κ × β)) (k : κ) : Option β := (kvs.find? fun kv => decide (kv.1 = k)).map (·.2)
def putKD {κ β : Type} [DecidableEq κ] (kvs : List (κ × β)) (k : κ) (v : β) : List (κ × β) :=
  if (kvs.any fun kv => decide (kv.1 = k)) = true then kvs.map (fun kv => if kv.1 = k then (kv.1, v) else kv) else kvs ++ [(k, v)]
def dropKD {κ β : Type} [DecidableEq κ] (kvs : List (κ × β)) (k : κ) : List (κ × β) := kvs.filter fun kv => decide (kv.1 ≠ k)
def isDict (S : Sto) : D → Bool
  | .ref n => match S[n]? with
    | some (.dk _) => true
    | some (.dt _) => true
    | _ => false
  | _ => false
def retO (S : Sto) : Option D → R D
  | some d => .ok d S
  | none => .bad
def oGetL (x y : D) (S : Sto) : R D := match x, y with
  | .tup xs, .int i => retO S (atI xs i)
  | .rl xs, .int i => retO S (atI xs i)
  | .str z, .int i => if z.length ≤ 100000 then retO S ((atI z.cps.toList i).map fun c => .str ⟨#[c]⟩) else .bad
  | .ref n, .int i => match S[n]? with
    | some (.lst xs) => retO S (atI xs i)
    | _ => .bad
  | _, _ => .bad
/-- what a dict holds: none if it is no dict or no key -/
def lookD (S : Sto) (x y : D) : Option (Option D) := match x with
  | .ref n => match S[n]? with
    | some (.dk kvs) => (keyD y).map fun k => valK kvs k
    | some (.dt kvs) => (keysD y).map fun k => valK kvs k
    | _ => none
  | _ => none
def oGetD (x y : D) (S : Sto) : R D := match lookD S x y with
  | some (some d) => .ok d S
  | _ => .bad
def fIx (fa fb : EF) : EF := fun env S => (fa env S).bind fun x S1 => if isDict S1 x = true then (fb env S1).bind fun y S2 => oGetD x y S2 else (fb env S1).bind fun y S2 => oGetL x y S2
def oSet (x y d : D) (S : Sto) : R Unit := match x with
  | .ref n => match S[n]? with
    | some (.lst xs) => match y with
      | .int i => match ixN xs.length i with
        | some j => .ok () (S.set n (.lst (xs.set j d)))
        | none => .bad
      | _ => .bad
    | some (.dk kvs) => match keyD y with
      | some k => if kvs.length < 100000 then .ok () (S.set n (.dk (putKD kvs k d))) else .bad
      | none => .bad
    | some (.dt kvs) => match keysD y with
      | some k => if kvs.length < 100000 then .ok () (S.set n (.dt (putKD kvs k d))) else .bad
      | none => .bad
    | _ => .bad
  | _ => .bad
def gSub' (fo fi : EF) : GF := fun d env S => (fo env S).bind fun x S1 => (fi env S1).bind fun y S2 => (oSet x y d S2).bind fun _ S3 => .ok env S3

section
variable {K : PySem.W.Frag} {L : List Addr} {H : Hp} {S : Sto}
theorem RD.key {v : V} {d : D} {k : Key} (r : RD K L H v d) (h : keyD d = some k) : v = kV k := by
  cases r with
  | int i => cases h; rfl
  | str i => cases h; rfl
  | _ => cases h
theorem RDs.keys : ∀ {vs : List V} {ds : List D} {ks : List Key}, RDs K L H vs ds → ds.mapM keyD = some ks → vs = ks.map kV
  | _, _, _, .nil, h => by
    simp at h
    subst h; rfl
  | _, _, ks, .cons (d := d) a b, h => by
    rw [List.mapM_cons] at h
    cases q : keyD d with
    | none => rw [q] at h; cases h
    | some k =>
      rw [q] at h
      cases q2 : (List.mapM keyD _ : Option (List Key)) with
      | none => rw [q2] at h; cases h
      | some ks' =>
        rw [q2] at h
        cases h
        rw [List.map_cons, ← a.key q, ← RDs.keys b q2]
theorem RD.keys {v : V} {d : D} {ks : List Key} (r : RD K L H v d) (h : keysD d = some ks) : ∃ b, v = .ref b ∧ H b = some (.tup (ks.map kV)) := by
  cases r with
  | tup hs rs => exact ⟨_, rfl, by rw [hs, rs.keys h]⟩
  | _ => cases h
theorem RK.valK {κ : Type} [DecidableEq κ] (k : κ) : ∀ {ps : List (κ × V)} {qs : List (κ × D)}, RK K L H ps qs → (RF.valK qs k = none ∧ valV ps k = none) ∨ ∃ v d, RF.valK qs k = some d ∧ valV ps k = some v ∧ RD K L H v d
  | [], [], _ => .inl ⟨rfl, rfl⟩
  | (a, v) :: ps, (b, d) :: qs, ⟨e, r, c⟩ => by
    have e : a = b := e
    subst e
    unfold RF.valK valV
    rw [List.find?_cons, List.find?_cons]
    cases q : decide (a = k) with
    | true => exact .inr ⟨v, d, rfl, rfl, r⟩
    | false => exact RK.valK k c
  | [], _ :: _, h => h.elim
  | _ :: _, [], h => h.elim
theorem RK.any {κ : Type} (p : κ → Bool) : ∀ {ps : List (κ × V)} {qs : List (κ × D)}, RK K L H ps qs → (ps.any fun kv => p kv.1) = qs.any fun kv => p kv.1
  | [], [], _ => rfl
  | (a, v) :: ps, (b, d) :: qs, ⟨e, r, c⟩ => by
    have e : a = b := e
    subst e
    rw [List.any_cons, List.any_cons, RK.any p c]
  | [], _ :: _, h => h.elim
  | _ :: _, [], h => h.elim
theorem RK.mapput {κ : Type} [DecidableEq κ] {k : κ} {v : V} {d : D} (rv : RD K L H v d) : ∀ {ps : List (κ × V)} {qs : List (κ × D)}, RK K L H ps qs → RK K L H (ps.map fun kv => if kv.1 = k then (kv.1, v) else kv) (qs.map fun kv => if kv.1 = k then (kv.1, d) else kv)
  | [], [], _ => trivial
  | (a, w) :: ps, (b, x) :: qs, ⟨e, r, c⟩ => by
    have e : a = b := e
    subst e
    rw [List.map_cons, List.map_cons]
    by_cases h : a = k
    · simp only [if_pos h]
      exact ⟨rfl, rv, RK.mapput rv c⟩
    · simp only [if_neg h]
      exact ⟨rfl, r, RK.mapput rv c⟩
  | [], _ :: _, h => h.elim
  | _ :: _, [], h => h.elim
theorem RK.append {κ : Type} {ps2 : List (κ × V)} {qs2 : List (κ × D)} (h2 : RK K L H ps2 qs2) : ∀ {ps : List (κ × V)} {qs : List (κ × D)}, RK K L H ps qs → RK K L H (ps ++ ps2) (qs ++ qs2)
  | [], [], _ => h2
  | (a, w) :: ps, (b, x) :: qs, ⟨e, r, c⟩ => ⟨e, r, RK.append h2 c⟩
  | [], _ :: _, h => h.elim
  | _ :: _, [], h => h.elim
theorem RK.put {κ : Type} [DecidableEq κ] {k : κ} {v : V} {d : D} (rv : RD K L H v d) {ps : List (κ × V)} {qs : List (κ × D)} (h : RK K L H ps qs) : RK K L H (putK ps k v) (putKD qs k d) := by
  unfold putK putKD
  rw [RK.any (fun x => decide (x = k)) h]
  split
  · exact RK.mapput rv h
  · exact RK.append (ps2 := [(k, v)]) (qs2 := [(k, d)]) ⟨rfl, rv, trivial⟩ h
theorem RK.drop {κ : Type} [DecidableEq κ] {k : κ} : ∀ {ps : List (κ × V)} {qs : List (κ × D)}, RK K L H ps qs → RK K L H (dropK ps k) (dropKD qs k)
  | [], [], _ => trivial
  | (a, w) :: ps, (b, x) :: qs, ⟨e, r, c⟩ => by
    have e : a = b := e
    subst e
    unfold dropK dropKD
    rw [List.filter_cons, List.filter_cons]
    by_cases h : a = k
    · simp only [h, ne_eq, not_true_eq_false, decide_false, Bool.false_eq_true, if_false]
      exact RK.drop c
    · have e : decide (¬ a = k) = true := decide_eq_true h
      simp only [ne_eq, e, if_true]
      exact ⟨rfl, r, RK.drop c⟩
  | [], _ :: _, h => h.elim
  | _ :: _, [], h => h.elim
theorem RDs.atI {vs : List V} {ds : List D} {i : Int} {d : D} (r : RDs K L H vs ds) (h : L2.atI ds i = some d) : ∃ v, L2.atI vs i = some v ∧ RD K L H v d := by
  unfold L2.atI at h ⊢
  rw [r.length]
  cases q : ixN ds.length i with
  | none => rw [q] at h; cases h
  | some j =>
    rw [q] at h
    exact r.get h
theorem lookD_of {x y : D} {v w : V} {o : Option D} (rep : Rep K L H S) (rx : RD K L H v x) (ry : RD K L H w y) (h : lookD S x y = some o) : ∃ a, v = .ref a ∧ ((o = none ∧ DGet H a w none) ∨ ∃ d u, o = some d ∧ DGet H a w (some u) ∧ RD K L H u d) := by
  unfold lookD at h
  cases rx with
  | @ref a n ha =>
    obtain ⟨c, hc, rc⟩ := rep.adr ha
    simp only [hc] at h
    refine ⟨a, rfl, ?_⟩
    cases c with
    | dk kvs =>
      simp only at h
      cases q : keyD y with
      | none => rw [q] at h; cases h
      | some k =>
        rw [q] at h
        obtain ⟨ws, hw, rk⟩ := rc
        obtain rfl := ry.key q
        have h : RF.valK kvs k = o := Option.some.inj h
        rcases rk.valK k with ⟨h1, h2⟩ | ⟨u, d, h1, h2, r⟩
        · exact .inl ⟨h.symm.trans h1, by rw [← h2]; exact DGet.k hw⟩
        · exact .inr ⟨d, u, h.symm.trans h1, by rw [← h2]; exact DGet.k hw, r⟩
    | dt kvs =>
      simp only at h
      cases q : keysD y with
      | none => rw [q] at h; cases h
      | some k =>
        rw [q] at h
        obtain ⟨ws, hw, rk⟩ := rc
        obtain ⟨b, rfl, hb⟩ := ry.keys q
        have h : RF.valK kvs k = o := Option.some.inj h
        rcases rk.valK k with ⟨h1, h2⟩ | ⟨u, d, h1, h2, r⟩
        · exact .inl ⟨h.symm.trans h1, by rw [← h2]; exact DGet.t hw hb⟩
        · exact .inr ⟨d, u, h.symm.trans h1, by rw [← h2]; exact DGet.t hw hb, r⟩
    | _ => cases h
  | _ => cases h
variable {E : XK}
theorem retO_of {Q : VK} {o : Option D} (rep : Rep K L H S) (h : EndV K E L H Q (retO S o)) : ∃ d, o = some d ∧ ∀ v, RD K L H v d → Q v H := by
  cases o with
  | none => exact h.elim
  | some d => exact ⟨d, rfl, fun v rv => EndV.val h rep rv⟩
theorem opF_getL : OpF K E (rIx K) oGetL := by
  intro L H S x y d1 d2 Q rep r1 r2 h
  cases r1 with
  | tup hs rs =>
    cases r2 with
    | int i =>
      obtain ⟨d, e, k⟩ := retO_of rep h
      obtain ⟨v, hv, rv⟩ := rs.atI e
      exact .inr (.inl ⟨_, _, i, v, rfl, rfl, .of hs, hv, k v rv⟩)
    | _ => exact h.elim
  | rl hs rs =>
    cases r2 with
    | int i =>
      obtain ⟨d, e, k⟩ := retO_of rep h
      obtain ⟨v, hv, rv⟩ := rs.atI e
      exact .inl ⟨_, _, i, v, rfl, rfl, hs H fun _ _ _ z => z, hv, k v rv⟩
    | _ => exact h.elim
  | str z =>
    cases r2 with
    | int i =>
      have h : EndV K E L H Q (if z.length ≤ 100000 then retO S ((atI z.cps.toList i).map fun c => .str ⟨#[c]⟩) else .bad) := h
      by_cases hl : z.length ≤ 100000
      · rw [if_pos hl] at h
        obtain ⟨d, e, k⟩ := retO_of rep h
        obtain ⟨c, hc, rfl⟩ := Option.map_eq_some_iff.mp e
        exact .inr (.inr ⟨z, i, c, rfl, rfl, sz5 hl, hc, k _ (.str _)⟩)
      · rw [if_neg hl] at h; exact h.elim
    | _ => exact h.elim
  | ref ha =>
    cases r2 with
    | int i =>
      obtain ⟨c, hc, rc⟩ := rep.adr ha
      unfold oGetL at h
      simp only [hc] at h
      cases c with
      | lst xs =>
        obtain ⟨d, e, k⟩ := retO_of rep h
        obtain ⟨vs, hv, rvs⟩ := rc
        obtain ⟨v, hv2, rv⟩ := rvs.atI e
        exact .inl ⟨_, _, i, v, rfl, rfl, .of hv, hv2, k v rv⟩
      | _ => exact h.elim
    | _ => exact h.elim
  | _ => exact h.elim
/-- a cell is written -/
theorem Rep.write {n : Nat} {a : Addr} {c : Cell} {o : HO} (rep : Rep K L H S) (ha : L[n]? = some a) (hc : RC K L (upd H a o) a c) : Ex L H L (upd H a o) ∧ Rep K L (upd H a o) (S.set n c) := ⟨Ex.wr rep (List.mem_of_getElem? ha), rep.wr ha hc⟩
theorem Gr.wr {n : Nat} {a : Addr} {o : HO} (rep : Rep K L H S) (ha : L[n]? = some a) : Gr L H L (upd H a o) := (Ex.wr rep (List.mem_of_getElem? ha)).gr
theorem setF {Q : Hp → Prop} {x y d : D} {v w u : V} (rep : Rep K L H S) (rx : RD K L H v x) (ry : RD K L H w y) (rd : RD K L H u d) (h : End K E L H (fun _ _ _ H1 => Q H1) (oSet x y d S)) : rSetL v w u H Q ∨ ∃ a H1, v = .ref a ∧ DPut H a w u H1 ∧ Q H1 := by
  unfold oSet at h
  cases rx with
  | @ref a n ha =>
    obtain ⟨c, hc, rc⟩ := rep.adr ha
    simp only [hc] at h
    cases c with
    | lst xs =>
      simp only at h
      cases ry with
      | int i =>
        simp only at h
        cases q : ixN xs.length i with
        | none => rw [q] at h; exact h.elim
        | some j =>
          rw [q] at h
          obtain ⟨vs, hv, rvs⟩ := rc
          have gr : Gr L H L (upd H a (.lst (vs.set j u))) := Gr.wr rep ha
          obtain ⟨ex, rep2⟩ := rep.write (o := .lst (vs.set j u)) (c := .lst (xs.set j d)) ha ⟨_, upd_same, (rvs.set rd j).grow gr⟩
          exact .inl ⟨a, vs, i, j, rfl, rfl, hv, by rw [rvs.length]; exact q, h _ _ ex rep2⟩
      | _ => exact h.elim
    | dk kvs =>
      simp only at h
      cases q : keyD y with
      | none => rw [q] at h; exact h.elim
      | some k =>
        rw [q] at h
        obtain ⟨ws, hw, rk⟩ := rc
        obtain rfl := ry.key q
        by_cases hl : kvs.length < 100000
        · simp only [if_pos hl] at h
          have gr : Gr L H L (upd H a (.dK (putK ws k u))) := Gr.wr rep ha
          obtain ⟨ex, rep2⟩ := rep.write (o := .dK (putK ws k u)) (c := .dk (putKD kvs k d)) ha ⟨_, upd_same, (rk.put rd).grow gr⟩
          exact .inr ⟨a, _, rfl, DPut.k hw (by rw [rk.length]; exact sz5l hl), h _ _ ex rep2⟩
        · simp only [if_neg hl] at h; exact h.elim
    | dt kvs =>
      simp only at h
      cases q : keysD y with
      | none => rw [q] at h; exact h.elim
      | some k =>
        rw [q] at h
        obtain ⟨ws, hw, rk⟩ := rc
        obtain ⟨b, rfl, hb⟩ := ry.keys q
        by_cases hl : kvs.length < 100000
        · simp only [if_pos hl] at h
          have gr : Gr L H L (upd H a (.dT (putK ws k u))) := Gr.wr rep ha
          obtain ⟨ex, rep2⟩ := rep.write (o := .dT (putK ws k u)) (c := .dt (putKD kvs k d)) ha ⟨_, upd_same, (rk.put rd).grow gr⟩
          exact .inr ⟨a, _, rfl, DPut.t hw hb (by rw [rk.length]; exact sz5l hl), h _ _ ex rep2⟩
        · simp only [if_neg hl] at h; exact h.elim
    | _ => exact h.elim
  | _ => exact h.elim
end
section
variable {X : Cx} {E : XK} {a b o i : Expr} {fa fb fo fi : EF} {pos : Pos}
theorem xIx (hu : X.A.units + 1 < cLine) (ha : PE X a (tE X.K E fa)) (hb : PE X b (tE X.K E fb)) (hs : PlainIx b) : PE X (.Subscript a b pos) (tE X.K E (fIx fa fb)) := by
  have h1 := pe_ix (pos := pos) ix_seq ha hb hs
  have h2 := pe_dget (pos := pos) hu ha hb hs
  refine ⟨fun pins s σ H Q I q => ?_⟩
  have key : tOp (rIx X.K) (tE X.K E fa) (tE X.K E fb) σ H Q ∨ tDGet (tE X.K E fa) (tE X.K E fb) σ H Q := by
    obtain ⟨L, env, S, rep, re, q⟩ := q
    have q' := End.bind q
    by_cases hd : ∃ x S1, fa env S = .ok x S1 ∧ isDict S1 x = true
    · refine .inr ⟨L, env, S, rep, re, q'.imp' fun x S1 L1 H1 e0 e1 rep1 h1 v rv => ?_⟩
      have hx : isDict S1 x = true := by
        obtain ⟨x', S1', e, hx'⟩ := hd
        rw [e0] at e; cases e; exact hx'
      rw [if_pos hx] at h1
      refine ⟨L1, env, S1, rep1, re.mono e1, (End.bind h1).imp fun y S2 L2 H2 e2 rep2 h2 w rw' => ?_⟩
      unfold oGetD at h2
      cases q2 : lookD S2 x y with
      | none => rw [q2] at h2; exact h2.elim
      | some r =>
        rw [q2] at h2
        cases r with
        | none => exact h2.elim
        | some d =>
          obtain ⟨a, rfl, k⟩ := lookD_of rep2 (rv.mono e2) rw' q2
          rcases k with ⟨k, _⟩ | ⟨d', u, k1, k2, k3⟩
          · cases k
          · cases k1
            exact ⟨a, u, rfl, k2, EndV.val h2 rep2 k3⟩
    · refine .inl ⟨L, env, S, rep, re, q'.imp' fun x S1 L1 H1 e0 e1 rep1 h1 v rv => ?_⟩
      have hx : ¬ isDict S1 x = true := fun z => hd ⟨x, S1, e0, z⟩
      rw [if_neg hx] at h1
      refine ⟨L1, env, S1, rep1, re.mono e1, (End.bind h1).imp fun y S2 L2 H2 e2 rep2 h2 w rw' => ?_⟩
      exact opF_getL L2 H2 S2 _ _ _ _ _ rep2 (rv.mono e2) rw' h2
  rcases key with k | k
  · exact h1.run pins s σ H Q I k
  · exact h2.run pins s σ H Q I k
theorem pset_dict (hu : X.A.units + 1 < cLine) : PSet X (fun o i v H Q => ∃ a H1, o = .ref a ∧ DPut H a i v H1 ∧ Q H1) := by
  intro pins s σ H o i v ov iv r Q I ro ri rv h
  obtain ⟨a, H1, rfl, g, q⟩ := h
  obtain rfl : ov = Value.ref a := ro
  exact d_setItem hu I g ri rv fun s1 I1 => ⟨H1, I1, q⟩
theorem pset_both (hu : X.A.units + 1 < cLine) : PSet X (fun o i v H Q => rSetL o i v H Q ∨ ∃ a H1, o = .ref a ∧ DPut H a i v H1 ∧ Q H1) := by
  intro pins s σ H o i v ov iv r Q I ro ri rv h
  rcases h with h | h
  · exact set_list pins s σ H o i v ov iv r Q I ro ri rv h
  · exact pset_dict hu pins s σ H o i v ov iv r Q I ro ri rv h
theorem xgSub (hu : X.A.units + 1 < cLine) (ho : PE X o (tE X.K E fo)) (hi : PE X i (tE X.K E fi)) (ha : ∀ v, assign (.Subscript o i pos) X.env v = (do
      let ov ← holding [v] (eval o X.env)
      let iv ← holding [v, ov] (eval i X.env)
      standAt pos
      holding [v, ov, iv] (setItem ov iv v)
      release [v, ov, iv] []) := by intro _; rfl) : PG X (.Subscript o i pos) (tG X.K E (gSub' fo fi)) := by
  refine ⟨fun pins s σ H v u Q I r q => (pg_sub ho hi (pset_both hu) ha).run pins s σ H v u Q I r ?_⟩
  obtain ⟨L, env, S, d, rep, re, rd, q⟩ := q
  refine ⟨L, env, S, rep, re, (End.bind q).imp fun x S1 L1 H1 e1 rep1 h1 v rv => ?_⟩
  refine ⟨L1, env, S1, rep1, re.mono e1, (End.bind h1).imp fun y S2 L2 H2 e2 rep2 h2 w rw' => ?_⟩
  refine setF rep2 (rv.mono e2) rw' ((rd.mono e1).mono e2) ((End.bind h2).imp fun _ S3 L3 H3 e3 rep3 h3 => ?_)
  exact h3 L3 H3 (Ex.refl _ _) rep3 σ (((re.mono e1).mono e2).mono e3)

/-! ### instances -/
def putD (f : Str) (v : D) : List (Str × D) → List (Str × D)
  | [] => [(f, v)]
  | (g, x) :: r => if g = f then (g, v) :: r else (g, x) :: putD f v r
def fldsOf (C : Addr) (S : Sto) : D → Option (Nat × List (Str × D))
  | .ref n => match S[n]? with
    | some (.ins C' fs) => if C' = C then some (n, fs) else none
    | _ => none
  | _ => none
def fFld (C : Addr) (f : Str) (fo : EF) : EF := fun env S => (fo env S).bind fun x S1 => match fldsOf C S1 x with
  | some (_, fs) => retO S1 (fs.lookup f)
  | none => .bad
def oPut (C : Addr) (f : Str) (x d : D) (S : Sto) : R Unit := match fldsOf C S x with
  | some (n, fs) => if fs.length < 900 then .ok () (S.set n (.ins C (putD f d fs))) else .bad
  | none => .bad
def fSetFld (C : Addr) (f : Str) (fo fv : EF) : SF := fun env S => (fv env S).bind fun d S1 => (fo env S1).bind fun x S2 => (oPut C f x d S2).bind fun _ S3 => .ok (.nx env) S3
end
section
variable {K : PySem.W.Frag} {L : List Addr} {H : Hp} {S : Sto} {E : XK} {C : Addr}
theorem fldsOf_of {x : D} {v : V} {n : Nat} {fs : List (Str × D)} (rep : Rep K L H S) (rx : RD K L H v x) (h : fldsOf C S x = some (n, fs)) : ∃ a dx ws, v = .ref a ∧ L[n]? = some a ∧ H a = some (.ins C dx ws) ∧ RK K L H ws fs := by
  unfold fldsOf at h
  cases rx with
  | @ref a m ha =>
    obtain ⟨c, hc, rc⟩ := rep.adr ha
    simp only [hc] at h
    cases c with
    | ins C' fs' =>
      simp only at h
      by_cases e : C' = C
      · rw [if_pos e] at h
        cases h
        subst e
        obtain ⟨dx, ws, h1, h2⟩ := rc
        exact ⟨a, dx, ws, rfl, ha, h1, h2⟩
      · rw [if_neg e] at h; cases h
    | _ => cases h
  | _ => cases h
theorem RK.putF {f : Str} {v : V} {d : D} (rv : RD K L H v d) : ∀ {ps : List (Str × V)} {qs : List (Str × D)}, RK K L H ps qs → RK K L H (L2.putF f v ps) (putD f d qs)
  | [], [], _ => ⟨rfl, rv, trivial⟩
  | (a, w) :: ps, (b, x) :: qs, ⟨e, r, c⟩ => by
    have e : a = b := e
    subst e
    unfold L2.putF putD
    by_cases h : a = f
    · simp only [if_pos h]
      exact ⟨rfl, rv, c⟩
    · simp only [if_neg h]
      exact ⟨rfl, r, RK.putF rv c⟩
  | [], _ :: _, h => h.elim
  | _ :: _, [], h => h.elim
end
section
variable {X : Cx} {E : XK} {o e : Expr} {fo fv : EF} {pos pos' : Pos} {C : Addr} {f : Str}
theorem xFld (T : Cls X.K C) (N : NoAttr X.K C f) (he : PE X e (tE X.K E fo)) (hb : attributeBase e f X.env (eval e X.env) = eval e X.env := by rfl) : PE X (.Attribute e f pos) (tE X.K E (fFld C f fo)) :=
  monoE (pe_fld he hb) fun σ H Q h => by
    obtain ⟨L, env, S, rep, re, h⟩ := h
    refine ⟨L, env, S, rep, re, (End.bind h).imp fun x S1 L1 H1 e1 rep1 h1 v rv => ?_⟩
    cases q : fldsOf C S1 x with
    | none => rw [q] at h1; exact h1.elim
    | some r =>
      obtain ⟨n, fs⟩ := r
      rw [q] at h1
      obtain ⟨a, dx, ws, rfl, ha, h2, rk⟩ := fldsOf_of rep1 rv q
      obtain ⟨d, hd, k⟩ := retO_of rep1 h1
      rcases rk.lookup f with ⟨z, _⟩ | ⟨u, d', z1, z2, z3⟩
      · rw [hd] at z; cases z
      · rw [hd] at z1; cases z1
        exact ⟨a, C, dx, ws, u, rfl, h2, T, N, z2, k u z3⟩
theorem putFld_of {K : PySem.W.Frag} {L : List Addr} {H : Hp} {S : Sto} {x d : D} {v u : V} {Q : Hp → Prop} (rep : Rep K L H S) (rx : RD K L H v x) (rd : RD K L H u d) (h : End K E L H (fun _ _ _ H1 => Q H1) (oPut C f x d S)) :
    ∃ a dx ws, v = .ref a ∧ H a = some (.ins C dx ws) ∧ ws.length < 1000 ∧ Q (upd H a (.ins C dx (putF f u ws))) := by
  unfold oPut at h
  cases q : fldsOf C S x with
  | none => rw [q] at h; exact h.elim
  | some r =>
    obtain ⟨n, fs⟩ := r
    rw [q] at h
    obtain ⟨a, dx, ws, rfl, ha, h2, rk⟩ := fldsOf_of rep rx q
    by_cases hl : fs.length < 900
    · simp only [if_pos hl] at h
      have gr : Gr L H L (upd H a (.ins C dx (putF f u ws))) := Gr.wr rep ha
      obtain ⟨ex, rep2⟩ := rep.write (o := .ins C dx (putF f u ws)) (c := .ins C (putD f d fs)) ha ⟨dx, _, upd_same, (rk.putF rd).grow gr⟩
      exact ⟨a, dx, ws, rfl, h2, by rw [rk.length]; omega, h _ _ ex rep2⟩
    · simp only [if_neg hl] at h; exact h.elim
theorem xSetFld (T : Cls X.K C) (N : NoAttr X.K C f) (ho : PE X o (tE X.K E fo)) (hv : PE X e (tE X.K E fv)) (hs : swapsWith e (some (.Attribute o f pos')) pos.line X.env = pure false := by rfl) : PS X (.Assign [.Attribute o f pos'] e pos) (tS X.K E (fSetFld C f fo fv)) :=
  monoS (ps_fld ho hv hs) fun D σ H h => by
    obtain ⟨L, env, S, rep, re, h⟩ := h
    refine ⟨L, env, S, rep, re, (End.bind h).imp fun d S1 L1 H1 e1 rep1 h1 u ru => ?_⟩
    refine ⟨L1, env, S1, rep1, re.mono e1, (End.bind h1).imp fun x S2 L2 H2 e2 rep2 h2 v rv => ?_⟩
    obtain ⟨a, dx, ws, h3, h4, h5, h6⟩ := putFld_of (Q := fun H3 => D.nx σ H3) rep2 rv (ru.mono e2) ((End.bind h2).imp fun _ S3 L3 H3 e3 rep3 h3 => h3 L3 H3 (Ex.refl _ _) rep3 σ (((re.mono e1).mono e2).mono e3))
    exact ⟨a, C, dx, ws, h3, h4, T, N, h5, h6⟩
end

/-! ### calls -/
abbrev FF := List D → Sto → R D
def spF (K : PySem.W.Frag) (n : Nat) (F : FF) : Sp := fun vs H Q _ => vs.length = n ∧ ∃ L ds S, Rep K L H S ∧ RDs K L H vs ds ∧ EndV K E0' L H Q (F ds S)
def fCall (F : FF) (n : Nat) (dds : List D) (fs : AF) : EF := fun env S => (fs env S).bind fun ds S1 => if ds.length + dds.length = n then (F (ds ++ dds) S1).nox else .bad
def fMeth (C : Addr) (m : Str) (F : FF) (n : Nat) (dds : List D) (fo : EF) (fs : AF) : EF := fun env S => (fo env S).bind fun x S1 => match fldsOf C S1 x with
  | some (_, fl) => if (fl.lookup m).isNone = true then (fs env S1).bind fun ds S2 => if ds.length + 1 + dds.length = n then (F (x :: (ds ++ dds)) S2).nox else .bad else .bad
  | none => .bad
def fMake (C : Addr) (F : FF) (n : Nat) (dds : List D) (fs : AF) : EF := fun env S => (fs env S).bind fun ds S1 => if ds.length + 1 + dds.length = n then (F (.ref S1.length :: (ds ++ dds)) (S1 ++ [.ins C []])).nox.bind fun r S2 => match r with
  | .non => .ok (.ref S1.length) S2
  | _ => .bad
  else .bad
def fProp (C : Addr) (F : FF) (n : Nat) (fo : EF) : EF := fun env S => (fo env S).bind fun x S1 => match fldsOf C S1 x with
  | some _ => if 1 = n then (F [x] S1).nox else .bad
  | none => .bad
def fnF (m : Nat) (fb : SF) : FF := fun ds S => (fb (ds.map some ++ List.replicate (m - ds.length) none) S).bind fun fl S1 => match fl with
  | .nx _ => .ok .non S1
  | .rt d => .ok d S1
  | _ => .bad
section
variable {K : PySem.W.Frag} {L : List Addr} {H : Hp} {S : Sto} {E : XK}
theorem EndV.nox {Q : VK} {x : R D} (h : EndV K E L H Q x.nox) : EndV K E0' L H Q x := by
  cases x with
  | ok a S => exact h
  | ex c S => exact h.elim
  | bad => exact h.elim
theorem RE.start : ∀ {vs : List V} {ds : List D} (N : List Str), RDs K L H vs ds → RE K L H (L2.start N vs) (ds.map some ++ List.replicate (N.length - ds.length) none) := by
  intro vs ds N r
  refine ⟨by show (vs.map some ++ List.replicate (N.length - vs.length) none).length = _; simp [r.length], fun i d h => ?_⟩
  by_cases hi : i < ds.length
  · rw [List.getElem?_append_left (by simpa using hi), List.getElem?_map] at h
    cases q : ds[i]? with
    | none => rw [q] at h; cases h
    | some d' =>
      rw [q] at h
      have e : d' = d := by simpa using h
      subst e
      obtain ⟨v, h1, h2⟩ := r.get q
      refine ⟨v, ?_, h2⟩
      show (vs.map some ++ List.replicate (N.length - vs.length) none)[i]? = some (some v)
      rw [List.getElem?_append_left (by rw [List.length_map, r.length]; exact hi), List.getElem?_map, h1]
      rfl
  · rw [List.getElem?_append_right (by simpa using hi)] at h
    by_cases hj : i - (ds.map some).length < N.length - ds.length
    · rw [List.getElem?_replicate_of_lt hj] at h; cases h
    · rw [List.getElem?_eq_none (by rw [List.length_replicate]; omega)] at h; cases h
end
section
variable {P : Program} {w : World} {K : PySem.W.Frag} {mg : Str → Option Value} {base : Heap}
/-- a def, from its body -/
theorem fn_ok {x qual : Str} {st : Stmt} {f : Addr} {fd : FuncData} {N ps : List Str} {k m : Nat} {fb : SF} (F : Fun K x qual st f fd) (Sc : FnScope N ps (defScope st)) (hm : N.length = m)
    (hb : ∀ (cdv : Value) (A : Around) (outer : List PySem.Env) (s : Shared) (H : Hp) (E : XK), Room k (A.deeper (PyProof.Rows.envOfC qual (defScope st) s.heap.objs.size f cdv)) →
      PSs (cxOf CX0 P w K mg base N qual (defScope st) f cdv A outer s H E).nox (defBody st) (tS K E0' fb)) : FnOk P w K mg base CX0 (k + 1) f fd ps (spF K ps.length (fnF m fb)) := by
  subst hm
  refine F.ok Sc (fun vs H Q E h => h.1) (fun cdv A outer s H vs Q E hr h => ⟨_, hb cdv A outer s H E hr, ?_⟩)
  obtain ⟨hl, L, ds, S, rep, rd, h⟩ := h
  refine ⟨L, _, S, rep, RE.start N rd, (End.bind h).imp fun fl S1 L1 H1 e1 rep1 h1 => ?_⟩
  cases fl with
  | nx e => exact fun σ _ => EndV.val h1 rep1 .non
  | rt d => exact fun v rv => EndV.val h1 rep1 rv
  | bk e => exact h1.elim
  | ct e => exact h1.elim
end
section
variable {X : Cx} {E : XK} {k n : Nat} {f C : Addr} {fd : FuncData} {ps : List Str} {F : FF} {dvs : List V} {ds : List Value} {dds : List D} {x m : Str} {p pos apos : Pos} {e o : Expr} {es : List Expr} {fo : EF} {fs : AF}
theorem call_of {K : PySem.W.Frag} {σ : St} {H : Hp} {Q : VK} (hdd : ∀ L H, RDs K L H dvs dds) (h : tE K E (fCall F n dds fs) σ H Q) : tCall (spF K n F) dvs E0 (tA K E fs) σ H Q := by
  obtain ⟨L, env, S, rep, re, h⟩ := h
  refine ⟨L, env, S, rep, re, (End.bind h).imp fun xs S1 L1 H1 e1 rep1 h1 vs rvs => ?_⟩
  by_cases hl : xs.length + dds.length = n
  · rw [if_pos hl] at h1
    exact ⟨by rw [List.length_append, rvs.length, (hdd L1 H1).length]; exact hl, L1, xs ++ dds, S1, rep1, rvs.append (hdd L1 H1), EndV.nox h1⟩
  · rw [if_neg hl] at h1; exact h1.elim
theorem xCallD (Fo : FnOk X.prog X.w X.K X.mg X.base CX0 k f fd ps (spF X.K n F)) (hr : Room k X.A) (hg : Gl X x) (hm : X.mg x = some (.ref f)) (hk : PySem.W.keepIn X.K (.ref f) = true) (hb : Binds X.K fd ps ds) (hd : Vals dvs ds) (hdd : ∀ L H, RDs X.K L H dvs dds)
    (ha : PA X (e :: es) (tA X.K E fs)) (hdb : (x == ("__debug__" : Str)) = false := by decide) (he : starEach (e :: es) X.env = (false, eval e X.env) :: starEach es X.env := by rfl) (hpl : (backTo pos (starEach es X.env)).any (·.1) = false := by rfl) :
    PE X (.Call (.Name x p) (e :: es) [] pos) (tE X.K E (fCall F n dds fs)) := monoE (pe_call Fo hr hg hm hk hb hd pass0 ha hdb he hpl) fun _ _ _ h => call_of hdd h
theorem xCall (Fo : FnOk X.prog X.w X.K X.mg X.base CX0 k f fd ps (spF X.K n F)) (hr : Room k X.A) (hg : Gl X x) (hm : X.mg x = some (.ref f)) (hk : PySem.W.keepIn X.K (.ref f) = true) (hb : Binds X.K fd ps [])
    (ha : PA X (e :: es) (tA X.K E fs)) (hdb : (x == ("__debug__" : Str)) = false := by decide) (he : starEach (e :: es) X.env = (false, eval e X.env) :: starEach es X.env := by rfl) (hpl : (backTo pos (starEach es X.env)).any (·.1) = false := by rfl) :
    PE X (.Call (.Name x p) (e :: es) [] pos) (tE X.K E (fCall F n [] fs)) := xCallD Fo hr hg hm hk hb .nil (fun _ _ => .nil) ha hdb he hpl
theorem xCall0 (Fo : FnOk X.prog X.w X.K X.mg X.base CX0 k f fd ps (spF X.K n F)) (hr : Room k X.A) (hg : Gl X x) (hm : X.mg x = some (.ref f)) (hk : PySem.W.keepIn X.K (.ref f) = true) (hb : Binds X.K fd ps ds) (hd : Vals dvs ds) (hdd : ∀ L H, RDs X.K L H dvs dds)
    (hdb : (x == ("__debug__" : Str)) = false := by decide) : PE X (.Call (.Name x p) [] [] pos) (tE X.K E (fCall F n dds fNil)) := monoE (pe_call0 Fo hr hg hm hk hb hd pass0 hdb) fun σ H Q h => by
      have q : tCall (spF X.K n F) dvs E0 (tA X.K E fNil) σ H Q := call_of hdd h
      obtain ⟨L, env, S, rep, re, q⟩ := q
      exact q L H (Ex.refl _ _) rep [] .nil
theorem meth_of {K : PySem.W.Frag} {σ : St} {H : Hp} {Q : VK} (hdd : ∀ L H, RDs K L H dvs dds) (h : tE K E (fMeth C m F n dds fo fs) σ H Q) : tMeth C m (spF K n F) dvs E0 (tE K E fo) (tA K E fs) σ H Q := by
  obtain ⟨L, env, S, rep, re, h⟩ := h
  refine ⟨L, env, S, rep, re, (End.bind h).imp fun x S1 L1 H1 e1 rep1 h1 v rv => ?_⟩
  cases q : fldsOf C S1 x with
  | none => rw [q] at h1; exact h1.elim
  | some r =>
    obtain ⟨i, fl⟩ := r
    rw [q] at h1
    simp only at h1
    obtain ⟨a, dx, ws, rfl, ha, h2, rk⟩ := fldsOf_of rep1 rv q
    by_cases hn : (fl.lookup m).isNone = true
    · rw [if_pos hn] at h1
      have hw : ws.lookup m = none := by
        rcases rk.lookup m with ⟨_, z⟩ | ⟨_, d, z, _⟩
        · exact z
        · rw [z] at hn; cases hn
      refine ⟨a, dx, ws, rfl, h2, hw, L1, env, S1, rep1, re.mono e1, (End.bind h1).imp fun xs S2 L2 H2 e2 rep2 h3 vs rvs => ?_⟩
      by_cases hl : xs.length + 1 + dds.length = n
      · rw [if_pos hl] at h3
        exact ⟨by rw [List.length_cons, List.length_append, rvs.length, (hdd L2 H2).length]; omega, L2, x :: (xs ++ dds), S2, rep2, .cons (rv.mono e2) (rvs.append (hdd L2 H2)), EndV.nox h3⟩
      · rw [if_neg hl] at h3; exact h3.elim
    · rw [if_neg hn] at h1; exact h1.elim
theorem xMethD {pl : Sem Bool} (c : Cls X.K C) (hm : Meth X.K C m f) (Fo : FnOk X.prog X.w X.K X.mg X.base CX0 k f fd ps (spF X.K n F)) (hr : Room k X.A) (hb : Binds X.K fd ps ds) (hd : Vals dvs ds) (hdd : ∀ L H, RDs X.K L H dvs dds)
    (he : PE X o (tE X.K E fo)) (ha : PA X (e :: es) (tA X.K E fs))
    (hst : starEach (e :: es) X.env = (false, eval e X.env) :: starEach es X.env := by rfl) (hpl : (backTo pos (starEach es X.env)).any (·.1) = false := by rfl)
    (ht : eval (.Call (.Attribute o m apos) (e :: es) [] pos) X.env = (do
      let ov ← eval o X.env
      standAt apos.atName
      let (f, first) ← holding [ov] (getMethod ov m pl)
      callWith pos f first (backTo pos (starEach (e :: es) X.env)) (backToKw pos (keywordEach [] X.env))) := by rfl) :
    PE X (.Call (.Attribute o m apos) (e :: es) [] pos) (tE X.K E (fMeth C m F n dds fo fs)) := monoE (pe_meth he c hm Fo hr hb hd pass0 ha hst hpl ht) fun _ _ _ h => meth_of hdd h
theorem xMeth {pl : Sem Bool} (c : Cls X.K C) (hm : Meth X.K C m f) (Fo : FnOk X.prog X.w X.K X.mg X.base CX0 k f fd ps (spF X.K n F)) (hr : Room k X.A) (hb : Binds X.K fd ps [])
    (he : PE X o (tE X.K E fo)) (ha : PA X (e :: es) (tA X.K E fs))
    (hst : starEach (e :: es) X.env = (false, eval e X.env) :: starEach es X.env := by rfl) (hpl : (backTo pos (starEach es X.env)).any (·.1) = false := by rfl)
    (ht : eval (.Call (.Attribute o m apos) (e :: es) [] pos) X.env = (do
      let ov ← eval o X.env
      standAt apos.atName
      let (f, first) ← holding [ov] (getMethod ov m pl)
      callWith pos f first (backTo pos (starEach (e :: es) X.env)) (backToKw pos (keywordEach [] X.env))) := by rfl) :
    PE X (.Call (.Attribute o m apos) (e :: es) [] pos) (tE X.K E (fMeth C m F n [] fo fs)) := xMethD c hm Fo hr hb .nil (fun _ _ => .nil) he ha hst hpl ht
theorem xMeth0 {pl : Sem Bool} (c : Cls X.K C) (hm : Meth X.K C m f) (Fo : FnOk X.prog X.w X.K X.mg X.base CX0 k f fd ps (spF X.K n F)) (hr : Room k X.A) (hb : Binds X.K fd ps ds) (hd : Vals dvs ds) (hdd : ∀ L H, RDs X.K L H dvs dds)
    (he : PE X o (tE X.K E fo))
    (ht : eval (.Call (.Attribute o m apos) [] [] pos) X.env = (do
      let ov ← eval o X.env
      standAt apos.atName
      let (f, first) ← holding [ov] (getMethod ov m pl)
      callWith pos f first (backTo pos (starEach [] X.env)) (backToKw pos (keywordEach [] X.env))) := by rfl) :
    PE X (.Call (.Attribute o m apos) [] [] pos) (tE X.K E (fMeth C m F n dds fo fNil)) := monoE (pe_meth0 he c hm Fo hr hb hd pass0 ht) fun σ H Q h => by
      have q : tMeth C m (spF X.K n F) dvs E0 (tE X.K E fo) (tA X.K E fNil) σ H Q := meth_of hdd h
      obtain ⟨L, env, S, rep, re, q⟩ := q
      refine ⟨L, env, S, rep, re, q.imp fun x S1 L1 H1 e1 rep1 q v rv => ?_⟩
      obtain ⟨a, dx, ws, h1, h2, h3, L2, env2, S2, rep2, re2, q⟩ := q v rv
      exact ⟨a, dx, ws, h1, h2, h3, q L2 H1 (Ex.refl _ _) rep2 [] .nil⟩
theorem make_of {K : PySem.W.Frag} {σ : St} {H : Hp} {Q : VK} (hdd : ∀ L H, RDs K L H dvs dds) (h : tE K E (fMake C F n dds fs) σ H Q) : tMake C (spF K n F) dvs E0 (tA K E fs) σ H Q := by
  obtain ⟨L, env, S, rep, re, h⟩ := h
  refine ⟨L, env, S, rep, re, (End.bind h).imp fun xs S1 L1 H1 e1 rep1 h1 vs rvs x dx hx hdx hne => ?_⟩
  by_cases hl : xs.length + 1 + dds.length = n
  · rw [if_pos hl] at h1
    have hx1 : (upd H1 dx (.own x)) x = none := (upd_ne (fun z => hne z.symm)).trans hx
    have e2 : Ex L1 H1 (L1 ++ [x]) (upd (upd H1 dx (.own x)) x (.ins C dx [])) := (Ex.new hdx).trans (Ex.newc hx1)
    have rep2 : Rep K (L1 ++ [x]) (upd (upd H1 dx (.own x)) x (.ins C dx [])) (S1 ++ [.ins C []]) := (rep1.new hdx).newc hx1 ⟨dx, [], upd_same, trivial⟩
    have hn : (L1 ++ [x])[S1.length]? = some x := by rw [← rep1.len, List.getElem?_append_right (Nat.le_refl _)]; simp
    refine ⟨by rw [List.length_cons, List.length_append, rvs.length, (hdd L1 H1).length]; omega, _, .ref S1.length :: (xs ++ dds), _, rep2, .cons (.ref hn) ((rvs.mono e2).append (hdd _ _)), ?_⟩
    refine (End.keep (L1 := L1 ++ [x]) (h1.later e2)).imp fun r S3 L3 H3 e3 rep3 h3 v rv => ?_
    have h3 := h3.later e3
    cases rv with
    | non => exact ⟨rfl, EndV.val (d := .ref S1.length) h3 rep3 (.ref (e3.px _ _ hn))⟩
    | _ => exact h3.elim
  · rw [if_neg hl] at h1; exact h1.elim
theorem xMake (M : Mk X.K C f) (Fo : FnOk X.prog X.w X.K X.mg X.base CX0 k f fd ps (spF X.K n F)) (hr : Room (k + 1) X.A) (hg : Gl X x) (hm : X.mg x = some (.ref C)) (hb : Binds X.K fd ps ds) (hd : Vals dvs ds) (hdd : ∀ L H, RDs X.K L H dvs dds)
    (ha : PA X (e :: es) (tA X.K E fs)) (hdb : (x == ("__debug__" : Str)) = false := by decide) (he : starEach (e :: es) X.env = (false, eval e X.env) :: starEach es X.env := by rfl) (hpl : (backTo pos (starEach es X.env)).any (·.1) = false := by rfl) :
    PE X (.Call (.Name x p) (e :: es) [] pos) (tE X.K E (fMake C F n dds fs)) := monoE (pe_make M Fo hr hg hm hb hd pass0 ha hdb he hpl) fun _ _ _ h => make_of hdd h
theorem xMake0 (M : Mk X.K C f) (Fo : FnOk X.prog X.w X.K X.mg X.base CX0 k f fd ps (spF X.K n F)) (hr : Room (k + 1) X.A) (hg : Gl X x) (hm : X.mg x = some (.ref C)) (hb : Binds X.K fd ps ds) (hd : Vals dvs ds) (hdd : ∀ L H, RDs X.K L H dvs dds)
    (hdb : (x == ("__debug__" : Str)) = false := by decide) : PE X (.Call (.Name x p) [] [] pos) (tE X.K E (fMake C F n dds fNil)) := monoE (pe_make0 M Fo hr hg hm hb hd pass0 hdb) fun σ H Q h => by
      have q : tMake C (spF X.K n F) dvs E0 (tA X.K E fNil) σ H Q := make_of hdd h
      obtain ⟨L, env, S, rep, re, q⟩ := q
      exact q L H (Ex.refl _ _) rep [] .nil
end
end RF

namespace RF
open PySem L2

/-! ### whole numbers -/
def oI (C : Int → Int → Bool) (g : Int → Int → Int) : Op2 := fun x y S => match x, y with
  | .int i, .int j => if C i j = true then .ok (.int (g i j)) S else .bad
  | _, _ => .bad
def oC (g : Int → Int → Bool) : Op2 := fun x y S => match x, y with
  | .int i, .int j => .ok (.bl (g i j)) S
  | _, _ => .bad
section
variable {K : PySem.W.Frag} {L : List Addr} {H : Hp} {S : Sto} {E : XK}
theorem opF_I {C : Int → Int → Bool} {P : Int → Int → Prop} {g : Int → Int → Int} (h : ∀ i j, C i j = true → P i j) : OpF K E (rI P fun i j => .int (g i j)) (oI C g) := by
  intro L H S x y d1 d2 Q rep r1 r2 q
  cases r1 with
  | int i =>
    cases r2 with
    | int j =>
      have q : EndV K E L H Q (if C i j = true then .ok (.int (g i j)) S else .bad) := q
      by_cases hc : C i j = true
      · rw [if_pos hc] at q
        exact ⟨i, j, rfl, rfl, h i j hc, EndV.val q rep (.int _)⟩
      · rw [if_neg hc] at q; exact q.elim
    | _ => exact q.elim
  | _ => exact q.elim
theorem opF_I0 {g : Int → Int → Int} : OpF K E (rI0 fun i j => .int (g i j)) (oI (fun _ _ => true) g) := by
  intro L H S x y d1 d2 Q rep r1 r2 q
  cases r1 with
  | int i =>
    cases r2 with
    | int j => exact ⟨i, j, rfl, rfl, EndV.val (d := .int (g i j)) q rep (.int _)⟩
    | _ => exact q.elim
  | _ => exact q.elim
theorem opF_C {g : Int → Int → Bool} : OpF K E (rI0 fun i j => .bl (g i j)) (oC g) := by
  intro L H S x y d1 d2 Q rep r1 r2 q
  cases r1 with
  | int i =>
    cases r2 with
    | int j => exact ⟨i, j, rfl, rfl, EndV.val (d := .bl (g i j)) q rep (.bl _)⟩
    | _ => exact q.elim
  | _ => exact q.elim
end
def oSub : Op2 := oI (fun _ _ => true) fun i j => i - j
def cMul (i j : Int) : Bool := decide ((-(2 ^ 64) < i ∧ i < 2 ^ 64) ∨ (-(2 ^ 64) < j ∧ j < 2 ^ 64))
def oMul : Op2 := oI cMul fun i j => i * j
def oMod : Op2 := oI (fun _ j => decide (0 < j)) fun i j => i % j
def cDiv (_ j : Int) : Bool := decide (0 < j ∧ j < 2 ^ 100)
def oDiv : Op2 := oI cDiv fun i j => i / j
def cPow (i j : Int) : Bool := decide (0 ≤ j ∧ j ≤ 1000 ∧ i.natAbs < 2 ^ 64)
def oPow : Op2 := oI cPow fun i j => i ^ j.toNat
def oLt : Op2 := oC fun i j => decide (i < j)
def oLe : Op2 := oC fun i j => decide (i ≤ j)
def oGt : Op2 := oC fun i j => decide (j < i)
def oGe : Op2 := oC fun i j => decide (j ≤ i)
def oNeg : Op1 := fun x S => match x with | .int i => .ok (.int (-i)) S | _ => .bad
section
variable {X : Cx} {K : PySem.W.Frag} {E : XK}
theorem f_sub : OpF K E (rI0 fun i j => .int (i - j)) oSub := opF_I0
theorem f_mul : OpF K E (rI CMul fun i j => .int (i * j)) oMul := opF_I fun i j h => by
  have h : (-(2 ^ 64) < i ∧ i < 2 ^ 64) ∨ (-(2 ^ 64) < j ∧ j < 2 ^ 64) := of_decide_eq_true h
  exact h
theorem f_mod : OpF K E (rI (fun _ j => 0 < j) fun i j => .int (i % j)) oMod := opF_I fun _ _ h => of_decide_eq_true h
theorem f_div : OpF K E (rI CDivW fun i j => .int (i / j)) oDiv := opF_I fun i j h => by
  have h : 0 < j ∧ j < 2 ^ 100 := of_decide_eq_true h
  exact wide_div (b := 100) h.1 (by omega) (by decide) (by decide)
theorem f_pow : OpF K E (rI CPow fun i j => .int (i ^ j.toNat)) oPow := opF_I fun i j h => by
  have h : 0 ≤ j ∧ j ≤ 1000 ∧ i.natAbs < 2 ^ 64 := of_decide_eq_true h
  exact ⟨h.1, by omega, h.2.2⟩
theorem f_lt : OpF K E (rI0 fun i j => .bl (decide (i < j))) oLt := opF_C
theorem f_le : OpF K E (rI0 fun i j => .bl (decide (i ≤ j))) oLe := opF_C
theorem f_gt : OpF K E (rI0 fun i j => .bl (decide (j < i))) oGt := opF_C
theorem f_ge : OpF K E (rI0 fun i j => .bl (decide (j ≤ i))) oGe := opF_C
theorem f_neg : UnF K E (rU fun i => .int (-i)) oNeg := by
  intro L H S x d Q rep r q
  cases r with
  | int i => exact ⟨i, rfl, EndV.val (d := .int (-i)) q rep (.int _)⟩
  | _ => exact q.elim
end

/-! ### sums of whole numbers, texts, tuples, lists -/
def oAdd : Op2 := fun x y S => match x, y with
  | .int i, .int j => .ok (.int (i + j)) S
  | .str i, .str j => if i.length + j.length ≤ 100000 then .ok (.str (i ++ j)) S else .bad
  | .tup xs, .tup ys => if xs.length + ys.length ≤ 100000 then .ok (.tup (xs ++ ys)) S else .bad
  | .ref n, .ref m => match S[n]?, S[m]? with
    | some (.lst xs), some (.lst ys) => if xs.length + ys.length ≤ 100000 then .ok (.ref S.length) (S ++ [.lst (xs ++ ys)]) else .bad
    | _, _ => .bad
  | _, _ => .bad
def rAddS : R2 := fun x y H Q => ∃ i j, x = .str i ∧ y = .str j ∧ i.length + j.length ≤ sizeLine ∧ Q (.str (i ++ j)) H
def rAddA (K : PySem.W.Frag) : R2 := fun x y H Q => (rI0 (fun i j => .int (i + j)) x y H Q ∨ rAddS x y H Q) ∨ (rCatA K x y H Q ∨ rCat x y H Q)
theorem op_addA {X : Cx} : OpR X (binaryOp .Add) (rAddA X.K) := (op_add.or op_add_str).or (op_catA.or op_cat)
theorem f_add {K : PySem.W.Frag} {E : XK} : OpF K E (rAddA K) oAdd := by
  intro L H S x y d1 d2 Q rep r1 r2 q
  cases r1 with
  | int i =>
    cases r2 with
    | int j => exact .inl (.inl ⟨i, j, rfl, rfl, EndV.val (d := .int (i + j)) q rep (.int _)⟩)
    | _ => exact q.elim
  | str i =>
    cases r2 with
    | str j =>
      have q : EndV K E L H Q (if i.length + j.length ≤ 100000 then .ok (.str (i ++ j)) S else .bad) := q
      by_cases hl : i.length + j.length ≤ 100000
      · rw [if_pos hl] at q
        exact .inl (.inr ⟨i, j, rfl, rfl, sz5 hl, EndV.val q rep (.str _)⟩)
      · rw [if_neg hl] at q; exact q.elim
    | _ => exact q.elim
  | @tup a vs xs hs rs =>
    cases r2 with
    | @tup b ws ys hs2 rs2 =>
      have q : EndV K E L H Q (if xs.length + ys.length ≤ 100000 then .ok (.tup (xs ++ ys)) S else .bad) := q
      by_cases hl : xs.length + ys.length ≤ 100000
      · rw [if_pos hl] at q
        refine .inr (.inl ⟨a, b, vs, ws, rfl, rfl, .of hs, .of hs2, by rw [rs.length, rs2.length]; exact sz5 hl, ?_, ?_, ?_⟩)
        · intro z
          subst z
          cases rs
          exact EndV.val q rep (.tup hs2 rs2)
        · intro _ z
          subst z
          cases rs2
          rw [List.append_nil] at q
          exact EndV.val q rep (.tup hs rs)
        · intro _ _ p hp
          exact EndV.val (q.later (Ex.new hp)) (rep.new hp) (.tup upd_same ((rs.append rs2).mono (Ex.new hp)))
      · rw [if_neg hl] at q; exact q.elim
    | _ => exact q.elim
  | @ref a n ha =>
    cases r2 with
    | @ref b m hb =>
      obtain ⟨c, hc, rc⟩ := rep.adr ha
      obtain ⟨c2, hc2, rc2⟩ := rep.adr hb
      unfold oAdd at q
      simp only [hc, hc2] at q
      cases c with
      | lst xs =>
        cases c2 with
        | lst ys =>
          simp only at q
          obtain ⟨vs, hv, rv⟩ := rc
          obtain ⟨ws, hw, rw'⟩ := rc2
          by_cases hl : xs.length + ys.length ≤ 100000
          · rw [if_pos hl] at q
            exact .inr (.inr ⟨a, b, vs, ws, rfl, rfl, hv, hw, by rw [rv.length, rw'.length]; exact sz5 hl, fun p hp => newList q rep (rv.append rw') p hp⟩)
          · rw [if_neg hl] at q; exact q.elim
        | _ => exact q.elim
      | _ => exact q.elim
    | _ => exact q.elim
  | _ => exact q.elim

/-! ### == of data -/
def leafP : D → Option PyData
  | .non => some .none
  | .bl b => some (.bool b)
  | .int i => some (.int i)
  | .str x => if PyData.strOk x = true then some (.str x) else none
  | _ => none
def toP (S : Sto) : Nat → D → Option PyData
  | 0, d => leafP d
  | k + 1, d => match d with
    | .tup xs => (xs.mapM (toP S k)).map .tuple
    | .rl xs => (xs.mapM (toP S k)).map .list
    | .ref n => match S[n]? with
      | some (.lst xs) => (xs.mapM (toP S k)).map .list
      | _ => none
    | d => leafP d
def P1 (k : Nat) (p : PyData) : Prop := p.canLay0 = true ∧ p.depth ≤ k
section
variable {K : PySem.W.Frag} {L : List Addr} {H : Hp} {S : Sto} {E : XK}
theorem leafP_of {v : V} {d : D} {p : PyData} (k : Nat) (r : RD K L H v d) (h : leafP d = some p) : Dp K H v p ∧ P1 k p := by
  cases r with
  | non => cases h; exact ⟨.non, by simp [P1, PyData.canLay0, PyData.depth]⟩
  | bl b => cases h; exact ⟨.bl b, by simp [P1, PyData.canLay0, PyData.depth]⟩
  | int b => cases h; exact ⟨.int b, by simp [P1, PyData.canLay0, PyData.depth]⟩
  | str b =>
    have h : (if PyData.strOk b = true then some (PyData.str b) else none) = some p := h
    by_cases hb : PyData.strOk b = true
    · rw [if_pos hb] at h
      cases h
      exact ⟨.str b, by simp [P1, PyData.canLay0, PyData.depth, hb]⟩
    · rw [if_neg hb] at h; cases h
  | _ => cases h
theorem mapM_cons_some {α β : Type} {f : α → Option β} {a : α} {as : List α} {bs : List β} (h : (a :: as).mapM f = some bs) : ∃ b bs', f a = some b ∧ as.mapM f = some bs' ∧ bs = b :: bs' := by
  rw [List.mapM_cons] at h
  cases q : f a with
  | none => rw [q] at h; cases h
  | some b =>
    rw [q] at h
    cases q2 : as.mapM f with
    | none => rw [q2] at h; cases h
    | some bs' =>
      rw [q2] at h
      exact ⟨b, bs', rfl, rfl, (Option.some.inj h).symm⟩
def PA1 (k : Nat) (ps : List PyData) : Prop := PyData.canLayAll0 ps = true ∧ PyData.depthAll ps ≤ k
theorem toPs_of (k : Nat) (ih : ∀ v d p, RD K L H v d → toP S k d = some p → Dp K H v p ∧ P1 k p) : ∀ {vs : List V} {ds : List D} {ps : List PyData}, RDs K L H vs ds → ds.mapM (toP S k) = some ps → DpAll K H vs ps ∧ PA1 k ps
  | _, _, _, .nil, h => by
    simp at h
    subst h
    exact ⟨.nil, by simp [PA1, PyData.canLayAll0, PyData.depthAll]⟩
  | _, _, _, .cons a b, h => by
    obtain ⟨p, ps, h1, h2, rfl⟩ := mapM_cons_some h
    obtain ⟨x1, x2, x3⟩ := ih _ _ _ a h1
    obtain ⟨y1, y2, y3⟩ := toPs_of k ih b h2
    exact ⟨.cons x1 y1, by simp [PyData.canLayAll0, x2, y2], by simp only [PyData.depthAll]; omega⟩
theorem toP_of (rep : Rep K L H S) : ∀ (k : Nat) (v : V) (d : D) (p : PyData), RD K L H v d → toP S k d = some p → Dp K H v p ∧ P1 k p
  | 0, _, _, _, r, h => leafP_of 0 r h
  | k + 1, _, _, _, r, h => by
    have many : ∀ {vs : List V} {ds : List D} {ps : List PyData}, RDs K L H vs ds → ds.mapM (toP S k) = some ps → DpAll K H vs ps ∧ PA1 k ps := toPs_of k fun v d p r h => toP_of rep k v d p r h
    cases r with
    | @tup a vs ds hs rs =>
      obtain ⟨ps, h1, rfl⟩ := Option.map_eq_some_iff.mp (show (ds.mapM (toP S k)).map PyData.tuple = some _ from h)
      obtain ⟨x1, x2, x3⟩ := many rs h1
      exact ⟨.tup (.of hs) x1, by simp only [PyData.canLay0]; exact x2, by simp only [PyData.depth]; omega⟩
    | @rl a vs ds hs rs =>
      obtain ⟨ps, h1, rfl⟩ := Option.map_eq_some_iff.mp (show (ds.mapM (toP S k)).map PyData.list = some _ from h)
      obtain ⟨x1, x2, x3⟩ := many rs h1
      exact ⟨.lst (hs H fun _ _ _ z => z) x1, by simp only [PyData.canLay0]; exact x2, by simp only [PyData.depth]; omega⟩
    | @ref a n ha =>
      obtain ⟨c, hc, rc⟩ := rep.adr ha
      unfold toP at h
      simp only [hc] at h
      cases c with
      | lst xs =>
        obtain ⟨ps, h1, rfl⟩ := Option.map_eq_some_iff.mp h
        obtain ⟨vs, hv, rv⟩ := rc
        obtain ⟨x1, x2, x3⟩ := many rv h1
        exact ⟨.lst (.of hv) x1, by simp only [PyData.canLay0]; exact x2, by simp only [PyData.depth]; omega⟩
      | _ => cases h
    | non => exact leafP_of (L := L) (k + 1) .non h
    | bl b => exact leafP_of (L := L) (k + 1) (.bl b) h
    | int b => exact leafP_of (L := L) (k + 1) (.int b) h
    | str b => exact leafP_of (L := L) (k + 1) (.str b) h
theorem P1.shaped {k : Nat} {p : PyData} (h : P1 k p) (hk : k ≤ 64) : SeqAt.shaped p = true := by
  unfold SeqAt.shaped
  rw [h.1, decide_eq_true (Nat.le_trans h.2 hk)]
  rfl
end
def oEq : Op2 := fun x y S => match toP S 20 x, toP S 20 y with
  | some p, some q => .ok (.bl (PyData.eqv p q)) S
  | _, _ => .bad
def oNe : Op2 := fun x y S => match toP S 20 x, toP S 20 y with
  | some p, some q => .ok (.bl (!PyData.eqv p q)) S
  | _, _ => .bad
def oInL (neg : Bool) : Op2 := fun x y S => match toP S 20 x, toP S 20 y with
  | some p, some (.list qs) => .ok (.bl (if neg = true then !(qs.any fun z => PyData.eqv z p) else qs.any fun z => PyData.eqv z p)) S
  | _, _ => .bad
def isNonD : D → Bool
  | .non => true
  | _ => false
def oIsN : Op2 := fun x y S => match y with
  | .non => .ok (.bl (isNonD x)) S
  | _ => .bad
def oNotN : Op2 := fun x y S => match y with
  | .non => .ok (.bl (!isNonD x)) S
  | _ => .bad
def oIsB : Op2 := fun x y S => match x, y with
  | .bl a, .bl b => .ok (.bl (decide (a = b))) S
  | _, _ => .bad
/-- one sign in a text -/
def oInS (neg : Bool) : Op2 := fun x y S => match x, y with
  | .str ⟨⟨[c]⟩⟩, .str z => .ok (.bl (if neg = true then !decide (c ∈ z.cps.toList) else decide (c ∈ z.cps.toList))) S
  | _, _ => .bad
def oLeS : Op2 := fun x y S => match x, y with
  | .str i, .str j => .ok (.bl (!decide (j.cps.toList < i.cps.toList))) S
  | _, _ => .bad
section
variable {X : Cx} {K : PySem.W.Frag} {E : XK}
theorem f_eq : OpF K E (rEqD K) oEq := by
  intro L H S x y d1 d2 Q rep r1 r2 q
  unfold oEq at q
  cases h1 : toP S 20 d1 with
  | none => rw [h1] at q; exact q.elim
  | some p1 =>
    cases h2 : toP S 20 d2 with
    | none => rw [h1, h2] at q; exact q.elim
    | some p2 =>
      rw [h1, h2] at q
      obtain ⟨a1, a2⟩ := toP_of rep 20 _ _ _ r1 h1
      obtain ⟨b1, b2⟩ := toP_of rep 20 _ _ _ r2 h2
      exact ⟨p1, p2, a1, b1, a2.shaped (by decide), b2.shaped (by decide), EndV.val q rep (.bl _)⟩
theorem f_ne : OpF K E (rNeD K) oNe := by
  intro L H S x y d1 d2 Q rep r1 r2 q
  unfold oNe at q
  cases h1 : toP S 20 d1 with
  | none => rw [h1] at q; exact q.elim
  | some p1 =>
    cases h2 : toP S 20 d2 with
    | none => rw [h1, h2] at q; exact q.elim
    | some p2 =>
      rw [h1, h2] at q
      obtain ⟨a1, a2⟩ := toP_of rep 20 _ _ _ r1 h1
      obtain ⟨b1, b2⟩ := toP_of rep 20 _ _ _ r2 h2
      exact ⟨p1, p2, a1, b1, a2.shaped (by decide), b2.shaped (by decide), EndV.val q rep (.bl _)⟩
theorem f_inL : OpF K E (rInD K) (oInL false) := by
  intro L H S x y d1 d2 Q rep r1 r2 q
  unfold oInL at q
  cases h1 : toP S 20 d1 with
  | none => rw [h1] at q; exact q.elim
  | some p1 =>
    cases h2 : toP S 20 d2 with
    | none => rw [h1, h2] at q; exact q.elim
    | some p2 =>
      rw [h1, h2] at q
      obtain ⟨a1, a2⟩ := toP_of rep 20 _ _ _ r1 h1
      obtain ⟨b1, b2⟩ := toP_of rep 20 _ _ _ r2 h2
      cases p2 with
      | list ps => exact ⟨p1, ps, a1, b1, a2.shaped (by decide), b2.shaped (by decide), EndV.val q rep (.bl _)⟩
      | _ => exact q.elim
theorem f_notInL : OpF K E (rNotInD K) (oInL true) := by
  intro L H S x y d1 d2 Q rep r1 r2 q
  unfold oInL at q
  cases h1 : toP S 20 d1 with
  | none => rw [h1] at q; exact q.elim
  | some p1 =>
    cases h2 : toP S 20 d2 with
    | none => rw [h1, h2] at q; exact q.elim
    | some p2 =>
      rw [h1, h2] at q
      obtain ⟨a1, a2⟩ := toP_of rep 20 _ _ _ r1 h1
      obtain ⟨b1, b2⟩ := toP_of rep 20 _ _ _ r2 h2
      cases p2 with
      | list ps => exact ⟨p1, ps, a1, b1, a2.shaped (by decide), b2.shaped (by decide), EndV.val q rep (.bl _)⟩
      | _ => exact q.elim
theorem RD.isN {K : PySem.W.Frag} {L : List Addr} {H : Hp} {v : V} {d : D} (r : RD K L H v d) : decide (v = .non) = isNonD d := by
  cases r <;> rfl
theorem f_isN : OpF K E (fun x y H Q => y = .non ∧ Q (.bl (decide (x = .non))) H) oIsN := by
  intro L H S x y d1 d2 Q rep r1 r2 q
  cases r2 with
  | non => exact ⟨rfl, EndV.val (d := .bl _) q rep (by rw [r1.isN]; exact .bl _)⟩
  | _ => exact q.elim
theorem f_notN : OpF K E (fun x y H Q => y = .non ∧ Q (.bl (!decide (x = .non))) H) oNotN := by
  intro L H S x y d1 d2 Q rep r1 r2 q
  cases r2 with
  | non =>
    refine ⟨rfl, EndV.val (d := .bl _) q rep ?_⟩
    rw [r1.isN]
    exact .bl _
  | _ => exact q.elim
theorem f_inS : OpF K E (fun x y H Q => ∃ (c : Nat) (z : Str), x = .str ⟨#[c]⟩ ∧ y = .str z ∧ Q (.bl (decide (c ∈ z.cps.toList))) H) (oInS false) := by
  intro L H S x y d1 d2 Q rep r1 r2 q
  unfold oInS at q
  cases r1 with
  | str i =>
    cases r2 with
    | str z =>
      obtain ⟨⟨l⟩⟩ := i
      match l, q with
      | [c], q => exact ⟨c, z, rfl, rfl, EndV.val (d := .bl _) q rep (.bl _)⟩
      | [], q => exact q.elim
      | _ :: _ :: _, q => exact q.elim
    | _ => split at q <;> first | exact q.elim | (rename_i h1 h2; cases h2)
  | _ => exact q.elim
theorem f_notInS : OpF K E (fun x y H Q => ∃ (c : Nat) (z : Str), x = .str ⟨#[c]⟩ ∧ y = .str z ∧ Q (.bl (!decide (c ∈ z.cps.toList))) H) (oInS true) := by
  intro L H S x y d1 d2 Q rep r1 r2 q
  unfold oInS at q
  cases r1 with
  | str i =>
    cases r2 with
    | str z =>
      obtain ⟨⟨l⟩⟩ := i
      match l, q with
      | [c], q => exact ⟨c, z, rfl, rfl, EndV.val (d := .bl _) q rep (.bl _)⟩
      | [], q => exact q.elim
      | _ :: _ :: _, q => exact q.elim
    | _ => split at q <;> first | exact q.elim | (rename_i h1 h2; cases h2)
  | _ => exact q.elim
theorem f_leS : OpF K E (fun x y H Q => ∃ i j, x = .str i ∧ y = .str j ∧ Q (.bl (!decide (j.cps.toList < i.cps.toList))) H) oLeS := by
  intro L H S x y d1 d2 Q rep r1 r2 q
  cases r1 with
  | str i =>
    cases r2 with
    | str j => exact ⟨i, j, rfl, rfl, EndV.val (d := .bl _) q rep (.bl _)⟩
    | _ => exact q.elim
  | _ => exact q.elim
theorem f_isB : OpF K E (fun x y H Q => ∃ a b, x = .bl a ∧ y = .bl b ∧ Q (.bl (decide (a = b))) H) oIsB := by
  intro L H S x y d1 d2 Q rep r1 r2 q
  cases r1 with
  | bl i =>
    cases r2 with
    | bl j => exact ⟨i, j, rfl, rfl, EndV.val (d := .bl _) q rep (.bl _)⟩
    | _ => exact q.elim
  | _ => exact q.elim
end
end RF

namespace RF
open PySem L2

/-! ### built-in functions -/
def lenD (S : Sto) : D → Option Nat
  | .tup xs => some xs.length
  | .rl xs => some xs.length
  | .str z => if z.length ≤ 100000 then some z.length else none
  | .ref n => match S[n]? with
    | some (.lst xs) => some xs.length
    | some (.dk kvs) => some kvs.length
    | some (.dt kvs) => some kvs.length
    | _ => none
  | _ => none
def oLen : OpN := fun ds S => match ds with
  | [x] => match lenD S x with
    | some n => .ok (.int (n : Nat)) S
    | none => .bad
  | _ => .bad
def oMin2 : OpN := fun ds S => match ds with
  | [.int i, .int j] => .ok (.int (if j < i then j else i)) S
  | _ => .bad
def oMax2 : OpN := fun ds S => match ds with
  | [.int i, .int j] => .ok (.int (if j > i then j else i)) S
  | _ => .bad
def oInt : OpN := fun ds S => match ds with
  | [.int i] => .ok (.int i) S
  | [.bl k] => .ok (.int (if k = true then 1 else 0)) S
  | _ => .bad
def seqD (S : Sto) : D → Option (List D)
  | .tup xs => some xs
  | .rl xs => some xs
  | .ref n => match S[n]? with
    | some (.lst xs) => some xs
    | _ => none
  | _ => none
def oList : OpN := fun ds S => match ds with
  | [x] => match seqD S x with
    | some xs => .ok (.ref S.length) (S ++ [.lst xs])
    | none => .bad
  | _ => .bad
def oTuple : OpN := fun ds S => match ds with
  | [x] => match seqD S x with
    | some xs => .ok (.tup xs) S
    | none => .bad
  | _ => .bad
def blsD : List D → Option (List Bool)
  | [] => some []
  | .bl b :: ds => (blsD ds).map (b :: ·)
  | _ => none
def lstD (S : Sto) : D → Option (List D)
  | .rl xs => some xs
  | .ref n => match S[n]? with
    | some (.lst xs) => some xs
    | _ => none
  | _ => none
def oAll : OpN := fun ds S => match ds with
  | [x] => match lstD S x with
    | some xs => match blsD xs with
      | some bs => .ok (.bl (bs.all id)) S
      | none => .bad
    | none => .bad
  | _ => .bad
def oAny : OpN := fun ds S => match ds with
  | [x] => match lstD S x with
    | some xs => match blsD xs with
      | some bs => .ok (.bl (bs.any id)) S
      | none => .bad
    | none => .bad
  | _ => .bad
def rLenA (K : PySem.W.Frag) : List V → Hp → VK → Prop := fun xs H Q => (∃ x n, xs = [x] ∧ LenV K x H n ∧ Q (.int n) H) ∨ ((∃ a kvs, xs = [V.ref a] ∧ H a = some (.dK kvs) ∧ Q (.int kvs.length) H) ∨ rLenT xs H Q)
theorem call_lenA {X : Cx} : CallR X (.builtin "len") (rLenA X.K) := call_len.or (call_lenD.or call_len_dT)
section
variable {X : Cx} {K : PySem.W.Frag} {E : XK} {L : List Addr} {H : Hp} {S : Sto}
theorem RDs.one {xs : List V} {d : D} (r : RDs K L H xs [d]) : ∃ x, xs = [x] ∧ RD K L H x d := by
  cases r with
  | cons a b => cases b; exact ⟨_, rfl, a⟩
theorem RDs.two {xs : List V} {d e : D} (r : RDs K L H xs [d, e]) : ∃ x y, xs = [x, y] ∧ RD K L H x d ∧ RD K L H y e := by
  cases r with
  | cons a b =>
    obtain ⟨y, rfl, r2⟩ := b.one
    exact ⟨_, _, rfl, a, r2⟩
theorem f_len : CaF K E (rLenA K) oLen := by
  intro L H S xs ds Q rep rs q
  match ds, rs, q with
  | [], _, q => exact q.elim
  | _ :: _ :: _, _, q => exact q.elim
  | [d], rs, q =>
    obtain ⟨x, rfl, r⟩ := rs.one
    unfold oLen at q
    simp only at q
    cases h : lenD S d with
    | none => rw [h] at q; exact q.elim
    | some n =>
      rw [h] at q
      have fin : Q (.int (n : Nat)) H := EndV.val q rep (.int _)
      cases r with
      | tup hs rs2 => cases h; exact .inl ⟨_, _, rfl, .inr ⟨_, .of hs, rfl⟩, by rw [rs2.length]; exact fin⟩
      | rl hs rs2 => cases h; exact .inl ⟨_, _, rfl, .inl ⟨_, hs H fun _ _ _ z => z, rfl⟩, by rw [rs2.length]; exact fin⟩
      | str z =>
        have h : (if z.length ≤ 100000 then some z.length else none) = some n := h
        by_cases hz : z.length ≤ 100000
        · rw [if_pos hz] at h
          cases h
          exact .inl ⟨_, _, rfl, ⟨sz5 hz, rfl⟩, fin⟩
        · rw [if_neg hz] at h; cases h
      | @ref a m ha =>
        obtain ⟨c, hc, rc⟩ := rep.adr ha
        unfold lenD at h
        simp only [hc] at h
        cases c with
        | lst ys =>
          cases h
          obtain ⟨vs, hv, rv⟩ := rc
          exact .inl ⟨_, _, rfl, .inl ⟨_, .of hv, rfl⟩, by rw [rv.length]; exact fin⟩
        | dk kvs =>
          cases h
          obtain ⟨ws, hw, rk⟩ := rc
          exact .inr (.inl ⟨_, _, rfl, hw, by rw [rk.length]; exact fin⟩)
        | dt kvs =>
          cases h
          obtain ⟨ws, hw, rk⟩ := rc
          exact .inr (.inr ⟨_, _, rfl, hw, by rw [rk.length]; exact fin⟩)
        | _ => cases h
      | _ => cases h
theorem int2 {xs : List V} {i j : Int} (r : RDs K L H xs [.int i, .int j]) : xs = [.int i, .int j] := by
  obtain ⟨x, y, rfl, r1, r2⟩ := r.two
  cases r1; cases r2; rfl
theorem f_min2 : CaF K E (fun xs H Q => ∃ i j, xs = [.int i, .int j] ∧ Q (.int (if j < i then j else i)) H) oMin2 := by
  intro L H S xs ds Q rep rs q
  unfold oMin2 at q
  split at q
  · exact ⟨_, _, int2 rs, EndV.val q rep (.int _)⟩
  · exact q.elim
theorem f_max2 : CaF K E (fun xs H Q => ∃ i j, xs = [.int i, .int j] ∧ Q (.int (if j > i then j else i)) H) oMax2 := by
  intro L H S xs ds Q rep rs q
  unfold oMax2 at q
  split at q
  · exact ⟨_, _, int2 rs, EndV.val q rep (.int _)⟩
  · exact q.elim
theorem f_int : CaF K E (fun xs H Q => (∃ i, xs = [.int i] ∧ Q (.int i) H) ∨ ∃ k, xs = [.bl k] ∧ Q (.int (if k then 1 else 0)) H) oInt := by
  intro L H S xs ds Q rep rs q
  unfold oInt at q
  split at q
  · obtain ⟨x, rfl, r⟩ := rs.one
    cases r
    exact .inl ⟨_, rfl, EndV.val q rep (.int _)⟩
  · obtain ⟨x, rfl, r⟩ := rs.one
    cases r
    exact .inr ⟨_, rfl, EndV.val q rep (.int _)⟩
  · exact q.elim
theorem seqD_of {v : V} {d : D} {xs : List D} (rep : Rep K L H S) (r : RD K L H v d) (h : seqD S d = some xs) : ∃ a vs, v = .ref a ∧ RDs K L H vs xs ∧ ((SqL K H a vs ∧ d ≠ .tup xs) ∨ (H a = some (.tup vs) ∧ d = .tup xs)) := by
  cases r with
  | tup hs rs => cases h; exact ⟨_, _, rfl, rs, .inr ⟨hs, rfl⟩⟩
  | rl hs rs => cases h; exact ⟨_, _, rfl, rs, .inl ⟨hs H fun _ _ _ z => z, fun z => nomatch z⟩⟩
  | @ref a m ha =>
    obtain ⟨c, hc, rc⟩ := rep.adr ha
    unfold seqD at h
    simp only [hc] at h
    cases c with
    | lst ys =>
      cases h
      obtain ⟨vs, hv, rv⟩ := rc
      exact ⟨_, _, rfl, rv, .inl ⟨.of hv, fun z => nomatch z⟩⟩
    | _ => cases h
  | _ => cases h
theorem f_list : CaF K E (fun xs H Q => ∃ p ys, xs = [.ref p] ∧ (SqL K H p ys ∨ SqT K H p ys) ∧ ∀ l, H l = none → Q (.ref l) (upd H l (.lst ys))) oList := by
  intro L H S xs ds Q rep rs q
  match ds, rs, q with
  | [], _, q => exact q.elim
  | _ :: _ :: _, _, q => exact q.elim
  | [d], rs, q =>
    obtain ⟨x, rfl, r⟩ := rs.one
    unfold oList at q
    simp only at q
    cases h : seqD S d with
    | none => rw [h] at q; exact q.elim
    | some ys =>
      rw [h] at q
      obtain ⟨a, vs, rfl, rv, k⟩ := seqD_of rep r h
      refine ⟨a, vs, rfl, ?_, fun p hp => newList q rep rv p hp⟩
      rcases k with ⟨k, _⟩ | ⟨k, _⟩
      · exact .inl k
      · exact .inr (.of k)
theorem f_tuple : CaF K E (fun xs H Q => ∃ p ys, xs = [.ref p] ∧ ((SqL K H p ys ∧ ∀ l, H l = none → Q (.ref l) (upd H l (.tup ys))) ∨ (SqT K H p ys ∧ Q (.ref p) H))) oTuple := by
  intro L H S xs ds Q rep rs q
  match ds, rs, q with
  | [], _, q => exact q.elim
  | _ :: _ :: _, _, q => exact q.elim
  | [d], rs, q =>
    obtain ⟨x, rfl, r⟩ := rs.one
    unfold oTuple at q
    simp only at q
    cases h : seqD S d with
    | none => rw [h] at q; exact q.elim
    | some ys =>
      rw [h] at q
      obtain ⟨a, vs, rfl, rv, k⟩ := seqD_of rep r h
      refine ⟨a, vs, rfl, ?_⟩
      rcases k with ⟨k, _⟩ | ⟨k, _⟩
      · exact .inl ⟨k, fun p hp => EndV.val (q.later (Ex.new hp)) (rep.new hp) (.tup upd_same (rv.mono (Ex.new hp)))⟩
      · exact .inr ⟨.of k, EndV.val q rep (.tup k rv)⟩
theorem bls_of : ∀ {ds : List D} {vs : List V} {bs : List Bool}, RDs K L H vs ds → blsD ds = some bs → vs = bs.map V.bl
  | [], _, _, .nil, h => by cases h; rfl
  | .bl b :: ds, _, _, .cons a r, h => by
    obtain ⟨bs', h1, rfl⟩ := Option.map_eq_some_iff.mp (show (blsD ds).map (b :: ·) = some _ from h)
    cases a
    rw [bls_of r h1]
    rfl
  | .non :: _, _, _, _, h => by cases h
  | .int _ :: _, _, _, _, h => by cases h
  | .str _ :: _, _, _, _, h => by cases h
  | .ref _ :: _, _, _, _, h => by cases h
  | .rl _ :: _, _, _, _, h => by cases h
  | .tup _ :: _, _, _, _, h => by cases h
theorem lstD_of {v : V} {d : D} {xs : List D} (rep : Rep K L H S) (r : RD K L H v d) (h : lstD S d = some xs) : ∃ a vs, v = .ref a ∧ RDs K L H vs xs ∧ SqL K H a vs := by
  cases r with
  | rl hs rs => cases h; exact ⟨_, _, rfl, rs, hs H fun _ _ _ z => z⟩
  | @ref a m ha =>
    obtain ⟨c, hc, rc⟩ := rep.adr ha
    unfold lstD at h
    simp only [hc] at h
    cases c with
    | lst ys =>
      cases h
      obtain ⟨vs, hv, rv⟩ := rc
      exact ⟨_, _, rfl, rv, .of hv⟩
    | _ => cases h
  | _ => cases h
theorem f_all : CaF K E (rAll K) oAll := by
  intro L H S xs ds Q rep rs q
  match ds, rs, q with
  | [], _, q => exact q.elim
  | _ :: _ :: _, _, q => exact q.elim
  | [d], rs, q =>
    obtain ⟨x, rfl, r⟩ := rs.one
    unfold oAll at q
    simp only at q
    cases h : lstD S d with
    | none => rw [h] at q; exact q.elim
    | some ys =>
      rw [h] at q
      simp only at q
      cases h2 : blsD ys with
      | none => rw [h2] at q; exact q.elim
      | some bs =>
        rw [h2] at q
        obtain ⟨a, vs, rfl, rv, k⟩ := lstD_of rep r h
        obtain rfl := bls_of rv h2
        exact ⟨a, bs, rfl, k, EndV.val q rep (.bl _)⟩
theorem f_any : CaF K E (rAny K) oAny := by
  intro L H S xs ds Q rep rs q
  match ds, rs, q with
  | [], _, q => exact q.elim
  | _ :: _ :: _, _, q => exact q.elim
  | [d], rs, q =>
    obtain ⟨x, rfl, r⟩ := rs.one
    unfold oAny at q
    simp only at q
    cases h : lstD S d with
    | none => rw [h] at q; exact q.elim
    | some ys =>
      rw [h] at q
      simp only at q
      cases h2 : blsD ys with
      | none => rw [h2] at q; exact q.elim
      | some bs =>
        rw [h2] at q
        obtain ⟨a, vs, rfl, rv, k⟩ := lstD_of rep r h
        obtain rfl := bls_of rv h2
        exact ⟨a, bs, rfl, k, EndV.val q rep (.bl _)⟩
end

/-! ### types -/
/-- the built-in type of a value -/
def tyD (S : Sto) : D → Option String
  | .non => some "NoneType"
  | .bl _ => some "bool"
  | .int _ => some "int"
  | .str _ => some "str"
  | .tup _ => some "tuple"
  | .rl _ => some "list"
  | .ref n => match S[n]? with
    | some (.lst _) => some "list"
    | some (.dk _) => some "dict"
    | some (.dt _) => some "dict"
    | _ => none
/-- isinstance of one of the types by which we ask -/
def isiD (t T : String) : Option Bool :=
  if T = "int" then some (decide (t = "int" ∨ t = "bool")) else if T = "bool" ∨ T = "str" ∨ T = "tuple" ∨ T = "list" ∨ T = "dict" then some (decide (t = T)) else none
def fIsi (T : String) (fa : EF) : EF := fun env S => (fa env S).bind fun x S1 => match tyD S1 x with
  | some t => match isiD t T with
    | some b => .ok (.bl b) S1
    | none => .bad
  | none => .bad
def fTyIs (T : String) (neg : Bool) (fa : EF) : EF := fun env S => (fa env S).bind fun x S1 => match tyD S1 x with
  | some t => .ok (.bl (if neg = true then !decide (t = T) else decide (t = T))) S1
  | none => .bad
section
variable {X : Cx} {K : PySem.W.Frag} {E : XK} {L : List Addr} {H : Hp} {S : Sto}
theorem tyD_of {v : V} {d : D} {t : String} (rep : Rep K L H S) (r : RD K L H v d) (h : tyD S d = some t) : TyX K H v (.type t) := by
  cases r with
  | non => cases h; exact .base .non
  | bl b => cases h; exact .base (.bl b)
  | int b => cases h; exact .base (.int b)
  | str b => cases h; exact .base (.str b)
  | tup hs rs => cases h; exact .base (.tup hs)
  | rl hs rs =>
    cases h
    rcases hs H fun _ _ _ z => z with (z | ⟨o, z⟩) | ⟨o, its, n, z1, z2, _⟩
    · exact .base (.lst z)
    · exact .base (.frz z)
    · exact .kList z1 z2
  | @ref a n ha =>
    obtain ⟨c, hc, rc⟩ := rep.adr ha
    unfold tyD at h
    simp only [hc] at h
    cases c with
    | lst ys =>
      cases h
      obtain ⟨vs, hv, rv⟩ := rc
      exact .base (.lst hv)
    | dk ys =>
      cases h
      obtain ⟨vs, hv, rv⟩ := rc
      exact .base (.dK hv)
    | dt ys =>
      cases h
      obtain ⟨vs, hv, rv⟩ := rc
      exact .base (.dT hv)
    | _ => cases h
theorem tyD_mem {d : D} {t : String} (h : tyD S d = some t) : t = "NoneType" ∨ t = "bool" ∨ t = "int" ∨ t = "str" ∨ t = "tuple" ∨ t = "list" ∨ t = "dict" := by
  cases d with
  | ref n =>
    unfold tyD at h
    simp only at h
    split at h <;> cases h <;> simp
  | _ => cases h; simp
theorem isi_all : ∀ t ∈ ["NoneType", "bool", "int", "str", "tuple", "list", "dict"], ∀ T ∈ ["int", "bool", "str", "tuple", "list", "dict"], kitB t T = isiD t T := by decide +kernel
theorem isi_kit {t T : String} {b : Bool} (ht : t = "NoneType" ∨ t = "bool" ∨ t = "int" ∨ t = "str" ∨ t = "tuple" ∨ t = "list" ∨ t = "dict") (h : isiD t T = some b) : PySem.W.kitOne K (.type t) (.type T) = some b := by
  refine kit_ty ?_
  have hT : T ∈ ["int", "bool", "str", "tuple", "list", "dict"] := by
    unfold isiD at h
    by_cases h1 : T = "int"
    · rw [h1]; simp
    · rw [if_neg h1] at h
      by_cases h2 : T = "bool" ∨ T = "str" ∨ T = "tuple" ∨ T = "list" ∨ T = "dict"
      · simp only [List.mem_cons, List.not_mem_nil, or_false]
        exact .inr h2
      · rw [if_neg h2] at h; cases h
  rw [isi_all t (by simpa using ht) T hT]
  exact h
theorem xIsi {e : Expr} {fa : EF} {T : String} {x : Str} {p q pos : Pos} (he : PE X e (tE X.K E fa)) (hT : bootBuiltins x = some (.type T)) (hgT : Gl X x) (hmT : X.mg x = none) (hg : Gl X "isinstance") (hm : X.mg "isinstance" = none)
    (hn : x ≠ "__name__" := by decide) (hd : (x == ("__debug__" : Str)) = false := by decide)
    (s1 : starEach [e, .Name x q] X.env = (false, eval e X.env) :: starEach [.Name x q] X.env := by rfl) (s2 : starEach [.Name x q] X.env = (false, eval (.Name x q) X.env) :: starEach [] X.env := by rfl) (hpl : (backTo pos (starEach [.Name x q] X.env)).any (·.1) = false := by rfl) :
    PE X (.Call (.Name "isinstance" p) [e, .Name x q] [] pos) (tE X.K E (fIsi T fa)) :=
  monoE (pe_callB call_isi hg hm (by decide +kernel) (pa_cons he (pa_cons (pe_bltn (v := .ty T) hgT hmT hT rfl hn hd) pa_nil s2) s1) (he := s1) (hpl := hpl)) fun σ H Q h => by
    obtain ⟨L, env, S, rep, re, h⟩ := h
    refine ⟨L, env, S, rep, re, (End.bind h).imp fun x S1 L1 H1 e1 rep1 h1 v rv => ?_⟩
    cases h2 : tyD S1 x with
    | none => rw [h2] at h1; exact h1.elim
    | some t =>
      rw [h2] at h1
      simp only at h1
      cases h3 : isiD t T with
      | none => rw [h3] at h1; exact h1.elim
      | some b =>
        rw [h3] at h1
        exact ⟨v, .ty T, _, _, b, rfl, .ty T, tyD_of rep1 rv h2, isi_kit (tyD_mem h2) h3, EndV.val h1 rep1 (.bl b)⟩
def rTyX (K : PySem.W.Frag) : List V → Hp → VK → Prop := fun xs H Q => (rTyp K xs H Q) ∨ ∃ a kvs, xs = [.ref a] ∧ H a = some (.dT kvs) ∧ Q (.ty "dict") H
theorem call_typeX : CallR X (.type "type") (rTyX X.K) := by
  refine call_type1.or ?_
  intro pins s σ H xs us Q I r h
  obtain ⟨a, kvs, rfl, ha, q⟩ := h
  obtain ⟨u, rfl, rx⟩ := vals1 r
  cases (show u = Value.ref a from rx)
  obtain ⟨_, _, xs, _, o, es, ep, h1, h2, _⟩ := (show ObjOk X.prog X.w H s.heap a (.dT kvs) from I.hok a _ ha)
  exact PySem.call_type_of (Tx := "dict") ⟨o, h1, h2.1⟩ (by decide +kernel) ⟨.ty "dict", H, I, rfl, q⟩
theorem type_of {v : V} {d : D} {t : String} {Q : VK} (rep : Rep K L H S) (r : RD K L H v d) (h : tyD S d = some t) (q : Q (.ty t) H) : rTyX K [v] H Q := by
  cases r with
  | non => cases h; exact .inl ⟨_, _, rfl, .non, q⟩
  | bl b => cases h; exact .inl ⟨_, _, rfl, .bl b, q⟩
  | int b => cases h; exact .inl ⟨_, _, rfl, .int b, q⟩
  | str b => cases h; exact .inl ⟨_, _, rfl, .str b, q⟩
  | tup hs rs => cases h; exact .inl ⟨_, _, rfl, .tup (.of hs), q⟩
  | rl hs rs => cases h; exact .inl ⟨_, _, rfl, .lst (hs H fun _ _ _ z => z), q⟩
  | @ref a n ha =>
    obtain ⟨c, hc, rc⟩ := rep.adr ha
    unfold tyD at h
    simp only [hc] at h
    cases c with
    | lst ys =>
      cases h
      obtain ⟨vs, hv, rv⟩ := rc
      exact .inl ⟨_, _, rfl, .lst (.of hv), q⟩
    | dk ys =>
      cases h
      obtain ⟨vs, hv, rv⟩ := rc
      exact .inl ⟨_, _, rfl, .dK hv, q⟩
    | dt ys =>
      cases h
      obtain ⟨vs, hv, rv⟩ := rc
      exact .inr ⟨_, _, rfl, hv, q⟩
    | _ => cases h
/-- type(e) is T -/
theorem xTyIs {e : Expr} {fa : EF} {T : String} {x : Str} {p q pos pos' : Pos} (he : PE X e (tE X.K E fa)) (hT : bootBuiltins x = some (.type T)) (hgT : Gl X x) (hmT : X.mg x = none) (hg : Gl X "type") (hm : X.mg "type" = none)
    (hn : x ≠ "__name__" := by decide) (hd : (x == ("__debug__" : Str)) = false := by decide)
    (s1 : starEach [e] X.env = (false, eval e X.env) :: starEach [] X.env := by rfl) :
    PE X (.Compare (.Call (.Name "type" p) [e] [] pos) [.Is] [.Name x q] pos') (tE X.K E (fTyIs T false fa)) :=
  monoE (pe_cmpR op_isTyB (pe_callTy call_typeX hg hm (by decide +kernel) (pa_cons he pa_nil s1) (he := s1)) (pe_bltn (v := .ty T) hgT hmT hT rfl hn hd) (nomark _)) fun σ H Q h => by
    obtain ⟨L, env, S, rep, re, h⟩ := h
    refine ⟨L, env, S, rep, re, (End.bind h).imp fun x S1 L1 H1 e1 rep1 h1 v rv => ?_⟩
    cases h2 : tyD S1 x with
    | none => rw [h2] at h1; exact h1.elim
    | some t =>
      rw [h2] at h1
      exact type_of rep1 rv h2 ⟨t, T, rfl, rfl, EndV.val h1 rep1 (.bl _)⟩
theorem xTyNot {e : Expr} {fa : EF} {T : String} {x : Str} {p q pos pos' : Pos} (he : PE X e (tE X.K E fa)) (hT : bootBuiltins x = some (.type T)) (hgT : Gl X x) (hmT : X.mg x = none) (hg : Gl X "type") (hm : X.mg "type" = none)
    (hn : x ≠ "__name__" := by decide) (hd : (x == ("__debug__" : Str)) = false := by decide)
    (s1 : starEach [e] X.env = (false, eval e X.env) :: starEach [] X.env := by rfl) :
    PE X (.Compare (.Call (.Name "type" p) [e] [] pos) [.IsNot] [.Name x q] pos') (tE X.K E (fTyIs T true fa)) :=
  monoE (pe_cmpR op_notTyB (pe_callTy call_typeX hg hm (by decide +kernel) (pa_cons he pa_nil s1) (he := s1)) (pe_bltn (v := .ty T) hgT hmT hT rfl hn hd) (nomark _)) fun σ H Q h => by
    obtain ⟨L, env, S, rep, re, h⟩ := h
    refine ⟨L, env, S, rep, re, (End.bind h).imp fun x S1 L1 H1 e1 rep1 h1 v rv => ?_⟩
    cases h2 : tyD S1 x with
    | none => rw [h2] at h1; exact h1.elim
    | some t =>
      rw [h2] at h1
      exact type_of rep1 rv h2 ⟨t, T, rfl, rfl, EndV.val h1 rep1 (.bl _)⟩
end

/-! ### slices -/
abbrev PF := Lc → Sto → R (Option Int)
def pNo : PF := fun _ S => .ok none S
def pSo (fa : EF) : PF := fun env S => (fa env S).bind fun x S1 => match x with
  | .int i => .ok (some i) S1
  | _ => .bad
def cutD {α : Type} (xs : List α) (lo hi : Option Int) : List α := (xs.drop (HT.sIx xs.length 0 lo)).take (HT.sIx xs.length xs.length hi - HT.sIx xs.length 0 lo)
def oSl (x : D) (lo hi : Option Int) (S : Sto) : R D := match x with
  | .tup xs => .ok (.tup (cutD xs lo hi)) S
  | .str z => if z.length ≤ 100000 then .ok (.str ⟨(cutD z.cps.toList lo hi).toArray⟩) S else .bad
  | .rl xs => .ok (.ref S.length) (S ++ [.lst (cutD xs lo hi)])
  | .ref n => match S[n]? with
    | some (.lst xs) => .ok (.ref S.length) (S ++ [.lst (cutD xs lo hi)])
    | _ => .bad
  | _ => .bad
def fSl (fa : EF) (pl ph : PF) : EF := fun env S => (fa env S).bind fun x S1 => (pl env S1).bind fun l S2 => (ph env S2).bind fun h S3 => oSl x l h S3
def tP (K : PySem.W.Frag) (E : XK) (f : PF) : TO := fun σ H Q => ∃ L env S, Rep K L H S ∧ RE K L H σ env ∧ End K E L H (fun o _ _ H1 => Q o H1) (f env S)
def rSlA' (K : PySem.W.Frag) : V → Option Int → Option Int → Hp → VK → Prop := fun x lo hi H Q => (rSlA K x lo hi H Q ∨ rSlS x lo hi H Q) ∨ rSlL K x lo hi H Q
section
variable {X : Cx} {K : PySem.W.Frag} {E : XK} {L : List Addr} {H : Hp} {S : Sto}
theorem xPNo : PO X none (tP X.K E pNo) := ⟨fun pins s σ H Q I ⟨L, env, S, rep, re, h⟩ => po_none.run pins s σ H Q I (h L H (Ex.refl _ _) rep)⟩
theorem xPSo {e : Expr} {fa : EF} (he : PE X e (tE X.K E fa)) : PO X (some e) (tP X.K E (pSo fa)) := ⟨fun pins s σ H Q I ⟨L, env, S, rep, re, h⟩ => (po_some he).run pins s σ H Q I ⟨L, env, S, rep, re, (End.bind h).imp fun x S1 L1 H1 e1 rep1 h1 v rv => by
  cases rv with
  | int i => exact ⟨i, rfl, h1 L1 H1 (Ex.refl _ _) rep1⟩
  | _ => exact h1.elim⟩⟩
theorem cut_rd {vs : List V} {ds : List D} {lo hi : Option Int} (r : RDs K L H vs ds) : RDs K L H (cutV vs lo hi) (cutD ds lo hi) := by
  unfold cutV cutD
  rw [r.length]
  exact (r.drop _).take _
theorem cut_all {ds : List D} {lo hi : Option Int} (h1 : HT.sIx ds.length 0 lo = 0) (h2 : HT.sIx ds.length ds.length hi = ds.length) : cutD ds lo hi = ds := by
  unfold cutD
  rw [h1, h2]
  simp
theorem slF {x : V} {d : D} {lo hi : Option Int} {Q : VK} (rep : Rep K L H S) (r : RD K L H x d) (q : EndV K E L H Q (oSl d lo hi S)) : rSlA' K x lo hi H Q := by
  cases r with
  | @tup a vs ds hs rs =>
    refine .inl (.inl ⟨a, vs, rfl, .of hs, fun ⟨h1, h2⟩ => ?_, fun _ p hp => ?_⟩)
    · rw [rs.length] at h1 h2
      have q : EndV K E L H Q (.ok (.tup (cutD ds lo hi)) S) := q
      rw [cut_all h1 h2] at q
      exact EndV.val q rep (.tup hs rs)
    · have q : EndV K E L H Q (.ok (.tup (cutD ds lo hi)) S) := q
      exact EndV.val (q.later (Ex.new hp)) (rep.new hp) (.tup upd_same ((cut_rd rs).mono (Ex.new hp)))
  | str z =>
    have q : EndV K E L H Q (if z.length ≤ 100000 then .ok (.str ⟨(cutD z.cps.toList lo hi).toArray⟩) S else .bad) := q
    by_cases hz : z.length ≤ 100000
    · rw [if_pos hz] at q
      exact .inl (.inr ⟨z, rfl, sz5 hz, EndV.val (d := .str (cutS z lo hi)) (by
        have e : (⟨(cutD z.cps.toList lo hi).toArray⟩ : Str) = cutS z lo hi := by
          unfold cutD cutS
          rw [show z.cps.toList.length = z.length from by simp [Str.length]]
        rw [← e]; exact q) rep (.str _)⟩)
    · rw [if_neg hz] at q; exact q.elim
  | @rl a vs ds hs rs =>
    exact .inr ⟨a, vs, rfl, hs H fun _ _ _ z => z, fun p hp => newList q rep (cut_rd rs) p hp⟩
  | @ref a n ha =>
    obtain ⟨c, hc, rc⟩ := rep.adr ha
    unfold oSl at q
    simp only [hc] at q
    cases c with
    | lst ys =>
      obtain ⟨vs, hv, rv⟩ := rc
      exact .inr ⟨a, vs, rfl, .of hv, fun p hp => newList q rep (cut_rd rv) p hp⟩
    | _ => exact q.elim
  | _ => exact q.elim
theorem xSl {e : Expr} {lo hi : Option Expr} {fa : EF} {pl ph : PF} {p2 pos : Pos} (he : PE X e (tE X.K E fa)) (hl : PO X lo (tP X.K E pl)) (hh : PO X hi (tP X.K E ph)) : PE X (.Subscript e (.Slice lo hi none p2) pos) (tE X.K E (fSl fa pl ph)) :=
  monoE (pe_slice (r := rSlA' X.K) ((sl_tupA.or sl_str).or sl_list) he hl hh) fun σ H Q h => by
    obtain ⟨L, env, S, rep, re, h⟩ := h
    refine ⟨L, env, S, rep, re, (End.bind h).imp fun x S1 L1 H1 e1 rep1 h1 v rv => ?_⟩
    refine ⟨L1, env, S1, rep1, re.mono e1, (End.bind h1).imp fun l S2 L2 H2 e2 rep2 h2 => ?_⟩
    refine ⟨L2, env, S2, rep2, (re.mono e1).mono e2, (End.bind h2).imp fun h S3 L3 H3 e3 rep3 h3 => ?_⟩
    exact slF rep3 ((rv.mono e2).mono e3) h3
end

/-! ### methods of lists, texts, dicts -/
def tyIn (T : String) (S : Sto) : D → Bool
  | .str _ => decide (T = "str")
  | .rl _ => decide (T = "list")
  | .ref n => match S[n]? with
    | some (.lst _) => decide (T = "list")
    | some (.dk _) => decide (T = "dict")
    | some (.dt _) => decide (T = "dict")
    | _ => false
  | _ => false
abbrev OpM := D → List D → Sto → R D
def fBm (T : String) (o : OpM) (fo : EF) (fs : AF) : EF := fun env S => (fo env S).bind fun x S1 => if tyIn T S1 x = true then (fs env S1).bind fun ds S2 => o x ds S2 else .bad
def fBm0 (T : String) (o : OpM) (fo : EF) : EF := fun env S => (fo env S).bind fun x S1 => if tyIn T S1 x = true then o x [] S1 else .bad
section
variable {X : Cx} {K : PySem.W.Frag} {E : XK} {L : List Addr} {H : Hp} {S : Sto} {T : String}
theorem tyIn_of {v : V} {d : D} (rep : Rep K L H S) (r : RD K L H v d) (h : tyIn T S d = true) : tyV K T v H := by
  cases r with
  | str z =>
    have h : decide (T = "str") = true := h
    show T = "str"
    exact of_decide_eq_true h
  | rl hs rs => exact .inl ⟨of_decide_eq_true h, _, hs H fun _ _ _ z => z⟩
  | @ref a n ha =>
    obtain ⟨c, hc, rc⟩ := rep.adr ha
    unfold tyIn at h
    simp only [hc] at h
    cases c with
    | lst ys =>
      obtain ⟨vs, hv, rv⟩ := rc
      exact .inl ⟨of_decide_eq_true h, vs, .of hv⟩
    | dk ys =>
      obtain ⟨vs, hv, rv⟩ := rc
      exact .inr (.inr (.inl ⟨of_decide_eq_true h, .inl ⟨_, hv⟩⟩))
    | dt ys =>
      obtain ⟨vs, hv, rv⟩ := rc
      exact .inr (.inr (.inl ⟨of_decide_eq_true h, .inr ⟨_, hv⟩⟩))
    | _ => cases h
  | _ => cases h
theorem xBm {o e : Expr} {es : List Expr} {name : Str} {id : String} {r : V → List V → Hp → VK → Prop} {om : OpM} {fo : EF} {fs : AF} {apos cpos : Pos} (pa : PlainAttrs T) (slot : Slot T name id) (hty : typeOf (.builtin id) = pure (.type "method_descriptor")) (hm : MtR X id r) (hf : MtF X.K E r om)
    (ho : PE X o (tE X.K E fo)) (ha : PA X (e :: es) (tA X.K E fs))
    (hbase : attributeBase o name X.env (eval o X.env) = eval o X.env := by rfl)
    (hfew : ((backTo cpos (starEach (e :: es) X.env)).all (fun x => !x.1) && (backToKw cpos (keywordEach [] X.env)).all (fun x => x.1.isSome)
      && decide ((e :: es).length + ([] : List Keyword).length + (if ([] : List Keyword).isEmpty then 0 else 1) < 30)) = true := by rfl)
    (hline : (apos.endLine == cpos.line) = true := by rfl) (hs : starEach (e :: es) X.env = (false, eval e X.env) :: starEach es X.env := by rfl) (hplain : (backTo cpos (starEach es X.env)).any (·.1) = false := by rfl) :
    PE X (.Call (.Attribute o name apos) (e :: es) [] cpos) (tE X.K E (fBm T om fo fs)) :=
  monoE (pe_bm pa slot hty hm ho ha hbase hfew hline hs hplain) fun σ H Q h => by
    obtain ⟨L, env, S, rep, re, h⟩ := h
    refine ⟨L, env, S, rep, re, (End.bind h).imp fun x S1 L1 H1 e1 rep1 h1 v rv => ?_⟩
    by_cases ht : tyIn T S1 x = true
    · rw [if_pos ht] at h1
      exact ⟨tyIn_of rep1 rv ht, L1, env, S1, rep1, re.mono e1, (End.bind h1).imp fun xs S2 L2 H2 e2 rep2 h2 vs rvs => hf L2 H2 S2 _ _ _ _ _ rep2 (rv.mono e2) rvs h2⟩
    · rw [if_neg ht] at h1; exact h1.elim
theorem xBm0 {o : Expr} {name : Str} {id : String} {r : V → List V → Hp → VK → Prop} {om : OpM} {fo : EF} {apos cpos : Pos} (pa : PlainAttrs T) (slot : Slot T name id) (hty : typeOf (.builtin id) = pure (.type "method_descriptor")) (hm : MtR X id r) (hf : MtF X.K E r om)
    (ho : PE X o (tE X.K E fo)) (hbase : attributeBase o name X.env (eval o X.env) = eval o X.env := by rfl) (hline : (apos.endLine == cpos.line) = true := by rfl) :
    PE X (.Call (.Attribute o name apos) [] [] cpos) (tE X.K E (fBm0 T om fo)) :=
  monoE (pe_bm0 pa slot hty hm ho hbase hline) fun σ H Q h => by
    obtain ⟨L, env, S, rep, re, h⟩ := h
    refine ⟨L, env, S, rep, re, (End.bind h).imp fun x S1 L1 H1 e1 rep1 h1 v rv => ?_⟩
    by_cases ht : tyIn T S1 x = true
    · rw [if_pos ht] at h1
      exact ⟨tyIn_of rep1 rv ht, hf L1 H1 S1 _ _ _ _ _ rep1 rv .nil h1⟩
    · rw [if_neg ht] at h1; exact h1.elim
def mAppend : OpM := fun x ds S => match x, ds with
  | .ref n, [d] => match S[n]? with
    | some (.lst xs) => if xs.length < 100000 then .ok .non (S.set n (.lst (xs ++ [d]))) else .bad
    | _ => .bad
  | _, _ => .bad
theorem f_append : MtF K E rAppend mAppend := by
  intro L H S x xs d ds Q rep r rs q
  unfold mAppend at q
  split at q
  · rename_i n y
    cases r with
    | @ref a _ ha =>
      obtain ⟨w, rfl, rw'⟩ := rs.one
      obtain ⟨c, hc, rc⟩ := rep.adr ha
      simp only [hc] at q
      cases c with
      | lst ys =>
        simp only at q
        obtain ⟨vs, hv, rv⟩ := rc
        by_cases hl : ys.length < 100000
        · rw [if_pos hl] at q
          have gr : Gr L H L (upd H a (.lst (vs ++ [w]))) := Gr.wr rep ha
          obtain ⟨ex, rep2⟩ := rep.write (o := .lst (vs ++ [w])) (c := .lst (ys ++ [y])) ha ⟨_, upd_same, (rv.append (.cons rw' .nil)).grow gr⟩
          exact ⟨a, vs, w, rfl, rfl, hv, by rw [rv.length]; exact sz5l hl, q L _ ex rep2 _ .non⟩
        · rw [if_neg hl] at q; exact q.elim
      | _ => exact q.elim
  · exact q.elim
def strsD : List D → Option (List Str)
  | [] => some []
  | .str b :: ds => (strsD ds).map (b :: ·)
  | _ => none
def mJoin : OpM := fun x ds S => match x, ds with
  | .str a, [y] => match seqD S y with
    | some xs => match strsD xs with
      | some ys => if (ys.map (·.length)).sum + ys.length * a.length ≤ 100000 then .ok (.str (Txt.join a ys)) S else .bad
      | none => .bad
    | none => .bad
  | _, _ => .bad
theorem strs_of : ∀ {ds : List D} {vs : List V} {bs : List Str}, RDs K L H vs ds → strsD ds = some bs → vs = bs.map V.str
  | [], _, _, .nil, h => by cases h; rfl
  | .str b :: ds, _, _, .cons a r, h => by
    obtain ⟨bs', h1, rfl⟩ := Option.map_eq_some_iff.mp (show (strsD ds).map (b :: ·) = some _ from h)
    cases a
    rw [strs_of r h1]
    rfl
  | .non :: _, _, _, _, h => by cases h
  | .int _ :: _, _, _, _, h => by cases h
  | .bl _ :: _, _, _, _, h => by cases h
  | .ref _ :: _, _, _, _, h => by cases h
  | .rl _ :: _, _, _, _, h => by cases h
  | .tup _ :: _, _, _, _, h => by cases h
theorem f_join : MtF K E (fun x xs H Q => ∃ a p, ∃ ys : List Str, x = .str a ∧ xs = [.ref p] ∧ (SqL K H p (ys.map V.str) ∨ SqT K H p (ys.map V.str)) ∧ (ys.map (·.length)).sum + ys.length * a.length ≤ 16777216 ∧ Q (.str (Txt.join a ys)) H) mJoin := by
  intro L H S x xs d ds Q rep r rs q
  unfold mJoin at q
  split at q
  · rename_i a y
    cases r
    obtain ⟨w, rfl, rw'⟩ := rs.one
    cases h : seqD S y with
    | none => rw [h] at q; exact q.elim
    | some zs =>
      rw [h] at q
      simp only at q
      cases h2 : strsD zs with
      | none => rw [h2] at q; exact q.elim
      | some ys =>
        rw [h2] at q
        simp only at q
        obtain ⟨p, vs, rfl, rv, k⟩ := seqD_of rep rw' h
        obtain rfl := strs_of rv h2
        by_cases hl : (ys.map (·.length)).sum + ys.length * a.length ≤ 100000
        · rw [if_pos hl] at q
          refine ⟨a, p, ys, rfl, rfl, ?_, Nat.le_trans hl (by decide), EndV.val q rep (.str _)⟩
          rcases k with ⟨k, _⟩ | ⟨k, _⟩
          · exact .inl k
          · exact .inr (.of k)
        · rw [if_neg hl] at q; exact q.elim
  · exact q.elim
end
/-- a text, sign by sign -/
def sgnD (z : Str) : List D := z.cps.toList.map fun c => .str ⟨#[c]⟩
def fIterS (fa : EF) : IF := fun env S => (fa env S).bind fun x S1 => match x with
  | .str z => .ok (.fix (sgnD z)) S1
  | _ => .bad
theorem xIterS {X : Cx} {E : XK} {tg e : Expr} {fa : EF} (he : PE X e (tE X.K E fa)) : PI X tg e (tI X.K E (fIterS fa)) := by
  refine ⟨fun pins s σ H R I q => (pi_str he).run pins s σ H R I ?_⟩
  obtain ⟨L, env, S, rep, re, q⟩ := q
  refine ⟨L, env, S, rep, re, (End.bind q).imp fun x S1 L1 H1 e1 rep1 h1 v rv => ?_⟩
  cases rv with
  | str z =>
    refine ⟨z, rfl, h1 L1 H1 (Ex.refl _ _) rep1 _ fun i L2 H2 S2 e2 rep2 => ⟨fun d hd => ?_, fun hl => ?_⟩⟩
    · unfold sgnD at hd
      rw [List.getElem?_map] at hd
      obtain ⟨c, hc, rfl⟩ := Option.map_eq_some_iff.mp hd
      have hs : i < z.cps.size := by
        have := (List.getElem?_eq_some_iff.mp hc).1
        simpa using this
      refine ⟨hs, fun y H3 hy => ?_⟩
      obtain ⟨rfl, c', hc', rfl⟩ := hy
      have e : c' = c := by
        rw [← Array.getElem?_toList] at hc'
        rw [hc] at hc'
        exact (Option.some.inj hc').symm
      subst e
      exact ⟨Ex.refl _ _, rep2, .str _⟩
    · show z.cps.size ≤ i
      unfold sgnD at hl
      simpa using hl
  | _ => exact h1.elim
end RF

namespace RF
open PySem L2
theorem hu65 {A : Around} {k : Nat} (hr : Room k A) : A.units + 65 < cLine := by have := hr.un; omega
section
variable {X : Cx} {E : XK} {o e : Expr} {fo fv fa : EF} {pos pos' : Pos} {C : Addr} {f g : Str}
theorem xFldE (hf : f = g) (T : Cls X.K C) (N : NoAttr X.K C g) (he : PE X e (tE X.K E fo)) (hb : attributeBase e f X.env (eval e X.env) = eval e X.env := by rfl) : PE X (.Attribute e f pos) (tE X.K E (fFld C g fo)) := by
  subst hf; exact xFld T N he hb
theorem xSetFldE (hf : f = g) (T : Cls X.K C) (N : NoAttr X.K C g) (ho : PE X o (tE X.K E fo)) (hv : PE X e (tE X.K E fv)) (hs : swapsWith e (some (.Attribute o f pos')) pos.line X.env = pure false := by rfl) : PS X (.Assign [.Attribute o f pos'] e pos) (tS X.K E (fSetFld C g fo fv)) := by
  subst hf; exact xSetFld T N ho hv hs
/-- a module's constant int -/
theorem xGlobI {x : Str} {i : Int} (hg : Gl X x) (hm : ∃ t, X.mg x = some (.int i t)) (hd : (x == ("__debug__" : Str)) = false := by decide) : PE X (.Name x pos) (tE X.K E (fC (.int i))) := by
  obtain ⟨t, h⟩ := hm
  exact xGlob (v := .int i) hg h ⟨t, rfl⟩ (fun _ _ => .int i) hd
end
/-- a, b = a tuple or a list of that length -/
def gUnp (n : Nat) (gs : GsF) : GF := fun d env S => match seqD S d with
  | some ds => if ds.length = n then gs ds env S else .bad
  | none => .bad
theorem xgUnp {X : Cx} {E : XK} {es : List Expr} {pos : Pos} {k n : Nat} {gs : GsF} (hc : X.calm = true) (h : PGs X es (tGs X.K E gs)) (hn : (assignEach es X.env).length = n := by rfl) (hst : (assignEach es X.env).findIdx? (·.1) = none := by rfl) : PG X (.Tuple es k pos) (tG X.K E (gUnp n gs)) := by
  refine ⟨fun pins s σ H v u Q I r q => ?_⟩
  obtain ⟨L, env, S, d, rep, re, rd, q⟩ := q
  unfold gUnp at q
  cases h1 : seqD S d with
  | none => rw [h1] at q; exact q.elim
  | some ds =>
    rw [h1] at q
    simp only at q
    by_cases hl : ds.length = n
    · rw [if_pos hl] at q
      obtain ⟨a, vs, rfl, rs, k1⟩ := seqD_of rep rd h1
      rcases k1 with ⟨k1, _⟩ | ⟨k1, _⟩
      · exact (pg_unl hc h hn hst).run pins s σ H _ u Q I r ⟨a, vs, rfl, k1, by rw [rs.length]; exact hl, L, env, S, ds, rep, re, rs, q⟩
      · exact (pg_tup hc h hn hst).run pins s σ H _ u Q I r ⟨a, vs, rfl, .of k1, by rw [rs.length]; exact hl, L, env, S, ds, rep, re, rs, q⟩
    · rw [if_neg hl] at q; exact q.elim
theorem xTyIsT {X : Cx} {E : XK} {e : Expr} {fa : EF} {T : String} {x : Str} {p q pos pos' : Pos} (he : PE X e (tE X.K E fa)) (hT : bootBuiltins x = some (.type T)) (hgT : Gl X x) (hmT : X.mg x = none) (hg : Gl X "type") (hm : X.mg "type" = none)
    (hn : x ≠ "__name__" := by decide) (hd : (x == ("__debug__" : Str)) = false := by decide)
    (s1 : starEach [e] X.env = (false, eval e X.env) :: starEach [] X.env := by rfl) :
    PT X (.Compare (.Call (.Name "type" p) [e] [] pos) [.Is] [.Name x q] pos') (tT X.K E (fTest (fTyIs T false fa))) :=
  monoT (pt_cmpR op_isTyB (pe_callTy call_typeX hg hm (by decide +kernel) (pa_cons he pa_nil s1) (he := s1)) (pe_bltn (v := .ty T) hgT hmT hT rfl hn hd) (nomark _)) fun σ H Q h => by
    obtain ⟨L, env, S, rep, re, h⟩ := test_of h
    refine ⟨L, env, S, rep, re, (End.bind h).imp fun x S1 L1 H1 e1 rep1 h1 v rv => ?_⟩
    cases h2 : tyD S1 x with
    | none => rw [h2] at h1; exact h1.elim
    | some t =>
      rw [h2] at h1
      exact type_of rep1 rv h2 ⟨t, T, rfl, rfl, EndV.val h1 rep1 (.bl _)⟩
theorem xTyNotT {X : Cx} {E : XK} {e : Expr} {fa : EF} {T : String} {x : Str} {p q pos pos' : Pos} (he : PE X e (tE X.K E fa)) (hT : bootBuiltins x = some (.type T)) (hgT : Gl X x) (hmT : X.mg x = none) (hg : Gl X "type") (hm : X.mg "type" = none)
    (hn : x ≠ "__name__" := by decide) (hd : (x == ("__debug__" : Str)) = false := by decide)
    (s1 : starEach [e] X.env = (false, eval e X.env) :: starEach [] X.env := by rfl) :
    PT X (.Compare (.Call (.Name "type" p) [e] [] pos) [.IsNot] [.Name x q] pos') (tT X.K E (fTest (fTyIs T true fa))) :=
  monoT (pt_cmpR op_notTyB (pe_callTy call_typeX hg hm (by decide +kernel) (pa_cons he pa_nil s1) (he := s1)) (pe_bltn (v := .ty T) hgT hmT hT rfl hn hd) (nomark _)) fun σ H Q h => by
    obtain ⟨L, env, S, rep, re, h⟩ := test_of h
    refine ⟨L, env, S, rep, re, (End.bind h).imp fun x S1 L1 H1 e1 rep1 h1 v rv => ?_⟩
    cases h2 : tyD S1 x with
    | none => rw [h2] at h1; exact h1.elim
    | some t =>
      rw [h2] at h1
      exact type_of rep1 rv h2 ⟨t, T, rfl, rfl, EndV.val h1 rep1 (.bl _)⟩
/-- {} -/
def fDict0 : EF := fun _ S => .ok (.ref S.length) (S ++ [.dk []])
def fDictT0 : EF := fun _ S => .ok (.ref S.length) (S ++ [.dt []])
theorem xDict0 {X : Cx} {E : XK} {pos : Pos} : PE X (.Dict [] [] pos) (tE X.K E fDict0) :=
  monoE pe_dnewK fun σ H Q ⟨L, env, S, rep, re, h⟩ p hp => by
    have ex := Ex.newc (L := L) (o := .dK []) hp
    refine EndV.val (h.later ex) (rep.newc hp ⟨[], upd_same, trivial⟩) (.ref ?_)
    rw [← rep.len, List.getElem?_append_right (Nat.le_refl _)]
    simp
theorem xDictT0 {X : Cx} {E : XK} {pos : Pos} : PE X (.Dict [] [] pos) (tE X.K E fDictT0) :=
  monoE pe_dnewT fun σ H Q ⟨L, env, S, rep, re, h⟩ p hp => by
    have ex := Ex.newc (L := L) (o := .dT []) hp
    refine EndV.val (h.later ex) (rep.newc hp ⟨[], upd_same, trivial⟩) (.ref ?_)
    rw [← rep.len, List.getElem?_append_right (Nat.le_refl _)]
    simp
/-- the law's promise -/
def spLaw (K : PySem.W.Frag) : Sp := fun vs H Q _ => ∃ (a : Addr) (ns : List Int), vs = [.ref a] ∧ Only H ∧ SqL K H a (ns.map V.int) ∧ ns.length ≤ 63 ∧ (∀ z ∈ ns, Builtin.Int.intBits z ≤ 1048576) ∧ ∀ H1, Q (.bl true) H1
def isTrue1 : R D → Prop
  | .ok d _ => d = .bl true
  | _ => False
theorem ints_rd {K : PySem.W.Frag} {L : List Addr} {H : Hp} : ∀ ns : List Int, RDs K L H (ns.map V.int) (ns.map D.int)
  | [] => .nil
  | n :: ns => .cons (.int n) (ints_rd ns)
theorem law_sp {P : Program} {w : World} {K : PySem.W.Frag} {mg : Str → Option Value} {base : Heap} {k : Nat} {f : Addr} {fd : FuncData} {ps : List Str} {F : FF} (Fo : FnOk P w K mg base CX0 k f fd ps (spF K 1 F))
    (h : ∀ ns : List Int, ns.length ≤ 63 → (∀ z ∈ ns, Builtin.Int.intBits z ≤ 1048576) → isTrue1 (F [.rl (ns.map D.int)] [])) : FnOk P w K mg base CX0 k f fd ps (spLaw K) :=
  have key : ∀ vs H Q E, spLaw K vs H Q E → spF K 1 F vs H Q E := fun vs H Q E q => by
    obtain ⟨a, ns, rfl, hO, hS, hl, hb, k⟩ := q
    refine ⟨rfl, [], [.rl (ns.map D.int)], [], ⟨rfl, .nil, fun n a c h => by simp at h⟩, .cons (.rl (fun H1 hf => ?_) (ints_rd ns)) .nil, ?_⟩
    · rcases hS with (z | ⟨o, z⟩) | z
      · rcases hO a with z2 | ⟨o, xs, z2⟩ <;> rw [z] at z2 <;> cases z2
      · exact .inl (.inr ⟨o, hf _ _ _ z⟩)
      · exact .inr z
    · have t := h ns hl hb
      cases q : F [.rl (ns.map D.int)] [] with
      | ok d S =>
        rw [q] at t
        have t : d = .bl true := t
        subst t
        intro L1 H1 _ _ v rv
        cases rv
        exact k H1
      | ex c S => rw [q] at t; exact t.elim
      | bad => rw [q] at t; exact t.elim
  ⟨fun vs H Q E q => Fo.len vs H Q E (key _ _ _ _ q), fun A outer s H args us vs Q E hr he hb hv q => Fo.run A outer s H args us vs Q E hr he hb hv (key _ _ _ _ q)⟩
end RF

/-! running the functions by rewriting -/
namespace RF
open PySem L2

theorem bind_congr' {α β : Type} {x y : R α} {k : α → Sto → R β} (h : x = y) : x.bind k = y.bind k := by rw [h]
theorem nox_congr' {α : Type} {x y : R α} (h : x = y) : x.nox = y.nox := by rw [h]
theorem nox_bad' {α : Type} : (R.bad : R α).nox = .bad := (rfl)

section
variable {α : Type} {i n m : Nat} {env : Lc} {S : Sto} {d x y z : D} {ds xs : List D} {f g fa fb fc fo : EF} {fs : AF} {ft fu : BF} {sf sg : SF} {gf : GF} {gs : GsF} {o o' : Op2} {u : Op1} {b : Bool} {C : Addr} {nm : Str} {F : FF} {dds : List D} {fi : IF} {e : Lc} {fl : Fl}
def varK : Option (Option D) → Sto → R D
  | some (some d), S => .ok d S
  | _, _ => .bad
theorem ap_fVar : fVar i env S = varK env[i]? S := by
  unfold fVar varK
  cases env[i]? with
  | none => rfl
  | some o => cases o <;> rfl
theorem varK_some : varK (some (some d)) S = .ok d S := (rfl)
theorem ap_fC : fC d env S = .ok d S := (rfl)
def binK (o : Op2) (fb : EF) (env : Lc) : D → Sto → R D := fun x S1 => (fb env S1).bind fun y S2 => o x y S2
theorem ap_fBin : fBin o fa fb env S = (fa env S).bind (binK o fb env) := (rfl)
theorem ap_binK : binK o fb env x S = (fb env S).bind (o x) := (rfl)
theorem ap_fUn : fUn u fa env S = (fa env S).bind u := (rfl)
theorem ap_fApp {oN : OpN} : fApp oN fs env S = (fs env S).bind oN := (rfl)
theorem ap_fNil : fNil env S = .ok [] S := (rfl)
def consK (fs : AF) (env : Lc) : D → Sto → R (List D) := fun x S1 => (fs env S1).bind fun xs S2 => .ok (x :: xs) S2
def consK2 (x : D) : List D → Sto → R (List D) := fun xs S2 => .ok (x :: xs) S2
theorem ap_fCons : fCons fa fs env S = (fa env S).bind (consK fs env) := (rfl)
theorem ap_consK : consK fs env x S = (fs env S).bind (consK2 x) := (rfl)
theorem ap_consK2 : consK2 x xs S = .ok (x :: xs) S := (rfl)
def tupK : List D → Sto → R D := fun xs S1 => if xs.length ≤ 100000 then .ok (.tup xs) S1 else .bad
def lstK : List D → Sto → R D := fun xs S1 => if xs.length ≤ 100000 then .ok (.ref S1.length) (S1 ++ [.lst xs]) else .bad
theorem ap_fTup : fTup fs env S = (fs env S).bind tupK := (rfl)
theorem ap_fLst : fLst fs env S = (fs env S).bind lstK := (rfl)
theorem ap_tupK : tupK xs S = if xs.length ≤ 100000 then .ok (.tup xs) S else .bad := (rfl)
theorem ap_lstK : lstK xs S = if xs.length ≤ 100000 then .ok (.ref S.length) (S ++ [.lst xs]) else .bad := (rfl)
def testK : D → Sto → R Bool := fun x S1 => match x with | .bl b => .ok b S1 | _ => .bad
theorem ap_fTest : fTest fa env S = (fa env S).bind testK := (rfl)
theorem ap_testK : testK (.bl b) S = .ok b S := (rfl)
def valK' : Bool → Sto → R D := fun b S1 => .ok (.bl b) S1
theorem ap_fVal : fVal ft env S = (ft env S).bind valK' := (rfl)
theorem ap_valK : valK' b S = .ok (.bl b) S := (rfl)
def andK (g : BF) (env : Lc) : Bool → Sto → R Bool := fun b S1 => if b = true then g env S1 else .ok false S1
def orK (g : BF) (env : Lc) : Bool → Sto → R Bool := fun b S1 => if b = true then .ok true S1 else g env S1
def notK : Bool → Sto → R Bool := fun b S1 => .ok (!b) S1
theorem ap_fAnd : fAnd ft fu env S = (ft env S).bind (andK fu env) := (rfl)
theorem ap_fOr : fOr ft fu env S = (ft env S).bind (orK fu env) := (rfl)
theorem ap_fNot : fNot ft env S = (ft env S).bind notK := (rfl)
theorem ap_andK : andK fu env b S = if b = true then fu env S else .ok false S := (rfl)
theorem ap_orK : orK fu env b S = if b = true then .ok true S else fu env S := (rfl)
theorem ap_notK : notK b S = .ok (!b) S := (rfl)
def andVK (g : EF) (env : Lc) : D → Sto → R D := fun x S1 => match x with | .bl b => (if b = true then g env S1 else .ok (.bl false) S1) | _ => .bad
def orVK (g : EF) (env : Lc) : D → Sto → R D := fun x S1 => match x with | .bl b => (if b = true then .ok (.bl true) S1 else g env S1) | _ => .bad
def notVK : D → Sto → R D := fun x S1 => match x with | .bl b => .ok (.bl (!b)) S1 | _ => .bad
theorem ap_fAndV : fAndV fa fb env S = (fa env S).bind (andVK fb env) := (rfl)
theorem ap_fOrV : fOrV fa fb env S = (fa env S).bind (orVK fb env) := (rfl)
theorem ap_fNotV : fNotV fa env S = (fa env S).bind notVK := (rfl)
theorem ap_andVK : andVK fb env (.bl b) S = if b = true then fb env S else .ok (.bl false) S := (rfl)
theorem ap_orVK : orVK fb env (.bl b) S = if b = true then .ok (.bl true) S else fb env S := (rfl)
theorem ap_notVK : notVK (.bl b) S = .ok (.bl (!b)) S := (rfl)
def ifEK (f g : EF) (env : Lc) : Bool → Sto → R D := fun b S1 => if b = true then f env S1 else g env S1
theorem ap_fIfE : fIfE ft fa fb env S = (ft env S).bind (ifEK fa fb env) := (rfl)
theorem ap_ifEK : ifEK fa fb env b S = if b = true then fa env S else fb env S := (rfl)
def chK1 (o o' : Op2) (fb fc : EF) (env : Lc) : D → Sto → R D := fun x S1 => (fb env S1).bind fun y S2 => (o x y S2).bind fun z S3 => match z with
  | .bl b => if b = true then (fc env S3).bind fun w S4 => o' y w S4 else .ok (.bl false) S3
  | _ => .bad
def chK2 (o o' : Op2) (fc : EF) (env : Lc) (x : D) : D → Sto → R D := fun y S2 => (o x y S2).bind fun z S3 => match z with
  | .bl b => if b = true then (fc env S3).bind fun w S4 => o' y w S4 else .ok (.bl false) S3
  | _ => .bad
def chK3 (o' : Op2) (fc : EF) (env : Lc) (y : D) : D → Sto → R D := fun z S3 => match z with
  | .bl b => if b = true then (fc env S3).bind fun w S4 => o' y w S4 else .ok (.bl false) S3
  | _ => .bad
theorem ap_fChain : fChain o o' fa fb fc env S = (fa env S).bind (chK1 o o' fb fc env) := (rfl)
theorem ap_chK1 : chK1 o o' fb fc env x S = (fb env S).bind (chK2 o o' fc env x) := (rfl)
theorem ap_chK2 : chK2 o o' fc env x y S = (o x y S).bind (chK3 o' fc env y) := (rfl)
theorem ap_chK3 : chK3 o' fc env y (.bl b) S = if b = true then (fc env S).bind (o' y) else .ok (.bl false) S := (rfl)

/-! statements -/
theorem ap_fSkip : fSkip env S = .ok (.nx env) S := (rfl)
theorem ap_fBrk : fBrk env S = .ok (.bk env) S := (rfl)
theorem ap_fCnt : fCnt env S = .ok (.ct env) S := (rfl)
def seqK (g : SF) : Fl → Sto → R Fl := fun fl S1 => match fl with | .nx e => g e S1 | .rt d => .ok (.rt d) S1 | .bk e => .ok (.bk e) S1 | .ct e => .ok (.ct e) S1
theorem ap_fSeq : fSeq sf sg env S = (sf env S).bind (seqK sg) := (rfl)
theorem ap_seqK_nx : seqK sg (.nx e) S = sg e S := (rfl)
theorem ap_seqK_rt : seqK sg (.rt d) S = .ok (.rt d) S := (rfl)
theorem ap_seqK_bk : seqK sg (.bk e) S = .ok (.bk e) S := (rfl)
theorem ap_seqK_ct : seqK sg (.ct e) S = .ok (.ct e) S := (rfl)
def ifK (f g : SF) (env : Lc) : Bool → Sto → R Fl := fun b S1 => if b = true then f env S1 else g env S1
theorem ap_fIf : fIf ft sf sg env S = (ft env S).bind (ifK sf sg env) := (rfl)
theorem ap_ifK : ifK sf sg env b S = if b = true then sf env S else sg env S := (rfl)
def retK : D → Sto → R Fl := fun d S1 => .ok (.rt d) S1
theorem ap_fRet : fRet fa env S = (fa env S).bind retK := (rfl)
theorem ap_retK : retK d S = .ok (.rt d) S := (rfl)
theorem ap_fRetN : fRetN env S = .ok (.rt .non) S := (rfl)
def dropK' (env : Lc) : D → Sto → R Fl := fun _ S1 => .ok (.nx env) S1
theorem ap_fDrop : fDrop fa env S = (fa env S).bind (dropK' env) := (rfl)
theorem ap_dropK : dropK' env d S = .ok (.nx env) S := (rfl)
def asgK (g : GF) (env : Lc) : D → Sto → R Fl := fun d S1 => (g d env S1).bind fun env1 S2 => .ok (.nx env1) S2
def asgK2 : Lc → Sto → R Fl := fun env1 S2 => .ok (.nx env1) S2
theorem ap_fAsg : fAsg fa gf env S = (fa env S).bind (asgK gf env) := (rfl)
theorem ap_asgK : asgK gf env d S = (gf d env S).bind asgK2 := (rfl)
theorem ap_asgK2 : asgK2 env S = .ok (.nx env) S := (rfl)
theorem ap_gN : gN i d env S = .ok (env.set i (some d)) S := (rfl)
theorem ap_gNil : gNil' [] env S = .ok env S := (rfl)
def gsK (gs : GsF) (r : List D) : Lc → Sto → R Lc := fun env1 S1 => gs r env1 S1
theorem ap_gCons : gCons' gf gs (d :: ds) env S = (gf d env S).bind (gsK gs ds) := (rfl)
theorem ap_gsK : gsK gs ds env S = gs ds env S := (rfl)
def unpK (n : Nat) (gs : GsF) (env : Lc) : Option (List D) → Sto → R Lc
  | some ds, S => if ds.length = n then gs ds env S else .bad
  | none, _ => .bad
theorem ap_gUnp : gUnp n gs d env S = unpK n gs env (seqD S d) S := by unfold gUnp; cases seqD S d <;> rfl
theorem ap_unpK : unpK n gs env (some ds) S = if ds.length = n then gs ds env S else .bad := (rfl)
def subK1 (fi : EF) (d : D) (env : Lc) : D → Sto → R Lc := fun x S1 => (fi env S1).bind fun y S2 => (oSet x y d S2).bind fun _ S3 => .ok env S3
def subK2 (x d : D) (env : Lc) : D → Sto → R Lc := fun y S2 => (oSet x y d S2).bind fun _ S3 => .ok env S3
def subK3 (env : Lc) : Unit → Sto → R Lc := fun _ S3 => .ok env S3
theorem ap_gSub : gSub' fo fa d env S = (fo env S).bind (subK1 fa d env) := (rfl)
theorem ap_subK1 : subK1 fa d env x S = (fa env S).bind (subK2 x d env) := (rfl)
theorem ap_subK2 : subK2 x d env y S = (oSet x y d S).bind (subK3 env) := (rfl)
theorem ap_subK3 {u : Unit} : subK3 env u S = .ok env S := (rfl)

/-! subscripts -/
def ixK (fb : EF) (env : Lc) : D → Sto → R D := fun x S1 => if isDict S1 x = true then (fb env S1).bind fun y S2 => oGetD x y S2 else (fb env S1).bind fun y S2 => oGetL x y S2
theorem ap_fIx : fIx fa fb env S = (fa env S).bind (ixK fb env) := (rfl)
theorem ap_ixK : ixK fb env x S = if isDict S x = true then (fb env S).bind (oGetD x) else (fb env S).bind (oGetL x) := (rfl)
def isDictC : Option Cell → Bool
  | some (.dk _) => true
  | some (.dt _) => true
  | _ => false
theorem isDict_ref : isDict S (.ref n) = isDictC S[n]? := by unfold isDict isDictC; rfl
theorem isDict_tup : isDict S (.tup xs) = false := (rfl)
theorem isDict_rl : isDict S (.rl xs) = false := (rfl)
theorem isDict_str {t : Str} : isDict S (.str t) = false := (rfl)
theorem isDictC_lst : isDictC (some (.lst xs)) = false := (rfl)
theorem isDictC_dk {kvs : List (Key × D)} : isDictC (some (.dk kvs)) = true := (rfl)
theorem isDictC_dt {kvs : List (List Key × D)} : isDictC (some (.dt kvs)) = true := (rfl)
theorem getL_tup {j : Int} : oGetL (.tup xs) (.int j) S = retO S (atI xs j) := (rfl)
theorem getL_rl {j : Int} : oGetL (.rl xs) (.int j) S = retO S (atI xs j) := (rfl)
theorem getL_str {t : Str} {j : Int} : oGetL (.str t) (.int j) S = if t.length ≤ 100000 then retO S ((atI t.cps.toList j).map fun c => .str ⟨#[c]⟩) else .bad := (rfl)
def getLC (S : Sto) (j : Int) : Option Cell → R D
  | some (.lst xs) => retO S (atI xs j)
  | _ => .bad
theorem getL_ref {j : Int} : oGetL (.ref n) (.int j) S = getLC S j S[n]? := by unfold oGetL getLC; rfl
theorem getLC_lst {j : Int} : getLC S j (some (.lst xs)) = retO S (atI xs j) := (rfl)
theorem retO_some : retO S (some d) = .ok d S := (rfl)
theorem atI_0 {a : α} {l : List α} : atI (a :: l) 0 = some a := by
  have h := L2.atI_nat (xs := a :: l) (j := 0) (v := a) rfl
  exact h
theorem atI_1 {a b : α} {l : List α} : atI (a :: b :: l) 1 = some b := by
  have h := L2.atI_nat (xs := a :: b :: l) (j := 1) (v := b) rfl
  exact h
theorem atI_2 {a b c : α} {l : List α} : atI (a :: b :: c :: l) 2 = some c := by
  have h := L2.atI_nat (xs := a :: b :: c :: l) (j := 2) (v := c) rfl
  exact h
theorem atI_3 {a b c d : α} {l : List α} : atI (a :: b :: c :: d :: l) 3 = some d := by
  have h := L2.atI_nat (xs := a :: b :: c :: d :: l) (j := 3) (v := d) rfl
  exact h
theorem atI_nn {l : List α} {j : Int} (h0 : 0 ≤ j) : atI l j = l[j.toNat]? := by
  unfold atI ixN
  by_cases h : j < l.length
  · simp [h0, h]
  · simp [h0, h]
def setC (S : Sto) (n : Nat) (y d : D) : Option Cell → R Unit
  | some (.lst xs) => match y with
      | .int i => match ixN xs.length i with
        | some j => .ok () (S.set n (.lst (xs.set j d)))
        | none => .bad
      | _ => .bad
  | some (.dk kvs) => match keyD y with
      | some k => if kvs.length < 100000 then .ok () (S.set n (.dk (putKD kvs k d))) else .bad
      | none => .bad
  | some (.dt kvs) => match keysD y with
      | some k => if kvs.length < 100000 then .ok () (S.set n (.dt (putKD kvs k d))) else .bad
      | none => .bad
  | _ => .bad
theorem oSet_ref : oSet (.ref n) y d S = setC S n y d S[n]? := by unfold oSet setC; rfl
def setLK (S : Sto) (n : Nat) (xs : List D) (d : D) : Option Nat → R Unit
  | some j => .ok () (S.set n (.lst (xs.set j d)))
  | none => .bad
theorem setC_lst {j : Int} : setC S n (.int j) d (some (.lst xs)) = setLK S n xs d (ixN xs.length j) := by unfold setC setLK; rfl
theorem setLK_some {j : Nat} : setLK S n xs d (some j) = .ok () (S.set n (.lst (xs.set j d))) := (rfl)
theorem ixN_0 {k : Nat} : ixN (k + 1) 0 = some 0 := by unfold ixN; simp
theorem ixN_1 {k : Nat} : ixN (k + 2) 1 = some 1 := by unfold ixN; simp; omega

/-! calls -/
def callK (F : FF) (n : Nat) (dds : List D) : List D → Sto → R D := fun ds S1 => if ds.length + dds.length = n then (F (ds ++ dds) S1).nox else .bad
theorem ap_fCall : fCall F n dds fs env S = (fs env S).bind (callK F n dds) := (rfl)
theorem ap_callK : callK F n dds ds S = if ds.length + dds.length = n then (F (ds ++ dds) S).nox else .bad := (rfl)
def fnK : Fl → Sto → R D := fun fl S1 => match fl with
  | .nx _ => .ok .non S1
  | .rt d => .ok d S1
  | _ => .bad
theorem ap_fnF : fnF m sf ds S = (sf (ds.map some ++ List.replicate (m - ds.length) none) S).bind fnK := (rfl)
theorem ap_fnK_nx : fnK (.nx e) S = .ok .non S := (rfl)
theorem ap_fnK_rt : fnK (.rt d) S = .ok d S := (rfl)
end

/-! operators -/
section
variable {i j : Int} {S : Sto} {x y d : D} {b c : Bool} {xs ys ds : List D} {n m : Nat}
theorem o_add : oAdd (.int i) (.int j) S = .ok (.int (i + j)) S := (rfl)
def addC (S : Sto) : Option Cell → Option Cell → R D
  | some (.lst xs), some (.lst ys) => if xs.length + ys.length ≤ 100000 then .ok (.ref S.length) (S ++ [.lst (xs ++ ys)]) else .bad
  | _, _ => .bad
theorem o_addR : oAdd (.ref n) (.ref m) S = addC S S[n]? S[m]? := by unfold oAdd addC; rfl
theorem o_addC : addC S (some (.lst xs)) (some (.lst ys)) = if xs.length + ys.length ≤ 100000 then .ok (.ref S.length) (S ++ [.lst (xs ++ ys)]) else .bad := (rfl)
theorem o_addS {z w : Str} : oAdd (.str z) (.str w) S = if z.length + w.length ≤ 100000 then .ok (.str (z ++ w)) S else .bad := (rfl)
theorem o_addT : oAdd (.tup xs) (.tup ys) S = if xs.length + ys.length ≤ 100000 then .ok (.tup (xs ++ ys)) S else .bad := (rfl)
theorem o_sub : oSub (.int i) (.int j) S = .ok (.int (i - j)) S := (rfl)
theorem o_mul : oMul (.int i) (.int j) S = if (-(2 ^ 64) < i ∧ i < 2 ^ 64) ∨ (-(2 ^ 64) < j ∧ j < 2 ^ 64) then .ok (.int (i * j)) S else .bad := by
  show (if cMul i j = true then _ else _) = _
  unfold cMul
  by_cases h : (-(2 ^ 64) < i ∧ i < 2 ^ 64) ∨ (-(2 ^ 64) < j ∧ j < 2 ^ 64)
  · rw [decide_eq_true h, if_pos rfl, if_pos h]
  · rw [decide_eq_false h, if_neg h]; rfl
theorem o_mod : oMod (.int i) (.int j) S = if 0 < j then .ok (.int (i % j)) S else .bad := by
  show (if decide (0 < j) = true then _ else _) = _
  by_cases h : 0 < j
  · rw [decide_eq_true h, if_pos rfl, if_pos h]
  · rw [decide_eq_false h, if_neg h]; rfl
theorem o_div : oDiv (.int i) (.int j) S = if 0 < j ∧ j < 1267650600228229401496703205376 then .ok (.int (i / j)) S else .bad := by
  rw [show (1267650600228229401496703205376 : Int) = 2 ^ 100 from by decide]
  show (if cDiv i j = true then _ else _) = _
  unfold cDiv
  by_cases h : 0 < j ∧ j < 2 ^ 100
  · rw [decide_eq_true h, if_pos rfl, if_pos h]
  · rw [decide_eq_false h, if_neg h]; rfl
theorem o_pow : oPow (.int i) (.int j) S = if 0 ≤ j ∧ j ≤ 1000 ∧ -18446744073709551616 < i ∧ i < 18446744073709551616 then .ok (.int (i ^ j.toNat)) S else .bad := by
  show (if cPow i j = true then _ else _) = _
  have e : (0 ≤ j ∧ j ≤ 1000 ∧ i.natAbs < 2 ^ 64) = (0 ≤ j ∧ j ≤ 1000 ∧ -18446744073709551616 < i ∧ i < 18446744073709551616) := by
    have e1 : (i.natAbs < 2 ^ 64) = (-18446744073709551616 < i ∧ i < 18446744073709551616) := propext ⟨fun h => ⟨by omega, by omega⟩, fun h => by omega⟩
    rw [e1]
  unfold cPow
  simp only [e, decide_eq_true_eq]
theorem o_neg : oNeg (.int i) S = .ok (.int (-i)) S := (rfl)
theorem o_lt : oLt (.int i) (.int j) S = .ok (.bl (decide (i < j))) S := (rfl)
theorem o_le : oLe (.int i) (.int j) S = .ok (.bl (decide (i ≤ j))) S := (rfl)
theorem o_gt : oGt (.int i) (.int j) S = .ok (.bl (decide (j < i))) S := (rfl)
theorem o_ge : oGe (.int i) (.int j) S = .ok (.bl (decide (j ≤ i))) S := (rfl)
theorem o_int : oInt [.int i] S = .ok (.int i) S := (rfl)
theorem o_min2 : oMin2 [.int i, .int j] S = .ok (.int (if j < i then j else i)) S := (rfl)
theorem o_max2 : oMax2 [.int i, .int j] S = .ok (.int (if j > i then j else i)) S := (rfl)
theorem o_leS1 {a b : Nat} : oLeS (.str ⟨#[a]⟩) (.str ⟨#[b]⟩) S = .ok (.bl (decide (a ≤ b))) S := by
  have e : (!decide (([b] : List Nat) < [a])) = decide (a ≤ b) := by
    rw [← decide_not]
    congr 1
    simp [List.cons_lt_cons_iff]
  show R.ok (D.bl (!decide (([b] : List Nat) < [a]))) S = _
  rw [e]
theorem o_inS1 {k : Nat} {z : Str} {neg : Bool} : oInS neg (.str ⟨#[k]⟩) (.str z) S = .ok (.bl (if neg = true then !decide (k ∈ z.cps.toList) else decide (k ∈ z.cps.toList))) S := (rfl)
theorem o_isB : oIsB (.bl b) (.bl c) S = .ok (.bl (decide (b = c))) S := (rfl)
def eqK (S : Sto) : Option PyData → Option PyData → R D
  | some p, some q => .ok (.bl (PyData.eqv p q)) S
  | _, _ => .bad
def neK (S : Sto) : Option PyData → Option PyData → R D
  | some p, some q => .ok (.bl (!PyData.eqv p q)) S
  | _, _ => .bad
theorem o_eq : oEq x y S = eqK S (toP S 20 x) (toP S 20 y) := by unfold oEq eqK; rfl
theorem o_ne : oNe x y S = neK S (toP S 20 x) (toP S 20 y) := by unfold oNe neK; rfl
theorem eqK_some {p q : PyData} : eqK S (some p) (some q) = .ok (.bl (PyData.eqv p q)) S := (rfl)
theorem neK_some {p q : PyData} : neK S (some p) (some q) = .ok (.bl (!PyData.eqv p q)) S := (rfl)
theorem eqv_int : PyData.eqv (.int i) (.int j) = (i == j) := by simp only [PyData.eqv]
theorem eqv_bool : PyData.eqv (.bool b) (.bool c) = (b == c) := by simp only [PyData.eqv]
theorem toP_int {k : Nat} : toP S k (.int i) = some (.int i) := by cases k <;> rfl
theorem toP_bl {k : Nat} : toP S k (.bl b) = some (.bool b) := by cases k <;> rfl
theorem toP_non {k : Nat} : toP S k .non = some .none := by cases k <;> rfl
theorem toP_str {k : Nat} {t : Str} : toP S k (.str t) = if PyData.strOk t = true then some (.str t) else none := by cases k <;> rfl
theorem toP_tup {k : Nat} : toP S (k + 1) (.tup xs) = (xs.mapM (toP S k)).map .tuple := (rfl)
theorem toP_rl {k : Nat} : toP S (k + 1) (.rl xs) = (xs.mapM (toP S k)).map .list := (rfl)
def toPC (S : Sto) (k : Nat) : Option Cell → Option PyData
  | some (.lst xs) => (xs.mapM (toP S k)).map .list
  | _ => none
theorem toP_ref {k : Nat} : toP S (k + 1) (.ref n) = toPC S k S[n]? := by unfold toP toPC; rfl
theorem toPC_lst {k : Nat} : toPC S k (some (.lst xs)) = (xs.mapM (toP S k)).map .list := (rfl)
theorem toP_mapM_nil {f : D → Option PyData} : List.mapM f [] = some [] := (rfl)
def consO (a : Option PyData) (l : Option (List PyData)) : Option (List PyData) := match a, l with
  | some x, some xs => some (x :: xs)
  | _, _ => none
theorem toP_mapM_cons {f : D → Option PyData} : List.mapM f (d :: ds) = consO (f d) (ds.mapM f) := by
  rw [List.mapM_cons]
  cases f d with
  | none => rfl
  | some p => cases ds.mapM f <;> rfl
theorem toP_consO {p : PyData} {ps : List PyData} : consO (some p) (some ps) = some (p :: ps) := (rfl)
def lenK (S : Sto) : Option Nat → R D
  | some n => .ok (.int (n : Nat)) S
  | none => .bad
theorem o_len : oLen [x] S = lenK S (lenD S x) := by unfold oLen lenK; rfl
theorem lenK_some {k : Nat} : lenK S (some k) = .ok (.int (k : Nat)) S := (rfl)
theorem lenD_tup : lenD S (.tup xs) = some xs.length := (rfl)
theorem lenD_rl : lenD S (.rl xs) = some xs.length := (rfl)
theorem lenD_str {t : Str} : lenD S (.str t) = if t.length ≤ 100000 then some t.length else none := (rfl)
def lenC : Option Cell → Option Nat
  | some (.lst xs) => some xs.length
  | some (.dk kvs) => some kvs.length
  | some (.dt kvs) => some kvs.length
  | _ => none
theorem lenD_ref : lenD S (.ref n) = lenC S[n]? := by unfold lenD lenC; rfl
theorem lenC_lst : lenC (some (.lst xs)) = some xs.length := (rfl)
end

/-! types, loops, texts -/
section
variable {S : Sto} {d x : D} {xs ds acc : List D} {env e : Lc} {fa el : EF} {T t : String} {neg b : Bool} {g : GF} {body : SF} {fi : IF} {n i : Nat} {fs : AF} {ft : BF}
def isiK2 (S : Sto) : Option Bool → R D
  | some b => .ok (.bl b) S
  | none => .bad
def isiK (T : String) (S : Sto) : Option String → R D
  | some t => isiK2 S (isiD t T)
  | none => .bad
def isiK0 (T : String) : D → Sto → R D := fun x S1 => match tyD S1 x with
  | some t => match isiD t T with
    | some b => .ok (.bl b) S1
    | none => .bad
  | none => .bad
theorem ap_fIsi : fIsi T fa env S = (fa env S).bind (isiK0 T) := (rfl)
theorem ap_isiK0 : isiK0 T x S = isiK T S (tyD S x) := by unfold isiK0 isiK isiK2; cases tyD S x with
  | none => rfl
  | some t => cases isiD t T <;> rfl
theorem ap_isiK : isiK T S (some t) = isiK2 S (isiD t T) := (rfl)
theorem ap_isiK2 : isiK2 S (some b) = .ok (.bl b) S := (rfl)
def tyK (T : String) (neg : Bool) (S : Sto) : Option String → R D
  | some t => .ok (.bl (if neg = true then !decide (t = T) else decide (t = T))) S
  | none => .bad
def tyK0 (T : String) (neg : Bool) : D → Sto → R D := fun x S1 => match tyD S1 x with
  | some t => .ok (.bl (if neg = true then !decide (t = T) else decide (t = T))) S1
  | none => .bad
theorem ap_fTyIs : fTyIs T neg fa env S = (fa env S).bind (tyK0 T neg) := (rfl)
theorem ap_tyK0 : tyK0 T neg x S = tyK T neg S (tyD S x) := by unfold tyK0 tyK; cases tyD S x <;> rfl
theorem ap_tyK : tyK T neg S (some t) = .ok (.bl (if neg = true then !decide (t = T) else decide (t = T))) S := (rfl)
def forK (g : GF) (body : SF) (env : Lc) : It' → Sto → R Fl := fun it S1 => match it with
  | .fix xs => loopX g body xs env S1
  | .live n xs => loopL n g body xs 0 env S1
theorem ap_fFor : fFor fi g body env S = (fi env S).bind (forK g body env) := (rfl)
theorem ap_forK_fix : forK g body env (.fix xs) S = loopX g body xs env S := (rfl)
theorem ap_forK_live : forK g body env (.live n xs) S = loopL n g body xs 0 env S := (rfl)
theorem loopX_nil : loopX g body [] env S = .ok (.nx env) S := (rfl)
def turnK (g : GF) (body : SF) (xs : List D) : Fl → Sto → R Fl := fun fl S2 => match fl with
    | .nx e => loopX g body xs e S2
    | .ct e => loopX g body xs e S2
    | .bk e => .ok (.nx e) S2
    | .rt d => .ok (.rt d) S2
def turnK0 (g : GF) (body : SF) (xs : List D) : Lc → Sto → R Fl := fun env1 S1 => (body env1 S1).bind (turnK g body xs)
theorem loopX_cons : loopX g body (d :: xs) env S = (g d env S).bind (turnK0 g body xs) := (rfl)
theorem ap_turnK0 : turnK0 g body xs env S = (body env S).bind (turnK g body xs) := (rfl)
theorem ap_turnK_nx : turnK g body xs (.nx e) S = loopX g body xs e S := (rfl)
theorem ap_turnK_ct : turnK g body xs (.ct e) S = loopX g body xs e S := (rfl)
theorem ap_turnK_bk : turnK g body xs (.bk e) S = .ok (.nx e) S := (rfl)
theorem ap_turnK_rt : turnK g body xs (.rt d) S = .ok (.rt d) S := (rfl)
def rng1K : List D → Sto → R It' := fun ds S1 => match ds with
  | [.int j] => if -(2 ^ 62) ≤ j ∧ j < 2 ^ 62 then .ok (.fix (rngD 0 j.toNat)) S1 else .bad
  | _ => .bad
theorem ap_fRng1 : fRng1 fs env S = (fs env S).bind rng1K := (rfl)
theorem ap_rng1K {j : Int} : rng1K [.int j] S = if -(2 ^ 62) ≤ j ∧ j < 2 ^ 62 then .ok (.fix (rngD 0 j.toNat)) S else .bad := (rfl)
def iterC (S : Sto) (n : Nat) : Option Cell → R It'
  | some (.lst xs) => .ok (.live n xs) S
  | _ => .bad
def iterK : D → Sto → R It' := fun d S1 => match d with
  | .rl xs => .ok (.fix xs) S1
  | .tup xs => .ok (.fix xs) S1
  | .ref n => match S1[n]? with
    | some (.lst xs) => .ok (.live n xs) S1
    | _ => .bad
  | _ => .bad
theorem ap_fIter : fIter fa env S = (fa env S).bind iterK := (rfl)
theorem ap_iterK_rl : iterK (.rl xs) S = .ok (.fix xs) S := (rfl)
theorem ap_iterK_tup : iterK (.tup xs) S = .ok (.fix xs) S := (rfl)
theorem ap_iterK_ref : iterK (.ref n) S = iterC S n S[n]? := by unfold iterK iterC; rfl
theorem iterC_lst : iterC S n (some (.lst xs)) = .ok (.live n xs) S := (rfl)
def iterSK : D → Sto → R It' := fun x S1 => match x with
  | .str z => .ok (.fix (sgnD z)) S1
  | _ => .bad
theorem ap_fIterS : fIterS fa env S = (fa env S).bind iterSK := (rfl)
theorem ap_iterSK {z : Str} : iterSK (.str z) S = .ok (.fix (sgnD z)) S := (rfl)
def compK (i : Nat) (ft : BF) (fe : EF) (env : Lc) : It' → Sto → R D := fun it S1 => match it with
  | .fix xs => compX i ft fe (env.set i none) xs [] S1
  | .live n xs => compL n i ft fe (env.set i none) xs 0 [] S1
theorem ap_fComp : fComp fi i ft el env S = (fi env S).bind (compK i ft el env) := (rfl)
theorem ap_compK_fix : compK i ft el env (.fix xs) S = compX i ft el (env.set i none) xs [] S := (rfl)
theorem ap_compK_live : compK i ft el env (.live n xs) S = compL n i ft el (env.set i none) xs 0 [] S := (rfl)
theorem compX_nil : compX i ft el env [] acc S = .ok (.ref S.length) (S ++ [.lst acc]) := (rfl)
def compTK (i : Nat) (ft : BF) (el : EF) (env : Lc) (d : D) (xs acc : List D) : Bool → Sto → R D := fun b S1 => if b = true then ((el (env.set i (some d)) S1).nox.bind fun y S2 => if acc.length < 100000 then compX i ft el env xs (acc ++ [y]) S2 else .bad) else compX i ft el env xs acc S1
def compEK (i : Nat) (ft : BF) (el : EF) (env : Lc) (xs acc : List D) : D → Sto → R D := fun y S2 => if acc.length < 100000 then compX i ft el env xs (acc ++ [y]) S2 else .bad
theorem compX_cons : compX i ft el env (d :: xs) acc S = (ft (env.set i (some d)) S).nox.bind (compTK i ft el env d xs acc) := (rfl)
theorem ap_compTK : compTK i ft el env d xs acc b S = if b = true then ((el (env.set i (some d)) S).nox.bind (compEK i ft el env xs acc)) else compX i ft el env xs acc S := (rfl)
theorem ap_compEK : compEK i ft el env xs acc d S = if acc.length < 100000 then compX i ft el env xs (acc ++ [d]) S else .bad := (rfl)
theorem ap_fYes : fYes env S = .ok true S := (rfl)
theorem ap_fDict0 : fDict0 env S = .ok (.ref S.length) (S ++ [.dk []]) := (rfl)
theorem ap_fDictT0 : fDictT0 env S = .ok (.ref S.length) (S ++ [.dt []]) := (rfl)
def slK1 (pl ph : PF) (env : Lc) : D → Sto → R D := fun x S1 => (pl env S1).bind fun l S2 => (ph env S2).bind fun h S3 => oSl x l h S3
def slK2 (ph : PF) (env : Lc) (x : D) : Option Int → Sto → R D := fun l S2 => (ph env S2).bind fun h S3 => oSl x l h S3
theorem ap_fSl {pl ph : PF} : fSl fa pl ph env S = (fa env S).bind (slK1 pl ph env) := (rfl)
theorem ap_slK1 {pl ph : PF} : slK1 pl ph env x S = (pl env S).bind (slK2 ph env x) := (rfl)
theorem ap_slK2 {ph : PF} {l : Option Int} : slK2 ph env x l S = (ph env S).bind (oSl x l) := (rfl)
theorem ap_pNo : pNo env S = .ok none S := (rfl)
def pSoK : D → Sto → R (Option Int) := fun x S1 => match x with
  | .int i => .ok (some i) S1
  | _ => .bad
theorem ap_pSo : pSo fa env S = (fa env S).bind pSoK := (rfl)
theorem ap_pSoK {j : Int} : pSoK (.int j) S = .ok (some j) S := (rfl)
theorem oSl_tup {l h : Option Int} : oSl (.tup xs) l h S = .ok (.tup (cutD xs l h)) S := (rfl)
theorem oSl_str {z : Str} {l h : Option Int} : oSl (.str z) l h S = if z.length ≤ 100000 then .ok (.str ⟨(cutD z.cps.toList l h).toArray⟩) S else .bad := (rfl)
def bmK (T : String) (o : OpM) (fs : AF) (env : Lc) : D → Sto → R D := fun x S1 => if tyIn T S1 x = true then (fs env S1).bind fun ds S2 => o x ds S2 else .bad
theorem ap_fBm {o : OpM} {fo : EF} : fBm T o fo fs env S = (fo env S).bind (bmK T o fs env) := (rfl)
theorem ap_bmK {o : OpM} : bmK T o fs env x S = if tyIn T S x = true then (fs env S).bind (o x) else .bad := (rfl)
theorem tyIn_str {z : Str} : tyIn T S (.str z) = decide (T = "str") := (rfl)
def tyInC (T : String) : Option Cell → Bool
  | some (.lst _) => decide (T = "list")
  | some (.dk _) => decide (T = "dict")
  | some (.dt _) => decide (T = "dict")
  | _ => false
theorem tyIn_ref : tyIn T S (.ref n) = tyInC T S[n]? := by unfold tyIn tyInC; rfl
theorem tyInC_lst : tyInC T (some (.lst xs)) = decide (T = "list") := (rfl)
def tyC : Option Cell → Option String
  | some (.lst _) => some "list"
  | some (.dk _) => some "dict"
  | some (.dt _) => some "dict"
  | _ => none
theorem tyD_ref : tyD S (.ref n) = tyC S[n]? := by unfold tyD tyC; rfl
end
theorem app_get {α : Type} {S T : List α} {n : Nat} {c : α} (h : S[n]? = some c) : (S ++ T)[n]? = some c := by
  rw [List.getElem?_append_left (List.getElem?_eq_some_iff.mp h).1]; exact h
theorem app_set {α : Type} {S T : List α} {n : Nat} {c d : α} (h : S[n]? = some c) : (S ++ T).set n d = S.set n d ++ T := List.set_append_left _ _ (List.getElem?_eq_some_iff.mp h).1
theorem get_end {α : Type} {S : List α} {c : α} : (S ++ [c])[S.length]? = some c := by rw [List.getElem?_append_right (Nat.le_refl _)]; simp
theorem set_end {α : Type} {S : List α} {c d : α} : (S ++ [c]).set S.length d = S ++ [d] := by rw [List.set_append_right _ _ (Nat.le_refl _)]; simp
theorem set_self {α : Type} {S : List α} {n : Nat} {c : α} (h : S[n]? = some c) : S.set n c = S := by
  apply List.ext_getElem?
  intro i
  by_cases hi : n = i
  · subst hi
    rw [List.getElem?_set_self (List.getElem?_eq_some_iff.mp h).1, h]
  · rw [List.getElem?_set_ne hi]
theorem get_end_set {α : Type} {S : List α} {n : Nat} {c d : α} : (S.set n d ++ [c])[S.length]? = some c := by
  have h := get_end (S := S.set n d) (c := c)
  rw [List.length_set] at h
  exact h
theorem o_join {z : Str} {m : Nat} {S : Sto} {ds : List D} {ys : List Str} (h : S[m]? = some (.lst ds)) (h1 : strsD ds = some ys) (h2 : (ys.map (·.length)).sum + ys.length * z.length ≤ 100000) : mJoin (.str z) [.ref m] S = .ok (.str (Txt.join z ys)) S := by
  unfold mJoin
  simp only [seqD, h, h1, if_pos h2]
theorem get_app {α : Type} {S T : List α} {k : Nat} : (S ++ T)[S.length + k]? = T[k]? := by
  rw [List.getElem?_append_right (Nat.le_add_right _ _), Nat.add_sub_cancel_left]
theorem get_app0 {α : Type} {S T : List α} : (S ++ T)[S.length]? = T[0]? := get_app (k := 0)
theorem get_apps {α : Type} {S T : List α} {k n : Nat} {d : α} : (S.set n d ++ T)[S.length + k]? = T[k]? := by
  have h := get_app (S := S.set n d) (T := T) (k := k)
  rw [List.length_set] at h
  exact h
theorem get_apps0 {α : Type} {S T : List α} {n : Nat} {d : α} : (S.set n d ++ T)[S.length]? = T[0]? := get_apps (k := 0)
theorem set_app {α : Type} {S T : List α} {k : Nat} {d : α} : (S ++ T).set (S.length + k) d = S ++ T.set k d := by
  rw [List.set_append_right _ _ (Nat.le_add_right _ _), Nat.add_sub_cancel_left]
theorem set_app0 {α : Type} {S T : List α} {d : α} : (S ++ T).set S.length d = S ++ T.set 0 d := set_app (k := 0)
theorem set_apps {α : Type} {S T : List α} {k n : Nat} {c d : α} : (S.set n c ++ T).set (S.length + k) d = S.set n c ++ T.set k d := by
  have h := set_app (S := S.set n c) (T := T) (k := k) (d := d)
  rw [List.length_set] at h
  exact h
theorem set_apps0 {α : Type} {S T : List α} {n : Nat} {c d : α} : (S.set n c ++ T).set S.length d = S.set n c ++ T.set 0 d := set_apps (k := 0)
theorem get_end2 {α : Type} {S T : List α} {n : Nat} {c d : α} : (S.set n d ++ (T ++ [c]))[S.length + T.length]? = some c := by
  rw [get_apps]; exact get_end
theorem set_get {α : Type} {S : List α} {n : Nat} {c d : α} (h : S[n]? = some c) : (S.set n d)[n]? = some d := List.getElem?_set_self (List.getElem?_eq_some_iff.mp h).1
end RF

namespace Qk01
open PySem L2 RF
structure CA where
  zz : Nat := 0
/-- _law_next -/
def b_law_next (c : CA) : SF := fSeq (fIf (fTest (fBin oGt (fIx (fVar 0) (fC (.int 0))) (fC (.int 0)))) (fSeq (fAsg (fBin oMod (fApp oInt (fCons (fIx (fVar 0) (fC (.int 0))) fNil)) (fVar 1)) (gN 2)) (fSeq (fAsg (fBin oDiv (fIx (fVar 0) (fC (.int 0))) (fVar 1)) (gSub' (fVar 0) (fC (.int 0)))) (fRet (fVar 2)))) fSkip) (fSeq (fAsg (fBin oMod (fApp oInt (fCons (fBin oAdd (fBin oMul (fIx (fVar 0) (fC (.int 1))) (fC (.int 48271))) (fC (.int 12820163))) fNil)) (fC (.int 2147483647))) (gSub' (fVar 0) (fC (.int 1)))) (fRet (fBin oMod (fApp oInt (fCons (fBin oDiv (fBin oMod (fApp oInt (fCons (fBin oAdd (fBin oMul (fIx (fVar 0) (fC (.int 1))) (fC (.int 16807))) (fC (.int 5))) fNil)) (fC (.int 2147483399))) (fC (.int 3))) fNil)) (fVar 1))))
def F_law_next (c : CA) : FF := fnF 3 (b_law_next c)
/-- _law_odd -/
def b_law_odd (c : CA) : SF := fSeq (fAsg (fLst (fCons (fC .non) (fCons (fC (.bl true)) (fCons (fC (.bl false)) (fCons (fC (.int 0)) (fCons (fC (.int 1)) (fCons (fUn oNeg (fC (.int 1))) (fCons (fBin oPow (fC (.int 10)) (fC (.int 12))) (fCons (fBin oAdd (fBin oPow (fC (.int 10)) (fC (.int 12))) (fC (.int 1))) (fCons (fUn oNeg (fBin oPow (fC (.int 10)) (fC (.int 12)))) (fCons (fBin oSub (fUn oNeg (fBin oPow (fC (.int 10)) (fC (.int 12)))) (fC (.int 1))) (fCons (fBin oPow (fC (.int 10)) (fC (.int 15))) (fCons (fBin oAdd (fBin oPow (fC (.int 10)) (fC (.int 15))) (fC (.int 1))) fNil))))))))))))) (gN 1)) (fSeq (fAsg (fBin oAdd (fVar 1) (fLst (fCons (fUn oNeg (fBin oPow (fC (.int 10)) (fC (.int 15)))) (fCons (fBin oSub (fUn oNeg (fBin oPow (fC (.int 10)) (fC (.int 15)))) (fC (.int 1))) (fCons (fC (.str ⟨#[]⟩)) (fCons (fC (.str ⟨#[97]⟩)) (fCons (fC (.str ⟨#[65]⟩)) (fCons (fC (.str ⟨#[97, 49]⟩)) (fCons (fC (.str ⟨#[97, 32, 98]⟩)) (fCons (fC (.str ⟨#[97, 98, 99, 100, 101, 102, 103, 104, 105, 106, 107, 108, 109]⟩)) (fCons (fTup fNil) (fCons (fLst fNil) (fCons (fDict0) (fCons (fC (.str ⟨#[97, 10]⟩)) (fCons (fTup (fCons (fC (.str ⟨#[97]⟩)) fNil)) fNil))))))))))))))) (gN 1)) (fSeq (fAsg (fBin oAdd (fVar 1) (fLst (fCons (fLst (fCons (fC (.str ⟨#[97]⟩)) fNil)) (fCons (fTup (fCons (fC (.int 1)) (fCons (fC (.str ⟨#[97]⟩)) fNil))) (fCons (fLst (fCons (fC (.int 1)) (fCons (fC (.str ⟨#[97]⟩)) fNil))) (fCons (fTup (fCons (fC (.int 1)) (fCons (fC (.int 0)) fNil))) (fCons (fTup (fCons (fC (.int 0)) (fCons (fC (.int 1)) fNil))) (fCons (fTup (fCons (fC (.bl true)) (fCons (fC (.str ⟨#[97]⟩)) fNil))) (fCons (fTup (fCons (fC (.int 1)) (fCons (fC (.bl true)) fNil))) (fCons (fTup (fCons (fC .non) (fCons (fC .non) fNil))) (fCons (fTup (fCons (fTup (fCons (fC (.int 1)) (fCons (fC (.int 0)) fNil))) (fCons (fC (.int 1)) fNil))) fNil))))))))))) (gN 1)) (fRet (fIx (fVar 1) (fCall (F_law_next c) 2 [] (fCons (fVar 0) (fCons (fC (.int 34)) fNil)))))))
def F_law_odd (c : CA) : FF := fnF 2 (b_law_odd c)
/-- _law_number -/
def b_law_number (c : CA) : SF := fSeq (fAsg (fCall (F_law_next c) 2 [] (fCons (fVar 0) (fCons (fC (.int 6)) fNil))) (gN 1)) (fSeq (fIf (fTest (fBin oEq (fVar 1) (fC (.int 0)))) (fRet (fBin oSub (fBin oPow (fC (.int 10)) (fC (.int 12))) (fCall (F_law_next c) 2 [] (fCons (fVar 0) (fCons (fC (.int 3)) fNil))))) fSkip) (fSeq (fIf (fTest (fBin oEq (fVar 1) (fC (.int 1)))) (fRet (fBin oAdd (fBin oMul (fCall (F_law_next c) 2 [] (fCons (fVar 0) (fCons (fBin oPow (fC (.int 10)) (fC (.int 6))) fNil))) (fBin oPow (fC (.int 10)) (fC (.int 6)))) (fCall (F_law_next c) 2 [] (fCons (fVar 0) (fCons (fBin oPow (fC (.int 10)) (fC (.int 6))) fNil))))) fSkip) (fRet (fCall (F_law_next c) 2 [] (fCons (fVar 0) (fCons (fC (.int 20)) fNil))))))
def F_law_number (c : CA) : FF := fnF 2 (b_law_number c)
/-- _law_integer -/
def b_law_integer (c : CA) : SF := fRet (fBin oMul (fCall (F_law_number c) 1 [] (fCons (fVar 0) fNil)) (fBin oSub (fC (.int 1)) (fBin oMul (fC (.int 2)) (fCall (F_law_next c) 2 [] (fCons (fVar 0) (fCons (fC (.int 2)) fNil))))))
def F_law_integer (c : CA) : FF := fnF 1 (b_law_integer c)
def ce_law_name_0 (c : CA) : EF := fIx (fVar 1) (fCall (F_law_next c) 2 [] (fCons (fVar 0) (fCons (fC (.int 26)) fNil)))
theorem ap_ce_law_name_0 (c : CA) (env : Lc) (S : Sto) : ce_law_name_0 c env S = ((fIx (fVar 1) (fCall (F_law_next c) 2 [] (fCons (fVar 0) (fCons (fC (.int 26)) fNil))))) env S := (rfl)
/-- _law_name -/
def b_law_name (c : CA) : SF := fSeq (fAsg (fC (.str ⟨#[97, 98, 99, 100, 101, 102, 103, 104, 105, 106, 107, 108, 109, 110, 111, 112, 113, 114, 115, 116, 117, 118, 119, 120, 121, 122]⟩)) (gN 1)) (fSeq (fIf (fTest (fBin oEq (fCall (F_law_next c) 2 [] (fCons (fVar 0) (fCons (fC (.int 2)) fNil))) (fC (.int 0)))) (fRet (fIx (fTup (fCons (fC (.str ⟨#[97]⟩)) (fCons (fC (.str ⟨#[98]⟩)) (fCons (fC (.str ⟨#[97, 98]⟩)) (fCons (fC (.str ⟨#[122, 122]⟩)) fNil))))) (fCall (F_law_next c) 2 [] (fCons (fVar 0) (fCons (fC (.int 4)) fNil))))) fSkip) (fRet (fBm "str" mJoin (fC (.str ⟨#[]⟩)) (fCons (fComp (fRng1 (fCons (fBin oAdd (fC (.int 1)) (fCall (F_law_next c) 2 [] (fCons (fVar 0) (fCons (fC (.int 12)) fNil)))) fNil)) 2 fYes (ce_law_name_0 c)) fNil))))
def F_law_name (c : CA) : FF := fnF 3 (b_law_name c)
def ce_law_thing_0 (c : CA) : EF := fCall (F_law_name c) 1 [] (fCons (fVar 0) fNil)
theorem ap_ce_law_thing_0 (c : CA) (env : Lc) (S : Sto) : ce_law_thing_0 c env S = ((fCall (F_law_name c) 1 [] (fCons (fVar 0) fNil))) env S := (rfl)
/-- _law_thing -/
def b_law_thing (c : CA) : SF := fSeq (fAsg (fCall (F_law_next c) 2 [] (fCons (fVar 0) (fCons (fC (.int 5)) fNil))) (gN 1)) (fSeq (fIf (fTest (fBin oEq (fVar 1) (fC (.int 0)))) (fRet (fCall (F_law_odd c) 1 [] (fCons (fVar 0) fNil))) fSkip) (fSeq (fIf (fTest (fBin oEq (fVar 1) (fC (.int 1)))) (fRet (fBin oSub (fBin oAdd (fCall (F_law_integer c) 1 [] (fCons (fVar 0) fNil)) (fCall (F_law_next c) 2 [] (fCons (fVar 0) (fCons (fC (.int 3)) fNil)))) (fC (.int 1)))) fSkip) (fSeq (fIf (fTest (fBin oEq (fVar 1) (fC (.int 2)))) (fRet (fBin oSub (fBin oAdd (fBin oMul (fCall (F_law_integer c) 1 [] (fCons (fVar 0) fNil)) (fC (.int 1000))) (fCall (F_law_next c) 2 [] (fCons (fVar 0) (fCons (fC (.int 3)) fNil)))) (fC (.int 1)))) fSkip) (fSeq (fAsg (fBm "str" mJoin (fC (.str ⟨#[]⟩)) (fCons (fComp (fRng1 (fCons (fBin oAdd (fC (.int 1)) (fCall (F_law_next c) 2 [] (fCons (fVar 0) (fCons (fC (.int 2)) fNil)))) fNil)) 4 fYes (ce_law_thing_0 c)) fNil)) (gN 2)) (fSeq (fIf (fTest (fBin oEq (fVar 1) (fC (.int 3)))) (fRet (fVar 2)) fSkip) (fSeq (fAsg (fCall (F_law_next c) 2 [] (fCons (fVar 0) (fCons (fBin oAdd (fApp oLen (fCons (fVar 2) fNil)) (fC (.int 1))) fNil))) (gN 3)) (fRet (fBin oAdd (fBin oAdd (fSl (fVar 2) pNo (pSo (fVar 3))) (fIx (fC (.str ⟨#[65, 90, 48, 57, 32, 95, 45, 46, 10, 123, 96, 64]⟩)) (fCall (F_law_next c) 2 [] (fCons (fVar 0) (fCons (fC (.int 12)) fNil))))) (fSl (fVar 2) (pSo (fVar 3)) pNo)))))))))
def F_law_thing (c : CA) : FF := fnF 5 (b_law_thing c)
/-- _law_stream -/
def b_law_stream (c : CA) : SF := fSeq (fAsg (fC (.int 0)) (gN 2)) (fSeq (fIf (fTest (fBin oGe (fVar 0) (fBin oPow (fC (.int 10)) (fC (.int 18))))) (fAsg (fVar 0) (gN 2)) fSkip) (fRet (fLst (fCons (fVar 2) (fCons (fBin oMod (fApp oInt (fCons (fBin oAdd (fBin oAdd (fBin oMul (fVar 0) (fC (.int 48271))) (fBin oMul (fVar 1) (fC (.int 69621)))) (fC (.int 77))) fNil)) (fC (.int 2147483647))) fNil)))))
def F_law_stream (c : CA) : FF := fnF 3 (b_law_stream c)
/-- _law_flag -/
def b_law_flag (c : CA) : SF := fRet (fAndV (fIsi "bool" (fVar 0)) (fBin oEq (fVar 0) (fVar 1)))
def F_law_flag (c : CA) : FF := fnF 2 (b_law_flag c)
/-- _law_is_int -/
def b_law_is_int (c : CA) : SF := fRet (fAndV (fIsi "int" (fVar 0)) (fAndV (fNotV (fIsi "bool" (fVar 0))) (fAndV (fBin oGe (fVar 0) (fVar 1)) (fBin oLe (fVar 0) (fVar 2)))))
def F_law_is_int (c : CA) : FF := fnF 3 (b_law_is_int c)
/-- _is_between -/
def b_is_between (c : CA) : SF := fRet (fAndV (fTyIs "int" false (fVar 0)) (fChain oLe oLe (fVar 1) (fVar 0) (fVar 2)))
def F_is_between (c : CA) : FF := fnF 3 (b_is_between c)
/-- is_number -/
def b_is_number (c : CA) : SF := fRet (fCall (F_is_between c) 3 [] (fCons (fVar 0) (fCons (fC (.int 0)) (fCons (fC (.int 1000000000000)) fNil))))
def F_is_number (c : CA) : FF := fnF 1 (b_is_number c)
/-- is_integer -/
def b_is_integer (c : CA) : SF := fRet (fCall (F_is_between c) 3 [] (fCons (fVar 0) (fCons (fUn oNeg (fC (.int 1000000000000))) (fCons (fC (.int 1000000000000)) fNil))))
def F_is_integer (c : CA) : FF := fnF 1 (b_is_integer c)
/-- is_value -/
def b_is_value (c : CA) : SF := fRet (fCall (F_is_between c) 3 [] (fCons (fVar 0) (fCons (fUn oNeg (fC (.int 1000000000000000))) (fCons (fC (.int 1000000000000000)) fNil))))
def F_is_value (c : CA) : FF := fnF 1 (b_is_value c)
def ct_law_is_name_0 (c : CA) : BF := fTest (fBin (oInS true) (fVar 1) (fC (.str ⟨#[97, 98, 99, 100, 101, 102, 103, 104, 105, 106, 107, 108, 109, 110, 111, 112, 113, 114, 115, 116, 117, 118, 119, 120, 121, 122]⟩)))
theorem ap_ct_law_is_name_0 (c : CA) (env : Lc) (S : Sto) : ct_law_is_name_0 c env S = ((fTest (fBin (oInS true) (fVar 1) (fC (.str ⟨#[97, 98, 99, 100, 101, 102, 103, 104, 105, 106, 107, 108, 109, 110, 111, 112, 113, 114, 115, 116, 117, 118, 119, 120, 121, 122]⟩))))) env S := (rfl)
def ce_law_is_name_0 (c : CA) : EF := fVar 1
theorem ap_ce_law_is_name_0 (c : CA) (env : Lc) (S : Sto) : ce_law_is_name_0 c env S = ((fVar 1)) env S := (rfl)
/-- _law_is_name -/
def b_law_is_name (c : CA) : SF := fSeq (fIf (fOr (fNot (fTest (fIsi "str" (fVar 0)))) (fOr (fTest (fBin oLt (fApp oLen (fCons (fVar 0) fNil)) (fC (.int 1)))) (fTest (fBin oGt (fApp oLen (fCons (fVar 0) fNil)) (fC (.int 12)))))) (fRet (fC (.bl false))) fSkip) (fRet (fBin oEq (fComp (fIterS (fVar 0)) 1 (ct_law_is_name_0 c) (ce_law_is_name_0 c)) (fLst fNil)))
def F_law_is_name (c : CA) : FF := fnF 2 (b_law_is_name c)
def ce_is_name_0 (c : CA) : EF := fChain oLeS oLeS (fC (.str ⟨#[97]⟩)) (fVar 1) (fC (.str ⟨#[122]⟩))
theorem ap_ce_is_name_0 (c : CA) (env : Lc) (S : Sto) : ce_is_name_0 c env S = ((fChain oLeS oLeS (fC (.str ⟨#[97]⟩)) (fVar 1) (fC (.str ⟨#[122]⟩)))) env S := (rfl)
/-- is_name -/
def b_is_name (c : CA) : SF := fSeq (fIf (fOr (fTest (fTyIs "str" true (fVar 0))) (fNot (fTest (fChain oLe oLe (fC (.int 1)) (fApp oLen (fCons (fVar 0) fNil)) (fC (.int 12)))))) (fRet (fC (.bl false))) fSkip) (fRet (fApp oAll (fCons (fComp (fIterS (fVar 0)) 1 fYes (ce_is_name_0 c)) fNil)))
def F_is_name (c : CA) : FF := fnF 2 (b_is_name c)
def lb_law_0 (c : CA) : SF := fSeq (fAsg (fCall (F_law_thing c) 1 [] (fCons (fCall (F_law_stream c) 2 [] (fCons (fIx (fVar 0) (fVar 1)) (fCons (fVar 1) fNil))) fNil)) (gN 2)) (fSeq (fIf (fNot (fTest (fCall (F_law_flag c) 2 [] (fCons (fCall (F_is_number c) 1 [] (fCons (fVar 2) fNil)) (fCons (fCall (F_law_is_int c) 3 [] (fCons (fVar 2) (fCons (fC (.int 0)) (fCons (fBin oPow (fC (.int 10)) (fC (.int 12))) fNil)))) fNil))))) (fRet (fC (.bl false))) fSkip) (fSeq (fIf (fNot (fTest (fCall (F_law_flag c) 2 [] (fCons (fCall (F_is_integer c) 1 [] (fCons (fVar 2) fNil)) (fCons (fCall (F_law_is_int c) 3 [] (fCons (fVar 2) (fCons (fUn oNeg (fBin oPow (fC (.int 10)) (fC (.int 12)))) (fCons (fBin oPow (fC (.int 10)) (fC (.int 12))) fNil)))) fNil))))) (fRet (fC (.bl false))) fSkip) (fSeq (fIf (fNot (fTest (fCall (F_law_flag c) 2 [] (fCons (fCall (F_is_value c) 1 [] (fCons (fVar 2) fNil)) (fCons (fCall (F_law_is_int c) 3 [] (fCons (fVar 2) (fCons (fUn oNeg (fBin oPow (fC (.int 10)) (fC (.int 15)))) (fCons (fBin oPow (fC (.int 10)) (fC (.int 15))) fNil)))) fNil))))) (fRet (fC (.bl false))) fSkip) (fIf (fNot (fTest (fCall (F_law_flag c) 2 [] (fCons (fCall (F_is_name c) 1 [] (fCons (fVar 2) fNil)) (fCons (fCall (F_law_is_name c) 1 [] (fCons (fVar 2) fNil)) fNil))))) (fRet (fC (.bl false))) fSkip))))
theorem ap_lb_law_0 (c : CA) (env : Lc) (S : Sto) : lb_law_0 c env S = ((fSeq (fAsg (fCall (F_law_thing c) 1 [] (fCons (fCall (F_law_stream c) 2 [] (fCons (fIx (fVar 0) (fVar 1)) (fCons (fVar 1) fNil))) fNil)) (gN 2)) (fSeq (fIf (fNot (fTest (fCall (F_law_flag c) 2 [] (fCons (fCall (F_is_number c) 1 [] (fCons (fVar 2) fNil)) (fCons (fCall (F_law_is_int c) 3 [] (fCons (fVar 2) (fCons (fC (.int 0)) (fCons (fBin oPow (fC (.int 10)) (fC (.int 12))) fNil)))) fNil))))) (fRet (fC (.bl false))) fSkip) (fSeq (fIf (fNot (fTest (fCall (F_law_flag c) 2 [] (fCons (fCall (F_is_integer c) 1 [] (fCons (fVar 2) fNil)) (fCons (fCall (F_law_is_int c) 3 [] (fCons (fVar 2) (fCons (fUn oNeg (fBin oPow (fC (.int 10)) (fC (.int 12)))) (fCons (fBin oPow (fC (.int 10)) (fC (.int 12))) fNil)))) fNil))))) (fRet (fC (.bl false))) fSkip) (fSeq (fIf (fNot (fTest (fCall (F_law_flag c) 2 [] (fCons (fCall (F_is_value c) 1 [] (fCons (fVar 2) fNil)) (fCons (fCall (F_law_is_int c) 3 [] (fCons (fVar 2) (fCons (fUn oNeg (fBin oPow (fC (.int 10)) (fC (.int 15)))) (fCons (fBin oPow (fC (.int 10)) (fC (.int 15))) fNil)))) fNil))))) (fRet (fC (.bl false))) fSkip) (fIf (fNot (fTest (fCall (F_law_flag c) 2 [] (fCons (fCall (F_is_name c) 1 [] (fCons (fVar 2) fNil)) (fCons (fCall (F_law_is_name c) 1 [] (fCons (fVar 2) fNil)) fNil))))) (fRet (fC (.bl false))) fSkip)))))) env S := (rfl)
/-- law -/
def b_law (c : CA) : SF := fSeq (fFor (fRng1 (fCons (fApp oMin2 (fCons (fApp oLen (fCons (fVar 0) fNil)) (fCons (fC (.int 40)) fNil))) fNil)) (gN 1) (lb_law_0 c)) (fRet (fAndV (fBin oIsB (fCall (F_is_name c) 1 [] (fCons (fC (.str ⟨#[97]⟩)) fNil)) (fC (.bl true))) (fBin oIsB (fCall (F_is_number c) 1 [] (fCons (fC (.int 0)) fNil)) (fC (.bl true)))))
def F_law (c : CA) : FF := fnF 3 (b_law c)
def top (i : Nat) : Stmt := PySem.Challenge.pw_ringloosed_k01_numbers_and_names.main.body.getD i (.Pass ⟨0, 0, 0, 0⟩)
abbrev s_law_next : Stmt := top 11
abbrev s_law_odd : Stmt := top 29
abbrev s_law_number : Stmt := top 13
abbrev s_law_integer : Stmt := top 14
abbrev s_law_name : Stmt := top 15
abbrev s_law_thing : Stmt := top 30
abbrev s_law_stream : Stmt := top 10
abbrev s_law_flag : Stmt := top 12
abbrev s_law_is_int : Stmt := top 21
abbrev s_is_between : Stmt := top 4
abbrev s_is_number : Stmt := top 5
abbrev s_is_integer : Stmt := top 6
abbrev s_is_value : Stmt := top 7
abbrev s_law_is_name : Stmt := top 22
abbrev s_is_name : Stmt := top 8
abbrev s_law : Stmt := top 31
structure Ad extends CA where
  a_law_next : Addr
  d_law_next : FuncData
  a_law_odd : Addr
  d_law_odd : FuncData
  a_law_number : Addr
  d_law_number : FuncData
  a_law_integer : Addr
  d_law_integer : FuncData
  a_law_name : Addr
  d_law_name : FuncData
  a_law_thing : Addr
  d_law_thing : FuncData
  a_law_stream : Addr
  d_law_stream : FuncData
  a_law_flag : Addr
  d_law_flag : FuncData
  a_law_is_int : Addr
  d_law_is_int : FuncData
  a_is_between : Addr
  d_is_between : FuncData
  a_is_number : Addr
  d_is_number : FuncData
  a_is_integer : Addr
  d_is_integer : FuncData
  a_is_value : Addr
  d_is_value : FuncData
  a_law_is_name : Addr
  d_law_is_name : FuncData
  a_is_name : Addr
  d_is_name : FuncData
  a_law : Addr
  d_law : FuncData
structure Gm (K : PySem.W.Frag) (mg : Str → Option Value) (A : Ad) : Prop where
  z_all : mg "all" = none
  z_bool : mg "bool" = none
  z_int : mg "int" = none
  z_isinstance : mg "isinstance" = none
  z_len : mg "len" = none
  z_min : mg "min" = none
  z_range : mg "range" = none
  z_str : mg "str" = none
  z_type : mg "type" = none
  c_MOST_LETTERS : ∃ t, mg "MOST_LETTERS" = some (.int 12 t)
  c_MOST_NUMBER : ∃ t, mg "MOST_NUMBER" = some (.int 1000000000000 t)
  c_MOST_VALUE : ∃ t, mg "MOST_VALUE" = some (.int 1000000000000000 t)
  F_law_next : Fun K "_law_next" "_law_next" s_law_next A.a_law_next A.d_law_next
  b_law_next : Binds K A.d_law_next ["stream", "size"] []
  g_law_next : mg "_law_next" = some (.ref A.a_law_next)
  F_law_odd : Fun K "_law_odd" "_law_odd" s_law_odd A.a_law_odd A.d_law_odd
  b_law_odd : Binds K A.d_law_odd ["stream"] []
  g_law_odd : mg "_law_odd" = some (.ref A.a_law_odd)
  F_law_number : Fun K "_law_number" "_law_number" s_law_number A.a_law_number A.d_law_number
  b_law_number : Binds K A.d_law_number ["stream"] []
  g_law_number : mg "_law_number" = some (.ref A.a_law_number)
  F_law_integer : Fun K "_law_integer" "_law_integer" s_law_integer A.a_law_integer A.d_law_integer
  b_law_integer : Binds K A.d_law_integer ["stream"] []
  g_law_integer : mg "_law_integer" = some (.ref A.a_law_integer)
  F_law_name : Fun K "_law_name" "_law_name" s_law_name A.a_law_name A.d_law_name
  b_law_name : Binds K A.d_law_name ["stream"] []
  g_law_name : mg "_law_name" = some (.ref A.a_law_name)
  F_law_thing : Fun K "_law_thing" "_law_thing" s_law_thing A.a_law_thing A.d_law_thing
  b_law_thing : Binds K A.d_law_thing ["stream"] []
  g_law_thing : mg "_law_thing" = some (.ref A.a_law_thing)
  F_law_stream : Fun K "_law_stream" "_law_stream" s_law_stream A.a_law_stream A.d_law_stream
  b_law_stream : Binds K A.d_law_stream ["cell", "k"] []
  g_law_stream : mg "_law_stream" = some (.ref A.a_law_stream)
  F_law_flag : Fun K "_law_flag" "_law_flag" s_law_flag A.a_law_flag A.d_law_flag
  b_law_flag : Binds K A.d_law_flag ["actual", "due"] []
  g_law_flag : mg "_law_flag" = some (.ref A.a_law_flag)
  F_law_is_int : Fun K "_law_is_int" "_law_is_int" s_law_is_int A.a_law_is_int A.d_law_is_int
  b_law_is_int : Binds K A.d_law_is_int ["thing", "least", "most"] []
  g_law_is_int : mg "_law_is_int" = some (.ref A.a_law_is_int)
  F_is_between : Fun K "_is_between" "_is_between" s_is_between A.a_is_between A.d_is_between
  b_is_between : Binds K A.d_is_between ["thing", "least", "most"] []
  g_is_between : mg "_is_between" = some (.ref A.a_is_between)
  F_is_number : Fun K "is_number" "is_number" s_is_number A.a_is_number A.d_is_number
  b_is_number : Binds K A.d_is_number ["thing"] []
  g_is_number : mg "is_number" = some (.ref A.a_is_number)
  F_is_integer : Fun K "is_integer" "is_integer" s_is_integer A.a_is_integer A.d_is_integer
  b_is_integer : Binds K A.d_is_integer ["thing"] []
  g_is_integer : mg "is_integer" = some (.ref A.a_is_integer)
  F_is_value : Fun K "is_value" "is_value" s_is_value A.a_is_value A.d_is_value
  b_is_value : Binds K A.d_is_value ["thing"] []
  g_is_value : mg "is_value" = some (.ref A.a_is_value)
  F_law_is_name : Fun K "_law_is_name" "_law_is_name" s_law_is_name A.a_law_is_name A.d_law_is_name
  b_law_is_name : Binds K A.d_law_is_name ["thing"] []
  g_law_is_name : mg "_law_is_name" = some (.ref A.a_law_is_name)
  F_is_name : Fun K "is_name" "is_name" s_is_name A.a_is_name A.d_is_name
  b_is_name : Binds K A.d_is_name ["thing"] []
  g_is_name : mg "is_name" = some (.ref A.a_is_name)
  F_law : Fun K "law" "law" s_law A.a_law A.d_law
  b_law : Binds K A.d_law ["script"] []
  g_law : mg "law" = some (.ref A.a_law)
section
variable {P : Program} {w : World} {K : PySem.W.Frag} {mg : Str → Option Value} {base : Heap} {A : Ad}
abbrev N_law_next : List Str := ["stream", "size", "drawn"]
theorem sc_law_next : FnScope N_law_next ["stream", "size"] (defScope s_law_next) := ⟨rfl, rfl, rfl, by decide +kernel, rfl, by decide +kernel, by decide +kernel⟩
theorem ok_law_next (G : Gm K mg A) : FnOk P w K mg base CX0 1 A.a_law_next A.d_law_next ["stream", "size"] (spF K 2 (F_law_next A.toCA)) := by
  refine fn_ok G.F_law_next sc_law_next rfl (fun cdv A0 outer s H E hr => ?_)
  have nd := sc_law_next.nd
  exact (xSeq (xIf (xCmpT op_gt f_gt (nomark _) (xIx (hu_of hr) (xVar 0) (xInt) (fun _ _ => rfl)) (xInt)) (xSeq (xSet (i := 2) nd rfl (by first | exact Or.inl rfl | exact Or.inr rfl) (xOp op_mod f_mod (xCT call_int1 f_int (by rfl) G.z_int (by decide +kernel) (xCons (xIx (hu_of hr) (xVar 0) (xInt) (fun _ _ => rfl)) xNil)) (xVar 1))) (xSeq (xAsg (xOp op_fdivW f_div (xIx (hu_of hr) (xVar 0) (xInt) (fun _ _ => rfl)) (xVar 1)) (xgSub (hu_of hr) (xVar 0) (xInt))) (xOne (xRet (xVar 2))))) xSkip) (xSeq (xAsg (xOp op_mod f_mod (xCT call_int1 f_int (by rfl) G.z_int (by decide +kernel) (xCons (xOp op_addA f_add (xOp op_mul f_mul (xIx (hu_of hr) (xVar 0) (xInt) (fun _ _ => rfl)) (xInt)) (xInt)) xNil)) (xInt)) (xgSub (hu_of hr) (xVar 0) (xInt))) (xOne (xRet (xOp op_mod f_mod (xCT call_int1 f_int (by rfl) G.z_int (by decide +kernel) (xCons (xOp op_fdivW f_div (xOp op_mod f_mod (xCT call_int1 f_int (by rfl) G.z_int (by decide +kernel) (xCons (xOp op_addA f_add (xOp op_mul f_mul (xIx (hu_of hr) (xVar 0) (xInt) (fun _ _ => rfl)) (xInt)) (xInt)) xNil)) (xInt)) (xInt)) xNil)) (xVar 1))))))
abbrev N_law_odd : List Str := ["stream", "things"]
theorem sc_law_odd : FnScope N_law_odd ["stream"] (defScope s_law_odd) := ⟨rfl, rfl, rfl, by decide +kernel, rfl, by decide +kernel, by decide +kernel⟩
theorem ok_law_odd (G : Gm K mg A) : FnOk P w K mg base CX0 2 A.a_law_odd A.d_law_odd ["stream"] (spF K 1 (F_law_odd A.toCA)) := by
  refine fn_ok G.F_law_odd sc_law_odd rfl (fun cdv A0 outer s H E hr => ?_)
  have nd := sc_law_odd.nd
  exact (xSeq (xSet (i := 1) nd rfl (by first | exact Or.inl rfl | exact Or.inr rfl) (xLst (xCons (xNon) (xCons (xBl) (xCons (xBl) (xCons (xInt) (xCons (xInt) (xCons (xUn un_neg f_neg (xInt)) (xCons (xOp op_pow f_pow (xInt) (xInt)) (xCons (xOp op_addA f_add (xOp op_pow f_pow (xInt) (xInt)) (xInt)) (xCons (xUn un_neg f_neg (xOp op_pow f_pow (xInt) (xInt))) (xCons (xOp op_sub f_sub (xUn un_neg f_neg (xOp op_pow f_pow (xInt) (xInt))) (xInt)) (xCons (xOp op_pow f_pow (xInt) (xInt)) (xCons (xOp op_addA f_add (xOp op_pow f_pow (xInt) (xInt)) (xInt)) xNil)))))))))))))) (xSeq (xSet (i := 1) nd rfl (by first | exact Or.inl rfl | exact Or.inr rfl) (xOp op_addA f_add (xVar 1) (xLst (xCons (xUn un_neg f_neg (xOp op_pow f_pow (xInt) (xInt))) (xCons (xOp op_sub f_sub (xUn un_neg f_neg (xOp op_pow f_pow (xInt) (xInt))) (xInt)) (xCons (xStr (y := ⟨#[]⟩) (by decide +kernel)) (xCons (xStr (y := ⟨#[97]⟩) (by decide +kernel)) (xCons (xStr (y := ⟨#[65]⟩) (by decide +kernel)) (xCons (xStr (y := ⟨#[97, 49]⟩) (by decide +kernel)) (xCons (xStr (y := ⟨#[97, 32, 98]⟩) (by decide +kernel)) (xCons (xStr (y := ⟨#[97, 98, 99, 100, 101, 102, 103, 104, 105, 106, 107, 108, 109]⟩) (by decide +kernel)) (xCons (xTup xNil) (xCons (xLst xNil) (xCons (xDict0) (xCons (xStr (y := ⟨#[97, 10]⟩) (by decide +kernel)) (xCons (xTup (xCons (xStr (y := ⟨#[97]⟩) (by decide +kernel)) xNil)) xNil)))))))))))))))) (xSeq (xSet (i := 1) nd rfl (by first | exact Or.inl rfl | exact Or.inr rfl) (xOp op_addA f_add (xVar 1) (xLst (xCons (xLst (xCons (xStr (y := ⟨#[97]⟩) (by decide +kernel)) xNil)) (xCons (xTup (xCons (xInt) (xCons (xStr (y := ⟨#[97]⟩) (by decide +kernel)) xNil))) (xCons (xLst (xCons (xInt) (xCons (xStr (y := ⟨#[97]⟩) (by decide +kernel)) xNil))) (xCons (xTup (xCons (xInt) (xCons (xInt) xNil))) (xCons (xTup (xCons (xInt) (xCons (xInt) xNil))) (xCons (xTup (xCons (xBl) (xCons (xStr (y := ⟨#[97]⟩) (by decide +kernel)) xNil))) (xCons (xTup (xCons (xInt) (xCons (xBl) xNil))) (xCons (xTup (xCons (xNon) (xCons (xNon) xNil))) (xCons (xTup (xCons (xTup (xCons (xInt) (xCons (xInt) xNil))) (xCons (xInt) xNil))) xNil)))))))))))) (xOne (xRet (xIx (hu_of hr) (xVar 1) (xCall (ok_law_next G) (hr.mono (by decide)) (by rfl) G.g_law_next G.F_law_next.kp G.b_law_next (xCons (xVar 0) (xCons (xInt) xNil))) (fun _ _ => rfl)))))))
abbrev N_law_number : List Str := ["stream", "kind"]
theorem sc_law_number : FnScope N_law_number ["stream"] (defScope s_law_number) := ⟨rfl, rfl, rfl, by decide +kernel, rfl, by decide +kernel, by decide +kernel⟩
theorem ok_law_number (G : Gm K mg A) : FnOk P w K mg base CX0 2 A.a_law_number A.d_law_number ["stream"] (spF K 1 (F_law_number A.toCA)) := by
  refine fn_ok G.F_law_number sc_law_number rfl (fun cdv A0 outer s H E hr => ?_)
  have nd := sc_law_number.nd
  exact (xSeq (xSet (i := 1) nd rfl (by first | exact Or.inl rfl | exact Or.inr rfl) (xCall (ok_law_next G) (hr.mono (by decide)) (by rfl) G.g_law_next G.F_law_next.kp G.b_law_next (xCons (xVar 0) (xCons (xInt) xNil)))) (xSeq (xIf (xCmpT (op_eqD (hr.units)) f_eq (nomark _) (xVar 1) (xInt)) (xOne (xRet (xOp op_sub f_sub (xOp op_pow f_pow (xInt) (xInt)) (xCall (ok_law_next G) (hr.mono (by decide)) (by rfl) G.g_law_next G.F_law_next.kp G.b_law_next (xCons (xVar 0) (xCons (xInt) xNil)))))) xSkip) (xSeq (xIf (xCmpT (op_eqD (hr.units)) f_eq (nomark _) (xVar 1) (xInt)) (xOne (xRet (xOp op_addA f_add (xOp op_mul f_mul (xCall (ok_law_next G) (hr.mono (by decide)) (by rfl) G.g_law_next G.F_law_next.kp G.b_law_next (xCons (xVar 0) (xCons (xOp op_pow f_pow (xInt) (xInt)) xNil))) (xOp op_pow f_pow (xInt) (xInt))) (xCall (ok_law_next G) (hr.mono (by decide)) (by rfl) G.g_law_next G.F_law_next.kp G.b_law_next (xCons (xVar 0) (xCons (xOp op_pow f_pow (xInt) (xInt)) xNil)))))) xSkip) (xOne (xRet (xCall (ok_law_next G) (hr.mono (by decide)) (by rfl) G.g_law_next G.F_law_next.kp G.b_law_next (xCons (xVar 0) (xCons (xInt) xNil))))))))
abbrev N_law_integer : List Str := ["stream"]
theorem sc_law_integer : FnScope N_law_integer ["stream"] (defScope s_law_integer) := ⟨rfl, rfl, rfl, by decide +kernel, rfl, by decide +kernel, by decide +kernel⟩
theorem ok_law_integer (G : Gm K mg A) : FnOk P w K mg base CX0 3 A.a_law_integer A.d_law_integer ["stream"] (spF K 1 (F_law_integer A.toCA)) := by
  refine fn_ok G.F_law_integer sc_law_integer rfl (fun cdv A0 outer s H E hr => ?_)
  have nd := sc_law_integer.nd
  exact (xOne (xRet (xOp op_mul f_mul (xCall (ok_law_number G) (hr.mono (by decide)) (by rfl) G.g_law_number G.F_law_number.kp G.b_law_number (xCons (xVar 0) xNil)) (xOp op_sub f_sub (xInt) (xOp op_mul f_mul (xInt) (xCall (ok_law_next G) (hr.mono (by decide)) (by rfl) G.g_law_next G.F_law_next.kp G.b_law_next (xCons (xVar 0) (xCons (xInt) xNil))))))))
abbrev N_law_name : List Str := ["stream", "letters", "k"]
theorem sc_law_name : FnScope N_law_name ["stream"] (defScope s_law_name) := ⟨rfl, rfl, rfl, by decide +kernel, rfl, by decide +kernel, by decide +kernel⟩
theorem ok_law_name (G : Gm K mg A) : FnOk P w K mg base CX0 2 A.a_law_name A.d_law_name ["stream"] (spF K 1 (F_law_name A.toCA)) := by
  refine fn_ok G.F_law_name sc_law_name rfl (fun cdv A0 outer s H E hr => ?_)
  have nd := sc_law_name.nd
  exact (xSeq (xSet (i := 1) nd rfl (by first | exact Or.inl rfl | exact Or.inr rfl) (xStr (y := ⟨#[97, 98, 99, 100, 101, 102, 103, 104, 105, 106, 107, 108, 109, 110, 111, 112, 113, 114, 115, 116, 117, 118, 119, 120, 121, 122]⟩) (by decide +kernel))) (xSeq (xIf (xCmpT (op_eqD (hr.units)) f_eq (nomark _) (xCall (ok_law_next G) (hr.mono (by decide)) (by rfl) G.g_law_next G.F_law_next.kp G.b_law_next (xCons (xVar 0) (xCons (xInt) xNil))) (xInt)) (xOne (xRet (xIx (hu_of hr) (xTup (xCons (xStr (y := ⟨#[97]⟩) (by decide +kernel)) (xCons (xStr (y := ⟨#[98]⟩) (by decide +kernel)) (xCons (xStr (y := ⟨#[97, 98]⟩) (by decide +kernel)) (xCons (xStr (y := ⟨#[122, 122]⟩) (by decide +kernel)) xNil))))) (xCall (ok_law_next G) (hr.mono (by decide)) (by rfl) G.g_law_next G.F_law_next.kp G.b_law_next (xCons (xVar 0) (xCons (xInt) xNil))) (fun _ _ => rfl)))) xSkip) (xOne (xRet (xBm PySem.F.plainAttrs_str PySem.F.slot_str_join PySem.F.type_str_join mt_join f_join (xStr (y := ⟨#[]⟩) (by decide +kernel)) (xCons (xComp rfl nd (xRng1 (by rfl) G.z_range (xCons (xOp op_addA f_add (xInt) (xCall (ok_law_next G) (hr.mono (by decide)) (by rfl) G.g_law_next G.F_law_next.kp G.b_law_next (xCons (xVar 0) (xCons (xInt) xNil)))) xNil)) (blkOk_by (N := N_law_name) (sc := defScope s_law_name) (by decide +kernel)) (fun _ _ _ _ _ => pg_name (i := 2) nd rfl (Or.inl rfl)) (fun _ _ _ _ _ => xYes) (fun _ _ _ _ _ => (xIx (hu_of hr) (xVar 1) (xCall (ok_law_next G) (hr.mono (by decide)) (by rfl) G.g_law_next G.F_law_next.kp G.b_law_next (xCons (xVar 0) (xCons (xInt) xNil))) (fun _ _ => rfl)))) xNil))))))
abbrev N_law_thing : List Str := ["stream", "kind", "name", "at", "k"]
theorem sc_law_thing : FnScope N_law_thing ["stream"] (defScope s_law_thing) := ⟨rfl, rfl, rfl, by decide +kernel, rfl, by decide +kernel, by decide +kernel⟩
theorem ok_law_thing (G : Gm K mg A) : FnOk P w K mg base CX0 4 A.a_law_thing A.d_law_thing ["stream"] (spF K 1 (F_law_thing A.toCA)) := by
  refine fn_ok G.F_law_thing sc_law_thing rfl (fun cdv A0 outer s H E hr => ?_)
  have nd := sc_law_thing.nd
  exact (xSeq (xSet (i := 1) nd rfl (by first | exact Or.inl rfl | exact Or.inr rfl) (xCall (ok_law_next G) (hr.mono (by decide)) (by rfl) G.g_law_next G.F_law_next.kp G.b_law_next (xCons (xVar 0) (xCons (xInt) xNil)))) (xSeq (xIf (xCmpT (op_eqD (hr.units)) f_eq (nomark _) (xVar 1) (xInt)) (xOne (xRet (xCall (ok_law_odd G) (hr.mono (by decide)) (by rfl) G.g_law_odd G.F_law_odd.kp G.b_law_odd (xCons (xVar 0) xNil)))) xSkip) (xSeq (xIf (xCmpT (op_eqD (hr.units)) f_eq (nomark _) (xVar 1) (xInt)) (xOne (xRet (xOp op_sub f_sub (xOp op_addA f_add (xCall (ok_law_integer G) (hr.mono (by decide)) (by rfl) G.g_law_integer G.F_law_integer.kp G.b_law_integer (xCons (xVar 0) xNil)) (xCall (ok_law_next G) (hr.mono (by decide)) (by rfl) G.g_law_next G.F_law_next.kp G.b_law_next (xCons (xVar 0) (xCons (xInt) xNil)))) (xInt)))) xSkip) (xSeq (xIf (xCmpT (op_eqD (hr.units)) f_eq (nomark _) (xVar 1) (xInt)) (xOne (xRet (xOp op_sub f_sub (xOp op_addA f_add (xOp op_mul f_mul (xCall (ok_law_integer G) (hr.mono (by decide)) (by rfl) G.g_law_integer G.F_law_integer.kp G.b_law_integer (xCons (xVar 0) xNil)) (xInt)) (xCall (ok_law_next G) (hr.mono (by decide)) (by rfl) G.g_law_next G.F_law_next.kp G.b_law_next (xCons (xVar 0) (xCons (xInt) xNil)))) (xInt)))) xSkip) (xSeq (xSet (i := 2) nd rfl (by first | exact Or.inl rfl | exact Or.inr rfl) (xBm PySem.F.plainAttrs_str PySem.F.slot_str_join PySem.F.type_str_join mt_join f_join (xStr (y := ⟨#[]⟩) (by decide +kernel)) (xCons (xComp rfl nd (xRng1 (by rfl) G.z_range (xCons (xOp op_addA f_add (xInt) (xCall (ok_law_next G) (hr.mono (by decide)) (by rfl) G.g_law_next G.F_law_next.kp G.b_law_next (xCons (xVar 0) (xCons (xInt) xNil)))) xNil)) (blkOk_by (N := N_law_thing) (sc := defScope s_law_thing) (by decide +kernel)) (fun _ _ _ _ _ => pg_name (i := 4) nd rfl (Or.inl rfl)) (fun _ _ _ _ _ => xYes) (fun _ _ _ _ _ => (xCall (ok_law_name G) (hr.mono (by decide)) (by rfl) G.g_law_name G.F_law_name.kp G.b_law_name (xCons (xVar 0) xNil)))) xNil))) (xSeq (xIf (xCmpT (op_eqD (hr.units)) f_eq (nomark _) (xVar 1) (xInt)) (xOne (xRet (xVar 2))) xSkip) (xSeq (xSet (i := 3) nd rfl (by first | exact Or.inl rfl | exact Or.inr rfl) (xCall (ok_law_next G) (hr.mono (by decide)) (by rfl) G.g_law_next G.F_law_next.kp G.b_law_next (xCons (xVar 0) (xCons (xOp op_addA f_add (xCB call_lenA f_len (by rfl) G.z_len (by decide +kernel) (xCons (xVar 2) xNil)) (xInt)) xNil)))) (xOne (xRet (xOp op_addA f_add (xOp op_addA f_add (xSl (xVar 2) xPNo (xPSo (xVar 3))) (xIx (hu_of hr) (xStr (y := ⟨#[65, 90, 48, 57, 32, 95, 45, 46, 10, 123, 96, 64]⟩) (by decide +kernel)) (xCall (ok_law_next G) (hr.mono (by decide)) (by rfl) G.g_law_next G.F_law_next.kp G.b_law_next (xCons (xVar 0) (xCons (xInt) xNil))) (fun _ _ => rfl))) (xSl (xVar 2) (xPSo (xVar 3)) xPNo)))))))))))
abbrev N_law_stream : List Str := ["cell", "k", "digits"]
theorem sc_law_stream : FnScope N_law_stream ["cell", "k"] (defScope s_law_stream) := ⟨rfl, rfl, rfl, by decide +kernel, rfl, by decide +kernel, by decide +kernel⟩
theorem ok_law_stream (G : Gm K mg A) : FnOk P w K mg base CX0 1 A.a_law_stream A.d_law_stream ["cell", "k"] (spF K 2 (F_law_stream A.toCA)) := by
  refine fn_ok G.F_law_stream sc_law_stream rfl (fun cdv A0 outer s H E hr => ?_)
  have nd := sc_law_stream.nd
  exact (xSeq (xSet (i := 2) nd rfl (by first | exact Or.inl rfl | exact Or.inr rfl) (xInt)) (xSeq (xIf (xCmpT op_ge f_ge (nomark _) (xVar 0) (xOp op_pow f_pow (xInt) (xInt))) (xOne (xSet (i := 2) nd rfl (by first | exact Or.inl rfl | exact Or.inr rfl) (xVar 0))) xSkip) (xOne (xRet (xLst (xCons (xVar 2) (xCons (xOp op_mod f_mod (xCT call_int1 f_int (by rfl) G.z_int (by decide +kernel) (xCons (xOp op_addA f_add (xOp op_addA f_add (xOp op_mul f_mul (xVar 0) (xInt)) (xOp op_mul f_mul (xVar 1) (xInt))) (xInt)) xNil)) (xInt)) xNil)))))))
abbrev N_law_flag : List Str := ["actual", "due"]
theorem sc_law_flag : FnScope N_law_flag ["actual", "due"] (defScope s_law_flag) := ⟨rfl, rfl, rfl, by decide +kernel, rfl, by decide +kernel, by decide +kernel⟩
theorem ok_law_flag (G : Gm K mg A) : FnOk P w K mg base CX0 1 A.a_law_flag A.d_law_flag ["actual", "due"] (spF K 2 (F_law_flag A.toCA)) := by
  refine fn_ok G.F_law_flag sc_law_flag rfl (fun cdv A0 outer s H E hr => ?_)
  have nd := sc_law_flag.nd
  exact (xOne (xRet (xAndV (xIsi (xVar 0) (by decide +kernel) (by rfl) G.z_bool (by rfl) G.z_isinstance) (xOneV (xCmp (op_eqD (hr.units)) f_eq (nomark _) (xVar 0) (xVar 1))))))
abbrev N_law_is_int : List Str := ["thing", "least", "most"]
theorem sc_law_is_int : FnScope N_law_is_int ["thing", "least", "most"] (defScope s_law_is_int) := ⟨rfl, rfl, rfl, by decide +kernel, rfl, by decide +kernel, by decide +kernel⟩
theorem ok_law_is_int (G : Gm K mg A) : FnOk P w K mg base CX0 1 A.a_law_is_int A.d_law_is_int ["thing", "least", "most"] (spF K 3 (F_law_is_int A.toCA)) := by
  refine fn_ok G.F_law_is_int sc_law_is_int rfl (fun cdv A0 outer s H E hr => ?_)
  have nd := sc_law_is_int.nd
  exact (xOne (xRet (xAndV (xIsi (xVar 0) (by decide +kernel) (by rfl) G.z_int (by rfl) G.z_isinstance) (xAndV (xNotV (xIsi (xVar 0) (by decide +kernel) (by rfl) G.z_bool (by rfl) G.z_isinstance)) (xAndV (xCmp op_ge f_ge (nomark _) (xVar 0) (xVar 1)) (xOneV (xCmp op_le f_le (nomark _) (xVar 0) (xVar 2))))))))
abbrev N_is_between : List Str := ["thing", "least", "most"]
theorem sc_is_between : FnScope N_is_between ["thing", "least", "most"] (defScope s_is_between) := ⟨rfl, rfl, rfl, by decide +kernel, rfl, by decide +kernel, by decide +kernel⟩
theorem ok_is_between (G : Gm K mg A) : FnOk P w K mg base CX0 1 A.a_is_between A.d_is_between ["thing", "least", "most"] (spF K 3 (F_is_between A.toCA)) := by
  refine fn_ok G.F_is_between sc_is_between rfl (fun cdv A0 outer s H E hr => ?_)
  have nd := sc_is_between.nd
  exact (xOne (xRet (xAndV (xTyIs (xVar 0) (by decide +kernel) (by rfl) G.z_int (by rfl) G.z_type) (xOneV (xChain op_le op_le f_le f_le (xVar 1) (xVar 0) (xVar 2))))))
abbrev N_is_number : List Str := ["thing"]
theorem sc_is_number : FnScope N_is_number ["thing"] (defScope s_is_number) := ⟨rfl, rfl, rfl, by decide +kernel, rfl, by decide +kernel, by decide +kernel⟩
theorem ok_is_number (G : Gm K mg A) : FnOk P w K mg base CX0 2 A.a_is_number A.d_is_number ["thing"] (spF K 1 (F_is_number A.toCA)) := by
  refine fn_ok G.F_is_number sc_is_number rfl (fun cdv A0 outer s H E hr => ?_)
  have nd := sc_is_number.nd
  exact (xOne (xRet (xCall (ok_is_between G) (hr.mono (by decide)) (by rfl) G.g_is_between G.F_is_between.kp G.b_is_between (xCons (xVar 0) (xCons (xInt) (xCons (xGlobI rfl G.c_MOST_NUMBER) xNil))))))
abbrev N_is_integer : List Str := ["thing"]
theorem sc_is_integer : FnScope N_is_integer ["thing"] (defScope s_is_integer) := ⟨rfl, rfl, rfl, by decide +kernel, rfl, by decide +kernel, by decide +kernel⟩
theorem ok_is_integer (G : Gm K mg A) : FnOk P w K mg base CX0 2 A.a_is_integer A.d_is_integer ["thing"] (spF K 1 (F_is_integer A.toCA)) := by
  refine fn_ok G.F_is_integer sc_is_integer rfl (fun cdv A0 outer s H E hr => ?_)
  have nd := sc_is_integer.nd
  exact (xOne (xRet (xCall (ok_is_between G) (hr.mono (by decide)) (by rfl) G.g_is_between G.F_is_between.kp G.b_is_between (xCons (xVar 0) (xCons (xUn un_neg f_neg (xGlobI rfl G.c_MOST_NUMBER)) (xCons (xGlobI rfl G.c_MOST_NUMBER) xNil))))))
abbrev N_is_value : List Str := ["thing"]
theorem sc_is_value : FnScope N_is_value ["thing"] (defScope s_is_value) := ⟨rfl, rfl, rfl, by decide +kernel, rfl, by decide +kernel, by decide +kernel⟩
theorem ok_is_value (G : Gm K mg A) : FnOk P w K mg base CX0 2 A.a_is_value A.d_is_value ["thing"] (spF K 1 (F_is_value A.toCA)) := by
  refine fn_ok G.F_is_value sc_is_value rfl (fun cdv A0 outer s H E hr => ?_)
  have nd := sc_is_value.nd
  exact (xOne (xRet (xCall (ok_is_between G) (hr.mono (by decide)) (by rfl) G.g_is_between G.F_is_between.kp G.b_is_between (xCons (xVar 0) (xCons (xUn un_neg f_neg (xGlobI rfl G.c_MOST_VALUE)) (xCons (xGlobI rfl G.c_MOST_VALUE) xNil))))))
abbrev N_law_is_name : List Str := ["thing", "char"]
theorem sc_law_is_name : FnScope N_law_is_name ["thing"] (defScope s_law_is_name) := ⟨rfl, rfl, rfl, by decide +kernel, rfl, by decide +kernel, by decide +kernel⟩
theorem ok_law_is_name (G : Gm K mg A) : FnOk P w K mg base CX0 1 A.a_law_is_name A.d_law_is_name ["thing"] (spF K 1 (F_law_is_name A.toCA)) := by
  refine fn_ok G.F_law_is_name sc_law_is_name rfl (fun cdv A0 outer s H E hr => ?_)
  have nd := sc_law_is_name.nd
  exact (xSeq (xIf (PW.pt (xOr (xNot (xVal (xIsi (xVar 0) (by decide +kernel) (by rfl) G.z_str (by rfl) G.z_isinstance))) (xOr (xCmpT op_lt f_lt (nomark _) (xCB call_lenA f_len (by rfl) G.z_len (by decide +kernel) (xCons (xVar 0) xNil)) (xInt)) (xOr1 (xCmpT op_gt f_gt (nomark _) (xCB call_lenA f_len (by rfl) G.z_len (by decide +kernel) (xCons (xVar 0) xNil)) (xInt)))))) (xOne (xRet (xBl))) xSkip) (xOne (xRet (xCmp (op_eqD (hr.units)) f_eq (nomark _) (xComp rfl nd (xIterS (xVar 0)) (blkOk_by (N := N_law_is_name) (sc := defScope s_law_is_name) (by decide +kernel)) (fun _ _ _ _ _ => pg_name (i := 1) nd rfl (Or.inl rfl)) (fun _ _ _ _ _ => (xTst (xCmpT op_notIn_sign f_notInS rfl (xVar 1) (xStr (y := ⟨#[97, 98, 99, 100, 101, 102, 103, 104, 105, 106, 107, 108, 109, 110, 111, 112, 113, 114, 115, 116, 117, 118, 119, 120, 121, 122]⟩) (by decide +kernel))))) (fun _ _ _ _ _ => (xVar 1))) (xLst xNil)))))
abbrev N_is_name : List Str := ["thing", "letter"]
theorem sc_is_name : FnScope N_is_name ["thing"] (defScope s_is_name) := ⟨rfl, rfl, rfl, by decide +kernel, rfl, by decide +kernel, by decide +kernel⟩
theorem ok_is_name (G : Gm K mg A) : FnOk P w K mg base CX0 1 A.a_is_name A.d_is_name ["thing"] (spF K 1 (F_is_name A.toCA)) := by
  refine fn_ok G.F_is_name sc_is_name rfl (fun cdv A0 outer s H E hr => ?_)
  have nd := sc_is_name.nd
  exact (xSeq (xIf (PW.pt (xOr (xTyNotT (xVar 0) (by decide +kernel) (by rfl) G.z_str (by rfl) G.z_type) (xOr1 (xNot (xChainT op_le op_le f_le f_le (xInt) (xCB call_lenA f_len (by rfl) G.z_len (by decide +kernel) (xCons (xVar 0) xNil)) (xGlobI rfl G.c_MOST_LETTERS)))))) (xOne (xRet (xBl))) xSkip) (xOne (xRet (xCB (cr_all rfl) f_all (by rfl) G.z_all (by decide +kernel) (xCons (xComp rfl nd (xIterS (xVar 0)) (blkOk_by (N := N_is_name) (sc := defScope s_is_name) (by decide +kernel)) (fun _ _ _ _ _ => pg_name (i := 1) nd rfl (Or.inl rfl)) (fun _ _ _ _ _ => xYes) (fun _ _ _ _ _ => (xChain op_le_str op_le_str f_leS f_leS (xStr (y := ⟨#[97]⟩) (by decide +kernel)) (xVar 1) (xStr (y := ⟨#[122]⟩) (by decide +kernel))))) xNil)))))
abbrev N_law : List Str := ["script", "k", "thing"]
theorem sc_law : FnScope N_law ["script"] (defScope s_law) := ⟨rfl, rfl, rfl, by decide +kernel, rfl, by decide +kernel, by decide +kernel⟩
theorem ok_law (G : Gm K mg A) : FnOk P w K mg base CX0 5 A.a_law A.d_law ["script"] (spF K 1 (F_law A.toCA)) := by
  refine fn_ok G.F_law sc_law rfl (fun cdv A0 outer s H E hr => ?_)
  have nd := sc_law.nd
  exact (xSeq (xFor PassesOwn.never rfl (xRng1 (by rfl) G.z_range (xCons (xCB (call_min2 rfl) f_min2 (by rfl) G.z_min (by decide +kernel) (xCons (xCB call_lenA f_len (by rfl) G.z_len (by decide +kernel) (xCons (xVar 0) xNil)) (xCons (xInt) xNil))) xNil)) (xgN nd rfl (by first | exact Or.inl rfl | exact Or.inr rfl)) (xSeq (xSet (i := 2) nd rfl (by first | exact Or.inl rfl | exact Or.inr rfl) (xCall (ok_law_thing G) (hr.mono (by decide)) (by rfl) G.g_law_thing G.F_law_thing.kp G.b_law_thing (xCons (xCall (ok_law_stream G) (hr.mono (by decide)) (by rfl) G.g_law_stream G.F_law_stream.kp G.b_law_stream (xCons (xIx (hu_of hr) (xVar 0) (xVar 1) (fun _ _ => rfl)) (xCons (xVar 1) xNil))) xNil))) (xSeq (xIf (xNot (xVal (xCall (ok_law_flag G) (hr.mono (by decide)) (by rfl) G.g_law_flag G.F_law_flag.kp G.b_law_flag (xCons (xCall (ok_is_number G) (hr.mono (by decide)) (by rfl) G.g_is_number G.F_is_number.kp G.b_is_number (xCons (xVar 2) xNil)) (xCons (xCall (ok_law_is_int G) (hr.mono (by decide)) (by rfl) G.g_law_is_int G.F_law_is_int.kp G.b_law_is_int (xCons (xVar 2) (xCons (xInt) (xCons (xOp op_pow f_pow (xInt) (xInt)) xNil)))) xNil))))) (xOne (xRet (xBl))) xSkip) (xSeq (xIf (xNot (xVal (xCall (ok_law_flag G) (hr.mono (by decide)) (by rfl) G.g_law_flag G.F_law_flag.kp G.b_law_flag (xCons (xCall (ok_is_integer G) (hr.mono (by decide)) (by rfl) G.g_is_integer G.F_is_integer.kp G.b_is_integer (xCons (xVar 2) xNil)) (xCons (xCall (ok_law_is_int G) (hr.mono (by decide)) (by rfl) G.g_law_is_int G.F_law_is_int.kp G.b_law_is_int (xCons (xVar 2) (xCons (xUn un_neg f_neg (xOp op_pow f_pow (xInt) (xInt))) (xCons (xOp op_pow f_pow (xInt) (xInt)) xNil)))) xNil))))) (xOne (xRet (xBl))) xSkip) (xSeq (xIf (xNot (xVal (xCall (ok_law_flag G) (hr.mono (by decide)) (by rfl) G.g_law_flag G.F_law_flag.kp G.b_law_flag (xCons (xCall (ok_is_value G) (hr.mono (by decide)) (by rfl) G.g_is_value G.F_is_value.kp G.b_is_value (xCons (xVar 2) xNil)) (xCons (xCall (ok_law_is_int G) (hr.mono (by decide)) (by rfl) G.g_law_is_int G.F_law_is_int.kp G.b_law_is_int (xCons (xVar 2) (xCons (xUn un_neg f_neg (xOp op_pow f_pow (xInt) (xInt))) (xCons (xOp op_pow f_pow (xInt) (xInt)) xNil)))) xNil))))) (xOne (xRet (xBl))) xSkip) (xOne (xIf (xNot (xVal (xCall (ok_law_flag G) (hr.mono (by decide)) (by rfl) G.g_law_flag G.F_law_flag.kp G.b_law_flag (xCons (xCall (ok_is_name G) (hr.mono (by decide)) (by rfl) G.g_is_name G.F_is_name.kp G.b_is_name (xCons (xVar 2) xNil)) (xCons (xCall (ok_law_is_name G) (hr.mono (by decide)) (by rfl) G.g_law_is_name G.F_law_is_name.kp G.b_law_is_name (xCons (xVar 2) xNil)) xNil))))) (xOne (xRet (xBl))) xSkip))))))) (xOne (xRet (xAndV (xCmp op_is_bl f_isB (nomark _) (xCall (ok_is_name G) (hr.mono (by decide)) (by rfl) G.g_is_name G.F_is_name.kp G.b_is_name (xCons (xStr (y := ⟨#[97]⟩) (by decide +kernel)) xNil)) (xBl)) (xOneV (xCmp op_is_bl f_isB (nomark _) (xCall (ok_is_number G) (hr.mono (by decide)) (by rfl) G.g_is_number G.F_is_number.kp G.b_is_number (xCons (xInt) xNil)) (xBl)))))))
end
end Qk01

namespace Qk01
open PySem L2 RF
abbrev Sd := Int × Int
def stC (s : Sd) : Cell := .lst [.int s.1, .int s.2]
def dNext (size : Int) (s : Sd) : Int × Sd :=
  if 0 < s.1 then (s.1 % size, (s.1 / size, s.2)) else
    let b := (s.2 * 48271 + 12820163) % 2147483647
    ((b * 16807 + 5) % 2147483399 / 3 % size, (s.1, b))
theorem dNext_lo {size : Int} (h : 0 < size) (s : Sd) : 0 ≤ (dNext size s).1 := by
  unfold dNext; split <;> exact Int.emod_nonneg _ (by omega)
theorem dNext_hi {size : Int} (h : 0 < size) (s : Sd) : (dNext size s).1 < size := by
  unfold dNext; split <;> exact Int.emod_lt_of_pos _ h
def nextC (c : CA) (n : Nat) (size : Int) (S : Sto) : Option Cell → R D
  | some (.lst [.int a, .int b]) => .ok (.int (dNext size (a, b)).1) (S.set n (stC (dNext size (a, b)).2))
  | _ => F_law_next c [.ref n, .int size] S
theorem fT_nextC (c : CA) {n : Nat} {s : Sd} {size : Int} {S : Sto} : nextC c n size S (some (stC s)) = .ok (.int (dNext size s).1) (S.set n (stC (dNext size s).2)) := (rfl)
theorem next_eq (c : CA) {n : Nat} {size : Int} {S : Sto} (h0 : 0 < size) (h1 : size < 1267650600228229401496703205376) :
    F_law_next c [.ref n, .int size] S = nextC c n size S S[n]? := by
  unfold nextC
  split
  · rename_i a b h
    unfold F_law_next b_law_next
    by_cases ha : 0 < a
    · simp only [ap_fVar, varK_some, ap_fC, ap_fBin, ap_binK, ap_fUn, ap_fApp, ap_fNil, ap_fCons, ap_consK, ap_consK2, ap_fTup, ap_fLst, ap_tupK, ap_lstK, ap_fTest, ap_testK, ap_fVal, ap_valK, ap_fAnd, ap_fOr, ap_fNot, ap_andK, ap_orK, ap_notK, ap_fAndV, ap_fOrV, ap_fNotV, ap_andVK, ap_orVK, ap_notVK, ap_fIfE, ap_ifEK, ap_fChain, ap_chK1, ap_chK2, ap_chK3, ap_fSkip, ap_fBrk, ap_fCnt, ap_fSeq, ap_seqK_nx, ap_seqK_rt, ap_seqK_bk, ap_seqK_ct, ap_fIf, ap_ifK, ap_fRet, ap_retK, ap_fRetN, ap_fDrop, ap_dropK, ap_fAsg, ap_asgK, ap_asgK2, ap_gN, ap_gNil, ap_gCons, ap_gsK, ap_gUnp, ap_unpK, ap_gSub, ap_subK1, ap_subK2, ap_subK3, ap_fIx, ap_ixK, isDict_ref, isDict_tup, isDict_rl, isDict_str, isDictC_lst, isDictC_dk, isDictC_dt, getL_tup, getL_rl, getL_str, getL_ref, getLC_lst, retO_some, atI_0, atI_1, atI_2, atI_3, oSet_ref, setC_lst, setLK_some, ixN_0, ixN_1, ap_fCall, ap_callK, ap_fnF, ap_fnK_nx, ap_fnK_rt, o_add, o_addR, o_addC, o_addS, o_addT, o_sub, o_mul, o_mod, o_div, o_pow, o_neg, o_lt, o_le, o_gt, o_ge, o_int, o_min2, o_max2, o_leS1, o_inS1, o_isB, o_eq, o_ne, eqK_some, neK_some, eqv_int, eqv_bool, toP_int, toP_bl, toP_non, toP_str, toP_tup, toP_rl, toP_ref, toPC_lst, toP_mapM_nil, toP_mapM_cons, toP_consO, o_len, lenK_some, lenD_tup, lenD_rl, lenD_str, lenD_ref, lenC_lst, ap_fIsi, ap_isiK0, ap_isiK, ap_isiK2, ap_fTyIs, ap_tyK0, ap_tyK, ap_fFor, ap_forK_fix, ap_forK_live, loopX_nil, loopX_cons, ap_turnK0, ap_turnK_nx, ap_turnK_ct, ap_turnK_bk, ap_turnK_rt, ap_fRng1, ap_rng1K, ap_fIter, ap_iterK_rl, ap_iterK_tup, ap_iterK_ref, iterC_lst, ap_fIterS, ap_iterSK, ap_fComp, ap_compK_fix, ap_compK_live, compX_nil, compX_cons, ap_compTK, ap_compEK, ap_fYes, ap_fDict0, ap_fDictT0, ap_fSl, ap_slK1, ap_slK2, ap_pNo, ap_pSo, ap_pSoK, oSl_tup, oSl_str, ap_fBm, ap_bmK, tyIn_str, tyIn_ref, tyInC_lst, tyD_ref, R.bind_ok, R.bind_ex, R.bind_bad, R.nox_ok, nox_bad', List.map_cons, List.map_nil, List.length_cons, List.length_nil, List.cons_append, List.nil_append, Nat.zero_add, Nat.reduceAdd, Nat.reduceSub, List.replicate_succ, List.replicate_zero, List.getElem?_cons_zero, List.getElem?_cons_succ, List.set_cons_zero, List.set_cons_succ, List.append_nil, Bool.false_eq_true, if_true, if_false, decide_eq_true_eq, decide_true, decide_false, Nat.add_zero, reduceIte, reduceDIte, Nat.reduceLeDiff, Int.reduceLT, Int.reduceLE, Int.reduceNeg, Int.reducePow, Int.reduceMul, Int.reduceAdd, Int.reduceSub, Nat.reduceEqDiff, Nat.reducePow, true_and, and_true, or_true, true_or, false_or, or_false, and_self, Bool.not_true, Bool.not_false, Nat.reduceLT, ge_iff_le, gt_iff_lt, Nat.le_refl, Option.map_some, Bool.not_eq_true, Bool.not_eq_eq_eq_not, not_true_eq_false, not_false_eq_true, Int.reduceToNat, beq_iff_eq, Int.reduceEq, String.reduceEq, String.reduceNe, Int.reduceNe, List.set_set, get_app, get_app0, get_apps, get_apps0, set_app, set_app0, set_apps, set_apps0, List.append_assoc, Nat.add_assoc, List.toList_toArray, List.size_toArray, List.length_set, List.length_append, h, set_get h, h0, h1, ha, stC, dNext]
    · simp only [ap_fVar, varK_some, ap_fC, ap_fBin, ap_binK, ap_fUn, ap_fApp, ap_fNil, ap_fCons, ap_consK, ap_consK2, ap_fTup, ap_fLst, ap_tupK, ap_lstK, ap_fTest, ap_testK, ap_fVal, ap_valK, ap_fAnd, ap_fOr, ap_fNot, ap_andK, ap_orK, ap_notK, ap_fAndV, ap_fOrV, ap_fNotV, ap_andVK, ap_orVK, ap_notVK, ap_fIfE, ap_ifEK, ap_fChain, ap_chK1, ap_chK2, ap_chK3, ap_fSkip, ap_fBrk, ap_fCnt, ap_fSeq, ap_seqK_nx, ap_seqK_rt, ap_seqK_bk, ap_seqK_ct, ap_fIf, ap_ifK, ap_fRet, ap_retK, ap_fRetN, ap_fDrop, ap_dropK, ap_fAsg, ap_asgK, ap_asgK2, ap_gN, ap_gNil, ap_gCons, ap_gsK, ap_gUnp, ap_unpK, ap_gSub, ap_subK1, ap_subK2, ap_subK3, ap_fIx, ap_ixK, isDict_ref, isDict_tup, isDict_rl, isDict_str, isDictC_lst, isDictC_dk, isDictC_dt, getL_tup, getL_rl, getL_str, getL_ref, getLC_lst, retO_some, atI_0, atI_1, atI_2, atI_3, oSet_ref, setC_lst, setLK_some, ixN_0, ixN_1, ap_fCall, ap_callK, ap_fnF, ap_fnK_nx, ap_fnK_rt, o_add, o_addR, o_addC, o_addS, o_addT, o_sub, o_mul, o_mod, o_div, o_pow, o_neg, o_lt, o_le, o_gt, o_ge, o_int, o_min2, o_max2, o_leS1, o_inS1, o_isB, o_eq, o_ne, eqK_some, neK_some, eqv_int, eqv_bool, toP_int, toP_bl, toP_non, toP_str, toP_tup, toP_rl, toP_ref, toPC_lst, toP_mapM_nil, toP_mapM_cons, toP_consO, o_len, lenK_some, lenD_tup, lenD_rl, lenD_str, lenD_ref, lenC_lst, ap_fIsi, ap_isiK0, ap_isiK, ap_isiK2, ap_fTyIs, ap_tyK0, ap_tyK, ap_fFor, ap_forK_fix, ap_forK_live, loopX_nil, loopX_cons, ap_turnK0, ap_turnK_nx, ap_turnK_ct, ap_turnK_bk, ap_turnK_rt, ap_fRng1, ap_rng1K, ap_fIter, ap_iterK_rl, ap_iterK_tup, ap_iterK_ref, iterC_lst, ap_fIterS, ap_iterSK, ap_fComp, ap_compK_fix, ap_compK_live, compX_nil, compX_cons, ap_compTK, ap_compEK, ap_fYes, ap_fDict0, ap_fDictT0, ap_fSl, ap_slK1, ap_slK2, ap_pNo, ap_pSo, ap_pSoK, oSl_tup, oSl_str, ap_fBm, ap_bmK, tyIn_str, tyIn_ref, tyInC_lst, tyD_ref, R.bind_ok, R.bind_ex, R.bind_bad, R.nox_ok, nox_bad', List.map_cons, List.map_nil, List.length_cons, List.length_nil, List.cons_append, List.nil_append, Nat.zero_add, Nat.reduceAdd, Nat.reduceSub, List.replicate_succ, List.replicate_zero, List.getElem?_cons_zero, List.getElem?_cons_succ, List.set_cons_zero, List.set_cons_succ, List.append_nil, Bool.false_eq_true, if_true, if_false, decide_eq_true_eq, decide_true, decide_false, Nat.add_zero, reduceIte, reduceDIte, Nat.reduceLeDiff, Int.reduceLT, Int.reduceLE, Int.reduceNeg, Int.reducePow, Int.reduceMul, Int.reduceAdd, Int.reduceSub, Nat.reduceEqDiff, Nat.reducePow, true_and, and_true, or_true, true_or, false_or, or_false, and_self, Bool.not_true, Bool.not_false, Nat.reduceLT, ge_iff_le, gt_iff_lt, Nat.le_refl, Option.map_some, Bool.not_eq_true, Bool.not_eq_eq_eq_not, not_true_eq_false, not_false_eq_true, Int.reduceToNat, beq_iff_eq, Int.reduceEq, String.reduceEq, String.reduceNe, Int.reduceNe, List.set_set, get_app, get_app0, get_apps, get_apps0, set_app, set_app0, set_apps, set_apps0, List.append_assoc, Nat.add_assoc, List.toList_toArray, List.size_toArray, List.length_set, List.length_append, h, set_get h, h0, h1, ha, stC, dNext]
  · rfl
def dNumber (s : Sd) : Int × Sd :=
  let (kind, s) := dNext 6 s
  if kind = 0 then let (x, s) := dNext 3 s; (10 ^ 12 - x, s)
  else if kind = 1 then let (x, s) := dNext (10 ^ 6) s; let (y, s) := dNext (10 ^ 6) s; (x * 10 ^ 6 + y, s)
  else dNext 20 s
theorem number_eq (c : CA) {n : Nat} {s : Sd} {S : Sto} (h : S[n]? = some (stC s)) :
    F_law_number c [.ref n] S = .ok (.int (dNumber s).1) (S.set n (stC (dNumber s).2)) := by
  unfold F_law_number b_law_number
  by_cases h0 : (dNext 6 s).1 = 0
  · simp only [ap_fVar, varK_some, ap_fC, ap_fBin, ap_binK, ap_fUn, ap_fApp, ap_fNil, ap_fCons, ap_consK, ap_consK2, ap_fTup, ap_fLst, ap_tupK, ap_lstK, ap_fTest, ap_testK, ap_fVal, ap_valK, ap_fAnd, ap_fOr, ap_fNot, ap_andK, ap_orK, ap_notK, ap_fAndV, ap_fOrV, ap_fNotV, ap_andVK, ap_orVK, ap_notVK, ap_fIfE, ap_ifEK, ap_fChain, ap_chK1, ap_chK2, ap_chK3, ap_fSkip, ap_fBrk, ap_fCnt, ap_fSeq, ap_seqK_nx, ap_seqK_rt, ap_seqK_bk, ap_seqK_ct, ap_fIf, ap_ifK, ap_fRet, ap_retK, ap_fRetN, ap_fDrop, ap_dropK, ap_fAsg, ap_asgK, ap_asgK2, ap_gN, ap_gNil, ap_gCons, ap_gsK, ap_gUnp, ap_unpK, ap_gSub, ap_subK1, ap_subK2, ap_subK3, ap_fIx, ap_ixK, isDict_ref, isDict_tup, isDict_rl, isDict_str, isDictC_lst, isDictC_dk, isDictC_dt, getL_tup, getL_rl, getL_str, getL_ref, getLC_lst, retO_some, atI_0, atI_1, atI_2, atI_3, oSet_ref, setC_lst, setLK_some, ixN_0, ixN_1, ap_fCall, ap_callK, ap_fnF, ap_fnK_nx, ap_fnK_rt, o_add, o_addR, o_addC, o_addS, o_addT, o_sub, o_mul, o_mod, o_div, o_pow, o_neg, o_lt, o_le, o_gt, o_ge, o_int, o_min2, o_max2, o_leS1, o_inS1, o_isB, o_eq, o_ne, eqK_some, neK_some, eqv_int, eqv_bool, toP_int, toP_bl, toP_non, toP_str, toP_tup, toP_rl, toP_ref, toPC_lst, toP_mapM_nil, toP_mapM_cons, toP_consO, o_len, lenK_some, lenD_tup, lenD_rl, lenD_str, lenD_ref, lenC_lst, ap_fIsi, ap_isiK0, ap_isiK, ap_isiK2, ap_fTyIs, ap_tyK0, ap_tyK, ap_fFor, ap_forK_fix, ap_forK_live, loopX_nil, loopX_cons, ap_turnK0, ap_turnK_nx, ap_turnK_ct, ap_turnK_bk, ap_turnK_rt, ap_fRng1, ap_rng1K, ap_fIter, ap_iterK_rl, ap_iterK_tup, ap_iterK_ref, iterC_lst, ap_fIterS, ap_iterSK, ap_fComp, ap_compK_fix, ap_compK_live, compX_nil, compX_cons, ap_compTK, ap_compEK, ap_fYes, ap_fDict0, ap_fDictT0, ap_fSl, ap_slK1, ap_slK2, ap_pNo, ap_pSo, ap_pSoK, oSl_tup, oSl_str, ap_fBm, ap_bmK, tyIn_str, tyIn_ref, tyInC_lst, tyD_ref, R.bind_ok, R.bind_ex, R.bind_bad, R.nox_ok, nox_bad', List.map_cons, List.map_nil, List.length_cons, List.length_nil, List.cons_append, List.nil_append, Nat.zero_add, Nat.reduceAdd, Nat.reduceSub, List.replicate_succ, List.replicate_zero, List.getElem?_cons_zero, List.getElem?_cons_succ, List.set_cons_zero, List.set_cons_succ, List.append_nil, Bool.false_eq_true, if_true, if_false, decide_eq_true_eq, decide_true, decide_false, Nat.add_zero, reduceIte, reduceDIte, Nat.reduceLeDiff, Int.reduceLT, Int.reduceLE, Int.reduceNeg, Int.reducePow, Int.reduceMul, Int.reduceAdd, Int.reduceSub, Nat.reduceEqDiff, Nat.reducePow, true_and, and_true, or_true, true_or, false_or, or_false, and_self, Bool.not_true, Bool.not_false, Nat.reduceLT, ge_iff_le, gt_iff_lt, Nat.le_refl, Option.map_some, Bool.not_eq_true, Bool.not_eq_eq_eq_not, not_true_eq_false, not_false_eq_true, Int.reduceToNat, beq_iff_eq, Int.reduceEq, String.reduceEq, String.reduceNe, Int.reduceNe, List.set_set, get_app, get_app0, get_apps, get_apps0, set_app, set_app0, set_apps, set_apps0, List.append_assoc, Nat.add_assoc, List.toList_toArray, List.size_toArray, List.length_set, List.length_append, next_eq, fT_nextC, h, set_get h, h0, dNumber]
  · by_cases h1 : (dNext 6 s).1 = 1
    · simp only [ap_fVar, varK_some, ap_fC, ap_fBin, ap_binK, ap_fUn, ap_fApp, ap_fNil, ap_fCons, ap_consK, ap_consK2, ap_fTup, ap_fLst, ap_tupK, ap_lstK, ap_fTest, ap_testK, ap_fVal, ap_valK, ap_fAnd, ap_fOr, ap_fNot, ap_andK, ap_orK, ap_notK, ap_fAndV, ap_fOrV, ap_fNotV, ap_andVK, ap_orVK, ap_notVK, ap_fIfE, ap_ifEK, ap_fChain, ap_chK1, ap_chK2, ap_chK3, ap_fSkip, ap_fBrk, ap_fCnt, ap_fSeq, ap_seqK_nx, ap_seqK_rt, ap_seqK_bk, ap_seqK_ct, ap_fIf, ap_ifK, ap_fRet, ap_retK, ap_fRetN, ap_fDrop, ap_dropK, ap_fAsg, ap_asgK, ap_asgK2, ap_gN, ap_gNil, ap_gCons, ap_gsK, ap_gUnp, ap_unpK, ap_gSub, ap_subK1, ap_subK2, ap_subK3, ap_fIx, ap_ixK, isDict_ref, isDict_tup, isDict_rl, isDict_str, isDictC_lst, isDictC_dk, isDictC_dt, getL_tup, getL_rl, getL_str, getL_ref, getLC_lst, retO_some, atI_0, atI_1, atI_2, atI_3, oSet_ref, setC_lst, setLK_some, ixN_0, ixN_1, ap_fCall, ap_callK, ap_fnF, ap_fnK_nx, ap_fnK_rt, o_add, o_addR, o_addC, o_addS, o_addT, o_sub, o_mul, o_mod, o_div, o_pow, o_neg, o_lt, o_le, o_gt, o_ge, o_int, o_min2, o_max2, o_leS1, o_inS1, o_isB, o_eq, o_ne, eqK_some, neK_some, eqv_int, eqv_bool, toP_int, toP_bl, toP_non, toP_str, toP_tup, toP_rl, toP_ref, toPC_lst, toP_mapM_nil, toP_mapM_cons, toP_consO, o_len, lenK_some, lenD_tup, lenD_rl, lenD_str, lenD_ref, lenC_lst, ap_fIsi, ap_isiK0, ap_isiK, ap_isiK2, ap_fTyIs, ap_tyK0, ap_tyK, ap_fFor, ap_forK_fix, ap_forK_live, loopX_nil, loopX_cons, ap_turnK0, ap_turnK_nx, ap_turnK_ct, ap_turnK_bk, ap_turnK_rt, ap_fRng1, ap_rng1K, ap_fIter, ap_iterK_rl, ap_iterK_tup, ap_iterK_ref, iterC_lst, ap_fIterS, ap_iterSK, ap_fComp, ap_compK_fix, ap_compK_live, compX_nil, compX_cons, ap_compTK, ap_compEK, ap_fYes, ap_fDict0, ap_fDictT0, ap_fSl, ap_slK1, ap_slK2, ap_pNo, ap_pSo, ap_pSoK, oSl_tup, oSl_str, ap_fBm, ap_bmK, tyIn_str, tyIn_ref, tyInC_lst, tyD_ref, R.bind_ok, R.bind_ex, R.bind_bad, R.nox_ok, nox_bad', List.map_cons, List.map_nil, List.length_cons, List.length_nil, List.cons_append, List.nil_append, Nat.zero_add, Nat.reduceAdd, Nat.reduceSub, List.replicate_succ, List.replicate_zero, List.getElem?_cons_zero, List.getElem?_cons_succ, List.set_cons_zero, List.set_cons_succ, List.append_nil, Bool.false_eq_true, if_true, if_false, decide_eq_true_eq, decide_true, decide_false, Nat.add_zero, reduceIte, reduceDIte, Nat.reduceLeDiff, Int.reduceLT, Int.reduceLE, Int.reduceNeg, Int.reducePow, Int.reduceMul, Int.reduceAdd, Int.reduceSub, Nat.reduceEqDiff, Nat.reducePow, true_and, and_true, or_true, true_or, false_or, or_false, and_self, Bool.not_true, Bool.not_false, Nat.reduceLT, ge_iff_le, gt_iff_lt, Nat.le_refl, Option.map_some, Bool.not_eq_true, Bool.not_eq_eq_eq_not, not_true_eq_false, not_false_eq_true, Int.reduceToNat, beq_iff_eq, Int.reduceEq, String.reduceEq, String.reduceNe, Int.reduceNe, List.set_set, get_app, get_app0, get_apps, get_apps0, set_app, set_app0, set_apps, set_apps0, List.append_assoc, Nat.add_assoc, List.toList_toArray, List.size_toArray, List.length_set, List.length_append, next_eq, fT_nextC, h, set_get h, h0, h1, dNumber]
    · simp only [ap_fVar, varK_some, ap_fC, ap_fBin, ap_binK, ap_fUn, ap_fApp, ap_fNil, ap_fCons, ap_consK, ap_consK2, ap_fTup, ap_fLst, ap_tupK, ap_lstK, ap_fTest, ap_testK, ap_fVal, ap_valK, ap_fAnd, ap_fOr, ap_fNot, ap_andK, ap_orK, ap_notK, ap_fAndV, ap_fOrV, ap_fNotV, ap_andVK, ap_orVK, ap_notVK, ap_fIfE, ap_ifEK, ap_fChain, ap_chK1, ap_chK2, ap_chK3, ap_fSkip, ap_fBrk, ap_fCnt, ap_fSeq, ap_seqK_nx, ap_seqK_rt, ap_seqK_bk, ap_seqK_ct, ap_fIf, ap_ifK, ap_fRet, ap_retK, ap_fRetN, ap_fDrop, ap_dropK, ap_fAsg, ap_asgK, ap_asgK2, ap_gN, ap_gNil, ap_gCons, ap_gsK, ap_gUnp, ap_unpK, ap_gSub, ap_subK1, ap_subK2, ap_subK3, ap_fIx, ap_ixK, isDict_ref, isDict_tup, isDict_rl, isDict_str, isDictC_lst, isDictC_dk, isDictC_dt, getL_tup, getL_rl, getL_str, getL_ref, getLC_lst, retO_some, atI_0, atI_1, atI_2, atI_3, oSet_ref, setC_lst, setLK_some, ixN_0, ixN_1, ap_fCall, ap_callK, ap_fnF, ap_fnK_nx, ap_fnK_rt, o_add, o_addR, o_addC, o_addS, o_addT, o_sub, o_mul, o_mod, o_div, o_pow, o_neg, o_lt, o_le, o_gt, o_ge, o_int, o_min2, o_max2, o_leS1, o_inS1, o_isB, o_eq, o_ne, eqK_some, neK_some, eqv_int, eqv_bool, toP_int, toP_bl, toP_non, toP_str, toP_tup, toP_rl, toP_ref, toPC_lst, toP_mapM_nil, toP_mapM_cons, toP_consO, o_len, lenK_some, lenD_tup, lenD_rl, lenD_str, lenD_ref, lenC_lst, ap_fIsi, ap_isiK0, ap_isiK, ap_isiK2, ap_fTyIs, ap_tyK0, ap_tyK, ap_fFor, ap_forK_fix, ap_forK_live, loopX_nil, loopX_cons, ap_turnK0, ap_turnK_nx, ap_turnK_ct, ap_turnK_bk, ap_turnK_rt, ap_fRng1, ap_rng1K, ap_fIter, ap_iterK_rl, ap_iterK_tup, ap_iterK_ref, iterC_lst, ap_fIterS, ap_iterSK, ap_fComp, ap_compK_fix, ap_compK_live, compX_nil, compX_cons, ap_compTK, ap_compEK, ap_fYes, ap_fDict0, ap_fDictT0, ap_fSl, ap_slK1, ap_slK2, ap_pNo, ap_pSo, ap_pSoK, oSl_tup, oSl_str, ap_fBm, ap_bmK, tyIn_str, tyIn_ref, tyInC_lst, tyD_ref, R.bind_ok, R.bind_ex, R.bind_bad, R.nox_ok, nox_bad', List.map_cons, List.map_nil, List.length_cons, List.length_nil, List.cons_append, List.nil_append, Nat.zero_add, Nat.reduceAdd, Nat.reduceSub, List.replicate_succ, List.replicate_zero, List.getElem?_cons_zero, List.getElem?_cons_succ, List.set_cons_zero, List.set_cons_succ, List.append_nil, Bool.false_eq_true, if_true, if_false, decide_eq_true_eq, decide_true, decide_false, Nat.add_zero, reduceIte, reduceDIte, Nat.reduceLeDiff, Int.reduceLT, Int.reduceLE, Int.reduceNeg, Int.reducePow, Int.reduceMul, Int.reduceAdd, Int.reduceSub, Nat.reduceEqDiff, Nat.reducePow, true_and, and_true, or_true, true_or, false_or, or_false, and_self, Bool.not_true, Bool.not_false, Nat.reduceLT, ge_iff_le, gt_iff_lt, Nat.le_refl, Option.map_some, Bool.not_eq_true, Bool.not_eq_eq_eq_not, not_true_eq_false, not_false_eq_true, Int.reduceToNat, beq_iff_eq, Int.reduceEq, String.reduceEq, String.reduceNe, Int.reduceNe, List.set_set, get_app, get_app0, get_apps, get_apps0, set_app, set_app0, set_apps, set_apps0, List.append_assoc, Nat.add_assoc, List.toList_toArray, List.size_toArray, List.length_set, List.length_append, next_eq, fT_nextC, h, set_get h, h0, h1, dNumber]
def dInteger (s : Sd) : Int × Sd :=
  let (x, s) := dNumber s; let (y, s) := dNext 2 s; (x * (1 - 2 * y), s)
theorem dNumber_rng (s : Sd) : 0 ≤ (dNumber s).1 ∧ (dNumber s).1 ≤ 10 ^ 12 := by
  unfold dNumber
  have a1 := dNext_lo (size := 3) (by decide) (dNext 6 s).2
  have a2 := dNext_hi (size := 3) (by decide) (dNext 6 s).2
  have b1 := dNext_lo (size := 10 ^ 6) (by decide) (dNext 6 s).2
  have b2 := dNext_hi (size := 10 ^ 6) (by decide) (dNext 6 s).2
  have c1 := dNext_lo (size := 10 ^ 6) (by decide) (dNext (10 ^ 6) (dNext 6 s).2).2
  have c2 := dNext_hi (size := 10 ^ 6) (by decide) (dNext (10 ^ 6) (dNext 6 s).2).2
  have d1 := dNext_lo (size := 20) (by decide) (dNext 6 s).2
  have d2 := dNext_hi (size := 20) (by decide) (dNext 6 s).2
  simp only
  split
  · simp only; omega
  · split
    · simp only; omega
    · omega
theorem integer_eq (c : CA) {n : Nat} {s : Sd} {S : Sto} (h : S[n]? = some (stC s)) :
    F_law_integer c [.ref n] S = .ok (.int (dInteger s).1) (S.set n (stC (dInteger s).2)) := by
  unfold F_law_integer b_law_integer
  have h1 := dNext_lo (size := 2) (by decide) (dNumber s).2
  have h2 := dNext_hi (size := 2) (by decide) (dNumber s).2
  simp only [ap_fVar, varK_some, ap_fC, ap_fBin, ap_binK, ap_fUn, ap_fApp, ap_fNil, ap_fCons, ap_consK, ap_consK2, ap_fTup, ap_fLst, ap_tupK, ap_lstK, ap_fTest, ap_testK, ap_fVal, ap_valK, ap_fAnd, ap_fOr, ap_fNot, ap_andK, ap_orK, ap_notK, ap_fAndV, ap_fOrV, ap_fNotV, ap_andVK, ap_orVK, ap_notVK, ap_fIfE, ap_ifEK, ap_fChain, ap_chK1, ap_chK2, ap_chK3, ap_fSkip, ap_fBrk, ap_fCnt, ap_fSeq, ap_seqK_nx, ap_seqK_rt, ap_seqK_bk, ap_seqK_ct, ap_fIf, ap_ifK, ap_fRet, ap_retK, ap_fRetN, ap_fDrop, ap_dropK, ap_fAsg, ap_asgK, ap_asgK2, ap_gN, ap_gNil, ap_gCons, ap_gsK, ap_gUnp, ap_unpK, ap_gSub, ap_subK1, ap_subK2, ap_subK3, ap_fIx, ap_ixK, isDict_ref, isDict_tup, isDict_rl, isDict_str, isDictC_lst, isDictC_dk, isDictC_dt, getL_tup, getL_rl, getL_str, getL_ref, getLC_lst, retO_some, atI_0, atI_1, atI_2, atI_3, oSet_ref, setC_lst, setLK_some, ixN_0, ixN_1, ap_fCall, ap_callK, ap_fnF, ap_fnK_nx, ap_fnK_rt, o_add, o_addR, o_addC, o_addS, o_addT, o_sub, o_mul, o_mod, o_div, o_pow, o_neg, o_lt, o_le, o_gt, o_ge, o_int, o_min2, o_max2, o_leS1, o_inS1, o_isB, o_eq, o_ne, eqK_some, neK_some, eqv_int, eqv_bool, toP_int, toP_bl, toP_non, toP_str, toP_tup, toP_rl, toP_ref, toPC_lst, toP_mapM_nil, toP_mapM_cons, toP_consO, o_len, lenK_some, lenD_tup, lenD_rl, lenD_str, lenD_ref, lenC_lst, ap_fIsi, ap_isiK0, ap_isiK, ap_isiK2, ap_fTyIs, ap_tyK0, ap_tyK, ap_fFor, ap_forK_fix, ap_forK_live, loopX_nil, loopX_cons, ap_turnK0, ap_turnK_nx, ap_turnK_ct, ap_turnK_bk, ap_turnK_rt, ap_fRng1, ap_rng1K, ap_fIter, ap_iterK_rl, ap_iterK_tup, ap_iterK_ref, iterC_lst, ap_fIterS, ap_iterSK, ap_fComp, ap_compK_fix, ap_compK_live, compX_nil, compX_cons, ap_compTK, ap_compEK, ap_fYes, ap_fDict0, ap_fDictT0, ap_fSl, ap_slK1, ap_slK2, ap_pNo, ap_pSo, ap_pSoK, oSl_tup, oSl_str, ap_fBm, ap_bmK, tyIn_str, tyIn_ref, tyInC_lst, tyD_ref, R.bind_ok, R.bind_ex, R.bind_bad, R.nox_ok, nox_bad', List.map_cons, List.map_nil, List.length_cons, List.length_nil, List.cons_append, List.nil_append, Nat.zero_add, Nat.reduceAdd, Nat.reduceSub, List.replicate_succ, List.replicate_zero, List.getElem?_cons_zero, List.getElem?_cons_succ, List.set_cons_zero, List.set_cons_succ, List.append_nil, Bool.false_eq_true, if_true, if_false, decide_eq_true_eq, decide_true, decide_false, Nat.add_zero, reduceIte, reduceDIte, Nat.reduceLeDiff, Int.reduceLT, Int.reduceLE, Int.reduceNeg, Int.reducePow, Int.reduceMul, Int.reduceAdd, Int.reduceSub, Nat.reduceEqDiff, Nat.reducePow, true_and, and_true, or_true, true_or, false_or, or_false, and_self, Bool.not_true, Bool.not_false, Nat.reduceLT, ge_iff_le, gt_iff_lt, Nat.le_refl, Option.map_some, Bool.not_eq_true, Bool.not_eq_eq_eq_not, not_true_eq_false, not_false_eq_true, Int.reduceToNat, beq_iff_eq, Int.reduceEq, String.reduceEq, String.reduceNe, Int.reduceNe, List.set_set, get_app, get_app0, get_apps, get_apps0, set_app, set_app0, set_apps, set_apps0, List.append_assoc, Nat.add_assoc, List.toList_toArray, List.size_toArray, List.length_set, List.length_append, next_eq, fT_nextC, number_eq c h, set_get h, dInteger]
  rw [if_pos (Or.inr (by omega))]
  simp only [ap_fVar, varK_some, ap_fC, ap_fBin, ap_binK, ap_fUn, ap_fApp, ap_fNil, ap_fCons, ap_consK, ap_consK2, ap_fTup, ap_fLst, ap_tupK, ap_lstK, ap_fTest, ap_testK, ap_fVal, ap_valK, ap_fAnd, ap_fOr, ap_fNot, ap_andK, ap_orK, ap_notK, ap_fAndV, ap_fOrV, ap_fNotV, ap_andVK, ap_orVK, ap_notVK, ap_fIfE, ap_ifEK, ap_fChain, ap_chK1, ap_chK2, ap_chK3, ap_fSkip, ap_fBrk, ap_fCnt, ap_fSeq, ap_seqK_nx, ap_seqK_rt, ap_seqK_bk, ap_seqK_ct, ap_fIf, ap_ifK, ap_fRet, ap_retK, ap_fRetN, ap_fDrop, ap_dropK, ap_fAsg, ap_asgK, ap_asgK2, ap_gN, ap_gNil, ap_gCons, ap_gsK, ap_gUnp, ap_unpK, ap_gSub, ap_subK1, ap_subK2, ap_subK3, ap_fIx, ap_ixK, isDict_ref, isDict_tup, isDict_rl, isDict_str, isDictC_lst, isDictC_dk, isDictC_dt, getL_tup, getL_rl, getL_str, getL_ref, getLC_lst, retO_some, atI_0, atI_1, atI_2, atI_3, oSet_ref, setC_lst, setLK_some, ixN_0, ixN_1, ap_fCall, ap_callK, ap_fnF, ap_fnK_nx, ap_fnK_rt, o_add, o_addR, o_addC, o_addS, o_addT, o_sub, o_mul, o_mod, o_div, o_pow, o_neg, o_lt, o_le, o_gt, o_ge, o_int, o_min2, o_max2, o_leS1, o_inS1, o_isB, o_eq, o_ne, eqK_some, neK_some, eqv_int, eqv_bool, toP_int, toP_bl, toP_non, toP_str, toP_tup, toP_rl, toP_ref, toPC_lst, toP_mapM_nil, toP_mapM_cons, toP_consO, o_len, lenK_some, lenD_tup, lenD_rl, lenD_str, lenD_ref, lenC_lst, ap_fIsi, ap_isiK0, ap_isiK, ap_isiK2, ap_fTyIs, ap_tyK0, ap_tyK, ap_fFor, ap_forK_fix, ap_forK_live, loopX_nil, loopX_cons, ap_turnK0, ap_turnK_nx, ap_turnK_ct, ap_turnK_bk, ap_turnK_rt, ap_fRng1, ap_rng1K, ap_fIter, ap_iterK_rl, ap_iterK_tup, ap_iterK_ref, iterC_lst, ap_fIterS, ap_iterSK, ap_fComp, ap_compK_fix, ap_compK_live, compX_nil, compX_cons, ap_compTK, ap_compEK, ap_fYes, ap_fDict0, ap_fDictT0, ap_fSl, ap_slK1, ap_slK2, ap_pNo, ap_pSo, ap_pSoK, oSl_tup, oSl_str, ap_fBm, ap_bmK, tyIn_str, tyIn_ref, tyInC_lst, tyD_ref, R.bind_ok, R.bind_ex, R.bind_bad, R.nox_ok, nox_bad', List.map_cons, List.map_nil, List.length_cons, List.length_nil, List.cons_append, List.nil_append, Nat.zero_add, Nat.reduceAdd, Nat.reduceSub, List.replicate_succ, List.replicate_zero, List.getElem?_cons_zero, List.getElem?_cons_succ, List.set_cons_zero, List.set_cons_succ, List.append_nil, Bool.false_eq_true, if_true, if_false, decide_eq_true_eq, decide_true, decide_false, Nat.add_zero, reduceIte, reduceDIte, Nat.reduceLeDiff, Int.reduceLT, Int.reduceLE, Int.reduceNeg, Int.reducePow, Int.reduceMul, Int.reduceAdd, Int.reduceSub, Nat.reduceEqDiff, Nat.reducePow, true_and, and_true, or_true, true_or, false_or, or_false, and_self, Bool.not_true, Bool.not_false, Nat.reduceLT, ge_iff_le, gt_iff_lt, Nat.le_refl, Option.map_some, Bool.not_eq_true, Bool.not_eq_eq_eq_not, not_true_eq_false, not_false_eq_true, Int.reduceToNat, beq_iff_eq, Int.reduceEq, String.reduceEq, String.reduceNe, Int.reduceNe, List.set_set, get_app, get_app0, get_apps, get_apps0, set_app, set_app0, set_apps, set_apps0, List.append_assoc, Nat.add_assoc, List.toList_toArray, List.size_toArray, List.length_set, List.length_append]
/-! names -/
def dLet (m : Nat) (s : Sd) : List Nat × Sd := match m with
  | 0 => ([], s)
  | m + 1 => let (x, s) := dNext 26 s; let (r, s) := dLet m s; ((97 + x.toNat) :: r, s)
def dName (s : Sd) : Str × Sd :=
  let (k, s) := dNext 2 s
  if k = 0 then let (x, s) := dNext 4 s; ((if x = 0 then ⟨#[97]⟩ else if x = 1 then ⟨#[98]⟩ else if x = 2 then ⟨#[97, 98]⟩ else ⟨#[122, 122]⟩), s)
  else let (x, s) := dNext 12 s; let (r, s) := dLet (1 + x.toNat) s; (⟨r.toArray⟩, s)
theorem dLet_len (m : Nat) (s : Sd) : (dLet m s).1.length = m := by
  induction m generalizing s with
  | zero => rfl
  | succ m ih => show ((97 + (dNext 26 s).1.toNat) :: (dLet m (dNext 26 s).2).1).length = _; rw [List.length_cons, ih]
theorem dLet_az (m : Nat) (s : Sd) : ∀ c ∈ (dLet m s).1, 97 ≤ c ∧ c ≤ 122 := by
  induction m generalizing s with
  | zero => intro c h; cases h
  | succ m ih =>
    intro c h
    rcases List.mem_cons.mp (show c ∈ (97 + (dNext 26 s).1.toNat) :: (dLet m (dNext 26 s).2).1 from h) with e | h
    · have h1 := dNext_lo (size := 26) (by decide) s
      have h2 := dNext_hi (size := 26) (by decide) s
      omega
    · exact ih _ c h
theorem join_nil (ys : List Str) : (Txt.join ⟨#[]⟩ ys).cps.toList = (ys.map (·.cps.toList)).flatten := by
  have key : ∀ (r : List Str) (acc : Array Nat), (r.foldl (fun acc p => acc ++ (⟨#[]⟩ : Str).cps ++ p.cps) acc).toList = acc.toList ++ (r.map (·.cps.toList)).flatten := by
    intro r
    induction r with
    | nil => intro acc; simp
    | cons y r ih => intro acc; rw [List.foldl_cons, ih]; simp
  cases ys with
  | nil => rfl
  | cons y r =>
    show (r.foldl (fun acc p => acc ++ (⟨#[]⟩ : Str).cps ++ p.cps) y.cps).toList = _
    rw [key]
    simp
def letS : Str := ⟨#[97, 98, 99, 100, 101, 102, 103, 104, 105, 106, 107, 108, 109, 110, 111, 112, 113, 114, 115, 116, 117, 118, 119, 120, 121, 122]⟩
def oneS (c : Nat) : Str := ⟨#[c]⟩
theorem letS_at {x : Int} (h0 : 0 ≤ x) (h1 : x < 26) : atI letS.cps.toList x = some (97 + x.toNat) := by
  rw [atI_nn h0]
  have : ∀ i < 26, letS.cps.toList[i]? = some (97 + i) := by decide
  exact this _ (by omega)
theorem let_comp (c : CA) {n : Nat} (xs : List D) : ∀ (s : Sd) (S : Sto) (acc : List D), S[n]? = some (stC s) → acc.length + xs.length ≤ 1000 →
    compX 2 fYes (ce_law_name_0 c) [some (D.ref n), some (D.str letS), none] xs acc S
      = .ok (.ref S.length) (S.set n (stC (dLet xs.length s).2) ++ [.lst (acc ++ (dLet xs.length s).1.map fun k => .str (oneS k))]) := by
  induction xs with
  | nil =>
    intro s S acc h hl
    simp only [ap_fVar, varK_some, ap_fC, ap_fBin, ap_binK, ap_fUn, ap_fApp, ap_fNil, ap_fCons, ap_consK, ap_consK2, ap_fTup, ap_fLst, ap_tupK, ap_lstK, ap_fTest, ap_testK, ap_fVal, ap_valK, ap_fAnd, ap_fOr, ap_fNot, ap_andK, ap_orK, ap_notK, ap_fAndV, ap_fOrV, ap_fNotV, ap_andVK, ap_orVK, ap_notVK, ap_fIfE, ap_ifEK, ap_fChain, ap_chK1, ap_chK2, ap_chK3, ap_fSkip, ap_fBrk, ap_fCnt, ap_fSeq, ap_seqK_nx, ap_seqK_rt, ap_seqK_bk, ap_seqK_ct, ap_fIf, ap_ifK, ap_fRet, ap_retK, ap_fRetN, ap_fDrop, ap_dropK, ap_fAsg, ap_asgK, ap_asgK2, ap_gN, ap_gNil, ap_gCons, ap_gsK, ap_gUnp, ap_unpK, ap_gSub, ap_subK1, ap_subK2, ap_subK3, ap_fIx, ap_ixK, isDict_ref, isDict_tup, isDict_rl, isDict_str, isDictC_lst, isDictC_dk, isDictC_dt, getL_tup, getL_rl, getL_str, getL_ref, getLC_lst, retO_some, atI_0, atI_1, atI_2, atI_3, oSet_ref, setC_lst, setLK_some, ixN_0, ixN_1, ap_fCall, ap_callK, ap_fnF, ap_fnK_nx, ap_fnK_rt, o_add, o_addR, o_addC, o_addS, o_addT, o_sub, o_mul, o_mod, o_div, o_pow, o_neg, o_lt, o_le, o_gt, o_ge, o_int, o_min2, o_max2, o_leS1, o_inS1, o_isB, o_eq, o_ne, eqK_some, neK_some, eqv_int, eqv_bool, toP_int, toP_bl, toP_non, toP_str, toP_tup, toP_rl, toP_ref, toPC_lst, toP_mapM_nil, toP_mapM_cons, toP_consO, o_len, lenK_some, lenD_tup, lenD_rl, lenD_str, lenD_ref, lenC_lst, ap_fIsi, ap_isiK0, ap_isiK, ap_isiK2, ap_fTyIs, ap_tyK0, ap_tyK, ap_fFor, ap_forK_fix, ap_forK_live, loopX_nil, loopX_cons, ap_turnK0, ap_turnK_nx, ap_turnK_ct, ap_turnK_bk, ap_turnK_rt, ap_fRng1, ap_rng1K, ap_fIter, ap_iterK_rl, ap_iterK_tup, ap_iterK_ref, iterC_lst, ap_fIterS, ap_iterSK, ap_fComp, ap_compK_fix, ap_compK_live, compX_nil, compX_cons, ap_compTK, ap_compEK, ap_fYes, ap_fDict0, ap_fDictT0, ap_fSl, ap_slK1, ap_slK2, ap_pNo, ap_pSo, ap_pSoK, oSl_tup, oSl_str, ap_fBm, ap_bmK, tyIn_str, tyIn_ref, tyInC_lst, tyD_ref, R.bind_ok, R.bind_ex, R.bind_bad, R.nox_ok, nox_bad', List.map_cons, List.map_nil, List.length_cons, List.length_nil, List.cons_append, List.nil_append, Nat.zero_add, Nat.reduceAdd, Nat.reduceSub, List.replicate_succ, List.replicate_zero, List.getElem?_cons_zero, List.getElem?_cons_succ, List.set_cons_zero, List.set_cons_succ, List.append_nil, Bool.false_eq_true, if_true, if_false, decide_eq_true_eq, decide_true, decide_false, Nat.add_zero, reduceIte, reduceDIte, Nat.reduceLeDiff, Int.reduceLT, Int.reduceLE, Int.reduceNeg, Int.reducePow, Int.reduceMul, Int.reduceAdd, Int.reduceSub, Nat.reduceEqDiff, Nat.reducePow, true_and, and_true, or_true, true_or, false_or, or_false, and_self, Bool.not_true, Bool.not_false, Nat.reduceLT, ge_iff_le, gt_iff_lt, Nat.le_refl, Option.map_some, Bool.not_eq_true, Bool.not_eq_eq_eq_not, not_true_eq_false, not_false_eq_true, Int.reduceToNat, beq_iff_eq, Int.reduceEq, String.reduceEq, String.reduceNe, Int.reduceNe, List.set_set, get_app, get_app0, get_apps, get_apps0, set_app, set_app0, set_apps, set_apps0, List.append_assoc, Nat.add_assoc, List.toList_toArray, List.size_toArray, List.length_set, List.length_append, dLet]
    rw [set_self h]
  | cons d xs ih =>
    intro s S acc h hl
    have h1 := dNext_lo (size := 26) (by decide) s
    have h2 := dNext_hi (size := 26) (by decide) s
    have hz : letS.length ≤ 100000 := by decide
    rw [List.length_cons] at hl
    simp only [ap_fVar, varK_some, ap_fC, ap_fBin, ap_binK, ap_fUn, ap_fApp, ap_fNil, ap_fCons, ap_consK, ap_consK2, ap_fTup, ap_fLst, ap_tupK, ap_lstK, ap_fTest, ap_testK, ap_fVal, ap_valK, ap_fAnd, ap_fOr, ap_fNot, ap_andK, ap_orK, ap_notK, ap_fAndV, ap_fOrV, ap_fNotV, ap_andVK, ap_orVK, ap_notVK, ap_fIfE, ap_ifEK, ap_fChain, ap_chK1, ap_chK2, ap_chK3, ap_fSkip, ap_fBrk, ap_fCnt, ap_fSeq, ap_seqK_nx, ap_seqK_rt, ap_seqK_bk, ap_seqK_ct, ap_fIf, ap_ifK, ap_fRet, ap_retK, ap_fRetN, ap_fDrop, ap_dropK, ap_fAsg, ap_asgK, ap_asgK2, ap_gN, ap_gNil, ap_gCons, ap_gsK, ap_gUnp, ap_unpK, ap_gSub, ap_subK1, ap_subK2, ap_subK3, ap_fIx, ap_ixK, isDict_ref, isDict_tup, isDict_rl, isDict_str, isDictC_lst, isDictC_dk, isDictC_dt, getL_tup, getL_rl, getL_str, getL_ref, getLC_lst, retO_some, atI_0, atI_1, atI_2, atI_3, oSet_ref, setC_lst, setLK_some, ixN_0, ixN_1, ap_fCall, ap_callK, ap_fnF, ap_fnK_nx, ap_fnK_rt, o_add, o_addR, o_addC, o_addS, o_addT, o_sub, o_mul, o_mod, o_div, o_pow, o_neg, o_lt, o_le, o_gt, o_ge, o_int, o_min2, o_max2, o_leS1, o_inS1, o_isB, o_eq, o_ne, eqK_some, neK_some, eqv_int, eqv_bool, toP_int, toP_bl, toP_non, toP_str, toP_tup, toP_rl, toP_ref, toPC_lst, toP_mapM_nil, toP_mapM_cons, toP_consO, o_len, lenK_some, lenD_tup, lenD_rl, lenD_str, lenD_ref, lenC_lst, ap_fIsi, ap_isiK0, ap_isiK, ap_isiK2, ap_fTyIs, ap_tyK0, ap_tyK, ap_fFor, ap_forK_fix, ap_forK_live, loopX_nil, loopX_cons, ap_turnK0, ap_turnK_nx, ap_turnK_ct, ap_turnK_bk, ap_turnK_rt, ap_fRng1, ap_rng1K, ap_fIter, ap_iterK_rl, ap_iterK_tup, ap_iterK_ref, iterC_lst, ap_fIterS, ap_iterSK, ap_fComp, ap_compK_fix, ap_compK_live, compX_nil, compX_cons, ap_compTK, ap_compEK, ap_fYes, ap_fDict0, ap_fDictT0, ap_fSl, ap_slK1, ap_slK2, ap_pNo, ap_pSo, ap_pSoK, oSl_tup, oSl_str, ap_fBm, ap_bmK, tyIn_str, tyIn_ref, tyInC_lst, tyD_ref, R.bind_ok, R.bind_ex, R.bind_bad, R.nox_ok, nox_bad', List.map_cons, List.map_nil, List.length_cons, List.length_nil, List.cons_append, List.nil_append, Nat.zero_add, Nat.reduceAdd, Nat.reduceSub, List.replicate_succ, List.replicate_zero, List.getElem?_cons_zero, List.getElem?_cons_succ, List.set_cons_zero, List.set_cons_succ, List.append_nil, Bool.false_eq_true, if_true, if_false, decide_eq_true_eq, decide_true, decide_false, Nat.add_zero, reduceIte, reduceDIte, Nat.reduceLeDiff, Int.reduceLT, Int.reduceLE, Int.reduceNeg, Int.reducePow, Int.reduceMul, Int.reduceAdd, Int.reduceSub, Nat.reduceEqDiff, Nat.reducePow, true_and, and_true, or_true, true_or, false_or, or_false, and_self, Bool.not_true, Bool.not_false, Nat.reduceLT, ge_iff_le, gt_iff_lt, Nat.le_refl, Option.map_some, Bool.not_eq_true, Bool.not_eq_eq_eq_not, not_true_eq_false, not_false_eq_true, Int.reduceToNat, beq_iff_eq, Int.reduceEq, String.reduceEq, String.reduceNe, Int.reduceNe, List.set_set, get_app, get_app0, get_apps, get_apps0, set_app, set_app0, set_apps, set_apps0, List.append_assoc, Nat.add_assoc, List.toList_toArray, List.size_toArray, List.length_set, List.length_append, ap_ce_law_name_0, next_eq, fT_nextC, h, set_get h, hz, letS_at h1 h2]
    rw [if_pos (by omega), ih (dNext 26 s).2 _ _ (set_get h) (by rw [List.length_append, List.length_singleton]; omega)]
    simp only [ap_fVar, varK_some, ap_fC, ap_fBin, ap_binK, ap_fUn, ap_fApp, ap_fNil, ap_fCons, ap_consK, ap_consK2, ap_fTup, ap_fLst, ap_tupK, ap_lstK, ap_fTest, ap_testK, ap_fVal, ap_valK, ap_fAnd, ap_fOr, ap_fNot, ap_andK, ap_orK, ap_notK, ap_fAndV, ap_fOrV, ap_fNotV, ap_andVK, ap_orVK, ap_notVK, ap_fIfE, ap_ifEK, ap_fChain, ap_chK1, ap_chK2, ap_chK3, ap_fSkip, ap_fBrk, ap_fCnt, ap_fSeq, ap_seqK_nx, ap_seqK_rt, ap_seqK_bk, ap_seqK_ct, ap_fIf, ap_ifK, ap_fRet, ap_retK, ap_fRetN, ap_fDrop, ap_dropK, ap_fAsg, ap_asgK, ap_asgK2, ap_gN, ap_gNil, ap_gCons, ap_gsK, ap_gUnp, ap_unpK, ap_gSub, ap_subK1, ap_subK2, ap_subK3, ap_fIx, ap_ixK, isDict_ref, isDict_tup, isDict_rl, isDict_str, isDictC_lst, isDictC_dk, isDictC_dt, getL_tup, getL_rl, getL_str, getL_ref, getLC_lst, retO_some, atI_0, atI_1, atI_2, atI_3, oSet_ref, setC_lst, setLK_some, ixN_0, ixN_1, ap_fCall, ap_callK, ap_fnF, ap_fnK_nx, ap_fnK_rt, o_add, o_addR, o_addC, o_addS, o_addT, o_sub, o_mul, o_mod, o_div, o_pow, o_neg, o_lt, o_le, o_gt, o_ge, o_int, o_min2, o_max2, o_leS1, o_inS1, o_isB, o_eq, o_ne, eqK_some, neK_some, eqv_int, eqv_bool, toP_int, toP_bl, toP_non, toP_str, toP_tup, toP_rl, toP_ref, toPC_lst, toP_mapM_nil, toP_mapM_cons, toP_consO, o_len, lenK_some, lenD_tup, lenD_rl, lenD_str, lenD_ref, lenC_lst, ap_fIsi, ap_isiK0, ap_isiK, ap_isiK2, ap_fTyIs, ap_tyK0, ap_tyK, ap_fFor, ap_forK_fix, ap_forK_live, loopX_nil, loopX_cons, ap_turnK0, ap_turnK_nx, ap_turnK_ct, ap_turnK_bk, ap_turnK_rt, ap_fRng1, ap_rng1K, ap_fIter, ap_iterK_rl, ap_iterK_tup, ap_iterK_ref, iterC_lst, ap_fIterS, ap_iterSK, ap_fComp, ap_compK_fix, ap_compK_live, compX_nil, compX_cons, ap_compTK, ap_compEK, ap_fYes, ap_fDict0, ap_fDictT0, ap_fSl, ap_slK1, ap_slK2, ap_pNo, ap_pSo, ap_pSoK, oSl_tup, oSl_str, ap_fBm, ap_bmK, tyIn_str, tyIn_ref, tyInC_lst, tyD_ref, R.bind_ok, R.bind_ex, R.bind_bad, R.nox_ok, nox_bad', List.map_cons, List.map_nil, List.length_cons, List.length_nil, List.cons_append, List.nil_append, Nat.zero_add, Nat.reduceAdd, Nat.reduceSub, List.replicate_succ, List.replicate_zero, List.getElem?_cons_zero, List.getElem?_cons_succ, List.set_cons_zero, List.set_cons_succ, List.append_nil, Bool.false_eq_true, if_true, if_false, decide_eq_true_eq, decide_true, decide_false, Nat.add_zero, reduceIte, reduceDIte, Nat.reduceLeDiff, Int.reduceLT, Int.reduceLE, Int.reduceNeg, Int.reducePow, Int.reduceMul, Int.reduceAdd, Int.reduceSub, Nat.reduceEqDiff, Nat.reducePow, true_and, and_true, or_true, true_or, false_or, or_false, and_self, Bool.not_true, Bool.not_false, Nat.reduceLT, ge_iff_le, gt_iff_lt, Nat.le_refl, Option.map_some, Bool.not_eq_true, Bool.not_eq_eq_eq_not, not_true_eq_false, not_false_eq_true, Int.reduceToNat, beq_iff_eq, Int.reduceEq, String.reduceEq, String.reduceNe, Int.reduceNe, List.set_set, get_app, get_app0, get_apps, get_apps0, set_app, set_app0, set_apps, set_apps0, List.append_assoc, Nat.add_assoc, List.toList_toArray, List.size_toArray, List.length_set, List.length_append, dLet, oneS, List.append_assoc]
theorem strs_of1 (l : List Nat) : strsD (l.map fun k => .str (oneS k)) = some (l.map oneS) := by
  induction l with
  | nil => rfl
  | cons a l ih =>
    show (strsD (l.map fun k => .str (oneS k))).map (oneS a :: ·) = _
    rw [ih]
    rfl
theorem sum_of1 (l : List Nat) : ((l.map oneS).map (·.length)).sum = l.length := by
  induction l with
  | nil => rfl
  | cons a l ih => rw [List.map_cons, List.map_cons, List.sum_cons, ih, List.length_cons]; show 1 + _ = _; omega
theorem flat_of1 (l : List Nat) : ((l.map oneS).map (·.cps.toList)).flatten = l := by
  induction l with
  | nil => rfl
  | cons a l ih => rw [List.map_cons, List.map_cons, List.flatten_cons, ih]; rfl
theorem join_of1 (l : List Nat) : Txt.join ⟨#[]⟩ (l.map oneS) = ⟨l.toArray⟩ := by
  have h := join_nil (l.map oneS)
  rw [flat_of1] at h
  generalize Txt.join ⟨#[]⟩ (l.map oneS) = z at h ⊢
  obtain ⟨⟨m⟩⟩ := z
  have h : m = l := h
  rw [h]
theorem name_eq (c : CA) {n : Nat} {s : Sd} {S : Sto} (h : S[n]? = some (stC s)) :
    ∃ T, F_law_name c [.ref n] S = .ok (.str (dName s).1) (S.set n (stC (dName s).2) ++ T) := by
  unfold F_law_name b_law_name
  have h1 := dNext_lo (size := 2) (by decide) s
  have h2 := dNext_hi (size := 2) (by decide) s
  have h3 := dNext_lo (size := 4) (by decide) (dNext 2 s).2
  have h4 := dNext_hi (size := 4) (by decide) (dNext 2 s).2
  have h5 := dNext_lo (size := 12) (by decide) (dNext 2 s).2
  have h6 := dNext_hi (size := 12) (by decide) (dNext 2 s).2
  by_cases h0 : (dNext 2 s).1 = 0
  · have h7 : (dNext 4 (dNext 2 s).2).1 = 0 ∨ (dNext 4 (dNext 2 s).2).1 = 1 ∨ (dNext 4 (dNext 2 s).2).1 = 2 ∨ (dNext 4 (dNext 2 s).2).1 = 3 := by omega
    refine ⟨[], ?_⟩
    rcases h7 with h7 | h7 | h7 | h7
    all_goals simp only [ap_fVar, varK_some, ap_fC, ap_fBin, ap_binK, ap_fUn, ap_fApp, ap_fNil, ap_fCons, ap_consK, ap_consK2, ap_fTup, ap_fLst, ap_tupK, ap_lstK, ap_fTest, ap_testK, ap_fVal, ap_valK, ap_fAnd, ap_fOr, ap_fNot, ap_andK, ap_orK, ap_notK, ap_fAndV, ap_fOrV, ap_fNotV, ap_andVK, ap_orVK, ap_notVK, ap_fIfE, ap_ifEK, ap_fChain, ap_chK1, ap_chK2, ap_chK3, ap_fSkip, ap_fBrk, ap_fCnt, ap_fSeq, ap_seqK_nx, ap_seqK_rt, ap_seqK_bk, ap_seqK_ct, ap_fIf, ap_ifK, ap_fRet, ap_retK, ap_fRetN, ap_fDrop, ap_dropK, ap_fAsg, ap_asgK, ap_asgK2, ap_gN, ap_gNil, ap_gCons, ap_gsK, ap_gUnp, ap_unpK, ap_gSub, ap_subK1, ap_subK2, ap_subK3, ap_fIx, ap_ixK, isDict_ref, isDict_tup, isDict_rl, isDict_str, isDictC_lst, isDictC_dk, isDictC_dt, getL_tup, getL_rl, getL_str, getL_ref, getLC_lst, retO_some, atI_0, atI_1, atI_2, atI_3, oSet_ref, setC_lst, setLK_some, ixN_0, ixN_1, ap_fCall, ap_callK, ap_fnF, ap_fnK_nx, ap_fnK_rt, o_add, o_addR, o_addC, o_addS, o_addT, o_sub, o_mul, o_mod, o_div, o_pow, o_neg, o_lt, o_le, o_gt, o_ge, o_int, o_min2, o_max2, o_leS1, o_inS1, o_isB, o_eq, o_ne, eqK_some, neK_some, eqv_int, eqv_bool, toP_int, toP_bl, toP_non, toP_str, toP_tup, toP_rl, toP_ref, toPC_lst, toP_mapM_nil, toP_mapM_cons, toP_consO, o_len, lenK_some, lenD_tup, lenD_rl, lenD_str, lenD_ref, lenC_lst, ap_fIsi, ap_isiK0, ap_isiK, ap_isiK2, ap_fTyIs, ap_tyK0, ap_tyK, ap_fFor, ap_forK_fix, ap_forK_live, loopX_nil, loopX_cons, ap_turnK0, ap_turnK_nx, ap_turnK_ct, ap_turnK_bk, ap_turnK_rt, ap_fRng1, ap_rng1K, ap_fIter, ap_iterK_rl, ap_iterK_tup, ap_iterK_ref, iterC_lst, ap_fIterS, ap_iterSK, ap_fComp, ap_compK_fix, ap_compK_live, compX_nil, compX_cons, ap_compTK, ap_compEK, ap_fYes, ap_fDict0, ap_fDictT0, ap_fSl, ap_slK1, ap_slK2, ap_pNo, ap_pSo, ap_pSoK, oSl_tup, oSl_str, ap_fBm, ap_bmK, tyIn_str, tyIn_ref, tyInC_lst, tyD_ref, R.bind_ok, R.bind_ex, R.bind_bad, R.nox_ok, nox_bad', List.map_cons, List.map_nil, List.length_cons, List.length_nil, List.cons_append, List.nil_append, Nat.zero_add, Nat.reduceAdd, Nat.reduceSub, List.replicate_succ, List.replicate_zero, List.getElem?_cons_zero, List.getElem?_cons_succ, List.set_cons_zero, List.set_cons_succ, List.append_nil, Bool.false_eq_true, if_true, if_false, decide_eq_true_eq, decide_true, decide_false, Nat.add_zero, reduceIte, reduceDIte, Nat.reduceLeDiff, Int.reduceLT, Int.reduceLE, Int.reduceNeg, Int.reducePow, Int.reduceMul, Int.reduceAdd, Int.reduceSub, Nat.reduceEqDiff, Nat.reducePow, true_and, and_true, or_true, true_or, false_or, or_false, and_self, Bool.not_true, Bool.not_false, Nat.reduceLT, ge_iff_le, gt_iff_lt, Nat.le_refl, Option.map_some, Bool.not_eq_true, Bool.not_eq_eq_eq_not, not_true_eq_false, not_false_eq_true, Int.reduceToNat, beq_iff_eq, Int.reduceEq, String.reduceEq, String.reduceNe, Int.reduceNe, List.set_set, get_app, get_app0, get_apps, get_apps0, set_app, set_app0, set_apps, set_apps0, List.append_assoc, Nat.add_assoc, List.toList_toArray, List.size_toArray, List.length_set, List.length_append, next_eq, fT_nextC, h, set_get h, h0, h7, dName]
  · generalize hm : (dNext 12 (dNext 2 s).2).1 = m at h5 h6
    generalize hs : (dNext 12 (dNext 2 s).2).2 = s1
    refine ⟨[.lst ((dLet (1 + m).toNat s1).1.map fun k => .str (oneS k))], ?_⟩
    have hr : (rngD 0 (1 + m).toNat).length = (1 + m).toNat := rngD_len
    have lc := let_comp c (n := n) (rngD 0 (1 + m).toNat) s1 (S.set n (stC s1)) [] (set_get h) (by rw [hr]; show 0 + _ ≤ _; omega)
    rw [hr] at lc
    unfold letS at lc
    have hl := dLet_len (1 + m).toNat s1
    have e : (1 + m).toNat = 1 + m.toNat := by omega
    simp only [ap_fVar, varK_some, ap_fC, ap_fBin, ap_binK, ap_fUn, ap_fApp, ap_fNil, ap_fCons, ap_consK, ap_consK2, ap_fTup, ap_fLst, ap_tupK, ap_lstK, ap_fTest, ap_testK, ap_fVal, ap_valK, ap_fAnd, ap_fOr, ap_fNot, ap_andK, ap_orK, ap_notK, ap_fAndV, ap_fOrV, ap_fNotV, ap_andVK, ap_orVK, ap_notVK, ap_fIfE, ap_ifEK, ap_fChain, ap_chK1, ap_chK2, ap_chK3, ap_fSkip, ap_fBrk, ap_fCnt, ap_fSeq, ap_seqK_nx, ap_seqK_rt, ap_seqK_bk, ap_seqK_ct, ap_fIf, ap_ifK, ap_fRet, ap_retK, ap_fRetN, ap_fDrop, ap_dropK, ap_fAsg, ap_asgK, ap_asgK2, ap_gN, ap_gNil, ap_gCons, ap_gsK, ap_gUnp, ap_unpK, ap_gSub, ap_subK1, ap_subK2, ap_subK3, ap_fIx, ap_ixK, isDict_ref, isDict_tup, isDict_rl, isDict_str, isDictC_lst, isDictC_dk, isDictC_dt, getL_tup, getL_rl, getL_str, getL_ref, getLC_lst, retO_some, atI_0, atI_1, atI_2, atI_3, oSet_ref, setC_lst, setLK_some, ixN_0, ixN_1, ap_fCall, ap_callK, ap_fnF, ap_fnK_nx, ap_fnK_rt, o_add, o_addR, o_addC, o_addS, o_addT, o_sub, o_mul, o_mod, o_div, o_pow, o_neg, o_lt, o_le, o_gt, o_ge, o_int, o_min2, o_max2, o_leS1, o_inS1, o_isB, o_eq, o_ne, eqK_some, neK_some, eqv_int, eqv_bool, toP_int, toP_bl, toP_non, toP_str, toP_tup, toP_rl, toP_ref, toPC_lst, toP_mapM_nil, toP_mapM_cons, toP_consO, o_len, lenK_some, lenD_tup, lenD_rl, lenD_str, lenD_ref, lenC_lst, ap_fIsi, ap_isiK0, ap_isiK, ap_isiK2, ap_fTyIs, ap_tyK0, ap_tyK, ap_fFor, ap_forK_fix, ap_forK_live, loopX_nil, loopX_cons, ap_turnK0, ap_turnK_nx, ap_turnK_ct, ap_turnK_bk, ap_turnK_rt, ap_fRng1, ap_rng1K, ap_fIter, ap_iterK_rl, ap_iterK_tup, ap_iterK_ref, iterC_lst, ap_fIterS, ap_iterSK, ap_fComp, ap_compK_fix, ap_compK_live, compX_nil, compX_cons, ap_compTK, ap_compEK, ap_fYes, ap_fDict0, ap_fDictT0, ap_fSl, ap_slK1, ap_slK2, ap_pNo, ap_pSo, ap_pSoK, oSl_tup, oSl_str, ap_fBm, ap_bmK, tyIn_str, tyIn_ref, tyInC_lst, tyD_ref, R.bind_ok, R.bind_ex, R.bind_bad, R.nox_ok, nox_bad', List.map_cons, List.map_nil, List.length_cons, List.length_nil, List.cons_append, List.nil_append, Nat.zero_add, Nat.reduceAdd, Nat.reduceSub, List.replicate_succ, List.replicate_zero, List.getElem?_cons_zero, List.getElem?_cons_succ, List.set_cons_zero, List.set_cons_succ, List.append_nil, Bool.false_eq_true, if_true, if_false, decide_eq_true_eq, decide_true, decide_false, Nat.add_zero, reduceIte, reduceDIte, Nat.reduceLeDiff, Int.reduceLT, Int.reduceLE, Int.reduceNeg, Int.reducePow, Int.reduceMul, Int.reduceAdd, Int.reduceSub, Nat.reduceEqDiff, Nat.reducePow, true_and, and_true, or_true, true_or, false_or, or_false, and_self, Bool.not_true, Bool.not_false, Nat.reduceLT, ge_iff_le, gt_iff_lt, Nat.le_refl, Option.map_some, Bool.not_eq_true, Bool.not_eq_eq_eq_not, not_true_eq_false, not_false_eq_true, Int.reduceToNat, beq_iff_eq, Int.reduceEq, String.reduceEq, String.reduceNe, Int.reduceNe, List.set_set, get_app, get_app0, get_apps, get_apps0, set_app, set_app0, set_apps, set_apps0, List.append_assoc, Nat.add_assoc, List.toList_toArray, List.size_toArray, List.length_set, List.length_append, next_eq, fT_nextC, h, set_get h, h0, dName, hm, hs]
    rw [if_pos (by omega)]
    simp only [ap_fVar, varK_some, ap_fC, ap_fBin, ap_binK, ap_fUn, ap_fApp, ap_fNil, ap_fCons, ap_consK, ap_consK2, ap_fTup, ap_fLst, ap_tupK, ap_lstK, ap_fTest, ap_testK, ap_fVal, ap_valK, ap_fAnd, ap_fOr, ap_fNot, ap_andK, ap_orK, ap_notK, ap_fAndV, ap_fOrV, ap_fNotV, ap_andVK, ap_orVK, ap_notVK, ap_fIfE, ap_ifEK, ap_fChain, ap_chK1, ap_chK2, ap_chK3, ap_fSkip, ap_fBrk, ap_fCnt, ap_fSeq, ap_seqK_nx, ap_seqK_rt, ap_seqK_bk, ap_seqK_ct, ap_fIf, ap_ifK, ap_fRet, ap_retK, ap_fRetN, ap_fDrop, ap_dropK, ap_fAsg, ap_asgK, ap_asgK2, ap_gN, ap_gNil, ap_gCons, ap_gsK, ap_gUnp, ap_unpK, ap_gSub, ap_subK1, ap_subK2, ap_subK3, ap_fIx, ap_ixK, isDict_ref, isDict_tup, isDict_rl, isDict_str, isDictC_lst, isDictC_dk, isDictC_dt, getL_tup, getL_rl, getL_str, getL_ref, getLC_lst, retO_some, atI_0, atI_1, atI_2, atI_3, oSet_ref, setC_lst, setLK_some, ixN_0, ixN_1, ap_fCall, ap_callK, ap_fnF, ap_fnK_nx, ap_fnK_rt, o_add, o_addR, o_addC, o_addS, o_addT, o_sub, o_mul, o_mod, o_div, o_pow, o_neg, o_lt, o_le, o_gt, o_ge, o_int, o_min2, o_max2, o_leS1, o_inS1, o_isB, o_eq, o_ne, eqK_some, neK_some, eqv_int, eqv_bool, toP_int, toP_bl, toP_non, toP_str, toP_tup, toP_rl, toP_ref, toPC_lst, toP_mapM_nil, toP_mapM_cons, toP_consO, o_len, lenK_some, lenD_tup, lenD_rl, lenD_str, lenD_ref, lenC_lst, ap_fIsi, ap_isiK0, ap_isiK, ap_isiK2, ap_fTyIs, ap_tyK0, ap_tyK, ap_fFor, ap_forK_fix, ap_forK_live, loopX_nil, loopX_cons, ap_turnK0, ap_turnK_nx, ap_turnK_ct, ap_turnK_bk, ap_turnK_rt, ap_fRng1, ap_rng1K, ap_fIter, ap_iterK_rl, ap_iterK_tup, ap_iterK_ref, iterC_lst, ap_fIterS, ap_iterSK, ap_fComp, ap_compK_fix, ap_compK_live, compX_nil, compX_cons, ap_compTK, ap_compEK, ap_fYes, ap_fDict0, ap_fDictT0, ap_fSl, ap_slK1, ap_slK2, ap_pNo, ap_pSo, ap_pSoK, oSl_tup, oSl_str, ap_fBm, ap_bmK, tyIn_str, tyIn_ref, tyInC_lst, tyD_ref, R.bind_ok, R.bind_ex, R.bind_bad, R.nox_ok, nox_bad', List.map_cons, List.map_nil, List.length_cons, List.length_nil, List.cons_append, List.nil_append, Nat.zero_add, Nat.reduceAdd, Nat.reduceSub, List.replicate_succ, List.replicate_zero, List.getElem?_cons_zero, List.getElem?_cons_succ, List.set_cons_zero, List.set_cons_succ, List.append_nil, Bool.false_eq_true, if_true, if_false, decide_eq_true_eq, decide_true, decide_false, Nat.add_zero, reduceIte, reduceDIte, Nat.reduceLeDiff, Int.reduceLT, Int.reduceLE, Int.reduceNeg, Int.reducePow, Int.reduceMul, Int.reduceAdd, Int.reduceSub, Nat.reduceEqDiff, Nat.reducePow, true_and, and_true, or_true, true_or, false_or, or_false, and_self, Bool.not_true, Bool.not_false, Nat.reduceLT, ge_iff_le, gt_iff_lt, Nat.le_refl, Option.map_some, Bool.not_eq_true, Bool.not_eq_eq_eq_not, not_true_eq_false, not_false_eq_true, Int.reduceToNat, beq_iff_eq, Int.reduceEq, String.reduceEq, String.reduceNe, Int.reduceNe, List.set_set, get_app, get_app0, get_apps, get_apps0, set_app, set_app0, set_apps, set_apps0, List.append_assoc, Nat.add_assoc, List.toList_toArray, List.size_toArray, List.length_set, List.length_append, lc]
    rw [o_join (get_apps0) (strs_of1 _) (by rw [sum_of1, hl]; show _ + _ * 0 ≤ _; omega), join_of1]
    simp only [ap_fVar, varK_some, ap_fC, ap_fBin, ap_binK, ap_fUn, ap_fApp, ap_fNil, ap_fCons, ap_consK, ap_consK2, ap_fTup, ap_fLst, ap_tupK, ap_lstK, ap_fTest, ap_testK, ap_fVal, ap_valK, ap_fAnd, ap_fOr, ap_fNot, ap_andK, ap_orK, ap_notK, ap_fAndV, ap_fOrV, ap_fNotV, ap_andVK, ap_orVK, ap_notVK, ap_fIfE, ap_ifEK, ap_fChain, ap_chK1, ap_chK2, ap_chK3, ap_fSkip, ap_fBrk, ap_fCnt, ap_fSeq, ap_seqK_nx, ap_seqK_rt, ap_seqK_bk, ap_seqK_ct, ap_fIf, ap_ifK, ap_fRet, ap_retK, ap_fRetN, ap_fDrop, ap_dropK, ap_fAsg, ap_asgK, ap_asgK2, ap_gN, ap_gNil, ap_gCons, ap_gsK, ap_gUnp, ap_unpK, ap_gSub, ap_subK1, ap_subK2, ap_subK3, ap_fIx, ap_ixK, isDict_ref, isDict_tup, isDict_rl, isDict_str, isDictC_lst, isDictC_dk, isDictC_dt, getL_tup, getL_rl, getL_str, getL_ref, getLC_lst, retO_some, atI_0, atI_1, atI_2, atI_3, oSet_ref, setC_lst, setLK_some, ixN_0, ixN_1, ap_fCall, ap_callK, ap_fnF, ap_fnK_nx, ap_fnK_rt, o_add, o_addR, o_addC, o_addS, o_addT, o_sub, o_mul, o_mod, o_div, o_pow, o_neg, o_lt, o_le, o_gt, o_ge, o_int, o_min2, o_max2, o_leS1, o_inS1, o_isB, o_eq, o_ne, eqK_some, neK_some, eqv_int, eqv_bool, toP_int, toP_bl, toP_non, toP_str, toP_tup, toP_rl, toP_ref, toPC_lst, toP_mapM_nil, toP_mapM_cons, toP_consO, o_len, lenK_some, lenD_tup, lenD_rl, lenD_str, lenD_ref, lenC_lst, ap_fIsi, ap_isiK0, ap_isiK, ap_isiK2, ap_fTyIs, ap_tyK0, ap_tyK, ap_fFor, ap_forK_fix, ap_forK_live, loopX_nil, loopX_cons, ap_turnK0, ap_turnK_nx, ap_turnK_ct, ap_turnK_bk, ap_turnK_rt, ap_fRng1, ap_rng1K, ap_fIter, ap_iterK_rl, ap_iterK_tup, ap_iterK_ref, iterC_lst, ap_fIterS, ap_iterSK, ap_fComp, ap_compK_fix, ap_compK_live, compX_nil, compX_cons, ap_compTK, ap_compEK, ap_fYes, ap_fDict0, ap_fDictT0, ap_fSl, ap_slK1, ap_slK2, ap_pNo, ap_pSo, ap_pSoK, oSl_tup, oSl_str, ap_fBm, ap_bmK, tyIn_str, tyIn_ref, tyInC_lst, tyD_ref, R.bind_ok, R.bind_ex, R.bind_bad, R.nox_ok, nox_bad', List.map_cons, List.map_nil, List.length_cons, List.length_nil, List.cons_append, List.nil_append, Nat.zero_add, Nat.reduceAdd, Nat.reduceSub, List.replicate_succ, List.replicate_zero, List.getElem?_cons_zero, List.getElem?_cons_succ, List.set_cons_zero, List.set_cons_succ, List.append_nil, Bool.false_eq_true, if_true, if_false, decide_eq_true_eq, decide_true, decide_false, Nat.add_zero, reduceIte, reduceDIte, Nat.reduceLeDiff, Int.reduceLT, Int.reduceLE, Int.reduceNeg, Int.reducePow, Int.reduceMul, Int.reduceAdd, Int.reduceSub, Nat.reduceEqDiff, Nat.reducePow, true_and, and_true, or_true, true_or, false_or, or_false, and_self, Bool.not_true, Bool.not_false, Nat.reduceLT, ge_iff_le, gt_iff_lt, Nat.le_refl, Option.map_some, Bool.not_eq_true, Bool.not_eq_eq_eq_not, not_true_eq_false, not_false_eq_true, Int.reduceToNat, beq_iff_eq, Int.reduceEq, String.reduceEq, String.reduceNe, Int.reduceNe, List.set_set, get_app, get_app0, get_apps, get_apps0, set_app, set_app0, set_apps, set_apps0, List.append_assoc, Nat.add_assoc, List.toList_toArray, List.size_toArray, List.length_set, List.length_append, e]
/-! things -/
/-- what is drawn: no own object; a text within bounds -/
def Thing (S : Sto) (d : D) : Prop := (∃ t, tyD S d = some t) ∧ ∀ z, d = .str z → z.length ≤ 1000 ∧ PyData.strOk z = true
theorem az_ok {l : List Nat} (h : ∀ c ∈ l, c < 200) : PyData.strOk ⟨l.toArray⟩ = true := by
  show (l.toArray).all _ = true
  simp only [List.all_toArray, List.all_eq_true, decide_eq_true_eq]
  intro c hc
  have := h c hc
  omega
theorem sm3 {z : Str} (h : decide (z.length ≤ 12 ∧ 1 ≤ z.length ∧ ∀ c ∈ z.cps.toList, 97 ≤ c ∧ c ≤ 122) = true) : z.length ≤ 12 ∧ 1 ≤ z.length ∧ ∀ c ∈ z.cps.toList, 97 ≤ c ∧ c ≤ 122 := of_decide_eq_true h
theorem dName_sm (s : Sd) : (dName s).1.length ≤ 12 ∧ 1 ≤ (dName s).1.length ∧ ∀ c ∈ (dName s).1.cps.toList, 97 ≤ c ∧ c ≤ 122 := by
  unfold dName
  simp only
  have h5 := dNext_lo (size := 12) (by decide) (dNext 2 s).2
  have h6 := dNext_hi (size := 12) (by decide) (dNext 2 s).2
  split
  · split
    · exact sm3 (z := ⟨#[97]⟩) (by decide)
    · split
      · exact sm3 (z := ⟨#[98]⟩) (by decide)
      · split
        · exact sm3 (z := ⟨#[97, 98]⟩) (by decide)
        · exact sm3 (z := ⟨#[122, 122]⟩) (by decide)
  · have hl := dLet_len (1 + (dNext 12 (dNext 2 s).2).1.toNat) (dNext 12 (dNext 2 s).2).2
    refine ⟨?_, ?_, dLet_az _ _⟩
    · show (dLet _ _).1.toArray.size ≤ 12
      rw [List.size_toArray, hl]; omega
    · show 1 ≤ (dLet _ _).1.toArray.size
      rw [List.size_toArray, hl]; omega
theorem atI_mem {α : Type} {l : List α} {x : Int} (h0 : 0 ≤ x) (h1 : x < l.length) : ∃ d, atI l x = some d ∧ d ∈ l := by
  rw [atI_nn h0]
  have h : x.toNat < l.length := by omega
  exact ⟨l[x.toNat], List.getElem?_eq_getElem h, List.getElem_mem h⟩
theorem thing_str {S : Sto} {z : Str} (h : z.length ≤ 1000) (h2 : PyData.strOk z = true) : Thing S (.str z) := ⟨⟨_, rfl⟩, fun w e => by cases e; exact ⟨h, h2⟩⟩
theorem thing_no {S : Sto} {d : D} {t : String} (h : tyD S d = some t) (h2 : ∀ z, d ≠ .str z) : Thing S d := ⟨⟨_, h⟩, fun w e => absurd e (h2 w)⟩
theorem odd_end {x : Int} {S1 : Sto} {a b e f : Nat} {la le lf : List D} {lb : List (Key × D)} (h1 : 0 ≤ x) (h2 : x < 34) (ha : S1[a]? = some (.lst la)) (hb : S1[b]? = some (.dk lb)) (he : S1[e]? = some (.lst le)) (hf : S1[f]? = some (.lst lf)) :
    ∃ d S2, ((retO S1 (atI [D.non, D.bl true, D.bl false, D.int 0, D.int 1, D.int (-1), D.int 1000000000000, D.int 1000000000001, D.int (-1000000000000), D.int (-1000000000001), D.int 1000000000000000, D.int 1000000000000001, D.int (-1000000000000000),
      D.int (-1000000000000001), D.str ⟨#[]⟩, D.str ⟨#[97]⟩, D.str ⟨#[65]⟩, D.str ⟨#[97, 49]⟩, D.str ⟨#[97, 32, 98]⟩, D.str ⟨#[97, 98, 99, 100, 101, 102, 103, 104, 105, 106, 107, 108, 109]⟩, D.tup [], D.ref a, D.ref b, D.str ⟨#[97, 10]⟩, D.tup [D.str ⟨#[97]⟩],
      D.ref e, D.tup [D.int 1, D.str ⟨#[97]⟩], D.ref f, D.tup [D.int 1, D.int 0], D.tup [D.int 0, D.int 1], D.tup [D.bl true, D.str ⟨#[97]⟩], D.tup [D.int 1, D.bl true], D.tup [D.non, D.non], D.tup [D.tup [D.int 1, D.int 0], D.int 1]] x)).bind retK).bind fnK = .ok d S2 ∧ Thing S2 d := by
  obtain ⟨d, hd, hm⟩ := atI_mem h1 (l := [D.non, D.bl true, D.bl false, D.int 0, D.int 1, D.int (-1), D.int 1000000000000, D.int 1000000000001, D.int (-1000000000000), D.int (-1000000000001), D.int 1000000000000000, D.int 1000000000000001, D.int (-1000000000000000),
      D.int (-1000000000000001), D.str ⟨#[]⟩, D.str ⟨#[97]⟩, D.str ⟨#[65]⟩, D.str ⟨#[97, 49]⟩, D.str ⟨#[97, 32, 98]⟩, D.str ⟨#[97, 98, 99, 100, 101, 102, 103, 104, 105, 106, 107, 108, 109]⟩, D.tup [], D.ref a, D.ref b, D.str ⟨#[97, 10]⟩, D.tup [D.str ⟨#[97]⟩],
      D.ref e, D.tup [D.int 1, D.str ⟨#[97]⟩], D.ref f, D.tup [D.int 1, D.int 0], D.tup [D.int 0, D.int 1], D.tup [D.bl true, D.str ⟨#[97]⟩], D.tup [D.int 1, D.bl true], D.tup [D.non, D.non], D.tup [D.tup [D.int 1, D.int 0], D.int 1]]) h2
  rw [hd]
  refine ⟨d, S1, rfl, ?_⟩
  clear hd
  simp only [List.mem_cons, List.not_mem_nil, or_false] at hm
  rcases hm with rfl | rfl | rfl | rfl | rfl | rfl | rfl | rfl | rfl | rfl | rfl | rfl | rfl | rfl | rfl | rfl | rfl | rfl | rfl | rfl | rfl | rfl | rfl | rfl | rfl | rfl | rfl | rfl | rfl | rfl | rfl | rfl | rfl | rfl
  all_goals first
    | exact thing_str (by decide) (by decide +kernel)
    | (refine thing_no rfl ?_; intro _ e; cases e; done)
    | (refine thing_no (by rw [tyD_ref, ha]; rfl) ?_; intro _ e; cases e; done)
    | (refine thing_no (by rw [tyD_ref, hb]; rfl) ?_; intro _ e; cases e; done)
    | (refine thing_no (by rw [tyD_ref, he]; rfl) ?_; intro _ e; cases e; done)
    | (refine thing_no (by rw [tyD_ref, hf]; rfl) ?_; intro _ e; cases e; done)
theorem odd_eq (c : CA) {n : Nat} {s : Sd} {S : Sto} (h : S[n]? = some (stC s)) : ∃ d S1, F_law_odd c [.ref n] S = .ok d S1 ∧ Thing S1 d := by
  unfold F_law_odd b_law_odd
  have h1 := dNext_lo (size := 34) (by decide) s
  have h2 := dNext_hi (size := 34) (by decide) s
  simp only [ap_fVar, varK_some, ap_fC, ap_fBin, ap_binK, ap_fUn, ap_fApp, ap_fNil, ap_fCons, ap_consK, ap_consK2, ap_fTup, ap_fLst, ap_tupK, ap_lstK, ap_fTest, ap_testK, ap_fVal, ap_valK, ap_fAnd, ap_fOr, ap_fNot, ap_andK, ap_orK, ap_notK, ap_fAndV, ap_fOrV, ap_fNotV, ap_andVK, ap_orVK, ap_notVK, ap_fIfE, ap_ifEK, ap_fChain, ap_chK1, ap_chK2, ap_chK3, ap_fSkip, ap_fBrk, ap_fCnt, ap_fSeq, ap_seqK_nx, ap_seqK_rt, ap_seqK_bk, ap_seqK_ct, ap_fIf, ap_ifK, ap_fRet, ap_retK, ap_fRetN, ap_fDrop, ap_dropK, ap_fAsg, ap_asgK, ap_asgK2, ap_gN, ap_gNil, ap_gCons, ap_gsK, ap_gUnp, ap_unpK, ap_gSub, ap_subK1, ap_subK2, ap_subK3, ap_fIx, ap_ixK, isDict_ref, isDict_tup, isDict_rl, isDict_str, isDictC_lst, isDictC_dk, isDictC_dt, getL_tup, getL_rl, getL_str, getL_ref, getLC_lst, retO_some, atI_0, atI_1, atI_2, atI_3, oSet_ref, setC_lst, setLK_some, ixN_0, ixN_1, ap_fCall, ap_callK, ap_fnF, ap_fnK_nx, ap_fnK_rt, o_add, o_addR, o_addC, o_addS, o_addT, o_sub, o_mul, o_mod, o_div, o_pow, o_neg, o_lt, o_le, o_gt, o_ge, o_int, o_min2, o_max2, o_leS1, o_inS1, o_isB, o_eq, o_ne, eqK_some, neK_some, eqv_int, eqv_bool, toP_int, toP_bl, toP_non, toP_str, toP_tup, toP_rl, toP_ref, toPC_lst, toP_mapM_nil, toP_mapM_cons, toP_consO, o_len, lenK_some, lenD_tup, lenD_rl, lenD_str, lenD_ref, lenC_lst, ap_fIsi, ap_isiK0, ap_isiK, ap_isiK2, ap_fTyIs, ap_tyK0, ap_tyK, ap_fFor, ap_forK_fix, ap_forK_live, loopX_nil, loopX_cons, ap_turnK0, ap_turnK_nx, ap_turnK_ct, ap_turnK_bk, ap_turnK_rt, ap_fRng1, ap_rng1K, ap_fIter, ap_iterK_rl, ap_iterK_tup, ap_iterK_ref, iterC_lst, ap_fIterS, ap_iterSK, ap_fComp, ap_compK_fix, ap_compK_live, compX_nil, compX_cons, ap_compTK, ap_compEK, ap_fYes, ap_fDict0, ap_fDictT0, ap_fSl, ap_slK1, ap_slK2, ap_pNo, ap_pSo, ap_pSoK, oSl_tup, oSl_str, ap_fBm, ap_bmK, tyIn_str, tyIn_ref, tyInC_lst, tyD_ref, R.bind_ok, R.bind_ex, R.bind_bad, R.nox_ok, nox_bad', List.map_cons, List.map_nil, List.length_cons, List.length_nil, List.cons_append, List.nil_append, Nat.zero_add, Nat.reduceAdd, Nat.reduceSub, List.replicate_succ, List.replicate_zero, List.getElem?_cons_zero, List.getElem?_cons_succ, List.set_cons_zero, List.set_cons_succ, List.append_nil, Bool.false_eq_true, if_true, if_false, decide_eq_true_eq, decide_true, decide_false, Nat.add_zero, reduceIte, reduceDIte, Nat.reduceLeDiff, Int.reduceLT, Int.reduceLE, Int.reduceNeg, Int.reducePow, Int.reduceMul, Int.reduceAdd, Int.reduceSub, Nat.reduceEqDiff, Nat.reducePow, true_and, and_true, or_true, true_or, false_or, or_false, and_self, Bool.not_true, Bool.not_false, Nat.reduceLT, ge_iff_le, gt_iff_lt, Nat.le_refl, Option.map_some, Bool.not_eq_true, Bool.not_eq_eq_eq_not, not_true_eq_false, not_false_eq_true, Int.reduceToNat, beq_iff_eq, Int.reduceEq, String.reduceEq, String.reduceNe, Int.reduceNe, List.set_set, get_app, get_app0, get_apps, get_apps0, set_app, set_app0, set_apps, set_apps0, List.append_assoc, Nat.add_assoc, List.toList_toArray, List.size_toArray, List.length_set, List.length_append, next_eq, fT_nextC, app_get h, h, app_set h]
  exact odd_end h1 h2 get_apps get_apps get_apps get_apps
theorem cut_len {l : List Nat} {a b : Option Int} : (cutD l a b).length ≤ l.length := by
  unfold cutD
  rw [List.length_take, List.length_drop]; omega
theorem cut_sub {l : List Nat} {a b : Option Int} {P : Nat → Prop} (h : ∀ c ∈ l, P c) : ∀ c ∈ cutD l a b, P c := fun c hc => h c (List.mem_of_mem_drop (List.mem_of_mem_take hc))
def Sm (z : Str) : Prop := z.length ≤ 12 ∧ 1 ≤ z.length ∧ ∀ c ∈ z.cps.toList, 97 ≤ c ∧ c ≤ 122
theorem name_comp (c : CA) {n : Nat} {v1 v2 v3 v4 : Option D} (xs : List D) : ∀ (s : Sd) (S : Sto) (acc : List D), S[n]? = some (stC s) → acc.length + xs.length ≤ 1000 →
    ∃ (s1 : Sd) (T : Sto) (zs : List Str), compX 4 fYes (ce_law_thing_0 c) [some (D.ref n), v1, v2, v3, v4] xs acc S
      = .ok (.ref (S.length + T.length)) (S.set n (stC s1) ++ (T ++ [.lst (acc ++ zs.map .str)])) ∧ zs.length = xs.length ∧ ∀ z ∈ zs, Sm z := by
  induction xs with
  | nil =>
    intro s S acc h hl
    refine ⟨s, [], [], ?_, rfl, fun z hz => by cases hz⟩
    simp only [ap_fVar, varK_some, ap_fC, ap_fBin, ap_binK, ap_fUn, ap_fApp, ap_fNil, ap_fCons, ap_consK, ap_consK2, ap_fTup, ap_fLst, ap_tupK, ap_lstK, ap_fTest, ap_testK, ap_fVal, ap_valK, ap_fAnd, ap_fOr, ap_fNot, ap_andK, ap_orK, ap_notK, ap_fAndV, ap_fOrV, ap_fNotV, ap_andVK, ap_orVK, ap_notVK, ap_fIfE, ap_ifEK, ap_fChain, ap_chK1, ap_chK2, ap_chK3, ap_fSkip, ap_fBrk, ap_fCnt, ap_fSeq, ap_seqK_nx, ap_seqK_rt, ap_seqK_bk, ap_seqK_ct, ap_fIf, ap_ifK, ap_fRet, ap_retK, ap_fRetN, ap_fDrop, ap_dropK, ap_fAsg, ap_asgK, ap_asgK2, ap_gN, ap_gNil, ap_gCons, ap_gsK, ap_gUnp, ap_unpK, ap_gSub, ap_subK1, ap_subK2, ap_subK3, ap_fIx, ap_ixK, isDict_ref, isDict_tup, isDict_rl, isDict_str, isDictC_lst, isDictC_dk, isDictC_dt, getL_tup, getL_rl, getL_str, getL_ref, getLC_lst, retO_some, atI_0, atI_1, atI_2, atI_3, oSet_ref, setC_lst, setLK_some, ixN_0, ixN_1, ap_fCall, ap_callK, ap_fnF, ap_fnK_nx, ap_fnK_rt, o_add, o_addR, o_addC, o_addS, o_addT, o_sub, o_mul, o_mod, o_div, o_pow, o_neg, o_lt, o_le, o_gt, o_ge, o_int, o_min2, o_max2, o_leS1, o_inS1, o_isB, o_eq, o_ne, eqK_some, neK_some, eqv_int, eqv_bool, toP_int, toP_bl, toP_non, toP_str, toP_tup, toP_rl, toP_ref, toPC_lst, toP_mapM_nil, toP_mapM_cons, toP_consO, o_len, lenK_some, lenD_tup, lenD_rl, lenD_str, lenD_ref, lenC_lst, ap_fIsi, ap_isiK0, ap_isiK, ap_isiK2, ap_fTyIs, ap_tyK0, ap_tyK, ap_fFor, ap_forK_fix, ap_forK_live, loopX_nil, loopX_cons, ap_turnK0, ap_turnK_nx, ap_turnK_ct, ap_turnK_bk, ap_turnK_rt, ap_fRng1, ap_rng1K, ap_fIter, ap_iterK_rl, ap_iterK_tup, ap_iterK_ref, iterC_lst, ap_fIterS, ap_iterSK, ap_fComp, ap_compK_fix, ap_compK_live, compX_nil, compX_cons, ap_compTK, ap_compEK, ap_fYes, ap_fDict0, ap_fDictT0, ap_fSl, ap_slK1, ap_slK2, ap_pNo, ap_pSo, ap_pSoK, oSl_tup, oSl_str, ap_fBm, ap_bmK, tyIn_str, tyIn_ref, tyInC_lst, tyD_ref, R.bind_ok, R.bind_ex, R.bind_bad, R.nox_ok, nox_bad', List.map_cons, List.map_nil, List.length_cons, List.length_nil, List.cons_append, List.nil_append, Nat.zero_add, Nat.reduceAdd, Nat.reduceSub, List.replicate_succ, List.replicate_zero, List.getElem?_cons_zero, List.getElem?_cons_succ, List.set_cons_zero, List.set_cons_succ, List.append_nil, Bool.false_eq_true, if_true, if_false, decide_eq_true_eq, decide_true, decide_false, Nat.add_zero, reduceIte, reduceDIte, Nat.reduceLeDiff, Int.reduceLT, Int.reduceLE, Int.reduceNeg, Int.reducePow, Int.reduceMul, Int.reduceAdd, Int.reduceSub, Nat.reduceEqDiff, Nat.reducePow, true_and, and_true, or_true, true_or, false_or, or_false, and_self, Bool.not_true, Bool.not_false, Nat.reduceLT, ge_iff_le, gt_iff_lt, Nat.le_refl, Option.map_some, Bool.not_eq_true, Bool.not_eq_eq_eq_not, not_true_eq_false, not_false_eq_true, Int.reduceToNat, beq_iff_eq, Int.reduceEq, String.reduceEq, String.reduceNe, Int.reduceNe, List.set_set, get_app, get_app0, get_apps, get_apps0, set_app, set_app0, set_apps, set_apps0, List.append_assoc, Nat.add_assoc, List.toList_toArray, List.size_toArray, List.length_set, List.length_append]
    rw [set_self h]
  | cons d xs ih =>
    intro s S acc h hl
    rw [List.length_cons] at hl
    obtain ⟨T, e⟩ := name_eq c h
    obtain ⟨s1, T1, zs, e1, e2, e3⟩ := ih (dName s).2 (S.set n (stC (dName s).2) ++ T) (acc ++ [.str (dName s).1]) (app_get (set_get h)) (by rw [List.length_append, List.length_singleton]; omega)
    refine ⟨s1, T ++ T1, (dName s).1 :: zs, ?_, by rw [List.length_cons, List.length_cons, e2], fun z hz => ?_⟩
    · simp only [ap_fVar, varK_some, ap_fC, ap_fBin, ap_binK, ap_fUn, ap_fApp, ap_fNil, ap_fCons, ap_consK, ap_consK2, ap_fTup, ap_fLst, ap_tupK, ap_lstK, ap_fTest, ap_testK, ap_fVal, ap_valK, ap_fAnd, ap_fOr, ap_fNot, ap_andK, ap_orK, ap_notK, ap_fAndV, ap_fOrV, ap_fNotV, ap_andVK, ap_orVK, ap_notVK, ap_fIfE, ap_ifEK, ap_fChain, ap_chK1, ap_chK2, ap_chK3, ap_fSkip, ap_fBrk, ap_fCnt, ap_fSeq, ap_seqK_nx, ap_seqK_rt, ap_seqK_bk, ap_seqK_ct, ap_fIf, ap_ifK, ap_fRet, ap_retK, ap_fRetN, ap_fDrop, ap_dropK, ap_fAsg, ap_asgK, ap_asgK2, ap_gN, ap_gNil, ap_gCons, ap_gsK, ap_gUnp, ap_unpK, ap_gSub, ap_subK1, ap_subK2, ap_subK3, ap_fIx, ap_ixK, isDict_ref, isDict_tup, isDict_rl, isDict_str, isDictC_lst, isDictC_dk, isDictC_dt, getL_tup, getL_rl, getL_str, getL_ref, getLC_lst, retO_some, atI_0, atI_1, atI_2, atI_3, oSet_ref, setC_lst, setLK_some, ixN_0, ixN_1, ap_fCall, ap_callK, ap_fnF, ap_fnK_nx, ap_fnK_rt, o_add, o_addR, o_addC, o_addS, o_addT, o_sub, o_mul, o_mod, o_div, o_pow, o_neg, o_lt, o_le, o_gt, o_ge, o_int, o_min2, o_max2, o_leS1, o_inS1, o_isB, o_eq, o_ne, eqK_some, neK_some, eqv_int, eqv_bool, toP_int, toP_bl, toP_non, toP_str, toP_tup, toP_rl, toP_ref, toPC_lst, toP_mapM_nil, toP_mapM_cons, toP_consO, o_len, lenK_some, lenD_tup, lenD_rl, lenD_str, lenD_ref, lenC_lst, ap_fIsi, ap_isiK0, ap_isiK, ap_isiK2, ap_fTyIs, ap_tyK0, ap_tyK, ap_fFor, ap_forK_fix, ap_forK_live, loopX_nil, loopX_cons, ap_turnK0, ap_turnK_nx, ap_turnK_ct, ap_turnK_bk, ap_turnK_rt, ap_fRng1, ap_rng1K, ap_fIter, ap_iterK_rl, ap_iterK_tup, ap_iterK_ref, iterC_lst, ap_fIterS, ap_iterSK, ap_fComp, ap_compK_fix, ap_compK_live, compX_nil, compX_cons, ap_compTK, ap_compEK, ap_fYes, ap_fDict0, ap_fDictT0, ap_fSl, ap_slK1, ap_slK2, ap_pNo, ap_pSo, ap_pSoK, oSl_tup, oSl_str, ap_fBm, ap_bmK, tyIn_str, tyIn_ref, tyInC_lst, tyD_ref, R.bind_ok, R.bind_ex, R.bind_bad, R.nox_ok, nox_bad', List.map_cons, List.map_nil, List.length_cons, List.length_nil, List.cons_append, List.nil_append, Nat.zero_add, Nat.reduceAdd, Nat.reduceSub, List.replicate_succ, List.replicate_zero, List.getElem?_cons_zero, List.getElem?_cons_succ, List.set_cons_zero, List.set_cons_succ, List.append_nil, Bool.false_eq_true, if_true, if_false, decide_eq_true_eq, decide_true, decide_false, Nat.add_zero, reduceIte, reduceDIte, Nat.reduceLeDiff, Int.reduceLT, Int.reduceLE, Int.reduceNeg, Int.reducePow, Int.reduceMul, Int.reduceAdd, Int.reduceSub, Nat.reduceEqDiff, Nat.reducePow, true_and, and_true, or_true, true_or, false_or, or_false, and_self, Bool.not_true, Bool.not_false, Nat.reduceLT, ge_iff_le, gt_iff_lt, Nat.le_refl, Option.map_some, Bool.not_eq_true, Bool.not_eq_eq_eq_not, not_true_eq_false, not_false_eq_true, Int.reduceToNat, beq_iff_eq, Int.reduceEq, String.reduceEq, String.reduceNe, Int.reduceNe, List.set_set, get_app, get_app0, get_apps, get_apps0, set_app, set_app0, set_apps, set_apps0, List.append_assoc, Nat.add_assoc, List.toList_toArray, List.size_toArray, List.length_set, List.length_append, ap_ce_law_thing_0, e]
      rw [if_pos (by omega), e1, app_set (set_get h)]
      simp only [ap_fVar, varK_some, ap_fC, ap_fBin, ap_binK, ap_fUn, ap_fApp, ap_fNil, ap_fCons, ap_consK, ap_consK2, ap_fTup, ap_fLst, ap_tupK, ap_lstK, ap_fTest, ap_testK, ap_fVal, ap_valK, ap_fAnd, ap_fOr, ap_fNot, ap_andK, ap_orK, ap_notK, ap_fAndV, ap_fOrV, ap_fNotV, ap_andVK, ap_orVK, ap_notVK, ap_fIfE, ap_ifEK, ap_fChain, ap_chK1, ap_chK2, ap_chK3, ap_fSkip, ap_fBrk, ap_fCnt, ap_fSeq, ap_seqK_nx, ap_seqK_rt, ap_seqK_bk, ap_seqK_ct, ap_fIf, ap_ifK, ap_fRet, ap_retK, ap_fRetN, ap_fDrop, ap_dropK, ap_fAsg, ap_asgK, ap_asgK2, ap_gN, ap_gNil, ap_gCons, ap_gsK, ap_gUnp, ap_unpK, ap_gSub, ap_subK1, ap_subK2, ap_subK3, ap_fIx, ap_ixK, isDict_ref, isDict_tup, isDict_rl, isDict_str, isDictC_lst, isDictC_dk, isDictC_dt, getL_tup, getL_rl, getL_str, getL_ref, getLC_lst, retO_some, atI_0, atI_1, atI_2, atI_3, oSet_ref, setC_lst, setLK_some, ixN_0, ixN_1, ap_fCall, ap_callK, ap_fnF, ap_fnK_nx, ap_fnK_rt, o_add, o_addR, o_addC, o_addS, o_addT, o_sub, o_mul, o_mod, o_div, o_pow, o_neg, o_lt, o_le, o_gt, o_ge, o_int, o_min2, o_max2, o_leS1, o_inS1, o_isB, o_eq, o_ne, eqK_some, neK_some, eqv_int, eqv_bool, toP_int, toP_bl, toP_non, toP_str, toP_tup, toP_rl, toP_ref, toPC_lst, toP_mapM_nil, toP_mapM_cons, toP_consO, o_len, lenK_some, lenD_tup, lenD_rl, lenD_str, lenD_ref, lenC_lst, ap_fIsi, ap_isiK0, ap_isiK, ap_isiK2, ap_fTyIs, ap_tyK0, ap_tyK, ap_fFor, ap_forK_fix, ap_forK_live, loopX_nil, loopX_cons, ap_turnK0, ap_turnK_nx, ap_turnK_ct, ap_turnK_bk, ap_turnK_rt, ap_fRng1, ap_rng1K, ap_fIter, ap_iterK_rl, ap_iterK_tup, ap_iterK_ref, iterC_lst, ap_fIterS, ap_iterSK, ap_fComp, ap_compK_fix, ap_compK_live, compX_nil, compX_cons, ap_compTK, ap_compEK, ap_fYes, ap_fDict0, ap_fDictT0, ap_fSl, ap_slK1, ap_slK2, ap_pNo, ap_pSo, ap_pSoK, oSl_tup, oSl_str, ap_fBm, ap_bmK, tyIn_str, tyIn_ref, tyInC_lst, tyD_ref, R.bind_ok, R.bind_ex, R.bind_bad, R.nox_ok, nox_bad', List.map_cons, List.map_nil, List.length_cons, List.length_nil, List.cons_append, List.nil_append, Nat.zero_add, Nat.reduceAdd, Nat.reduceSub, List.replicate_succ, List.replicate_zero, List.getElem?_cons_zero, List.getElem?_cons_succ, List.set_cons_zero, List.set_cons_succ, List.append_nil, Bool.false_eq_true, if_true, if_false, decide_eq_true_eq, decide_true, decide_false, Nat.add_zero, reduceIte, reduceDIte, Nat.reduceLeDiff, Int.reduceLT, Int.reduceLE, Int.reduceNeg, Int.reducePow, Int.reduceMul, Int.reduceAdd, Int.reduceSub, Nat.reduceEqDiff, Nat.reducePow, true_and, and_true, or_true, true_or, false_or, or_false, and_self, Bool.not_true, Bool.not_false, Nat.reduceLT, ge_iff_le, gt_iff_lt, Nat.le_refl, Option.map_some, Bool.not_eq_true, Bool.not_eq_eq_eq_not, not_true_eq_false, not_false_eq_true, Int.reduceToNat, beq_iff_eq, Int.reduceEq, String.reduceEq, String.reduceNe, Int.reduceNe, List.set_set, get_app, get_app0, get_apps, get_apps0, set_app, set_app0, set_apps, set_apps0, List.append_assoc, Nat.add_assoc, List.toList_toArray, List.size_toArray, List.length_set, List.length_append]
    · rcases List.mem_cons.mp hz with rfl | hz
      · exact dName_sm s
      · exact e3 z hz
theorem strs_of2 (l : List Str) : strsD (l.map D.str) = some l := by
  induction l with
  | nil => rfl
  | cons a l ih =>
    show (strsD (l.map D.str)).map (a :: ·) = _
    rw [ih]
    rfl
/-- one or two names, glued -/
theorem glue_sm {zs : List Str} (hl : zs.length = 1 ∨ zs.length = 2) (h : ∀ z ∈ zs, Sm z) : (zs.map (·.length)).sum ≤ 24 ∧ (Txt.join ⟨#[]⟩ zs).length ≤ 24 ∧ 1 ≤ (Txt.join ⟨#[]⟩ zs).length ∧ ∀ c ∈ (Txt.join ⟨#[]⟩ zs).cps.toList, 97 ≤ c ∧ c ≤ 122 := by
  have hj := join_nil zs
  have hlen : (Txt.join ⟨#[]⟩ zs).length = (Txt.join ⟨#[]⟩ zs).cps.toList.length := by simp [Str.length]
  have hs : ∀ z : Str, z.cps.toList.length = z.length := fun z => by simp [Str.length]
  rw [hlen, hj]
  match zs, hl, h with
  | [a], _, h =>
    obtain ⟨h1, h2, h3⟩ := h a (by simp)
    simp only [List.map_cons, List.map_nil, List.sum_cons, List.sum_nil, List.flatten_cons, List.flatten_nil, List.append_nil, hs]
    exact ⟨by omega, by omega, by omega, h3⟩
  | [a, b], _, h =>
    obtain ⟨h1, h2, h3⟩ := h a (by simp)
    obtain ⟨k1, k2, k3⟩ := h b (by simp)
    simp only [List.map_cons, List.map_nil, List.sum_cons, List.sum_nil, List.flatten_cons, List.flatten_nil, List.append_nil, List.length_append, hs]
    refine ⟨by omega, by omega, by omega, fun c hc => ?_⟩
    rcases List.mem_append.mp hc with hc | hc
    · exact h3 c hc
    · exact k3 c hc
  | [], hl, _ => simp at hl
  | _ :: _ :: _ :: _, hl, _ => simp at hl
theorem odd_sign {x : Int} (h0 : 0 ≤ x) (h1 : x < 12) : ∃ c, atI [65, 90, 48, 57, 32, 95, 45, 46, 10, 123, 96, 64] x = some c ∧ c < 200 := by
  obtain ⟨c, h, hm⟩ := atI_mem (l := [65, 90, 48, 57, 32, 95, 45, 46, 10, 123, 96, 64]) h0 h1
  refine ⟨c, h, ?_⟩
  have : ∀ c ∈ [65, 90, 48, 57, 32, 95, 45, 46, 10, 123, 96, 64], c < 200 := by decide
  exact this c hm
theorem str_app (a b : Str) : (a ++ b).cps.toList = a.cps.toList ++ b.cps.toList := by
  show (a.cps ++ b.cps).toList = _
  simp
theorem strlen (z : Str) : z.length = z.cps.toList.length := by simp [Str.length]
theorem thing_eq (c : CA) {n : Nat} {s : Sd} {S : Sto} (h : S[n]? = some (stC s)) : ∃ d S1, F_law_thing c [.ref n] S = .ok d S1 ∧ Thing S1 d := by
  unfold F_law_thing b_law_thing
  have h1 := dNext_lo (size := 5) (by decide) s
  have h2 := dNext_hi (size := 5) (by decide) s
  have h3 := dNext_lo (size := 2) (by decide) (dNext 5 s).2
  have h4 := dNext_hi (size := 2) (by decide) (dNext 5 s).2
  have hk : (dNext 5 s).1 = 0 ∨ (dNext 5 s).1 = 1 ∨ (dNext 5 s).1 = 2 ∨ ((dNext 5 s).1 ≠ 0 ∧ (dNext 5 s).1 ≠ 1 ∧ (dNext 5 s).1 ≠ 2) := by omega
  rcases hk with hk | hk | hk | ⟨k0, k1, k2⟩
  · obtain ⟨d, S1, e1, e2⟩ := odd_eq c (set_get h (d := stC (dNext 5 s).2))
    simp only [ap_fVar, varK_some, ap_fC, ap_fBin, ap_binK, ap_fUn, ap_fApp, ap_fNil, ap_fCons, ap_consK, ap_consK2, ap_fTup, ap_fLst, ap_tupK, ap_lstK, ap_fTest, ap_testK, ap_fVal, ap_valK, ap_fAnd, ap_fOr, ap_fNot, ap_andK, ap_orK, ap_notK, ap_fAndV, ap_fOrV, ap_fNotV, ap_andVK, ap_orVK, ap_notVK, ap_fIfE, ap_ifEK, ap_fChain, ap_chK1, ap_chK2, ap_chK3, ap_fSkip, ap_fBrk, ap_fCnt, ap_fSeq, ap_seqK_nx, ap_seqK_rt, ap_seqK_bk, ap_seqK_ct, ap_fIf, ap_ifK, ap_fRet, ap_retK, ap_fRetN, ap_fDrop, ap_dropK, ap_fAsg, ap_asgK, ap_asgK2, ap_gN, ap_gNil, ap_gCons, ap_gsK, ap_gUnp, ap_unpK, ap_gSub, ap_subK1, ap_subK2, ap_subK3, ap_fIx, ap_ixK, isDict_ref, isDict_tup, isDict_rl, isDict_str, isDictC_lst, isDictC_dk, isDictC_dt, getL_tup, getL_rl, getL_str, getL_ref, getLC_lst, retO_some, atI_0, atI_1, atI_2, atI_3, oSet_ref, setC_lst, setLK_some, ixN_0, ixN_1, ap_fCall, ap_callK, ap_fnF, ap_fnK_nx, ap_fnK_rt, o_add, o_addR, o_addC, o_addS, o_addT, o_sub, o_mul, o_mod, o_div, o_pow, o_neg, o_lt, o_le, o_gt, o_ge, o_int, o_min2, o_max2, o_leS1, o_inS1, o_isB, o_eq, o_ne, eqK_some, neK_some, eqv_int, eqv_bool, toP_int, toP_bl, toP_non, toP_str, toP_tup, toP_rl, toP_ref, toPC_lst, toP_mapM_nil, toP_mapM_cons, toP_consO, o_len, lenK_some, lenD_tup, lenD_rl, lenD_str, lenD_ref, lenC_lst, ap_fIsi, ap_isiK0, ap_isiK, ap_isiK2, ap_fTyIs, ap_tyK0, ap_tyK, ap_fFor, ap_forK_fix, ap_forK_live, loopX_nil, loopX_cons, ap_turnK0, ap_turnK_nx, ap_turnK_ct, ap_turnK_bk, ap_turnK_rt, ap_fRng1, ap_rng1K, ap_fIter, ap_iterK_rl, ap_iterK_tup, ap_iterK_ref, iterC_lst, ap_fIterS, ap_iterSK, ap_fComp, ap_compK_fix, ap_compK_live, compX_nil, compX_cons, ap_compTK, ap_compEK, ap_fYes, ap_fDict0, ap_fDictT0, ap_fSl, ap_slK1, ap_slK2, ap_pNo, ap_pSo, ap_pSoK, oSl_tup, oSl_str, ap_fBm, ap_bmK, tyIn_str, tyIn_ref, tyInC_lst, tyD_ref, R.bind_ok, R.bind_ex, R.bind_bad, R.nox_ok, nox_bad', List.map_cons, List.map_nil, List.length_cons, List.length_nil, List.cons_append, List.nil_append, Nat.zero_add, Nat.reduceAdd, Nat.reduceSub, List.replicate_succ, List.replicate_zero, List.getElem?_cons_zero, List.getElem?_cons_succ, List.set_cons_zero, List.set_cons_succ, List.append_nil, Bool.false_eq_true, if_true, if_false, decide_eq_true_eq, decide_true, decide_false, Nat.add_zero, reduceIte, reduceDIte, Nat.reduceLeDiff, Int.reduceLT, Int.reduceLE, Int.reduceNeg, Int.reducePow, Int.reduceMul, Int.reduceAdd, Int.reduceSub, Nat.reduceEqDiff, Nat.reducePow, true_and, and_true, or_true, true_or, false_or, or_false, and_self, Bool.not_true, Bool.not_false, Nat.reduceLT, ge_iff_le, gt_iff_lt, Nat.le_refl, Option.map_some, Bool.not_eq_true, Bool.not_eq_eq_eq_not, not_true_eq_false, not_false_eq_true, Int.reduceToNat, beq_iff_eq, Int.reduceEq, String.reduceEq, String.reduceNe, Int.reduceNe, List.set_set, get_app, get_app0, get_apps, get_apps0, set_app, set_app0, set_apps, set_apps0, List.append_assoc, Nat.add_assoc, List.toList_toArray, List.size_toArray, List.length_set, List.length_append, next_eq, fT_nextC, h, set_get h, hk, e1]
    exact ⟨d, S1, rfl, e2⟩
  · simp only [ap_fVar, varK_some, ap_fC, ap_fBin, ap_binK, ap_fUn, ap_fApp, ap_fNil, ap_fCons, ap_consK, ap_consK2, ap_fTup, ap_fLst, ap_tupK, ap_lstK, ap_fTest, ap_testK, ap_fVal, ap_valK, ap_fAnd, ap_fOr, ap_fNot, ap_andK, ap_orK, ap_notK, ap_fAndV, ap_fOrV, ap_fNotV, ap_andVK, ap_orVK, ap_notVK, ap_fIfE, ap_ifEK, ap_fChain, ap_chK1, ap_chK2, ap_chK3, ap_fSkip, ap_fBrk, ap_fCnt, ap_fSeq, ap_seqK_nx, ap_seqK_rt, ap_seqK_bk, ap_seqK_ct, ap_fIf, ap_ifK, ap_fRet, ap_retK, ap_fRetN, ap_fDrop, ap_dropK, ap_fAsg, ap_asgK, ap_asgK2, ap_gN, ap_gNil, ap_gCons, ap_gsK, ap_gUnp, ap_unpK, ap_gSub, ap_subK1, ap_subK2, ap_subK3, ap_fIx, ap_ixK, isDict_ref, isDict_tup, isDict_rl, isDict_str, isDictC_lst, isDictC_dk, isDictC_dt, getL_tup, getL_rl, getL_str, getL_ref, getLC_lst, retO_some, atI_0, atI_1, atI_2, atI_3, oSet_ref, setC_lst, setLK_some, ixN_0, ixN_1, ap_fCall, ap_callK, ap_fnF, ap_fnK_nx, ap_fnK_rt, o_add, o_addR, o_addC, o_addS, o_addT, o_sub, o_mul, o_mod, o_div, o_pow, o_neg, o_lt, o_le, o_gt, o_ge, o_int, o_min2, o_max2, o_leS1, o_inS1, o_isB, o_eq, o_ne, eqK_some, neK_some, eqv_int, eqv_bool, toP_int, toP_bl, toP_non, toP_str, toP_tup, toP_rl, toP_ref, toPC_lst, toP_mapM_nil, toP_mapM_cons, toP_consO, o_len, lenK_some, lenD_tup, lenD_rl, lenD_str, lenD_ref, lenC_lst, ap_fIsi, ap_isiK0, ap_isiK, ap_isiK2, ap_fTyIs, ap_tyK0, ap_tyK, ap_fFor, ap_forK_fix, ap_forK_live, loopX_nil, loopX_cons, ap_turnK0, ap_turnK_nx, ap_turnK_ct, ap_turnK_bk, ap_turnK_rt, ap_fRng1, ap_rng1K, ap_fIter, ap_iterK_rl, ap_iterK_tup, ap_iterK_ref, iterC_lst, ap_fIterS, ap_iterSK, ap_fComp, ap_compK_fix, ap_compK_live, compX_nil, compX_cons, ap_compTK, ap_compEK, ap_fYes, ap_fDict0, ap_fDictT0, ap_fSl, ap_slK1, ap_slK2, ap_pNo, ap_pSo, ap_pSoK, oSl_tup, oSl_str, ap_fBm, ap_bmK, tyIn_str, tyIn_ref, tyInC_lst, tyD_ref, R.bind_ok, R.bind_ex, R.bind_bad, R.nox_ok, nox_bad', List.map_cons, List.map_nil, List.length_cons, List.length_nil, List.cons_append, List.nil_append, Nat.zero_add, Nat.reduceAdd, Nat.reduceSub, List.replicate_succ, List.replicate_zero, List.getElem?_cons_zero, List.getElem?_cons_succ, List.set_cons_zero, List.set_cons_succ, List.append_nil, Bool.false_eq_true, if_true, if_false, decide_eq_true_eq, decide_true, decide_false, Nat.add_zero, reduceIte, reduceDIte, Nat.reduceLeDiff, Int.reduceLT, Int.reduceLE, Int.reduceNeg, Int.reducePow, Int.reduceMul, Int.reduceAdd, Int.reduceSub, Nat.reduceEqDiff, Nat.reducePow, true_and, and_true, or_true, true_or, false_or, or_false, and_self, Bool.not_true, Bool.not_false, Nat.reduceLT, ge_iff_le, gt_iff_lt, Nat.le_refl, Option.map_some, Bool.not_eq_true, Bool.not_eq_eq_eq_not, not_true_eq_false, not_false_eq_true, Int.reduceToNat, beq_iff_eq, Int.reduceEq, String.reduceEq, String.reduceNe, Int.reduceNe, List.set_set, get_app, get_app0, get_apps, get_apps0, set_app, set_app0, set_apps, set_apps0, List.append_assoc, Nat.add_assoc, List.toList_toArray, List.size_toArray, List.length_set, List.length_append, next_eq, fT_nextC, h, set_get h, hk, integer_eq c (set_get h)]
    exact ⟨_, _, rfl, thing_no rfl (by intro _ e; cases e)⟩
  · simp only [ap_fVar, varK_some, ap_fC, ap_fBin, ap_binK, ap_fUn, ap_fApp, ap_fNil, ap_fCons, ap_consK, ap_consK2, ap_fTup, ap_fLst, ap_tupK, ap_lstK, ap_fTest, ap_testK, ap_fVal, ap_valK, ap_fAnd, ap_fOr, ap_fNot, ap_andK, ap_orK, ap_notK, ap_fAndV, ap_fOrV, ap_fNotV, ap_andVK, ap_orVK, ap_notVK, ap_fIfE, ap_ifEK, ap_fChain, ap_chK1, ap_chK2, ap_chK3, ap_fSkip, ap_fBrk, ap_fCnt, ap_fSeq, ap_seqK_nx, ap_seqK_rt, ap_seqK_bk, ap_seqK_ct, ap_fIf, ap_ifK, ap_fRet, ap_retK, ap_fRetN, ap_fDrop, ap_dropK, ap_fAsg, ap_asgK, ap_asgK2, ap_gN, ap_gNil, ap_gCons, ap_gsK, ap_gUnp, ap_unpK, ap_gSub, ap_subK1, ap_subK2, ap_subK3, ap_fIx, ap_ixK, isDict_ref, isDict_tup, isDict_rl, isDict_str, isDictC_lst, isDictC_dk, isDictC_dt, getL_tup, getL_rl, getL_str, getL_ref, getLC_lst, retO_some, atI_0, atI_1, atI_2, atI_3, oSet_ref, setC_lst, setLK_some, ixN_0, ixN_1, ap_fCall, ap_callK, ap_fnF, ap_fnK_nx, ap_fnK_rt, o_add, o_addR, o_addC, o_addS, o_addT, o_sub, o_mul, o_mod, o_div, o_pow, o_neg, o_lt, o_le, o_gt, o_ge, o_int, o_min2, o_max2, o_leS1, o_inS1, o_isB, o_eq, o_ne, eqK_some, neK_some, eqv_int, eqv_bool, toP_int, toP_bl, toP_non, toP_str, toP_tup, toP_rl, toP_ref, toPC_lst, toP_mapM_nil, toP_mapM_cons, toP_consO, o_len, lenK_some, lenD_tup, lenD_rl, lenD_str, lenD_ref, lenC_lst, ap_fIsi, ap_isiK0, ap_isiK, ap_isiK2, ap_fTyIs, ap_tyK0, ap_tyK, ap_fFor, ap_forK_fix, ap_forK_live, loopX_nil, loopX_cons, ap_turnK0, ap_turnK_nx, ap_turnK_ct, ap_turnK_bk, ap_turnK_rt, ap_fRng1, ap_rng1K, ap_fIter, ap_iterK_rl, ap_iterK_tup, ap_iterK_ref, iterC_lst, ap_fIterS, ap_iterSK, ap_fComp, ap_compK_fix, ap_compK_live, compX_nil, compX_cons, ap_compTK, ap_compEK, ap_fYes, ap_fDict0, ap_fDictT0, ap_fSl, ap_slK1, ap_slK2, ap_pNo, ap_pSo, ap_pSoK, oSl_tup, oSl_str, ap_fBm, ap_bmK, tyIn_str, tyIn_ref, tyInC_lst, tyD_ref, R.bind_ok, R.bind_ex, R.bind_bad, R.nox_ok, nox_bad', List.map_cons, List.map_nil, List.length_cons, List.length_nil, List.cons_append, List.nil_append, Nat.zero_add, Nat.reduceAdd, Nat.reduceSub, List.replicate_succ, List.replicate_zero, List.getElem?_cons_zero, List.getElem?_cons_succ, List.set_cons_zero, List.set_cons_succ, List.append_nil, Bool.false_eq_true, if_true, if_false, decide_eq_true_eq, decide_true, decide_false, Nat.add_zero, reduceIte, reduceDIte, Nat.reduceLeDiff, Int.reduceLT, Int.reduceLE, Int.reduceNeg, Int.reducePow, Int.reduceMul, Int.reduceAdd, Int.reduceSub, Nat.reduceEqDiff, Nat.reducePow, true_and, and_true, or_true, true_or, false_or, or_false, and_self, Bool.not_true, Bool.not_false, Nat.reduceLT, ge_iff_le, gt_iff_lt, Nat.le_refl, Option.map_some, Bool.not_eq_true, Bool.not_eq_eq_eq_not, not_true_eq_false, not_false_eq_true, Int.reduceToNat, beq_iff_eq, Int.reduceEq, String.reduceEq, String.reduceNe, Int.reduceNe, List.set_set, get_app, get_app0, get_apps, get_apps0, set_app, set_app0, set_apps, set_apps0, List.append_assoc, Nat.add_assoc, List.toList_toArray, List.size_toArray, List.length_set, List.length_append, next_eq, fT_nextC, h, set_get h, hk, integer_eq c (set_get h)]
    exact ⟨_, _, rfl, thing_no rfl (by intro _ e; cases e)⟩
  · generalize hm : (dNext 2 (dNext 5 s).2).1 = m at h3 h4
    generalize hs1 : (dNext 2 (dNext 5 s).2).2 = s1
    have hr : (rngD 0 (1 + m).toNat).length = (1 + m).toNat := rngD_len
    obtain ⟨s2, T, zs, e1, e2, e3⟩ := name_comp c (n := n) (v1 := some (.int (dNext 5 s).1)) (v2 := none) (v3 := none) (v4 := none) (rngD 0 (1 + m).toNat) s1 (S.set n (stC s1)) [] (set_get h) (by rw [hr]; show 0 + _ ≤ _; omega)
    rw [hr] at e2
    rw [List.nil_append] at e1
    obtain ⟨g1, g2, g3, g4⟩ := glue_sm (zs := zs) (by omega) e3
    have hj : ∀ {S1 : Sto} {q : Nat}, S1[q]? = some (.lst (zs.map D.str)) → mJoin (.str ⟨#[]⟩) [.ref q] S1 = .ok (.str (Txt.join ⟨#[]⟩ zs)) S1 := fun h => o_join h (strs_of2 zs) (by show _ + _ * 0 ≤ _; omega)
    generalize Txt.join ⟨#[]⟩ zs = z at g2 g3 g4 hj
    simp only [ap_fVar, varK_some, ap_fC, ap_fBin, ap_binK, ap_fUn, ap_fApp, ap_fNil, ap_fCons, ap_consK, ap_consK2, ap_fTup, ap_fLst, ap_tupK, ap_lstK, ap_fTest, ap_testK, ap_fVal, ap_valK, ap_fAnd, ap_fOr, ap_fNot, ap_andK, ap_orK, ap_notK, ap_fAndV, ap_fOrV, ap_fNotV, ap_andVK, ap_orVK, ap_notVK, ap_fIfE, ap_ifEK, ap_fChain, ap_chK1, ap_chK2, ap_chK3, ap_fSkip, ap_fBrk, ap_fCnt, ap_fSeq, ap_seqK_nx, ap_seqK_rt, ap_seqK_bk, ap_seqK_ct, ap_fIf, ap_ifK, ap_fRet, ap_retK, ap_fRetN, ap_fDrop, ap_dropK, ap_fAsg, ap_asgK, ap_asgK2, ap_gN, ap_gNil, ap_gCons, ap_gsK, ap_gUnp, ap_unpK, ap_gSub, ap_subK1, ap_subK2, ap_subK3, ap_fIx, ap_ixK, isDict_ref, isDict_tup, isDict_rl, isDict_str, isDictC_lst, isDictC_dk, isDictC_dt, getL_tup, getL_rl, getL_str, getL_ref, getLC_lst, retO_some, atI_0, atI_1, atI_2, atI_3, oSet_ref, setC_lst, setLK_some, ixN_0, ixN_1, ap_fCall, ap_callK, ap_fnF, ap_fnK_nx, ap_fnK_rt, o_add, o_addR, o_addC, o_addS, o_addT, o_sub, o_mul, o_mod, o_div, o_pow, o_neg, o_lt, o_le, o_gt, o_ge, o_int, o_min2, o_max2, o_leS1, o_inS1, o_isB, o_eq, o_ne, eqK_some, neK_some, eqv_int, eqv_bool, toP_int, toP_bl, toP_non, toP_str, toP_tup, toP_rl, toP_ref, toPC_lst, toP_mapM_nil, toP_mapM_cons, toP_consO, o_len, lenK_some, lenD_tup, lenD_rl, lenD_str, lenD_ref, lenC_lst, ap_fIsi, ap_isiK0, ap_isiK, ap_isiK2, ap_fTyIs, ap_tyK0, ap_tyK, ap_fFor, ap_forK_fix, ap_forK_live, loopX_nil, loopX_cons, ap_turnK0, ap_turnK_nx, ap_turnK_ct, ap_turnK_bk, ap_turnK_rt, ap_fRng1, ap_rng1K, ap_fIter, ap_iterK_rl, ap_iterK_tup, ap_iterK_ref, iterC_lst, ap_fIterS, ap_iterSK, ap_fComp, ap_compK_fix, ap_compK_live, compX_nil, compX_cons, ap_compTK, ap_compEK, ap_fYes, ap_fDict0, ap_fDictT0, ap_fSl, ap_slK1, ap_slK2, ap_pNo, ap_pSo, ap_pSoK, oSl_tup, oSl_str, ap_fBm, ap_bmK, tyIn_str, tyIn_ref, tyInC_lst, tyD_ref, R.bind_ok, R.bind_ex, R.bind_bad, R.nox_ok, nox_bad', List.map_cons, List.map_nil, List.length_cons, List.length_nil, List.cons_append, List.nil_append, Nat.zero_add, Nat.reduceAdd, Nat.reduceSub, List.replicate_succ, List.replicate_zero, List.getElem?_cons_zero, List.getElem?_cons_succ, List.set_cons_zero, List.set_cons_succ, List.append_nil, Bool.false_eq_true, if_true, if_false, decide_eq_true_eq, decide_true, decide_false, Nat.add_zero, reduceIte, reduceDIte, Nat.reduceLeDiff, Int.reduceLT, Int.reduceLE, Int.reduceNeg, Int.reducePow, Int.reduceMul, Int.reduceAdd, Int.reduceSub, Nat.reduceEqDiff, Nat.reducePow, true_and, and_true, or_true, true_or, false_or, or_false, and_self, Bool.not_true, Bool.not_false, Nat.reduceLT, ge_iff_le, gt_iff_lt, Nat.le_refl, Option.map_some, Bool.not_eq_true, Bool.not_eq_eq_eq_not, not_true_eq_false, not_false_eq_true, Int.reduceToNat, beq_iff_eq, Int.reduceEq, String.reduceEq, String.reduceNe, Int.reduceNe, List.set_set, get_app, get_app0, get_apps, get_apps0, set_app, set_app0, set_apps, set_apps0, List.append_assoc, Nat.add_assoc, List.toList_toArray, List.size_toArray, List.length_set, List.length_append, next_eq, fT_nextC, h, set_get h, k0, k1, k2, hm, hs1]
    rw [if_pos (by omega)]
    simp only [ap_fVar, varK_some, ap_fC, ap_fBin, ap_binK, ap_fUn, ap_fApp, ap_fNil, ap_fCons, ap_consK, ap_consK2, ap_fTup, ap_fLst, ap_tupK, ap_lstK, ap_fTest, ap_testK, ap_fVal, ap_valK, ap_fAnd, ap_fOr, ap_fNot, ap_andK, ap_orK, ap_notK, ap_fAndV, ap_fOrV, ap_fNotV, ap_andVK, ap_orVK, ap_notVK, ap_fIfE, ap_ifEK, ap_fChain, ap_chK1, ap_chK2, ap_chK3, ap_fSkip, ap_fBrk, ap_fCnt, ap_fSeq, ap_seqK_nx, ap_seqK_rt, ap_seqK_bk, ap_seqK_ct, ap_fIf, ap_ifK, ap_fRet, ap_retK, ap_fRetN, ap_fDrop, ap_dropK, ap_fAsg, ap_asgK, ap_asgK2, ap_gN, ap_gNil, ap_gCons, ap_gsK, ap_gUnp, ap_unpK, ap_gSub, ap_subK1, ap_subK2, ap_subK3, ap_fIx, ap_ixK, isDict_ref, isDict_tup, isDict_rl, isDict_str, isDictC_lst, isDictC_dk, isDictC_dt, getL_tup, getL_rl, getL_str, getL_ref, getLC_lst, retO_some, atI_0, atI_1, atI_2, atI_3, oSet_ref, setC_lst, setLK_some, ixN_0, ixN_1, ap_fCall, ap_callK, ap_fnF, ap_fnK_nx, ap_fnK_rt, o_add, o_addR, o_addC, o_addS, o_addT, o_sub, o_mul, o_mod, o_div, o_pow, o_neg, o_lt, o_le, o_gt, o_ge, o_int, o_min2, o_max2, o_leS1, o_inS1, o_isB, o_eq, o_ne, eqK_some, neK_some, eqv_int, eqv_bool, toP_int, toP_bl, toP_non, toP_str, toP_tup, toP_rl, toP_ref, toPC_lst, toP_mapM_nil, toP_mapM_cons, toP_consO, o_len, lenK_some, lenD_tup, lenD_rl, lenD_str, lenD_ref, lenC_lst, ap_fIsi, ap_isiK0, ap_isiK, ap_isiK2, ap_fTyIs, ap_tyK0, ap_tyK, ap_fFor, ap_forK_fix, ap_forK_live, loopX_nil, loopX_cons, ap_turnK0, ap_turnK_nx, ap_turnK_ct, ap_turnK_bk, ap_turnK_rt, ap_fRng1, ap_rng1K, ap_fIter, ap_iterK_rl, ap_iterK_tup, ap_iterK_ref, iterC_lst, ap_fIterS, ap_iterSK, ap_fComp, ap_compK_fix, ap_compK_live, compX_nil, compX_cons, ap_compTK, ap_compEK, ap_fYes, ap_fDict0, ap_fDictT0, ap_fSl, ap_slK1, ap_slK2, ap_pNo, ap_pSo, ap_pSoK, oSl_tup, oSl_str, ap_fBm, ap_bmK, tyIn_str, tyIn_ref, tyInC_lst, tyD_ref, R.bind_ok, R.bind_ex, R.bind_bad, R.nox_ok, nox_bad', List.map_cons, List.map_nil, List.length_cons, List.length_nil, List.cons_append, List.nil_append, Nat.zero_add, Nat.reduceAdd, Nat.reduceSub, List.replicate_succ, List.replicate_zero, List.getElem?_cons_zero, List.getElem?_cons_succ, List.set_cons_zero, List.set_cons_succ, List.append_nil, Bool.false_eq_true, if_true, if_false, decide_eq_true_eq, decide_true, decide_false, Nat.add_zero, reduceIte, reduceDIte, Nat.reduceLeDiff, Int.reduceLT, Int.reduceLE, Int.reduceNeg, Int.reducePow, Int.reduceMul, Int.reduceAdd, Int.reduceSub, Nat.reduceEqDiff, Nat.reducePow, true_and, and_true, or_true, true_or, false_or, or_false, and_self, Bool.not_true, Bool.not_false, Nat.reduceLT, ge_iff_le, gt_iff_lt, Nat.le_refl, Option.map_some, Bool.not_eq_true, Bool.not_eq_eq_eq_not, not_true_eq_false, not_false_eq_true, Int.reduceToNat, beq_iff_eq, Int.reduceEq, String.reduceEq, String.reduceNe, Int.reduceNe, List.set_set, get_app, get_app0, get_apps, get_apps0, set_app, set_app0, set_apps, set_apps0, List.append_assoc, Nat.add_assoc, List.toList_toArray, List.size_toArray, List.length_set, List.length_append, e1]
    rw [hj get_end2]
    by_cases k3 : (dNext 5 s).1 = 3
    · simp only [ap_fVar, varK_some, ap_fC, ap_fBin, ap_binK, ap_fUn, ap_fApp, ap_fNil, ap_fCons, ap_consK, ap_consK2, ap_fTup, ap_fLst, ap_tupK, ap_lstK, ap_fTest, ap_testK, ap_fVal, ap_valK, ap_fAnd, ap_fOr, ap_fNot, ap_andK, ap_orK, ap_notK, ap_fAndV, ap_fOrV, ap_fNotV, ap_andVK, ap_orVK, ap_notVK, ap_fIfE, ap_ifEK, ap_fChain, ap_chK1, ap_chK2, ap_chK3, ap_fSkip, ap_fBrk, ap_fCnt, ap_fSeq, ap_seqK_nx, ap_seqK_rt, ap_seqK_bk, ap_seqK_ct, ap_fIf, ap_ifK, ap_fRet, ap_retK, ap_fRetN, ap_fDrop, ap_dropK, ap_fAsg, ap_asgK, ap_asgK2, ap_gN, ap_gNil, ap_gCons, ap_gsK, ap_gUnp, ap_unpK, ap_gSub, ap_subK1, ap_subK2, ap_subK3, ap_fIx, ap_ixK, isDict_ref, isDict_tup, isDict_rl, isDict_str, isDictC_lst, isDictC_dk, isDictC_dt, getL_tup, getL_rl, getL_str, getL_ref, getLC_lst, retO_some, atI_0, atI_1, atI_2, atI_3, oSet_ref, setC_lst, setLK_some, ixN_0, ixN_1, ap_fCall, ap_callK, ap_fnF, ap_fnK_nx, ap_fnK_rt, o_add, o_addR, o_addC, o_addS, o_addT, o_sub, o_mul, o_mod, o_div, o_pow, o_neg, o_lt, o_le, o_gt, o_ge, o_int, o_min2, o_max2, o_leS1, o_inS1, o_isB, o_eq, o_ne, eqK_some, neK_some, eqv_int, eqv_bool, toP_int, toP_bl, toP_non, toP_str, toP_tup, toP_rl, toP_ref, toPC_lst, toP_mapM_nil, toP_mapM_cons, toP_consO, o_len, lenK_some, lenD_tup, lenD_rl, lenD_str, lenD_ref, lenC_lst, ap_fIsi, ap_isiK0, ap_isiK, ap_isiK2, ap_fTyIs, ap_tyK0, ap_tyK, ap_fFor, ap_forK_fix, ap_forK_live, loopX_nil, loopX_cons, ap_turnK0, ap_turnK_nx, ap_turnK_ct, ap_turnK_bk, ap_turnK_rt, ap_fRng1, ap_rng1K, ap_fIter, ap_iterK_rl, ap_iterK_tup, ap_iterK_ref, iterC_lst, ap_fIterS, ap_iterSK, ap_fComp, ap_compK_fix, ap_compK_live, compX_nil, compX_cons, ap_compTK, ap_compEK, ap_fYes, ap_fDict0, ap_fDictT0, ap_fSl, ap_slK1, ap_slK2, ap_pNo, ap_pSo, ap_pSoK, oSl_tup, oSl_str, ap_fBm, ap_bmK, tyIn_str, tyIn_ref, tyInC_lst, tyD_ref, R.bind_ok, R.bind_ex, R.bind_bad, R.nox_ok, nox_bad', List.map_cons, List.map_nil, List.length_cons, List.length_nil, List.cons_append, List.nil_append, Nat.zero_add, Nat.reduceAdd, Nat.reduceSub, List.replicate_succ, List.replicate_zero, List.getElem?_cons_zero, List.getElem?_cons_succ, List.set_cons_zero, List.set_cons_succ, List.append_nil, Bool.false_eq_true, if_true, if_false, decide_eq_true_eq, decide_true, decide_false, Nat.add_zero, reduceIte, reduceDIte, Nat.reduceLeDiff, Int.reduceLT, Int.reduceLE, Int.reduceNeg, Int.reducePow, Int.reduceMul, Int.reduceAdd, Int.reduceSub, Nat.reduceEqDiff, Nat.reducePow, true_and, and_true, or_true, true_or, false_or, or_false, and_self, Bool.not_true, Bool.not_false, Nat.reduceLT, ge_iff_le, gt_iff_lt, Nat.le_refl, Option.map_some, Bool.not_eq_true, Bool.not_eq_eq_eq_not, not_true_eq_false, not_false_eq_true, Int.reduceToNat, beq_iff_eq, Int.reduceEq, String.reduceEq, String.reduceNe, Int.reduceNe, List.set_set, get_app, get_app0, get_apps, get_apps0, set_app, set_app0, set_apps, set_apps0, List.append_assoc, Nat.add_assoc, List.toList_toArray, List.size_toArray, List.length_set, List.length_append, k3]
      exact ⟨_, _, rfl, thing_str (by omega) (az_ok fun c hc => by have := g4 c hc; omega)⟩
    · have hz : z.length ≤ 100000 := by omega
      have hA : (0 : Int) < (z.length : Int) + 1 := by omega
      have hB : (z.length : Int) + 1 < 1267650600228229401496703205376 := by omega
      have o1 := dNext_lo (size := 12) (by decide) (dNext ((z.length : Int) + 1) s2).2
      have o2 := dNext_hi (size := 12) (by decide) (dNext ((z.length : Int) + 1) s2).2
      obtain ⟨ch, q1, q2⟩ := odd_sign o1 o2
      have hw : Str.length ⟨#[65, 90, 48, 57, 32, 95, 45, 46, 10, 123, 96, 64]⟩ ≤ 100000 := by decide
      simp only [ap_fVar, varK_some, ap_fC, ap_fBin, ap_binK, ap_fUn, ap_fApp, ap_fNil, ap_fCons, ap_consK, ap_consK2, ap_fTup, ap_fLst, ap_tupK, ap_lstK, ap_fTest, ap_testK, ap_fVal, ap_valK, ap_fAnd, ap_fOr, ap_fNot, ap_andK, ap_orK, ap_notK, ap_fAndV, ap_fOrV, ap_fNotV, ap_andVK, ap_orVK, ap_notVK, ap_fIfE, ap_ifEK, ap_fChain, ap_chK1, ap_chK2, ap_chK3, ap_fSkip, ap_fBrk, ap_fCnt, ap_fSeq, ap_seqK_nx, ap_seqK_rt, ap_seqK_bk, ap_seqK_ct, ap_fIf, ap_ifK, ap_fRet, ap_retK, ap_fRetN, ap_fDrop, ap_dropK, ap_fAsg, ap_asgK, ap_asgK2, ap_gN, ap_gNil, ap_gCons, ap_gsK, ap_gUnp, ap_unpK, ap_gSub, ap_subK1, ap_subK2, ap_subK3, ap_fIx, ap_ixK, isDict_ref, isDict_tup, isDict_rl, isDict_str, isDictC_lst, isDictC_dk, isDictC_dt, getL_tup, getL_rl, getL_str, getL_ref, getLC_lst, retO_some, atI_0, atI_1, atI_2, atI_3, oSet_ref, setC_lst, setLK_some, ixN_0, ixN_1, ap_fCall, ap_callK, ap_fnF, ap_fnK_nx, ap_fnK_rt, o_add, o_addR, o_addC, o_addS, o_addT, o_sub, o_mul, o_mod, o_div, o_pow, o_neg, o_lt, o_le, o_gt, o_ge, o_int, o_min2, o_max2, o_leS1, o_inS1, o_isB, o_eq, o_ne, eqK_some, neK_some, eqv_int, eqv_bool, toP_int, toP_bl, toP_non, toP_str, toP_tup, toP_rl, toP_ref, toPC_lst, toP_mapM_nil, toP_mapM_cons, toP_consO, o_len, lenK_some, lenD_tup, lenD_rl, lenD_str, lenD_ref, lenC_lst, ap_fIsi, ap_isiK0, ap_isiK, ap_isiK2, ap_fTyIs, ap_tyK0, ap_tyK, ap_fFor, ap_forK_fix, ap_forK_live, loopX_nil, loopX_cons, ap_turnK0, ap_turnK_nx, ap_turnK_ct, ap_turnK_bk, ap_turnK_rt, ap_fRng1, ap_rng1K, ap_fIter, ap_iterK_rl, ap_iterK_tup, ap_iterK_ref, iterC_lst, ap_fIterS, ap_iterSK, ap_fComp, ap_compK_fix, ap_compK_live, compX_nil, compX_cons, ap_compTK, ap_compEK, ap_fYes, ap_fDict0, ap_fDictT0, ap_fSl, ap_slK1, ap_slK2, ap_pNo, ap_pSo, ap_pSoK, oSl_tup, oSl_str, ap_fBm, ap_bmK, tyIn_str, tyIn_ref, tyInC_lst, tyD_ref, R.bind_ok, R.bind_ex, R.bind_bad, R.nox_ok, nox_bad', List.map_cons, List.map_nil, List.length_cons, List.length_nil, List.cons_append, List.nil_append, Nat.zero_add, Nat.reduceAdd, Nat.reduceSub, List.replicate_succ, List.replicate_zero, List.getElem?_cons_zero, List.getElem?_cons_succ, List.set_cons_zero, List.set_cons_succ, List.append_nil, Bool.false_eq_true, if_true, if_false, decide_eq_true_eq, decide_true, decide_false, Nat.add_zero, reduceIte, reduceDIte, Nat.reduceLeDiff, Int.reduceLT, Int.reduceLE, Int.reduceNeg, Int.reducePow, Int.reduceMul, Int.reduceAdd, Int.reduceSub, Nat.reduceEqDiff, Nat.reducePow, true_and, and_true, or_true, true_or, false_or, or_false, and_self, Bool.not_true, Bool.not_false, Nat.reduceLT, ge_iff_le, gt_iff_lt, Nat.le_refl, Option.map_some, Bool.not_eq_true, Bool.not_eq_eq_eq_not, not_true_eq_false, not_false_eq_true, Int.reduceToNat, beq_iff_eq, Int.reduceEq, String.reduceEq, String.reduceNe, Int.reduceNe, List.set_set, get_app, get_app0, get_apps, get_apps0, set_app, set_app0, set_apps, set_apps0, List.append_assoc, Nat.add_assoc, List.toList_toArray, List.size_toArray, List.length_set, List.length_append, k3, hz, next_eq, fT_nextC, app_get (set_get h), app_get h, set_get h, hA, hB, app_set (set_get h), app_set h, hw, q1]
      have l1 := cut_len (l := z.cps.toList) (a := none) (b := some (dNext ((z.length : Int) + 1) s2).1)
      have l2 := cut_len (l := z.cps.toList) (a := some (dNext ((z.length : Int) + 1) s2).1) (b := none)
      have m1 := cut_sub (a := none) (b := some (dNext ((z.length : Int) + 1) s2).1) g4
      have m2 := cut_sub (a := some (dNext ((z.length : Int) + 1) s2).1) (b := none) g4
      rw [← strlen] at l1 l2
      generalize cutD z.cps.toList none (some (dNext ((z.length : Int) + 1) s2).1) = u1 at l1 m1
      generalize hu2 : cutD z.cps.toList (some (dNext ((z.length : Int) + 1) s2).1) none = u2 at l2 m2
      have c1 : (⟨u1.toArray⟩ : Str).length = u1.length := strlen _
      have c2 : (⟨u2.toArray⟩ : Str).length = u2.length := strlen _
      have c3 : (⟨#[ch]⟩ : Str).length = 1 := rfl
      have c4 : ((⟨u1.toArray⟩ : Str) ++ ⟨#[ch]⟩).length = u1.length + 1 := by rw [strlen, str_app]; simp
      rw [if_pos (by rw [c1, c3]; omega)]
      simp only [ap_fVar, varK_some, ap_fC, ap_fBin, ap_binK, ap_fUn, ap_fApp, ap_fNil, ap_fCons, ap_consK, ap_consK2, ap_fTup, ap_fLst, ap_tupK, ap_lstK, ap_fTest, ap_testK, ap_fVal, ap_valK, ap_fAnd, ap_fOr, ap_fNot, ap_andK, ap_orK, ap_notK, ap_fAndV, ap_fOrV, ap_fNotV, ap_andVK, ap_orVK, ap_notVK, ap_fIfE, ap_ifEK, ap_fChain, ap_chK1, ap_chK2, ap_chK3, ap_fSkip, ap_fBrk, ap_fCnt, ap_fSeq, ap_seqK_nx, ap_seqK_rt, ap_seqK_bk, ap_seqK_ct, ap_fIf, ap_ifK, ap_fRet, ap_retK, ap_fRetN, ap_fDrop, ap_dropK, ap_fAsg, ap_asgK, ap_asgK2, ap_gN, ap_gNil, ap_gCons, ap_gsK, ap_gUnp, ap_unpK, ap_gSub, ap_subK1, ap_subK2, ap_subK3, ap_fIx, ap_ixK, isDict_ref, isDict_tup, isDict_rl, isDict_str, isDictC_lst, isDictC_dk, isDictC_dt, getL_tup, getL_rl, getL_str, getL_ref, getLC_lst, retO_some, atI_0, atI_1, atI_2, atI_3, oSet_ref, setC_lst, setLK_some, ixN_0, ixN_1, ap_fCall, ap_callK, ap_fnF, ap_fnK_nx, ap_fnK_rt, o_add, o_addR, o_addC, o_addS, o_addT, o_sub, o_mul, o_mod, o_div, o_pow, o_neg, o_lt, o_le, o_gt, o_ge, o_int, o_min2, o_max2, o_leS1, o_inS1, o_isB, o_eq, o_ne, eqK_some, neK_some, eqv_int, eqv_bool, toP_int, toP_bl, toP_non, toP_str, toP_tup, toP_rl, toP_ref, toPC_lst, toP_mapM_nil, toP_mapM_cons, toP_consO, o_len, lenK_some, lenD_tup, lenD_rl, lenD_str, lenD_ref, lenC_lst, ap_fIsi, ap_isiK0, ap_isiK, ap_isiK2, ap_fTyIs, ap_tyK0, ap_tyK, ap_fFor, ap_forK_fix, ap_forK_live, loopX_nil, loopX_cons, ap_turnK0, ap_turnK_nx, ap_turnK_ct, ap_turnK_bk, ap_turnK_rt, ap_fRng1, ap_rng1K, ap_fIter, ap_iterK_rl, ap_iterK_tup, ap_iterK_ref, iterC_lst, ap_fIterS, ap_iterSK, ap_fComp, ap_compK_fix, ap_compK_live, compX_nil, compX_cons, ap_compTK, ap_compEK, ap_fYes, ap_fDict0, ap_fDictT0, ap_fSl, ap_slK1, ap_slK2, ap_pNo, ap_pSo, ap_pSoK, oSl_tup, oSl_str, ap_fBm, ap_bmK, tyIn_str, tyIn_ref, tyInC_lst, tyD_ref, R.bind_ok, R.bind_ex, R.bind_bad, R.nox_ok, nox_bad', List.map_cons, List.map_nil, List.length_cons, List.length_nil, List.cons_append, List.nil_append, Nat.zero_add, Nat.reduceAdd, Nat.reduceSub, List.replicate_succ, List.replicate_zero, List.getElem?_cons_zero, List.getElem?_cons_succ, List.set_cons_zero, List.set_cons_succ, List.append_nil, Bool.false_eq_true, if_true, if_false, decide_eq_true_eq, decide_true, decide_false, Nat.add_zero, reduceIte, reduceDIte, Nat.reduceLeDiff, Int.reduceLT, Int.reduceLE, Int.reduceNeg, Int.reducePow, Int.reduceMul, Int.reduceAdd, Int.reduceSub, Nat.reduceEqDiff, Nat.reducePow, true_and, and_true, or_true, true_or, false_or, or_false, and_self, Bool.not_true, Bool.not_false, Nat.reduceLT, ge_iff_le, gt_iff_lt, Nat.le_refl, Option.map_some, Bool.not_eq_true, Bool.not_eq_eq_eq_not, not_true_eq_false, not_false_eq_true, Int.reduceToNat, beq_iff_eq, Int.reduceEq, String.reduceEq, String.reduceNe, Int.reduceNe, List.set_set, get_app, get_app0, get_apps, get_apps0, set_app, set_app0, set_apps, set_apps0, List.append_assoc, Nat.add_assoc, List.toList_toArray, List.size_toArray, List.length_set, List.length_append, hz, hu2]
      rw [if_pos (by rw [c4, c2]; omega)]
      simp only [ap_fVar, varK_some, ap_fC, ap_fBin, ap_binK, ap_fUn, ap_fApp, ap_fNil, ap_fCons, ap_consK, ap_consK2, ap_fTup, ap_fLst, ap_tupK, ap_lstK, ap_fTest, ap_testK, ap_fVal, ap_valK, ap_fAnd, ap_fOr, ap_fNot, ap_andK, ap_orK, ap_notK, ap_fAndV, ap_fOrV, ap_fNotV, ap_andVK, ap_orVK, ap_notVK, ap_fIfE, ap_ifEK, ap_fChain, ap_chK1, ap_chK2, ap_chK3, ap_fSkip, ap_fBrk, ap_fCnt, ap_fSeq, ap_seqK_nx, ap_seqK_rt, ap_seqK_bk, ap_seqK_ct, ap_fIf, ap_ifK, ap_fRet, ap_retK, ap_fRetN, ap_fDrop, ap_dropK, ap_fAsg, ap_asgK, ap_asgK2, ap_gN, ap_gNil, ap_gCons, ap_gsK, ap_gUnp, ap_unpK, ap_gSub, ap_subK1, ap_subK2, ap_subK3, ap_fIx, ap_ixK, isDict_ref, isDict_tup, isDict_rl, isDict_str, isDictC_lst, isDictC_dk, isDictC_dt, getL_tup, getL_rl, getL_str, getL_ref, getLC_lst, retO_some, atI_0, atI_1, atI_2, atI_3, oSet_ref, setC_lst, setLK_some, ixN_0, ixN_1, ap_fCall, ap_callK, ap_fnF, ap_fnK_nx, ap_fnK_rt, o_add, o_addR, o_addC, o_addS, o_addT, o_sub, o_mul, o_mod, o_div, o_pow, o_neg, o_lt, o_le, o_gt, o_ge, o_int, o_min2, o_max2, o_leS1, o_inS1, o_isB, o_eq, o_ne, eqK_some, neK_some, eqv_int, eqv_bool, toP_int, toP_bl, toP_non, toP_str, toP_tup, toP_rl, toP_ref, toPC_lst, toP_mapM_nil, toP_mapM_cons, toP_consO, o_len, lenK_some, lenD_tup, lenD_rl, lenD_str, lenD_ref, lenC_lst, ap_fIsi, ap_isiK0, ap_isiK, ap_isiK2, ap_fTyIs, ap_tyK0, ap_tyK, ap_fFor, ap_forK_fix, ap_forK_live, loopX_nil, loopX_cons, ap_turnK0, ap_turnK_nx, ap_turnK_ct, ap_turnK_bk, ap_turnK_rt, ap_fRng1, ap_rng1K, ap_fIter, ap_iterK_rl, ap_iterK_tup, ap_iterK_ref, iterC_lst, ap_fIterS, ap_iterSK, ap_fComp, ap_compK_fix, ap_compK_live, compX_nil, compX_cons, ap_compTK, ap_compEK, ap_fYes, ap_fDict0, ap_fDictT0, ap_fSl, ap_slK1, ap_slK2, ap_pNo, ap_pSo, ap_pSoK, oSl_tup, oSl_str, ap_fBm, ap_bmK, tyIn_str, tyIn_ref, tyInC_lst, tyD_ref, R.bind_ok, R.bind_ex, R.bind_bad, R.nox_ok, nox_bad', List.map_cons, List.map_nil, List.length_cons, List.length_nil, List.cons_append, List.nil_append, Nat.zero_add, Nat.reduceAdd, Nat.reduceSub, List.replicate_succ, List.replicate_zero, List.getElem?_cons_zero, List.getElem?_cons_succ, List.set_cons_zero, List.set_cons_succ, List.append_nil, Bool.false_eq_true, if_true, if_false, decide_eq_true_eq, decide_true, decide_false, Nat.add_zero, reduceIte, reduceDIte, Nat.reduceLeDiff, Int.reduceLT, Int.reduceLE, Int.reduceNeg, Int.reducePow, Int.reduceMul, Int.reduceAdd, Int.reduceSub, Nat.reduceEqDiff, Nat.reducePow, true_and, and_true, or_true, true_or, false_or, or_false, and_self, Bool.not_true, Bool.not_false, Nat.reduceLT, ge_iff_le, gt_iff_lt, Nat.le_refl, Option.map_some, Bool.not_eq_true, Bool.not_eq_eq_eq_not, not_true_eq_false, not_false_eq_true, Int.reduceToNat, beq_iff_eq, Int.reduceEq, String.reduceEq, String.reduceNe, Int.reduceNe, List.set_set, get_app, get_app0, get_apps, get_apps0, set_app, set_app0, set_apps, set_apps0, List.append_assoc, Nat.add_assoc, List.toList_toArray, List.size_toArray, List.length_set, List.length_append]
      refine ⟨_, _, rfl, thing_str ?_ ?_⟩
      · rw [strlen, str_app, str_app]; simp; omega
      · have e : ((⟨u1.toArray⟩ : Str) ++ ⟨#[ch]⟩ ++ ⟨u2.toArray⟩) = ⟨(u1 ++ [ch] ++ u2).toArray⟩ := by
          show Str.mk (u1.toArray ++ #[ch] ++ u2.toArray) = _
          simp
        rw [e]
        refine az_ok fun c hc => ?_
        simp only [List.mem_append, List.mem_singleton] at hc
        rcases hc with (hc | hc) | hc
        · have := m1 c hc; omega
        · omega
        · have := m2 c hc; omega
/-! the program's tests and the law's -/
theorem az_iff (c : Nat) : (c ∈ letS.cps.toList) ↔ 97 ≤ c ∧ c ≤ 122 := by
  constructor
  · intro h
    have : ∀ c ∈ letS.cps.toList, 97 ≤ c ∧ c ≤ 122 := by decide
    exact this c h
  · intro ⟨h1, h2⟩
    have : ∀ k < 26, 97 + k ∈ letS.cps.toList := by decide
    have h := this (c - 97) (by omega)
    rwa [show 97 + (c - 97) = c by omega] at h
def intIn (a b : Int) : D → Bool
  | .int i => decide (a ≤ i) && decide (i ≤ b)
  | _ => false
def isIntD : D → Bool
  | .int _ => true
  | _ => false
/-- the three ways of a type -/
theorem ty_ways {S : Sto} {d : D} {t : String} (h : tyD S d = some t) : (∃ i, d = .int i ∧ t = "int") ∨ (∃ b, d = .bl b ∧ t = "bool") ∨ (∃ z, d = .str z ∧ t = "str") ∨ (isIntD d = false ∧ (∀ i, d ≠ .int i) ∧ (∀ z, d ≠ .str z) ∧ (t = "NoneType" ∨ t = "tuple" ∨ t = "list" ∨ t = "dict")) := by
  cases d with
  | int i => cases h; exact .inl ⟨i, rfl, rfl⟩
  | bl b => cases h; exact .inr (.inl ⟨b, rfl, rfl⟩)
  | str z => cases h; exact .inr (.inr (.inl ⟨z, rfl, rfl⟩))
  | ref n =>
    rw [tyD_ref] at h
    refine .inr (.inr (.inr ⟨rfl, (fun _ e => by cases e), (fun _ e => by cases e), ?_⟩))
    unfold tyC at h
    split at h <;> cases h <;> simp
  | non => cases h; exact .inr (.inr (.inr ⟨rfl, (fun _ e => by cases e), (fun _ e => by cases e), by simp⟩))
  | rl _ => cases h; exact .inr (.inr (.inr ⟨rfl, (fun _ e => by cases e), (fun _ e => by cases e), by simp⟩))
  | tup _ => cases h; exact .inr (.inr (.inr ⟨rfl, (fun _ e => by cases e), (fun _ e => by cases e), by simp⟩))
theorem intIn_no {a b : Int} {d : D} (h : ∀ i, d ≠ .int i) : intIn a b d = false := by
  cases d with
  | int i => exact absurd rfl (h i)
  | _ => rfl
theorem is_int_eq (c : CA) {S : Sto} {d : D} {a b : Int} {t : String} (h : tyD S d = some t) : F_law_is_int c [d, .int a, .int b] S = .ok (.bl (intIn a b d)) S := by
  unfold F_law_is_int b_law_is_int
  rcases ty_ways h with ⟨i, rfl, rfl⟩ | ⟨k, rfl, rfl⟩ | ⟨z, rfl, rfl⟩ | ⟨_, hi, _, ht⟩
  · by_cases h1 : a ≤ i
    · simp only [ap_fVar, varK_some, ap_fC, ap_fBin, ap_binK, ap_fUn, ap_fApp, ap_fNil, ap_fCons, ap_consK, ap_consK2, ap_fTup, ap_fLst, ap_tupK, ap_lstK, ap_fTest, ap_testK, ap_fVal, ap_valK, ap_fAnd, ap_fOr, ap_fNot, ap_andK, ap_orK, ap_notK, ap_fAndV, ap_fOrV, ap_fNotV, ap_andVK, ap_orVK, ap_notVK, ap_fIfE, ap_ifEK, ap_fChain, ap_chK1, ap_chK2, ap_chK3, ap_fSkip, ap_fBrk, ap_fCnt, ap_fSeq, ap_seqK_nx, ap_seqK_rt, ap_seqK_bk, ap_seqK_ct, ap_fIf, ap_ifK, ap_fRet, ap_retK, ap_fRetN, ap_fDrop, ap_dropK, ap_fAsg, ap_asgK, ap_asgK2, ap_gN, ap_gNil, ap_gCons, ap_gsK, ap_gUnp, ap_unpK, ap_gSub, ap_subK1, ap_subK2, ap_subK3, ap_fIx, ap_ixK, isDict_ref, isDict_tup, isDict_rl, isDict_str, isDictC_lst, isDictC_dk, isDictC_dt, getL_tup, getL_rl, getL_str, getL_ref, getLC_lst, retO_some, atI_0, atI_1, atI_2, atI_3, oSet_ref, setC_lst, setLK_some, ixN_0, ixN_1, ap_fCall, ap_callK, ap_fnF, ap_fnK_nx, ap_fnK_rt, o_add, o_addR, o_addC, o_addS, o_addT, o_sub, o_mul, o_mod, o_div, o_pow, o_neg, o_lt, o_le, o_gt, o_ge, o_int, o_min2, o_max2, o_leS1, o_inS1, o_isB, o_eq, o_ne, eqK_some, neK_some, eqv_int, eqv_bool, toP_int, toP_bl, toP_non, toP_str, toP_tup, toP_rl, toP_ref, toPC_lst, toP_mapM_nil, toP_mapM_cons, toP_consO, o_len, lenK_some, lenD_tup, lenD_rl, lenD_str, lenD_ref, lenC_lst, ap_fIsi, ap_isiK0, ap_isiK, ap_isiK2, ap_fTyIs, ap_tyK0, ap_tyK, ap_fFor, ap_forK_fix, ap_forK_live, loopX_nil, loopX_cons, ap_turnK0, ap_turnK_nx, ap_turnK_ct, ap_turnK_bk, ap_turnK_rt, ap_fRng1, ap_rng1K, ap_fIter, ap_iterK_rl, ap_iterK_tup, ap_iterK_ref, iterC_lst, ap_fIterS, ap_iterSK, ap_fComp, ap_compK_fix, ap_compK_live, compX_nil, compX_cons, ap_compTK, ap_compEK, ap_fYes, ap_fDict0, ap_fDictT0, ap_fSl, ap_slK1, ap_slK2, ap_pNo, ap_pSo, ap_pSoK, oSl_tup, oSl_str, ap_fBm, ap_bmK, tyIn_str, tyIn_ref, tyInC_lst, tyD_ref, R.bind_ok, R.bind_ex, R.bind_bad, R.nox_ok, nox_bad', List.map_cons, List.map_nil, List.length_cons, List.length_nil, List.cons_append, List.nil_append, Nat.zero_add, Nat.reduceAdd, Nat.reduceSub, List.replicate_succ, List.replicate_zero, List.getElem?_cons_zero, List.getElem?_cons_succ, List.set_cons_zero, List.set_cons_succ, List.append_nil, Bool.false_eq_true, if_true, if_false, decide_eq_true_eq, decide_true, decide_false, Nat.add_zero, reduceIte, reduceDIte, Nat.reduceLeDiff, Int.reduceLT, Int.reduceLE, Int.reduceNeg, Int.reducePow, Int.reduceMul, Int.reduceAdd, Int.reduceSub, Nat.reduceEqDiff, Nat.reducePow, true_and, and_true, or_true, true_or, false_or, or_false, and_self, Bool.not_true, Bool.not_false, Nat.reduceLT, ge_iff_le, gt_iff_lt, Nat.le_refl, Option.map_some, Bool.not_eq_true, Bool.not_eq_eq_eq_not, not_true_eq_false, not_false_eq_true, Int.reduceToNat, beq_iff_eq, Int.reduceEq, String.reduceEq, String.reduceNe, Int.reduceNe, List.set_set, get_app, get_app0, get_apps, get_apps0, set_app, set_app0, set_apps, set_apps0, List.append_assoc, Nat.add_assoc, List.toList_toArray, List.size_toArray, List.length_set, List.length_append, h1, tyD, isiD, intIn, Bool.true_and]
    · simp only [ap_fVar, varK_some, ap_fC, ap_fBin, ap_binK, ap_fUn, ap_fApp, ap_fNil, ap_fCons, ap_consK, ap_consK2, ap_fTup, ap_fLst, ap_tupK, ap_lstK, ap_fTest, ap_testK, ap_fVal, ap_valK, ap_fAnd, ap_fOr, ap_fNot, ap_andK, ap_orK, ap_notK, ap_fAndV, ap_fOrV, ap_fNotV, ap_andVK, ap_orVK, ap_notVK, ap_fIfE, ap_ifEK, ap_fChain, ap_chK1, ap_chK2, ap_chK3, ap_fSkip, ap_fBrk, ap_fCnt, ap_fSeq, ap_seqK_nx, ap_seqK_rt, ap_seqK_bk, ap_seqK_ct, ap_fIf, ap_ifK, ap_fRet, ap_retK, ap_fRetN, ap_fDrop, ap_dropK, ap_fAsg, ap_asgK, ap_asgK2, ap_gN, ap_gNil, ap_gCons, ap_gsK, ap_gUnp, ap_unpK, ap_gSub, ap_subK1, ap_subK2, ap_subK3, ap_fIx, ap_ixK, isDict_ref, isDict_tup, isDict_rl, isDict_str, isDictC_lst, isDictC_dk, isDictC_dt, getL_tup, getL_rl, getL_str, getL_ref, getLC_lst, retO_some, atI_0, atI_1, atI_2, atI_3, oSet_ref, setC_lst, setLK_some, ixN_0, ixN_1, ap_fCall, ap_callK, ap_fnF, ap_fnK_nx, ap_fnK_rt, o_add, o_addR, o_addC, o_addS, o_addT, o_sub, o_mul, o_mod, o_div, o_pow, o_neg, o_lt, o_le, o_gt, o_ge, o_int, o_min2, o_max2, o_leS1, o_inS1, o_isB, o_eq, o_ne, eqK_some, neK_some, eqv_int, eqv_bool, toP_int, toP_bl, toP_non, toP_str, toP_tup, toP_rl, toP_ref, toPC_lst, toP_mapM_nil, toP_mapM_cons, toP_consO, o_len, lenK_some, lenD_tup, lenD_rl, lenD_str, lenD_ref, lenC_lst, ap_fIsi, ap_isiK0, ap_isiK, ap_isiK2, ap_fTyIs, ap_tyK0, ap_tyK, ap_fFor, ap_forK_fix, ap_forK_live, loopX_nil, loopX_cons, ap_turnK0, ap_turnK_nx, ap_turnK_ct, ap_turnK_bk, ap_turnK_rt, ap_fRng1, ap_rng1K, ap_fIter, ap_iterK_rl, ap_iterK_tup, ap_iterK_ref, iterC_lst, ap_fIterS, ap_iterSK, ap_fComp, ap_compK_fix, ap_compK_live, compX_nil, compX_cons, ap_compTK, ap_compEK, ap_fYes, ap_fDict0, ap_fDictT0, ap_fSl, ap_slK1, ap_slK2, ap_pNo, ap_pSo, ap_pSoK, oSl_tup, oSl_str, ap_fBm, ap_bmK, tyIn_str, tyIn_ref, tyInC_lst, tyD_ref, R.bind_ok, R.bind_ex, R.bind_bad, R.nox_ok, nox_bad', List.map_cons, List.map_nil, List.length_cons, List.length_nil, List.cons_append, List.nil_append, Nat.zero_add, Nat.reduceAdd, Nat.reduceSub, List.replicate_succ, List.replicate_zero, List.getElem?_cons_zero, List.getElem?_cons_succ, List.set_cons_zero, List.set_cons_succ, List.append_nil, Bool.false_eq_true, if_true, if_false, decide_eq_true_eq, decide_true, decide_false, Nat.add_zero, reduceIte, reduceDIte, Nat.reduceLeDiff, Int.reduceLT, Int.reduceLE, Int.reduceNeg, Int.reducePow, Int.reduceMul, Int.reduceAdd, Int.reduceSub, Nat.reduceEqDiff, Nat.reducePow, true_and, and_true, or_true, true_or, false_or, or_false, and_self, Bool.not_true, Bool.not_false, Nat.reduceLT, ge_iff_le, gt_iff_lt, Nat.le_refl, Option.map_some, Bool.not_eq_true, Bool.not_eq_eq_eq_not, not_true_eq_false, not_false_eq_true, Int.reduceToNat, beq_iff_eq, Int.reduceEq, String.reduceEq, String.reduceNe, Int.reduceNe, List.set_set, get_app, get_app0, get_apps, get_apps0, set_app, set_app0, set_apps, set_apps0, List.append_assoc, Nat.add_assoc, List.toList_toArray, List.size_toArray, List.length_set, List.length_append, h1, tyD, isiD, intIn, Bool.false_and]
  · simp only [ap_fVar, varK_some, ap_fC, ap_fBin, ap_binK, ap_fUn, ap_fApp, ap_fNil, ap_fCons, ap_consK, ap_consK2, ap_fTup, ap_fLst, ap_tupK, ap_lstK, ap_fTest, ap_testK, ap_fVal, ap_valK, ap_fAnd, ap_fOr, ap_fNot, ap_andK, ap_orK, ap_notK, ap_fAndV, ap_fOrV, ap_fNotV, ap_andVK, ap_orVK, ap_notVK, ap_fIfE, ap_ifEK, ap_fChain, ap_chK1, ap_chK2, ap_chK3, ap_fSkip, ap_fBrk, ap_fCnt, ap_fSeq, ap_seqK_nx, ap_seqK_rt, ap_seqK_bk, ap_seqK_ct, ap_fIf, ap_ifK, ap_fRet, ap_retK, ap_fRetN, ap_fDrop, ap_dropK, ap_fAsg, ap_asgK, ap_asgK2, ap_gN, ap_gNil, ap_gCons, ap_gsK, ap_gUnp, ap_unpK, ap_gSub, ap_subK1, ap_subK2, ap_subK3, ap_fIx, ap_ixK, isDict_ref, isDict_tup, isDict_rl, isDict_str, isDictC_lst, isDictC_dk, isDictC_dt, getL_tup, getL_rl, getL_str, getL_ref, getLC_lst, retO_some, atI_0, atI_1, atI_2, atI_3, oSet_ref, setC_lst, setLK_some, ixN_0, ixN_1, ap_fCall, ap_callK, ap_fnF, ap_fnK_nx, ap_fnK_rt, o_add, o_addR, o_addC, o_addS, o_addT, o_sub, o_mul, o_mod, o_div, o_pow, o_neg, o_lt, o_le, o_gt, o_ge, o_int, o_min2, o_max2, o_leS1, o_inS1, o_isB, o_eq, o_ne, eqK_some, neK_some, eqv_int, eqv_bool, toP_int, toP_bl, toP_non, toP_str, toP_tup, toP_rl, toP_ref, toPC_lst, toP_mapM_nil, toP_mapM_cons, toP_consO, o_len, lenK_some, lenD_tup, lenD_rl, lenD_str, lenD_ref, lenC_lst, ap_fIsi, ap_isiK0, ap_isiK, ap_isiK2, ap_fTyIs, ap_tyK0, ap_tyK, ap_fFor, ap_forK_fix, ap_forK_live, loopX_nil, loopX_cons, ap_turnK0, ap_turnK_nx, ap_turnK_ct, ap_turnK_bk, ap_turnK_rt, ap_fRng1, ap_rng1K, ap_fIter, ap_iterK_rl, ap_iterK_tup, ap_iterK_ref, iterC_lst, ap_fIterS, ap_iterSK, ap_fComp, ap_compK_fix, ap_compK_live, compX_nil, compX_cons, ap_compTK, ap_compEK, ap_fYes, ap_fDict0, ap_fDictT0, ap_fSl, ap_slK1, ap_slK2, ap_pNo, ap_pSo, ap_pSoK, oSl_tup, oSl_str, ap_fBm, ap_bmK, tyIn_str, tyIn_ref, tyInC_lst, tyD_ref, R.bind_ok, R.bind_ex, R.bind_bad, R.nox_ok, nox_bad', List.map_cons, List.map_nil, List.length_cons, List.length_nil, List.cons_append, List.nil_append, Nat.zero_add, Nat.reduceAdd, Nat.reduceSub, List.replicate_succ, List.replicate_zero, List.getElem?_cons_zero, List.getElem?_cons_succ, List.set_cons_zero, List.set_cons_succ, List.append_nil, Bool.false_eq_true, if_true, if_false, decide_eq_true_eq, decide_true, decide_false, Nat.add_zero, reduceIte, reduceDIte, Nat.reduceLeDiff, Int.reduceLT, Int.reduceLE, Int.reduceNeg, Int.reducePow, Int.reduceMul, Int.reduceAdd, Int.reduceSub, Nat.reduceEqDiff, Nat.reducePow, true_and, and_true, or_true, true_or, false_or, or_false, and_self, Bool.not_true, Bool.not_false, Nat.reduceLT, ge_iff_le, gt_iff_lt, Nat.le_refl, Option.map_some, Bool.not_eq_true, Bool.not_eq_eq_eq_not, not_true_eq_false, not_false_eq_true, Int.reduceToNat, beq_iff_eq, Int.reduceEq, String.reduceEq, String.reduceNe, Int.reduceNe, List.set_set, get_app, get_app0, get_apps, get_apps0, set_app, set_app0, set_apps, set_apps0, List.append_assoc, Nat.add_assoc, List.toList_toArray, List.size_toArray, List.length_set, List.length_append, tyD, isiD, intIn]
  · simp only [ap_fVar, varK_some, ap_fC, ap_fBin, ap_binK, ap_fUn, ap_fApp, ap_fNil, ap_fCons, ap_consK, ap_consK2, ap_fTup, ap_fLst, ap_tupK, ap_lstK, ap_fTest, ap_testK, ap_fVal, ap_valK, ap_fAnd, ap_fOr, ap_fNot, ap_andK, ap_orK, ap_notK, ap_fAndV, ap_fOrV, ap_fNotV, ap_andVK, ap_orVK, ap_notVK, ap_fIfE, ap_ifEK, ap_fChain, ap_chK1, ap_chK2, ap_chK3, ap_fSkip, ap_fBrk, ap_fCnt, ap_fSeq, ap_seqK_nx, ap_seqK_rt, ap_seqK_bk, ap_seqK_ct, ap_fIf, ap_ifK, ap_fRet, ap_retK, ap_fRetN, ap_fDrop, ap_dropK, ap_fAsg, ap_asgK, ap_asgK2, ap_gN, ap_gNil, ap_gCons, ap_gsK, ap_gUnp, ap_unpK, ap_gSub, ap_subK1, ap_subK2, ap_subK3, ap_fIx, ap_ixK, isDict_ref, isDict_tup, isDict_rl, isDict_str, isDictC_lst, isDictC_dk, isDictC_dt, getL_tup, getL_rl, getL_str, getL_ref, getLC_lst, retO_some, atI_0, atI_1, atI_2, atI_3, oSet_ref, setC_lst, setLK_some, ixN_0, ixN_1, ap_fCall, ap_callK, ap_fnF, ap_fnK_nx, ap_fnK_rt, o_add, o_addR, o_addC, o_addS, o_addT, o_sub, o_mul, o_mod, o_div, o_pow, o_neg, o_lt, o_le, o_gt, o_ge, o_int, o_min2, o_max2, o_leS1, o_inS1, o_isB, o_eq, o_ne, eqK_some, neK_some, eqv_int, eqv_bool, toP_int, toP_bl, toP_non, toP_str, toP_tup, toP_rl, toP_ref, toPC_lst, toP_mapM_nil, toP_mapM_cons, toP_consO, o_len, lenK_some, lenD_tup, lenD_rl, lenD_str, lenD_ref, lenC_lst, ap_fIsi, ap_isiK0, ap_isiK, ap_isiK2, ap_fTyIs, ap_tyK0, ap_tyK, ap_fFor, ap_forK_fix, ap_forK_live, loopX_nil, loopX_cons, ap_turnK0, ap_turnK_nx, ap_turnK_ct, ap_turnK_bk, ap_turnK_rt, ap_fRng1, ap_rng1K, ap_fIter, ap_iterK_rl, ap_iterK_tup, ap_iterK_ref, iterC_lst, ap_fIterS, ap_iterSK, ap_fComp, ap_compK_fix, ap_compK_live, compX_nil, compX_cons, ap_compTK, ap_compEK, ap_fYes, ap_fDict0, ap_fDictT0, ap_fSl, ap_slK1, ap_slK2, ap_pNo, ap_pSo, ap_pSoK, oSl_tup, oSl_str, ap_fBm, ap_bmK, tyIn_str, tyIn_ref, tyInC_lst, tyD_ref, R.bind_ok, R.bind_ex, R.bind_bad, R.nox_ok, nox_bad', List.map_cons, List.map_nil, List.length_cons, List.length_nil, List.cons_append, List.nil_append, Nat.zero_add, Nat.reduceAdd, Nat.reduceSub, List.replicate_succ, List.replicate_zero, List.getElem?_cons_zero, List.getElem?_cons_succ, List.set_cons_zero, List.set_cons_succ, List.append_nil, Bool.false_eq_true, if_true, if_false, decide_eq_true_eq, decide_true, decide_false, Nat.add_zero, reduceIte, reduceDIte, Nat.reduceLeDiff, Int.reduceLT, Int.reduceLE, Int.reduceNeg, Int.reducePow, Int.reduceMul, Int.reduceAdd, Int.reduceSub, Nat.reduceEqDiff, Nat.reducePow, true_and, and_true, or_true, true_or, false_or, or_false, and_self, Bool.not_true, Bool.not_false, Nat.reduceLT, ge_iff_le, gt_iff_lt, Nat.le_refl, Option.map_some, Bool.not_eq_true, Bool.not_eq_eq_eq_not, not_true_eq_false, not_false_eq_true, Int.reduceToNat, beq_iff_eq, Int.reduceEq, String.reduceEq, String.reduceNe, Int.reduceNe, List.set_set, get_app, get_app0, get_apps, get_apps0, set_app, set_app0, set_apps, set_apps0, List.append_assoc, Nat.add_assoc, List.toList_toArray, List.size_toArray, List.length_set, List.length_append, tyD, isiD, intIn]
  · rw [intIn_no hi]
    rcases ht with rfl | rfl | rfl | rfl
    all_goals simp only [ap_fVar, varK_some, ap_fC, ap_fBin, ap_binK, ap_fUn, ap_fApp, ap_fNil, ap_fCons, ap_consK, ap_consK2, ap_fTup, ap_fLst, ap_tupK, ap_lstK, ap_fTest, ap_testK, ap_fVal, ap_valK, ap_fAnd, ap_fOr, ap_fNot, ap_andK, ap_orK, ap_notK, ap_fAndV, ap_fOrV, ap_fNotV, ap_andVK, ap_orVK, ap_notVK, ap_fIfE, ap_ifEK, ap_fChain, ap_chK1, ap_chK2, ap_chK3, ap_fSkip, ap_fBrk, ap_fCnt, ap_fSeq, ap_seqK_nx, ap_seqK_rt, ap_seqK_bk, ap_seqK_ct, ap_fIf, ap_ifK, ap_fRet, ap_retK, ap_fRetN, ap_fDrop, ap_dropK, ap_fAsg, ap_asgK, ap_asgK2, ap_gN, ap_gNil, ap_gCons, ap_gsK, ap_gUnp, ap_unpK, ap_gSub, ap_subK1, ap_subK2, ap_subK3, ap_fIx, ap_ixK, isDict_ref, isDict_tup, isDict_rl, isDict_str, isDictC_lst, isDictC_dk, isDictC_dt, getL_tup, getL_rl, getL_str, getL_ref, getLC_lst, retO_some, atI_0, atI_1, atI_2, atI_3, oSet_ref, setC_lst, setLK_some, ixN_0, ixN_1, ap_fCall, ap_callK, ap_fnF, ap_fnK_nx, ap_fnK_rt, o_add, o_addR, o_addC, o_addS, o_addT, o_sub, o_mul, o_mod, o_div, o_pow, o_neg, o_lt, o_le, o_gt, o_ge, o_int, o_min2, o_max2, o_leS1, o_inS1, o_isB, o_eq, o_ne, eqK_some, neK_some, eqv_int, eqv_bool, toP_int, toP_bl, toP_non, toP_str, toP_tup, toP_rl, toP_ref, toPC_lst, toP_mapM_nil, toP_mapM_cons, toP_consO, o_len, lenK_some, lenD_tup, lenD_rl, lenD_str, lenD_ref, lenC_lst, ap_fIsi, ap_isiK0, ap_isiK, ap_isiK2, ap_fTyIs, ap_tyK0, ap_tyK, ap_fFor, ap_forK_fix, ap_forK_live, loopX_nil, loopX_cons, ap_turnK0, ap_turnK_nx, ap_turnK_ct, ap_turnK_bk, ap_turnK_rt, ap_fRng1, ap_rng1K, ap_fIter, ap_iterK_rl, ap_iterK_tup, ap_iterK_ref, iterC_lst, ap_fIterS, ap_iterSK, ap_fComp, ap_compK_fix, ap_compK_live, compX_nil, compX_cons, ap_compTK, ap_compEK, ap_fYes, ap_fDict0, ap_fDictT0, ap_fSl, ap_slK1, ap_slK2, ap_pNo, ap_pSo, ap_pSoK, oSl_tup, oSl_str, ap_fBm, ap_bmK, tyIn_str, tyIn_ref, tyInC_lst, tyD_ref, R.bind_ok, R.bind_ex, R.bind_bad, R.nox_ok, nox_bad', List.map_cons, List.map_nil, List.length_cons, List.length_nil, List.cons_append, List.nil_append, Nat.zero_add, Nat.reduceAdd, Nat.reduceSub, List.replicate_succ, List.replicate_zero, List.getElem?_cons_zero, List.getElem?_cons_succ, List.set_cons_zero, List.set_cons_succ, List.append_nil, Bool.false_eq_true, if_true, if_false, decide_eq_true_eq, decide_true, decide_false, Nat.add_zero, reduceIte, reduceDIte, Nat.reduceLeDiff, Int.reduceLT, Int.reduceLE, Int.reduceNeg, Int.reducePow, Int.reduceMul, Int.reduceAdd, Int.reduceSub, Nat.reduceEqDiff, Nat.reducePow, true_and, and_true, or_true, true_or, false_or, or_false, and_self, Bool.not_true, Bool.not_false, Nat.reduceLT, ge_iff_le, gt_iff_lt, Nat.le_refl, Option.map_some, Bool.not_eq_true, Bool.not_eq_eq_eq_not, not_true_eq_false, not_false_eq_true, Int.reduceToNat, beq_iff_eq, Int.reduceEq, String.reduceEq, String.reduceNe, Int.reduceNe, List.set_set, get_app, get_app0, get_apps, get_apps0, set_app, set_app0, set_apps, set_apps0, List.append_assoc, Nat.add_assoc, List.toList_toArray, List.size_toArray, List.length_set, List.length_append, h, isiD]
theorem between_eq (c : CA) {S : Sto} {d : D} {a b : Int} {t : String} (h : tyD S d = some t) : F_is_between c [d, .int a, .int b] S = .ok (.bl (intIn a b d)) S := by
  unfold F_is_between b_is_between
  rcases ty_ways h with ⟨i, rfl, rfl⟩ | ⟨k, rfl, rfl⟩ | ⟨z, rfl, rfl⟩ | ⟨_, hi, _, ht⟩
  · by_cases h1 : a ≤ i
    · simp only [ap_fVar, varK_some, ap_fC, ap_fBin, ap_binK, ap_fUn, ap_fApp, ap_fNil, ap_fCons, ap_consK, ap_consK2, ap_fTup, ap_fLst, ap_tupK, ap_lstK, ap_fTest, ap_testK, ap_fVal, ap_valK, ap_fAnd, ap_fOr, ap_fNot, ap_andK, ap_orK, ap_notK, ap_fAndV, ap_fOrV, ap_fNotV, ap_andVK, ap_orVK, ap_notVK, ap_fIfE, ap_ifEK, ap_fChain, ap_chK1, ap_chK2, ap_chK3, ap_fSkip, ap_fBrk, ap_fCnt, ap_fSeq, ap_seqK_nx, ap_seqK_rt, ap_seqK_bk, ap_seqK_ct, ap_fIf, ap_ifK, ap_fRet, ap_retK, ap_fRetN, ap_fDrop, ap_dropK, ap_fAsg, ap_asgK, ap_asgK2, ap_gN, ap_gNil, ap_gCons, ap_gsK, ap_gUnp, ap_unpK, ap_gSub, ap_subK1, ap_subK2, ap_subK3, ap_fIx, ap_ixK, isDict_ref, isDict_tup, isDict_rl, isDict_str, isDictC_lst, isDictC_dk, isDictC_dt, getL_tup, getL_rl, getL_str, getL_ref, getLC_lst, retO_some, atI_0, atI_1, atI_2, atI_3, oSet_ref, setC_lst, setLK_some, ixN_0, ixN_1, ap_fCall, ap_callK, ap_fnF, ap_fnK_nx, ap_fnK_rt, o_add, o_addR, o_addC, o_addS, o_addT, o_sub, o_mul, o_mod, o_div, o_pow, o_neg, o_lt, o_le, o_gt, o_ge, o_int, o_min2, o_max2, o_leS1, o_inS1, o_isB, o_eq, o_ne, eqK_some, neK_some, eqv_int, eqv_bool, toP_int, toP_bl, toP_non, toP_str, toP_tup, toP_rl, toP_ref, toPC_lst, toP_mapM_nil, toP_mapM_cons, toP_consO, o_len, lenK_some, lenD_tup, lenD_rl, lenD_str, lenD_ref, lenC_lst, ap_fIsi, ap_isiK0, ap_isiK, ap_isiK2, ap_fTyIs, ap_tyK0, ap_tyK, ap_fFor, ap_forK_fix, ap_forK_live, loopX_nil, loopX_cons, ap_turnK0, ap_turnK_nx, ap_turnK_ct, ap_turnK_bk, ap_turnK_rt, ap_fRng1, ap_rng1K, ap_fIter, ap_iterK_rl, ap_iterK_tup, ap_iterK_ref, iterC_lst, ap_fIterS, ap_iterSK, ap_fComp, ap_compK_fix, ap_compK_live, compX_nil, compX_cons, ap_compTK, ap_compEK, ap_fYes, ap_fDict0, ap_fDictT0, ap_fSl, ap_slK1, ap_slK2, ap_pNo, ap_pSo, ap_pSoK, oSl_tup, oSl_str, ap_fBm, ap_bmK, tyIn_str, tyIn_ref, tyInC_lst, tyD_ref, R.bind_ok, R.bind_ex, R.bind_bad, R.nox_ok, nox_bad', List.map_cons, List.map_nil, List.length_cons, List.length_nil, List.cons_append, List.nil_append, Nat.zero_add, Nat.reduceAdd, Nat.reduceSub, List.replicate_succ, List.replicate_zero, List.getElem?_cons_zero, List.getElem?_cons_succ, List.set_cons_zero, List.set_cons_succ, List.append_nil, Bool.false_eq_true, if_true, if_false, decide_eq_true_eq, decide_true, decide_false, Nat.add_zero, reduceIte, reduceDIte, Nat.reduceLeDiff, Int.reduceLT, Int.reduceLE, Int.reduceNeg, Int.reducePow, Int.reduceMul, Int.reduceAdd, Int.reduceSub, Nat.reduceEqDiff, Nat.reducePow, true_and, and_true, or_true, true_or, false_or, or_false, and_self, Bool.not_true, Bool.not_false, Nat.reduceLT, ge_iff_le, gt_iff_lt, Nat.le_refl, Option.map_some, Bool.not_eq_true, Bool.not_eq_eq_eq_not, not_true_eq_false, not_false_eq_true, Int.reduceToNat, beq_iff_eq, Int.reduceEq, String.reduceEq, String.reduceNe, Int.reduceNe, List.set_set, get_app, get_app0, get_apps, get_apps0, set_app, set_app0, set_apps, set_apps0, List.append_assoc, Nat.add_assoc, List.toList_toArray, List.size_toArray, List.length_set, List.length_append, h1, tyD, intIn, Bool.true_and]
    · simp only [ap_fVar, varK_some, ap_fC, ap_fBin, ap_binK, ap_fUn, ap_fApp, ap_fNil, ap_fCons, ap_consK, ap_consK2, ap_fTup, ap_fLst, ap_tupK, ap_lstK, ap_fTest, ap_testK, ap_fVal, ap_valK, ap_fAnd, ap_fOr, ap_fNot, ap_andK, ap_orK, ap_notK, ap_fAndV, ap_fOrV, ap_fNotV, ap_andVK, ap_orVK, ap_notVK, ap_fIfE, ap_ifEK, ap_fChain, ap_chK1, ap_chK2, ap_chK3, ap_fSkip, ap_fBrk, ap_fCnt, ap_fSeq, ap_seqK_nx, ap_seqK_rt, ap_seqK_bk, ap_seqK_ct, ap_fIf, ap_ifK, ap_fRet, ap_retK, ap_fRetN, ap_fDrop, ap_dropK, ap_fAsg, ap_asgK, ap_asgK2, ap_gN, ap_gNil, ap_gCons, ap_gsK, ap_gUnp, ap_unpK, ap_gSub, ap_subK1, ap_subK2, ap_subK3, ap_fIx, ap_ixK, isDict_ref, isDict_tup, isDict_rl, isDict_str, isDictC_lst, isDictC_dk, isDictC_dt, getL_tup, getL_rl, getL_str, getL_ref, getLC_lst, retO_some, atI_0, atI_1, atI_2, atI_3, oSet_ref, setC_lst, setLK_some, ixN_0, ixN_1, ap_fCall, ap_callK, ap_fnF, ap_fnK_nx, ap_fnK_rt, o_add, o_addR, o_addC, o_addS, o_addT, o_sub, o_mul, o_mod, o_div, o_pow, o_neg, o_lt, o_le, o_gt, o_ge, o_int, o_min2, o_max2, o_leS1, o_inS1, o_isB, o_eq, o_ne, eqK_some, neK_some, eqv_int, eqv_bool, toP_int, toP_bl, toP_non, toP_str, toP_tup, toP_rl, toP_ref, toPC_lst, toP_mapM_nil, toP_mapM_cons, toP_consO, o_len, lenK_some, lenD_tup, lenD_rl, lenD_str, lenD_ref, lenC_lst, ap_fIsi, ap_isiK0, ap_isiK, ap_isiK2, ap_fTyIs, ap_tyK0, ap_tyK, ap_fFor, ap_forK_fix, ap_forK_live, loopX_nil, loopX_cons, ap_turnK0, ap_turnK_nx, ap_turnK_ct, ap_turnK_bk, ap_turnK_rt, ap_fRng1, ap_rng1K, ap_fIter, ap_iterK_rl, ap_iterK_tup, ap_iterK_ref, iterC_lst, ap_fIterS, ap_iterSK, ap_fComp, ap_compK_fix, ap_compK_live, compX_nil, compX_cons, ap_compTK, ap_compEK, ap_fYes, ap_fDict0, ap_fDictT0, ap_fSl, ap_slK1, ap_slK2, ap_pNo, ap_pSo, ap_pSoK, oSl_tup, oSl_str, ap_fBm, ap_bmK, tyIn_str, tyIn_ref, tyInC_lst, tyD_ref, R.bind_ok, R.bind_ex, R.bind_bad, R.nox_ok, nox_bad', List.map_cons, List.map_nil, List.length_cons, List.length_nil, List.cons_append, List.nil_append, Nat.zero_add, Nat.reduceAdd, Nat.reduceSub, List.replicate_succ, List.replicate_zero, List.getElem?_cons_zero, List.getElem?_cons_succ, List.set_cons_zero, List.set_cons_succ, List.append_nil, Bool.false_eq_true, if_true, if_false, decide_eq_true_eq, decide_true, decide_false, Nat.add_zero, reduceIte, reduceDIte, Nat.reduceLeDiff, Int.reduceLT, Int.reduceLE, Int.reduceNeg, Int.reducePow, Int.reduceMul, Int.reduceAdd, Int.reduceSub, Nat.reduceEqDiff, Nat.reducePow, true_and, and_true, or_true, true_or, false_or, or_false, and_self, Bool.not_true, Bool.not_false, Nat.reduceLT, ge_iff_le, gt_iff_lt, Nat.le_refl, Option.map_some, Bool.not_eq_true, Bool.not_eq_eq_eq_not, not_true_eq_false, not_false_eq_true, Int.reduceToNat, beq_iff_eq, Int.reduceEq, String.reduceEq, String.reduceNe, Int.reduceNe, List.set_set, get_app, get_app0, get_apps, get_apps0, set_app, set_app0, set_apps, set_apps0, List.append_assoc, Nat.add_assoc, List.toList_toArray, List.size_toArray, List.length_set, List.length_append, h1, tyD, intIn, Bool.false_and]
  · simp only [ap_fVar, varK_some, ap_fC, ap_fBin, ap_binK, ap_fUn, ap_fApp, ap_fNil, ap_fCons, ap_consK, ap_consK2, ap_fTup, ap_fLst, ap_tupK, ap_lstK, ap_fTest, ap_testK, ap_fVal, ap_valK, ap_fAnd, ap_fOr, ap_fNot, ap_andK, ap_orK, ap_notK, ap_fAndV, ap_fOrV, ap_fNotV, ap_andVK, ap_orVK, ap_notVK, ap_fIfE, ap_ifEK, ap_fChain, ap_chK1, ap_chK2, ap_chK3, ap_fSkip, ap_fBrk, ap_fCnt, ap_fSeq, ap_seqK_nx, ap_seqK_rt, ap_seqK_bk, ap_seqK_ct, ap_fIf, ap_ifK, ap_fRet, ap_retK, ap_fRetN, ap_fDrop, ap_dropK, ap_fAsg, ap_asgK, ap_asgK2, ap_gN, ap_gNil, ap_gCons, ap_gsK, ap_gUnp, ap_unpK, ap_gSub, ap_subK1, ap_subK2, ap_subK3, ap_fIx, ap_ixK, isDict_ref, isDict_tup, isDict_rl, isDict_str, isDictC_lst, isDictC_dk, isDictC_dt, getL_tup, getL_rl, getL_str, getL_ref, getLC_lst, retO_some, atI_0, atI_1, atI_2, atI_3, oSet_ref, setC_lst, setLK_some, ixN_0, ixN_1, ap_fCall, ap_callK, ap_fnF, ap_fnK_nx, ap_fnK_rt, o_add, o_addR, o_addC, o_addS, o_addT, o_sub, o_mul, o_mod, o_div, o_pow, o_neg, o_lt, o_le, o_gt, o_ge, o_int, o_min2, o_max2, o_leS1, o_inS1, o_isB, o_eq, o_ne, eqK_some, neK_some, eqv_int, eqv_bool, toP_int, toP_bl, toP_non, toP_str, toP_tup, toP_rl, toP_ref, toPC_lst, toP_mapM_nil, toP_mapM_cons, toP_consO, o_len, lenK_some, lenD_tup, lenD_rl, lenD_str, lenD_ref, lenC_lst, ap_fIsi, ap_isiK0, ap_isiK, ap_isiK2, ap_fTyIs, ap_tyK0, ap_tyK, ap_fFor, ap_forK_fix, ap_forK_live, loopX_nil, loopX_cons, ap_turnK0, ap_turnK_nx, ap_turnK_ct, ap_turnK_bk, ap_turnK_rt, ap_fRng1, ap_rng1K, ap_fIter, ap_iterK_rl, ap_iterK_tup, ap_iterK_ref, iterC_lst, ap_fIterS, ap_iterSK, ap_fComp, ap_compK_fix, ap_compK_live, compX_nil, compX_cons, ap_compTK, ap_compEK, ap_fYes, ap_fDict0, ap_fDictT0, ap_fSl, ap_slK1, ap_slK2, ap_pNo, ap_pSo, ap_pSoK, oSl_tup, oSl_str, ap_fBm, ap_bmK, tyIn_str, tyIn_ref, tyInC_lst, tyD_ref, R.bind_ok, R.bind_ex, R.bind_bad, R.nox_ok, nox_bad', List.map_cons, List.map_nil, List.length_cons, List.length_nil, List.cons_append, List.nil_append, Nat.zero_add, Nat.reduceAdd, Nat.reduceSub, List.replicate_succ, List.replicate_zero, List.getElem?_cons_zero, List.getElem?_cons_succ, List.set_cons_zero, List.set_cons_succ, List.append_nil, Bool.false_eq_true, if_true, if_false, decide_eq_true_eq, decide_true, decide_false, Nat.add_zero, reduceIte, reduceDIte, Nat.reduceLeDiff, Int.reduceLT, Int.reduceLE, Int.reduceNeg, Int.reducePow, Int.reduceMul, Int.reduceAdd, Int.reduceSub, Nat.reduceEqDiff, Nat.reducePow, true_and, and_true, or_true, true_or, false_or, or_false, and_self, Bool.not_true, Bool.not_false, Nat.reduceLT, ge_iff_le, gt_iff_lt, Nat.le_refl, Option.map_some, Bool.not_eq_true, Bool.not_eq_eq_eq_not, not_true_eq_false, not_false_eq_true, Int.reduceToNat, beq_iff_eq, Int.reduceEq, String.reduceEq, String.reduceNe, Int.reduceNe, List.set_set, get_app, get_app0, get_apps, get_apps0, set_app, set_app0, set_apps, set_apps0, List.append_assoc, Nat.add_assoc, List.toList_toArray, List.size_toArray, List.length_set, List.length_append, tyD, intIn]
  · simp only [ap_fVar, varK_some, ap_fC, ap_fBin, ap_binK, ap_fUn, ap_fApp, ap_fNil, ap_fCons, ap_consK, ap_consK2, ap_fTup, ap_fLst, ap_tupK, ap_lstK, ap_fTest, ap_testK, ap_fVal, ap_valK, ap_fAnd, ap_fOr, ap_fNot, ap_andK, ap_orK, ap_notK, ap_fAndV, ap_fOrV, ap_fNotV, ap_andVK, ap_orVK, ap_notVK, ap_fIfE, ap_ifEK, ap_fChain, ap_chK1, ap_chK2, ap_chK3, ap_fSkip, ap_fBrk, ap_fCnt, ap_fSeq, ap_seqK_nx, ap_seqK_rt, ap_seqK_bk, ap_seqK_ct, ap_fIf, ap_ifK, ap_fRet, ap_retK, ap_fRetN, ap_fDrop, ap_dropK, ap_fAsg, ap_asgK, ap_asgK2, ap_gN, ap_gNil, ap_gCons, ap_gsK, ap_gUnp, ap_unpK, ap_gSub, ap_subK1, ap_subK2, ap_subK3, ap_fIx, ap_ixK, isDict_ref, isDict_tup, isDict_rl, isDict_str, isDictC_lst, isDictC_dk, isDictC_dt, getL_tup, getL_rl, getL_str, getL_ref, getLC_lst, retO_some, atI_0, atI_1, atI_2, atI_3, oSet_ref, setC_lst, setLK_some, ixN_0, ixN_1, ap_fCall, ap_callK, ap_fnF, ap_fnK_nx, ap_fnK_rt, o_add, o_addR, o_addC, o_addS, o_addT, o_sub, o_mul, o_mod, o_div, o_pow, o_neg, o_lt, o_le, o_gt, o_ge, o_int, o_min2, o_max2, o_leS1, o_inS1, o_isB, o_eq, o_ne, eqK_some, neK_some, eqv_int, eqv_bool, toP_int, toP_bl, toP_non, toP_str, toP_tup, toP_rl, toP_ref, toPC_lst, toP_mapM_nil, toP_mapM_cons, toP_consO, o_len, lenK_some, lenD_tup, lenD_rl, lenD_str, lenD_ref, lenC_lst, ap_fIsi, ap_isiK0, ap_isiK, ap_isiK2, ap_fTyIs, ap_tyK0, ap_tyK, ap_fFor, ap_forK_fix, ap_forK_live, loopX_nil, loopX_cons, ap_turnK0, ap_turnK_nx, ap_turnK_ct, ap_turnK_bk, ap_turnK_rt, ap_fRng1, ap_rng1K, ap_fIter, ap_iterK_rl, ap_iterK_tup, ap_iterK_ref, iterC_lst, ap_fIterS, ap_iterSK, ap_fComp, ap_compK_fix, ap_compK_live, compX_nil, compX_cons, ap_compTK, ap_compEK, ap_fYes, ap_fDict0, ap_fDictT0, ap_fSl, ap_slK1, ap_slK2, ap_pNo, ap_pSo, ap_pSoK, oSl_tup, oSl_str, ap_fBm, ap_bmK, tyIn_str, tyIn_ref, tyInC_lst, tyD_ref, R.bind_ok, R.bind_ex, R.bind_bad, R.nox_ok, nox_bad', List.map_cons, List.map_nil, List.length_cons, List.length_nil, List.cons_append, List.nil_append, Nat.zero_add, Nat.reduceAdd, Nat.reduceSub, List.replicate_succ, List.replicate_zero, List.getElem?_cons_zero, List.getElem?_cons_succ, List.set_cons_zero, List.set_cons_succ, List.append_nil, Bool.false_eq_true, if_true, if_false, decide_eq_true_eq, decide_true, decide_false, Nat.add_zero, reduceIte, reduceDIte, Nat.reduceLeDiff, Int.reduceLT, Int.reduceLE, Int.reduceNeg, Int.reducePow, Int.reduceMul, Int.reduceAdd, Int.reduceSub, Nat.reduceEqDiff, Nat.reducePow, true_and, and_true, or_true, true_or, false_or, or_false, and_self, Bool.not_true, Bool.not_false, Nat.reduceLT, ge_iff_le, gt_iff_lt, Nat.le_refl, Option.map_some, Bool.not_eq_true, Bool.not_eq_eq_eq_not, not_true_eq_false, not_false_eq_true, Int.reduceToNat, beq_iff_eq, Int.reduceEq, String.reduceEq, String.reduceNe, Int.reduceNe, List.set_set, get_app, get_app0, get_apps, get_apps0, set_app, set_app0, set_apps, set_apps0, List.append_assoc, Nat.add_assoc, List.toList_toArray, List.size_toArray, List.length_set, List.length_append, tyD, intIn]
  · rw [intIn_no hi]
    rcases ht with rfl | rfl | rfl | rfl
    all_goals simp only [ap_fVar, varK_some, ap_fC, ap_fBin, ap_binK, ap_fUn, ap_fApp, ap_fNil, ap_fCons, ap_consK, ap_consK2, ap_fTup, ap_fLst, ap_tupK, ap_lstK, ap_fTest, ap_testK, ap_fVal, ap_valK, ap_fAnd, ap_fOr, ap_fNot, ap_andK, ap_orK, ap_notK, ap_fAndV, ap_fOrV, ap_fNotV, ap_andVK, ap_orVK, ap_notVK, ap_fIfE, ap_ifEK, ap_fChain, ap_chK1, ap_chK2, ap_chK3, ap_fSkip, ap_fBrk, ap_fCnt, ap_fSeq, ap_seqK_nx, ap_seqK_rt, ap_seqK_bk, ap_seqK_ct, ap_fIf, ap_ifK, ap_fRet, ap_retK, ap_fRetN, ap_fDrop, ap_dropK, ap_fAsg, ap_asgK, ap_asgK2, ap_gN, ap_gNil, ap_gCons, ap_gsK, ap_gUnp, ap_unpK, ap_gSub, ap_subK1, ap_subK2, ap_subK3, ap_fIx, ap_ixK, isDict_ref, isDict_tup, isDict_rl, isDict_str, isDictC_lst, isDictC_dk, isDictC_dt, getL_tup, getL_rl, getL_str, getL_ref, getLC_lst, retO_some, atI_0, atI_1, atI_2, atI_3, oSet_ref, setC_lst, setLK_some, ixN_0, ixN_1, ap_fCall, ap_callK, ap_fnF, ap_fnK_nx, ap_fnK_rt, o_add, o_addR, o_addC, o_addS, o_addT, o_sub, o_mul, o_mod, o_div, o_pow, o_neg, o_lt, o_le, o_gt, o_ge, o_int, o_min2, o_max2, o_leS1, o_inS1, o_isB, o_eq, o_ne, eqK_some, neK_some, eqv_int, eqv_bool, toP_int, toP_bl, toP_non, toP_str, toP_tup, toP_rl, toP_ref, toPC_lst, toP_mapM_nil, toP_mapM_cons, toP_consO, o_len, lenK_some, lenD_tup, lenD_rl, lenD_str, lenD_ref, lenC_lst, ap_fIsi, ap_isiK0, ap_isiK, ap_isiK2, ap_fTyIs, ap_tyK0, ap_tyK, ap_fFor, ap_forK_fix, ap_forK_live, loopX_nil, loopX_cons, ap_turnK0, ap_turnK_nx, ap_turnK_ct, ap_turnK_bk, ap_turnK_rt, ap_fRng1, ap_rng1K, ap_fIter, ap_iterK_rl, ap_iterK_tup, ap_iterK_ref, iterC_lst, ap_fIterS, ap_iterSK, ap_fComp, ap_compK_fix, ap_compK_live, compX_nil, compX_cons, ap_compTK, ap_compEK, ap_fYes, ap_fDict0, ap_fDictT0, ap_fSl, ap_slK1, ap_slK2, ap_pNo, ap_pSo, ap_pSoK, oSl_tup, oSl_str, ap_fBm, ap_bmK, tyIn_str, tyIn_ref, tyInC_lst, tyD_ref, R.bind_ok, R.bind_ex, R.bind_bad, R.nox_ok, nox_bad', List.map_cons, List.map_nil, List.length_cons, List.length_nil, List.cons_append, List.nil_append, Nat.zero_add, Nat.reduceAdd, Nat.reduceSub, List.replicate_succ, List.replicate_zero, List.getElem?_cons_zero, List.getElem?_cons_succ, List.set_cons_zero, List.set_cons_succ, List.append_nil, Bool.false_eq_true, if_true, if_false, decide_eq_true_eq, decide_true, decide_false, Nat.add_zero, reduceIte, reduceDIte, Nat.reduceLeDiff, Int.reduceLT, Int.reduceLE, Int.reduceNeg, Int.reducePow, Int.reduceMul, Int.reduceAdd, Int.reduceSub, Nat.reduceEqDiff, Nat.reducePow, true_and, and_true, or_true, true_or, false_or, or_false, and_self, Bool.not_true, Bool.not_false, Nat.reduceLT, ge_iff_le, gt_iff_lt, Nat.le_refl, Option.map_some, Bool.not_eq_true, Bool.not_eq_eq_eq_not, not_true_eq_false, not_false_eq_true, Int.reduceToNat, beq_iff_eq, Int.reduceEq, String.reduceEq, String.reduceNe, Int.reduceNe, List.set_set, get_app, get_app0, get_apps, get_apps0, set_app, set_app0, set_apps, set_apps0, List.append_assoc, Nat.add_assoc, List.toList_toArray, List.size_toArray, List.length_set, List.length_append, h]
theorem number_is (c : CA) {S : Sto} {d : D} {t : String} (h : tyD S d = some t) : F_is_number c [d] S = .ok (.bl (intIn 0 (10 ^ 12) d)) S := by
  unfold F_is_number b_is_number
  simp only [ap_fVar, varK_some, ap_fC, ap_fBin, ap_binK, ap_fUn, ap_fApp, ap_fNil, ap_fCons, ap_consK, ap_consK2, ap_fTup, ap_fLst, ap_tupK, ap_lstK, ap_fTest, ap_testK, ap_fVal, ap_valK, ap_fAnd, ap_fOr, ap_fNot, ap_andK, ap_orK, ap_notK, ap_fAndV, ap_fOrV, ap_fNotV, ap_andVK, ap_orVK, ap_notVK, ap_fIfE, ap_ifEK, ap_fChain, ap_chK1, ap_chK2, ap_chK3, ap_fSkip, ap_fBrk, ap_fCnt, ap_fSeq, ap_seqK_nx, ap_seqK_rt, ap_seqK_bk, ap_seqK_ct, ap_fIf, ap_ifK, ap_fRet, ap_retK, ap_fRetN, ap_fDrop, ap_dropK, ap_fAsg, ap_asgK, ap_asgK2, ap_gN, ap_gNil, ap_gCons, ap_gsK, ap_gUnp, ap_unpK, ap_gSub, ap_subK1, ap_subK2, ap_subK3, ap_fIx, ap_ixK, isDict_ref, isDict_tup, isDict_rl, isDict_str, isDictC_lst, isDictC_dk, isDictC_dt, getL_tup, getL_rl, getL_str, getL_ref, getLC_lst, retO_some, atI_0, atI_1, atI_2, atI_3, oSet_ref, setC_lst, setLK_some, ixN_0, ixN_1, ap_fCall, ap_callK, ap_fnF, ap_fnK_nx, ap_fnK_rt, o_add, o_addR, o_addC, o_addS, o_addT, o_sub, o_mul, o_mod, o_div, o_pow, o_neg, o_lt, o_le, o_gt, o_ge, o_int, o_min2, o_max2, o_leS1, o_inS1, o_isB, o_eq, o_ne, eqK_some, neK_some, eqv_int, eqv_bool, toP_int, toP_bl, toP_non, toP_str, toP_tup, toP_rl, toP_ref, toPC_lst, toP_mapM_nil, toP_mapM_cons, toP_consO, o_len, lenK_some, lenD_tup, lenD_rl, lenD_str, lenD_ref, lenC_lst, ap_fIsi, ap_isiK0, ap_isiK, ap_isiK2, ap_fTyIs, ap_tyK0, ap_tyK, ap_fFor, ap_forK_fix, ap_forK_live, loopX_nil, loopX_cons, ap_turnK0, ap_turnK_nx, ap_turnK_ct, ap_turnK_bk, ap_turnK_rt, ap_fRng1, ap_rng1K, ap_fIter, ap_iterK_rl, ap_iterK_tup, ap_iterK_ref, iterC_lst, ap_fIterS, ap_iterSK, ap_fComp, ap_compK_fix, ap_compK_live, compX_nil, compX_cons, ap_compTK, ap_compEK, ap_fYes, ap_fDict0, ap_fDictT0, ap_fSl, ap_slK1, ap_slK2, ap_pNo, ap_pSo, ap_pSoK, oSl_tup, oSl_str, ap_fBm, ap_bmK, tyIn_str, tyIn_ref, tyInC_lst, tyD_ref, R.bind_ok, R.bind_ex, R.bind_bad, R.nox_ok, nox_bad', List.map_cons, List.map_nil, List.length_cons, List.length_nil, List.cons_append, List.nil_append, Nat.zero_add, Nat.reduceAdd, Nat.reduceSub, List.replicate_succ, List.replicate_zero, List.getElem?_cons_zero, List.getElem?_cons_succ, List.set_cons_zero, List.set_cons_succ, List.append_nil, Bool.false_eq_true, if_true, if_false, decide_eq_true_eq, decide_true, decide_false, Nat.add_zero, reduceIte, reduceDIte, Nat.reduceLeDiff, Int.reduceLT, Int.reduceLE, Int.reduceNeg, Int.reducePow, Int.reduceMul, Int.reduceAdd, Int.reduceSub, Nat.reduceEqDiff, Nat.reducePow, true_and, and_true, or_true, true_or, false_or, or_false, and_self, Bool.not_true, Bool.not_false, Nat.reduceLT, ge_iff_le, gt_iff_lt, Nat.le_refl, Option.map_some, Bool.not_eq_true, Bool.not_eq_eq_eq_not, not_true_eq_false, not_false_eq_true, Int.reduceToNat, beq_iff_eq, Int.reduceEq, String.reduceEq, String.reduceNe, Int.reduceNe, List.set_set, get_app, get_app0, get_apps, get_apps0, set_app, set_app0, set_apps, set_apps0, List.append_assoc, Nat.add_assoc, List.toList_toArray, List.size_toArray, List.length_set, List.length_append, between_eq c h]
theorem integer_is (c : CA) {S : Sto} {d : D} {t : String} (h : tyD S d = some t) : F_is_integer c [d] S = .ok (.bl (intIn (-(10 ^ 12)) (10 ^ 12) d)) S := by
  unfold F_is_integer b_is_integer
  simp only [ap_fVar, varK_some, ap_fC, ap_fBin, ap_binK, ap_fUn, ap_fApp, ap_fNil, ap_fCons, ap_consK, ap_consK2, ap_fTup, ap_fLst, ap_tupK, ap_lstK, ap_fTest, ap_testK, ap_fVal, ap_valK, ap_fAnd, ap_fOr, ap_fNot, ap_andK, ap_orK, ap_notK, ap_fAndV, ap_fOrV, ap_fNotV, ap_andVK, ap_orVK, ap_notVK, ap_fIfE, ap_ifEK, ap_fChain, ap_chK1, ap_chK2, ap_chK3, ap_fSkip, ap_fBrk, ap_fCnt, ap_fSeq, ap_seqK_nx, ap_seqK_rt, ap_seqK_bk, ap_seqK_ct, ap_fIf, ap_ifK, ap_fRet, ap_retK, ap_fRetN, ap_fDrop, ap_dropK, ap_fAsg, ap_asgK, ap_asgK2, ap_gN, ap_gNil, ap_gCons, ap_gsK, ap_gUnp, ap_unpK, ap_gSub, ap_subK1, ap_subK2, ap_subK3, ap_fIx, ap_ixK, isDict_ref, isDict_tup, isDict_rl, isDict_str, isDictC_lst, isDictC_dk, isDictC_dt, getL_tup, getL_rl, getL_str, getL_ref, getLC_lst, retO_some, atI_0, atI_1, atI_2, atI_3, oSet_ref, setC_lst, setLK_some, ixN_0, ixN_1, ap_fCall, ap_callK, ap_fnF, ap_fnK_nx, ap_fnK_rt, o_add, o_addR, o_addC, o_addS, o_addT, o_sub, o_mul, o_mod, o_div, o_pow, o_neg, o_lt, o_le, o_gt, o_ge, o_int, o_min2, o_max2, o_leS1, o_inS1, o_isB, o_eq, o_ne, eqK_some, neK_some, eqv_int, eqv_bool, toP_int, toP_bl, toP_non, toP_str, toP_tup, toP_rl, toP_ref, toPC_lst, toP_mapM_nil, toP_mapM_cons, toP_consO, o_len, lenK_some, lenD_tup, lenD_rl, lenD_str, lenD_ref, lenC_lst, ap_fIsi, ap_isiK0, ap_isiK, ap_isiK2, ap_fTyIs, ap_tyK0, ap_tyK, ap_fFor, ap_forK_fix, ap_forK_live, loopX_nil, loopX_cons, ap_turnK0, ap_turnK_nx, ap_turnK_ct, ap_turnK_bk, ap_turnK_rt, ap_fRng1, ap_rng1K, ap_fIter, ap_iterK_rl, ap_iterK_tup, ap_iterK_ref, iterC_lst, ap_fIterS, ap_iterSK, ap_fComp, ap_compK_fix, ap_compK_live, compX_nil, compX_cons, ap_compTK, ap_compEK, ap_fYes, ap_fDict0, ap_fDictT0, ap_fSl, ap_slK1, ap_slK2, ap_pNo, ap_pSo, ap_pSoK, oSl_tup, oSl_str, ap_fBm, ap_bmK, tyIn_str, tyIn_ref, tyInC_lst, tyD_ref, R.bind_ok, R.bind_ex, R.bind_bad, R.nox_ok, nox_bad', List.map_cons, List.map_nil, List.length_cons, List.length_nil, List.cons_append, List.nil_append, Nat.zero_add, Nat.reduceAdd, Nat.reduceSub, List.replicate_succ, List.replicate_zero, List.getElem?_cons_zero, List.getElem?_cons_succ, List.set_cons_zero, List.set_cons_succ, List.append_nil, Bool.false_eq_true, if_true, if_false, decide_eq_true_eq, decide_true, decide_false, Nat.add_zero, reduceIte, reduceDIte, Nat.reduceLeDiff, Int.reduceLT, Int.reduceLE, Int.reduceNeg, Int.reducePow, Int.reduceMul, Int.reduceAdd, Int.reduceSub, Nat.reduceEqDiff, Nat.reducePow, true_and, and_true, or_true, true_or, false_or, or_false, and_self, Bool.not_true, Bool.not_false, Nat.reduceLT, ge_iff_le, gt_iff_lt, Nat.le_refl, Option.map_some, Bool.not_eq_true, Bool.not_eq_eq_eq_not, not_true_eq_false, not_false_eq_true, Int.reduceToNat, beq_iff_eq, Int.reduceEq, String.reduceEq, String.reduceNe, Int.reduceNe, List.set_set, get_app, get_app0, get_apps, get_apps0, set_app, set_app0, set_apps, set_apps0, List.append_assoc, Nat.add_assoc, List.toList_toArray, List.size_toArray, List.length_set, List.length_append, between_eq c h]
theorem value_is (c : CA) {S : Sto} {d : D} {t : String} (h : tyD S d = some t) : F_is_value c [d] S = .ok (.bl (intIn (-(10 ^ 15)) (10 ^ 15) d)) S := by
  unfold F_is_value b_is_value
  simp only [ap_fVar, varK_some, ap_fC, ap_fBin, ap_binK, ap_fUn, ap_fApp, ap_fNil, ap_fCons, ap_consK, ap_consK2, ap_fTup, ap_fLst, ap_tupK, ap_lstK, ap_fTest, ap_testK, ap_fVal, ap_valK, ap_fAnd, ap_fOr, ap_fNot, ap_andK, ap_orK, ap_notK, ap_fAndV, ap_fOrV, ap_fNotV, ap_andVK, ap_orVK, ap_notVK, ap_fIfE, ap_ifEK, ap_fChain, ap_chK1, ap_chK2, ap_chK3, ap_fSkip, ap_fBrk, ap_fCnt, ap_fSeq, ap_seqK_nx, ap_seqK_rt, ap_seqK_bk, ap_seqK_ct, ap_fIf, ap_ifK, ap_fRet, ap_retK, ap_fRetN, ap_fDrop, ap_dropK, ap_fAsg, ap_asgK, ap_asgK2, ap_gN, ap_gNil, ap_gCons, ap_gsK, ap_gUnp, ap_unpK, ap_gSub, ap_subK1, ap_subK2, ap_subK3, ap_fIx, ap_ixK, isDict_ref, isDict_tup, isDict_rl, isDict_str, isDictC_lst, isDictC_dk, isDictC_dt, getL_tup, getL_rl, getL_str, getL_ref, getLC_lst, retO_some, atI_0, atI_1, atI_2, atI_3, oSet_ref, setC_lst, setLK_some, ixN_0, ixN_1, ap_fCall, ap_callK, ap_fnF, ap_fnK_nx, ap_fnK_rt, o_add, o_addR, o_addC, o_addS, o_addT, o_sub, o_mul, o_mod, o_div, o_pow, o_neg, o_lt, o_le, o_gt, o_ge, o_int, o_min2, o_max2, o_leS1, o_inS1, o_isB, o_eq, o_ne, eqK_some, neK_some, eqv_int, eqv_bool, toP_int, toP_bl, toP_non, toP_str, toP_tup, toP_rl, toP_ref, toPC_lst, toP_mapM_nil, toP_mapM_cons, toP_consO, o_len, lenK_some, lenD_tup, lenD_rl, lenD_str, lenD_ref, lenC_lst, ap_fIsi, ap_isiK0, ap_isiK, ap_isiK2, ap_fTyIs, ap_tyK0, ap_tyK, ap_fFor, ap_forK_fix, ap_forK_live, loopX_nil, loopX_cons, ap_turnK0, ap_turnK_nx, ap_turnK_ct, ap_turnK_bk, ap_turnK_rt, ap_fRng1, ap_rng1K, ap_fIter, ap_iterK_rl, ap_iterK_tup, ap_iterK_ref, iterC_lst, ap_fIterS, ap_iterSK, ap_fComp, ap_compK_fix, ap_compK_live, compX_nil, compX_cons, ap_compTK, ap_compEK, ap_fYes, ap_fDict0, ap_fDictT0, ap_fSl, ap_slK1, ap_slK2, ap_pNo, ap_pSo, ap_pSoK, oSl_tup, oSl_str, ap_fBm, ap_bmK, tyIn_str, tyIn_ref, tyInC_lst, tyD_ref, R.bind_ok, R.bind_ex, R.bind_bad, R.nox_ok, nox_bad', List.map_cons, List.map_nil, List.length_cons, List.length_nil, List.cons_append, List.nil_append, Nat.zero_add, Nat.reduceAdd, Nat.reduceSub, List.replicate_succ, List.replicate_zero, List.getElem?_cons_zero, List.getElem?_cons_succ, List.set_cons_zero, List.set_cons_succ, List.append_nil, Bool.false_eq_true, if_true, if_false, decide_eq_true_eq, decide_true, decide_false, Nat.add_zero, reduceIte, reduceDIte, Nat.reduceLeDiff, Int.reduceLT, Int.reduceLE, Int.reduceNeg, Int.reducePow, Int.reduceMul, Int.reduceAdd, Int.reduceSub, Nat.reduceEqDiff, Nat.reducePow, true_and, and_true, or_true, true_or, false_or, or_false, and_self, Bool.not_true, Bool.not_false, Nat.reduceLT, ge_iff_le, gt_iff_lt, Nat.le_refl, Option.map_some, Bool.not_eq_true, Bool.not_eq_eq_eq_not, not_true_eq_false, not_false_eq_true, Int.reduceToNat, beq_iff_eq, Int.reduceEq, String.reduceEq, String.reduceNe, Int.reduceNe, List.set_set, get_app, get_app0, get_apps, get_apps0, set_app, set_app0, set_apps, set_apps0, List.append_assoc, Nat.add_assoc, List.toList_toArray, List.size_toArray, List.length_set, List.length_append, between_eq c h]
theorem flag_eq (c : CA) {S : Sto} {x y : Bool} : F_law_flag c [.bl x, .bl y] S = .ok (.bl (x == y)) S := by
  unfold F_law_flag b_law_flag
  simp only [ap_fVar, varK_some, ap_fC, ap_fBin, ap_binK, ap_fUn, ap_fApp, ap_fNil, ap_fCons, ap_consK, ap_consK2, ap_fTup, ap_fLst, ap_tupK, ap_lstK, ap_fTest, ap_testK, ap_fVal, ap_valK, ap_fAnd, ap_fOr, ap_fNot, ap_andK, ap_orK, ap_notK, ap_fAndV, ap_fOrV, ap_fNotV, ap_andVK, ap_orVK, ap_notVK, ap_fIfE, ap_ifEK, ap_fChain, ap_chK1, ap_chK2, ap_chK3, ap_fSkip, ap_fBrk, ap_fCnt, ap_fSeq, ap_seqK_nx, ap_seqK_rt, ap_seqK_bk, ap_seqK_ct, ap_fIf, ap_ifK, ap_fRet, ap_retK, ap_fRetN, ap_fDrop, ap_dropK, ap_fAsg, ap_asgK, ap_asgK2, ap_gN, ap_gNil, ap_gCons, ap_gsK, ap_gUnp, ap_unpK, ap_gSub, ap_subK1, ap_subK2, ap_subK3, ap_fIx, ap_ixK, isDict_ref, isDict_tup, isDict_rl, isDict_str, isDictC_lst, isDictC_dk, isDictC_dt, getL_tup, getL_rl, getL_str, getL_ref, getLC_lst, retO_some, atI_0, atI_1, atI_2, atI_3, oSet_ref, setC_lst, setLK_some, ixN_0, ixN_1, ap_fCall, ap_callK, ap_fnF, ap_fnK_nx, ap_fnK_rt, o_add, o_addR, o_addC, o_addS, o_addT, o_sub, o_mul, o_mod, o_div, o_pow, o_neg, o_lt, o_le, o_gt, o_ge, o_int, o_min2, o_max2, o_leS1, o_inS1, o_isB, o_eq, o_ne, eqK_some, neK_some, eqv_int, eqv_bool, toP_int, toP_bl, toP_non, toP_str, toP_tup, toP_rl, toP_ref, toPC_lst, toP_mapM_nil, toP_mapM_cons, toP_consO, o_len, lenK_some, lenD_tup, lenD_rl, lenD_str, lenD_ref, lenC_lst, ap_fIsi, ap_isiK0, ap_isiK, ap_isiK2, ap_fTyIs, ap_tyK0, ap_tyK, ap_fFor, ap_forK_fix, ap_forK_live, loopX_nil, loopX_cons, ap_turnK0, ap_turnK_nx, ap_turnK_ct, ap_turnK_bk, ap_turnK_rt, ap_fRng1, ap_rng1K, ap_fIter, ap_iterK_rl, ap_iterK_tup, ap_iterK_ref, iterC_lst, ap_fIterS, ap_iterSK, ap_fComp, ap_compK_fix, ap_compK_live, compX_nil, compX_cons, ap_compTK, ap_compEK, ap_fYes, ap_fDict0, ap_fDictT0, ap_fSl, ap_slK1, ap_slK2, ap_pNo, ap_pSo, ap_pSoK, oSl_tup, oSl_str, ap_fBm, ap_bmK, tyIn_str, tyIn_ref, tyInC_lst, tyD_ref, R.bind_ok, R.bind_ex, R.bind_bad, R.nox_ok, nox_bad', List.map_cons, List.map_nil, List.length_cons, List.length_nil, List.cons_append, List.nil_append, Nat.zero_add, Nat.reduceAdd, Nat.reduceSub, List.replicate_succ, List.replicate_zero, List.getElem?_cons_zero, List.getElem?_cons_succ, List.set_cons_zero, List.set_cons_succ, List.append_nil, Bool.false_eq_true, if_true, if_false, decide_eq_true_eq, decide_true, decide_false, Nat.add_zero, reduceIte, reduceDIte, Nat.reduceLeDiff, Int.reduceLT, Int.reduceLE, Int.reduceNeg, Int.reducePow, Int.reduceMul, Int.reduceAdd, Int.reduceSub, Nat.reduceEqDiff, Nat.reducePow, true_and, and_true, or_true, true_or, false_or, or_false, and_self, Bool.not_true, Bool.not_false, Nat.reduceLT, ge_iff_le, gt_iff_lt, Nat.le_refl, Option.map_some, Bool.not_eq_true, Bool.not_eq_eq_eq_not, not_true_eq_false, not_false_eq_true, Int.reduceToNat, beq_iff_eq, Int.reduceEq, String.reduceEq, String.reduceNe, Int.reduceNe, List.set_set, get_app, get_app0, get_apps, get_apps0, set_app, set_app0, set_apps, set_apps0, List.append_assoc, Nat.add_assoc, List.toList_toArray, List.size_toArray, List.length_set, List.length_append, tyD, isiD]
/-! names -/
def nameB (z : Str) : Bool := decide (1 ≤ z.length) && decide (z.length ≤ 12) && z.cps.toList.all fun c => decide (97 ≤ c) && decide (c ≤ 122)
theorem az_comp (c : CA) (xs : List Nat) (v0 : Option D) : ∀ (S : Sto) (acc : List D), acc.length + xs.length ≤ 2000 →
    compX 1 fYes (ce_is_name_0 c) [v0, none] (xs.map fun k => .str ⟨#[k]⟩) acc S
      = .ok (.ref S.length) (S ++ [.lst (acc ++ xs.map fun k => .bl (decide (97 ≤ k) && decide (k ≤ 122)))]) := by
  induction xs with
  | nil => intro S acc h; simp only [ap_fVar, varK_some, ap_fC, ap_fBin, ap_binK, ap_fUn, ap_fApp, ap_fNil, ap_fCons, ap_consK, ap_consK2, ap_fTup, ap_fLst, ap_tupK, ap_lstK, ap_fTest, ap_testK, ap_fVal, ap_valK, ap_fAnd, ap_fOr, ap_fNot, ap_andK, ap_orK, ap_notK, ap_fAndV, ap_fOrV, ap_fNotV, ap_andVK, ap_orVK, ap_notVK, ap_fIfE, ap_ifEK, ap_fChain, ap_chK1, ap_chK2, ap_chK3, ap_fSkip, ap_fBrk, ap_fCnt, ap_fSeq, ap_seqK_nx, ap_seqK_rt, ap_seqK_bk, ap_seqK_ct, ap_fIf, ap_ifK, ap_fRet, ap_retK, ap_fRetN, ap_fDrop, ap_dropK, ap_fAsg, ap_asgK, ap_asgK2, ap_gN, ap_gNil, ap_gCons, ap_gsK, ap_gUnp, ap_unpK, ap_gSub, ap_subK1, ap_subK2, ap_subK3, ap_fIx, ap_ixK, isDict_ref, isDict_tup, isDict_rl, isDict_str, isDictC_lst, isDictC_dk, isDictC_dt, getL_tup, getL_rl, getL_str, getL_ref, getLC_lst, retO_some, atI_0, atI_1, atI_2, atI_3, oSet_ref, setC_lst, setLK_some, ixN_0, ixN_1, ap_fCall, ap_callK, ap_fnF, ap_fnK_nx, ap_fnK_rt, o_add, o_addR, o_addC, o_addS, o_addT, o_sub, o_mul, o_mod, o_div, o_pow, o_neg, o_lt, o_le, o_gt, o_ge, o_int, o_min2, o_max2, o_leS1, o_inS1, o_isB, o_eq, o_ne, eqK_some, neK_some, eqv_int, eqv_bool, toP_int, toP_bl, toP_non, toP_str, toP_tup, toP_rl, toP_ref, toPC_lst, toP_mapM_nil, toP_mapM_cons, toP_consO, o_len, lenK_some, lenD_tup, lenD_rl, lenD_str, lenD_ref, lenC_lst, ap_fIsi, ap_isiK0, ap_isiK, ap_isiK2, ap_fTyIs, ap_tyK0, ap_tyK, ap_fFor, ap_forK_fix, ap_forK_live, loopX_nil, loopX_cons, ap_turnK0, ap_turnK_nx, ap_turnK_ct, ap_turnK_bk, ap_turnK_rt, ap_fRng1, ap_rng1K, ap_fIter, ap_iterK_rl, ap_iterK_tup, ap_iterK_ref, iterC_lst, ap_fIterS, ap_iterSK, ap_fComp, ap_compK_fix, ap_compK_live, compX_nil, compX_cons, ap_compTK, ap_compEK, ap_fYes, ap_fDict0, ap_fDictT0, ap_fSl, ap_slK1, ap_slK2, ap_pNo, ap_pSo, ap_pSoK, oSl_tup, oSl_str, ap_fBm, ap_bmK, tyIn_str, tyIn_ref, tyInC_lst, tyD_ref, R.bind_ok, R.bind_ex, R.bind_bad, R.nox_ok, nox_bad', List.map_cons, List.map_nil, List.length_cons, List.length_nil, List.cons_append, List.nil_append, Nat.zero_add, Nat.reduceAdd, Nat.reduceSub, List.replicate_succ, List.replicate_zero, List.getElem?_cons_zero, List.getElem?_cons_succ, List.set_cons_zero, List.set_cons_succ, List.append_nil, Bool.false_eq_true, if_true, if_false, decide_eq_true_eq, decide_true, decide_false, Nat.add_zero, reduceIte, reduceDIte, Nat.reduceLeDiff, Int.reduceLT, Int.reduceLE, Int.reduceNeg, Int.reducePow, Int.reduceMul, Int.reduceAdd, Int.reduceSub, Nat.reduceEqDiff, Nat.reducePow, true_and, and_true, or_true, true_or, false_or, or_false, and_self, Bool.not_true, Bool.not_false, Nat.reduceLT, ge_iff_le, gt_iff_lt, Nat.le_refl, Option.map_some, Bool.not_eq_true, Bool.not_eq_eq_eq_not, not_true_eq_false, not_false_eq_true, Int.reduceToNat, beq_iff_eq, Int.reduceEq, String.reduceEq, String.reduceNe, Int.reduceNe, List.set_set, get_app, get_app0, get_apps, get_apps0, set_app, set_app0, set_apps, set_apps0, List.append_assoc, Nat.add_assoc, List.toList_toArray, List.size_toArray, List.length_set, List.length_append]
  | cons x xs ih =>
    intro S acc h
    rw [List.length_cons] at h
    by_cases h1 : 97 ≤ x
    · simp only [ap_fVar, varK_some, ap_fC, ap_fBin, ap_binK, ap_fUn, ap_fApp, ap_fNil, ap_fCons, ap_consK, ap_consK2, ap_fTup, ap_fLst, ap_tupK, ap_lstK, ap_fTest, ap_testK, ap_fVal, ap_valK, ap_fAnd, ap_fOr, ap_fNot, ap_andK, ap_orK, ap_notK, ap_fAndV, ap_fOrV, ap_fNotV, ap_andVK, ap_orVK, ap_notVK, ap_fIfE, ap_ifEK, ap_fChain, ap_chK1, ap_chK2, ap_chK3, ap_fSkip, ap_fBrk, ap_fCnt, ap_fSeq, ap_seqK_nx, ap_seqK_rt, ap_seqK_bk, ap_seqK_ct, ap_fIf, ap_ifK, ap_fRet, ap_retK, ap_fRetN, ap_fDrop, ap_dropK, ap_fAsg, ap_asgK, ap_asgK2, ap_gN, ap_gNil, ap_gCons, ap_gsK, ap_gUnp, ap_unpK, ap_gSub, ap_subK1, ap_subK2, ap_subK3, ap_fIx, ap_ixK, isDict_ref, isDict_tup, isDict_rl, isDict_str, isDictC_lst, isDictC_dk, isDictC_dt, getL_tup, getL_rl, getL_str, getL_ref, getLC_lst, retO_some, atI_0, atI_1, atI_2, atI_3, oSet_ref, setC_lst, setLK_some, ixN_0, ixN_1, ap_fCall, ap_callK, ap_fnF, ap_fnK_nx, ap_fnK_rt, o_add, o_addR, o_addC, o_addS, o_addT, o_sub, o_mul, o_mod, o_div, o_pow, o_neg, o_lt, o_le, o_gt, o_ge, o_int, o_min2, o_max2, o_leS1, o_inS1, o_isB, o_eq, o_ne, eqK_some, neK_some, eqv_int, eqv_bool, toP_int, toP_bl, toP_non, toP_str, toP_tup, toP_rl, toP_ref, toPC_lst, toP_mapM_nil, toP_mapM_cons, toP_consO, o_len, lenK_some, lenD_tup, lenD_rl, lenD_str, lenD_ref, lenC_lst, ap_fIsi, ap_isiK0, ap_isiK, ap_isiK2, ap_fTyIs, ap_tyK0, ap_tyK, ap_fFor, ap_forK_fix, ap_forK_live, loopX_nil, loopX_cons, ap_turnK0, ap_turnK_nx, ap_turnK_ct, ap_turnK_bk, ap_turnK_rt, ap_fRng1, ap_rng1K, ap_fIter, ap_iterK_rl, ap_iterK_tup, ap_iterK_ref, iterC_lst, ap_fIterS, ap_iterSK, ap_fComp, ap_compK_fix, ap_compK_live, compX_nil, compX_cons, ap_compTK, ap_compEK, ap_fYes, ap_fDict0, ap_fDictT0, ap_fSl, ap_slK1, ap_slK2, ap_pNo, ap_pSo, ap_pSoK, oSl_tup, oSl_str, ap_fBm, ap_bmK, tyIn_str, tyIn_ref, tyInC_lst, tyD_ref, R.bind_ok, R.bind_ex, R.bind_bad, R.nox_ok, nox_bad', List.map_cons, List.map_nil, List.length_cons, List.length_nil, List.cons_append, List.nil_append, Nat.zero_add, Nat.reduceAdd, Nat.reduceSub, List.replicate_succ, List.replicate_zero, List.getElem?_cons_zero, List.getElem?_cons_succ, List.set_cons_zero, List.set_cons_succ, List.append_nil, Bool.false_eq_true, if_true, if_false, decide_eq_true_eq, decide_true, decide_false, Nat.add_zero, reduceIte, reduceDIte, Nat.reduceLeDiff, Int.reduceLT, Int.reduceLE, Int.reduceNeg, Int.reducePow, Int.reduceMul, Int.reduceAdd, Int.reduceSub, Nat.reduceEqDiff, Nat.reducePow, true_and, and_true, or_true, true_or, false_or, or_false, and_self, Bool.not_true, Bool.not_false, Nat.reduceLT, ge_iff_le, gt_iff_lt, Nat.le_refl, Option.map_some, Bool.not_eq_true, Bool.not_eq_eq_eq_not, not_true_eq_false, not_false_eq_true, Int.reduceToNat, beq_iff_eq, Int.reduceEq, String.reduceEq, String.reduceNe, Int.reduceNe, List.set_set, get_app, get_app0, get_apps, get_apps0, set_app, set_app0, set_apps, set_apps0, List.append_assoc, Nat.add_assoc, List.toList_toArray, List.size_toArray, List.length_set, List.length_append, ap_ce_is_name_0, h1, Bool.true_and]
      rw [if_pos (by omega), ih _ _ (by rw [List.length_append, List.length_singleton]; omega)]
      simp only [ap_fVar, varK_some, ap_fC, ap_fBin, ap_binK, ap_fUn, ap_fApp, ap_fNil, ap_fCons, ap_consK, ap_consK2, ap_fTup, ap_fLst, ap_tupK, ap_lstK, ap_fTest, ap_testK, ap_fVal, ap_valK, ap_fAnd, ap_fOr, ap_fNot, ap_andK, ap_orK, ap_notK, ap_fAndV, ap_fOrV, ap_fNotV, ap_andVK, ap_orVK, ap_notVK, ap_fIfE, ap_ifEK, ap_fChain, ap_chK1, ap_chK2, ap_chK3, ap_fSkip, ap_fBrk, ap_fCnt, ap_fSeq, ap_seqK_nx, ap_seqK_rt, ap_seqK_bk, ap_seqK_ct, ap_fIf, ap_ifK, ap_fRet, ap_retK, ap_fRetN, ap_fDrop, ap_dropK, ap_fAsg, ap_asgK, ap_asgK2, ap_gN, ap_gNil, ap_gCons, ap_gsK, ap_gUnp, ap_unpK, ap_gSub, ap_subK1, ap_subK2, ap_subK3, ap_fIx, ap_ixK, isDict_ref, isDict_tup, isDict_rl, isDict_str, isDictC_lst, isDictC_dk, isDictC_dt, getL_tup, getL_rl, getL_str, getL_ref, getLC_lst, retO_some, atI_0, atI_1, atI_2, atI_3, oSet_ref, setC_lst, setLK_some, ixN_0, ixN_1, ap_fCall, ap_callK, ap_fnF, ap_fnK_nx, ap_fnK_rt, o_add, o_addR, o_addC, o_addS, o_addT, o_sub, o_mul, o_mod, o_div, o_pow, o_neg, o_lt, o_le, o_gt, o_ge, o_int, o_min2, o_max2, o_leS1, o_inS1, o_isB, o_eq, o_ne, eqK_some, neK_some, eqv_int, eqv_bool, toP_int, toP_bl, toP_non, toP_str, toP_tup, toP_rl, toP_ref, toPC_lst, toP_mapM_nil, toP_mapM_cons, toP_consO, o_len, lenK_some, lenD_tup, lenD_rl, lenD_str, lenD_ref, lenC_lst, ap_fIsi, ap_isiK0, ap_isiK, ap_isiK2, ap_fTyIs, ap_tyK0, ap_tyK, ap_fFor, ap_forK_fix, ap_forK_live, loopX_nil, loopX_cons, ap_turnK0, ap_turnK_nx, ap_turnK_ct, ap_turnK_bk, ap_turnK_rt, ap_fRng1, ap_rng1K, ap_fIter, ap_iterK_rl, ap_iterK_tup, ap_iterK_ref, iterC_lst, ap_fIterS, ap_iterSK, ap_fComp, ap_compK_fix, ap_compK_live, compX_nil, compX_cons, ap_compTK, ap_compEK, ap_fYes, ap_fDict0, ap_fDictT0, ap_fSl, ap_slK1, ap_slK2, ap_pNo, ap_pSo, ap_pSoK, oSl_tup, oSl_str, ap_fBm, ap_bmK, tyIn_str, tyIn_ref, tyInC_lst, tyD_ref, R.bind_ok, R.bind_ex, R.bind_bad, R.nox_ok, nox_bad', List.map_cons, List.map_nil, List.length_cons, List.length_nil, List.cons_append, List.nil_append, Nat.zero_add, Nat.reduceAdd, Nat.reduceSub, List.replicate_succ, List.replicate_zero, List.getElem?_cons_zero, List.getElem?_cons_succ, List.set_cons_zero, List.set_cons_succ, List.append_nil, Bool.false_eq_true, if_true, if_false, decide_eq_true_eq, decide_true, decide_false, Nat.add_zero, reduceIte, reduceDIte, Nat.reduceLeDiff, Int.reduceLT, Int.reduceLE, Int.reduceNeg, Int.reducePow, Int.reduceMul, Int.reduceAdd, Int.reduceSub, Nat.reduceEqDiff, Nat.reducePow, true_and, and_true, or_true, true_or, false_or, or_false, and_self, Bool.not_true, Bool.not_false, Nat.reduceLT, ge_iff_le, gt_iff_lt, Nat.le_refl, Option.map_some, Bool.not_eq_true, Bool.not_eq_eq_eq_not, not_true_eq_false, not_false_eq_true, Int.reduceToNat, beq_iff_eq, Int.reduceEq, String.reduceEq, String.reduceNe, Int.reduceNe, List.set_set, get_app, get_app0, get_apps, get_apps0, set_app, set_app0, set_apps, set_apps0, List.append_assoc, Nat.add_assoc, List.toList_toArray, List.size_toArray, List.length_set, List.length_append]
    · simp only [ap_fVar, varK_some, ap_fC, ap_fBin, ap_binK, ap_fUn, ap_fApp, ap_fNil, ap_fCons, ap_consK, ap_consK2, ap_fTup, ap_fLst, ap_tupK, ap_lstK, ap_fTest, ap_testK, ap_fVal, ap_valK, ap_fAnd, ap_fOr, ap_fNot, ap_andK, ap_orK, ap_notK, ap_fAndV, ap_fOrV, ap_fNotV, ap_andVK, ap_orVK, ap_notVK, ap_fIfE, ap_ifEK, ap_fChain, ap_chK1, ap_chK2, ap_chK3, ap_fSkip, ap_fBrk, ap_fCnt, ap_fSeq, ap_seqK_nx, ap_seqK_rt, ap_seqK_bk, ap_seqK_ct, ap_fIf, ap_ifK, ap_fRet, ap_retK, ap_fRetN, ap_fDrop, ap_dropK, ap_fAsg, ap_asgK, ap_asgK2, ap_gN, ap_gNil, ap_gCons, ap_gsK, ap_gUnp, ap_unpK, ap_gSub, ap_subK1, ap_subK2, ap_subK3, ap_fIx, ap_ixK, isDict_ref, isDict_tup, isDict_rl, isDict_str, isDictC_lst, isDictC_dk, isDictC_dt, getL_tup, getL_rl, getL_str, getL_ref, getLC_lst, retO_some, atI_0, atI_1, atI_2, atI_3, oSet_ref, setC_lst, setLK_some, ixN_0, ixN_1, ap_fCall, ap_callK, ap_fnF, ap_fnK_nx, ap_fnK_rt, o_add, o_addR, o_addC, o_addS, o_addT, o_sub, o_mul, o_mod, o_div, o_pow, o_neg, o_lt, o_le, o_gt, o_ge, o_int, o_min2, o_max2, o_leS1, o_inS1, o_isB, o_eq, o_ne, eqK_some, neK_some, eqv_int, eqv_bool, toP_int, toP_bl, toP_non, toP_str, toP_tup, toP_rl, toP_ref, toPC_lst, toP_mapM_nil, toP_mapM_cons, toP_consO, o_len, lenK_some, lenD_tup, lenD_rl, lenD_str, lenD_ref, lenC_lst, ap_fIsi, ap_isiK0, ap_isiK, ap_isiK2, ap_fTyIs, ap_tyK0, ap_tyK, ap_fFor, ap_forK_fix, ap_forK_live, loopX_nil, loopX_cons, ap_turnK0, ap_turnK_nx, ap_turnK_ct, ap_turnK_bk, ap_turnK_rt, ap_fRng1, ap_rng1K, ap_fIter, ap_iterK_rl, ap_iterK_tup, ap_iterK_ref, iterC_lst, ap_fIterS, ap_iterSK, ap_fComp, ap_compK_fix, ap_compK_live, compX_nil, compX_cons, ap_compTK, ap_compEK, ap_fYes, ap_fDict0, ap_fDictT0, ap_fSl, ap_slK1, ap_slK2, ap_pNo, ap_pSo, ap_pSoK, oSl_tup, oSl_str, ap_fBm, ap_bmK, tyIn_str, tyIn_ref, tyInC_lst, tyD_ref, R.bind_ok, R.bind_ex, R.bind_bad, R.nox_ok, nox_bad', List.map_cons, List.map_nil, List.length_cons, List.length_nil, List.cons_append, List.nil_append, Nat.zero_add, Nat.reduceAdd, Nat.reduceSub, List.replicate_succ, List.replicate_zero, List.getElem?_cons_zero, List.getElem?_cons_succ, List.set_cons_zero, List.set_cons_succ, List.append_nil, Bool.false_eq_true, if_true, if_false, decide_eq_true_eq, decide_true, decide_false, Nat.add_zero, reduceIte, reduceDIte, Nat.reduceLeDiff, Int.reduceLT, Int.reduceLE, Int.reduceNeg, Int.reducePow, Int.reduceMul, Int.reduceAdd, Int.reduceSub, Nat.reduceEqDiff, Nat.reducePow, true_and, and_true, or_true, true_or, false_or, or_false, and_self, Bool.not_true, Bool.not_false, Nat.reduceLT, ge_iff_le, gt_iff_lt, Nat.le_refl, Option.map_some, Bool.not_eq_true, Bool.not_eq_eq_eq_not, not_true_eq_false, not_false_eq_true, Int.reduceToNat, beq_iff_eq, Int.reduceEq, String.reduceEq, String.reduceNe, Int.reduceNe, List.set_set, get_app, get_app0, get_apps, get_apps0, set_app, set_app0, set_apps, set_apps0, List.append_assoc, Nat.add_assoc, List.toList_toArray, List.size_toArray, List.length_set, List.length_append, ap_ce_is_name_0, h1, Bool.false_and]
      rw [if_pos (by omega), ih _ _ (by rw [List.length_append, List.length_singleton]; omega)]
      simp only [ap_fVar, varK_some, ap_fC, ap_fBin, ap_binK, ap_fUn, ap_fApp, ap_fNil, ap_fCons, ap_consK, ap_consK2, ap_fTup, ap_fLst, ap_tupK, ap_lstK, ap_fTest, ap_testK, ap_fVal, ap_valK, ap_fAnd, ap_fOr, ap_fNot, ap_andK, ap_orK, ap_notK, ap_fAndV, ap_fOrV, ap_fNotV, ap_andVK, ap_orVK, ap_notVK, ap_fIfE, ap_ifEK, ap_fChain, ap_chK1, ap_chK2, ap_chK3, ap_fSkip, ap_fBrk, ap_fCnt, ap_fSeq, ap_seqK_nx, ap_seqK_rt, ap_seqK_bk, ap_seqK_ct, ap_fIf, ap_ifK, ap_fRet, ap_retK, ap_fRetN, ap_fDrop, ap_dropK, ap_fAsg, ap_asgK, ap_asgK2, ap_gN, ap_gNil, ap_gCons, ap_gsK, ap_gUnp, ap_unpK, ap_gSub, ap_subK1, ap_subK2, ap_subK3, ap_fIx, ap_ixK, isDict_ref, isDict_tup, isDict_rl, isDict_str, isDictC_lst, isDictC_dk, isDictC_dt, getL_tup, getL_rl, getL_str, getL_ref, getLC_lst, retO_some, atI_0, atI_1, atI_2, atI_3, oSet_ref, setC_lst, setLK_some, ixN_0, ixN_1, ap_fCall, ap_callK, ap_fnF, ap_fnK_nx, ap_fnK_rt, o_add, o_addR, o_addC, o_addS, o_addT, o_sub, o_mul, o_mod, o_div, o_pow, o_neg, o_lt, o_le, o_gt, o_ge, o_int, o_min2, o_max2, o_leS1, o_inS1, o_isB, o_eq, o_ne, eqK_some, neK_some, eqv_int, eqv_bool, toP_int, toP_bl, toP_non, toP_str, toP_tup, toP_rl, toP_ref, toPC_lst, toP_mapM_nil, toP_mapM_cons, toP_consO, o_len, lenK_some, lenD_tup, lenD_rl, lenD_str, lenD_ref, lenC_lst, ap_fIsi, ap_isiK0, ap_isiK, ap_isiK2, ap_fTyIs, ap_tyK0, ap_tyK, ap_fFor, ap_forK_fix, ap_forK_live, loopX_nil, loopX_cons, ap_turnK0, ap_turnK_nx, ap_turnK_ct, ap_turnK_bk, ap_turnK_rt, ap_fRng1, ap_rng1K, ap_fIter, ap_iterK_rl, ap_iterK_tup, ap_iterK_ref, iterC_lst, ap_fIterS, ap_iterSK, ap_fComp, ap_compK_fix, ap_compK_live, compX_nil, compX_cons, ap_compTK, ap_compEK, ap_fYes, ap_fDict0, ap_fDictT0, ap_fSl, ap_slK1, ap_slK2, ap_pNo, ap_pSo, ap_pSoK, oSl_tup, oSl_str, ap_fBm, ap_bmK, tyIn_str, tyIn_ref, tyInC_lst, tyD_ref, R.bind_ok, R.bind_ex, R.bind_bad, R.nox_ok, nox_bad', List.map_cons, List.map_nil, List.length_cons, List.length_nil, List.cons_append, List.nil_append, Nat.zero_add, Nat.reduceAdd, Nat.reduceSub, List.replicate_succ, List.replicate_zero, List.getElem?_cons_zero, List.getElem?_cons_succ, List.set_cons_zero, List.set_cons_succ, List.append_nil, Bool.false_eq_true, if_true, if_false, decide_eq_true_eq, decide_true, decide_false, Nat.add_zero, reduceIte, reduceDIte, Nat.reduceLeDiff, Int.reduceLT, Int.reduceLE, Int.reduceNeg, Int.reducePow, Int.reduceMul, Int.reduceAdd, Int.reduceSub, Nat.reduceEqDiff, Nat.reducePow, true_and, and_true, or_true, true_or, false_or, or_false, and_self, Bool.not_true, Bool.not_false, Nat.reduceLT, ge_iff_le, gt_iff_lt, Nat.le_refl, Option.map_some, Bool.not_eq_true, Bool.not_eq_eq_eq_not, not_true_eq_false, not_false_eq_true, Int.reduceToNat, beq_iff_eq, Int.reduceEq, String.reduceEq, String.reduceNe, Int.reduceNe, List.set_set, get_app, get_app0, get_apps, get_apps0, set_app, set_app0, set_apps, set_apps0, List.append_assoc, Nat.add_assoc, List.toList_toArray, List.size_toArray, List.length_set, List.length_append]
theorem bls_az (xs : List Nat) : blsD (xs.map fun k => .bl (decide (97 ≤ k) && decide (k ≤ 122))) = some (xs.map fun k => decide (97 ≤ k) && decide (k ≤ 122)) := by
  induction xs with
  | nil => rfl
  | cons x xs ih =>
    show (blsD (xs.map fun k => .bl (decide (97 ≤ k) && decide (k ≤ 122)))).map _ = _
    rw [ih]
    rfl
theorem o_all {m : Nat} {S : Sto} {ds : List D} {bs : List Bool} (h : S[m]? = some (.lst ds)) (h1 : blsD ds = some bs) : oAll [.ref m] S = .ok (.bl (bs.all id)) S := by
  unfold oAll
  simp only [lstD, h, h1]
theorem sgn_az (z : Str) : (z.cps.toList.map fun c => decide (97 ≤ c) && decide (c ≤ 122)).all id = z.cps.toList.all fun c => decide (97 ≤ c) && decide (c ≤ 122) := by
  rw [List.all_map]; rfl
theorem name_str (c : CA) {S : Sto} {z : Str} (h : z.length ≤ 1000) : ∃ T, F_is_name c [.str z] S = .ok (.bl (nameB z)) (S ++ T) := by
  unfold F_is_name b_is_name
  have hz : z.length ≤ 100000 := by omega
  by_cases h1 : (1 : Int) ≤ z.length
  · have h1' : 1 ≤ z.length := by omega
    by_cases h2 : (z.length : Int) ≤ 12
    · have h2' : z.length ≤ 12 := by omega
      have ac := az_comp c z.cps.toList (some (.str z)) S [] (by rw [List.length_nil, ← strlen]; omega)
      refine ⟨[.lst (z.cps.toList.map fun k => .bl (decide (97 ≤ k) && decide (k ≤ 122)))], ?_⟩
      simp only [ap_fVar, varK_some, ap_fC, ap_fBin, ap_binK, ap_fUn, ap_fApp, ap_fNil, ap_fCons, ap_consK, ap_consK2, ap_fTup, ap_fLst, ap_tupK, ap_lstK, ap_fTest, ap_testK, ap_fVal, ap_valK, ap_fAnd, ap_fOr, ap_fNot, ap_andK, ap_orK, ap_notK, ap_fAndV, ap_fOrV, ap_fNotV, ap_andVK, ap_orVK, ap_notVK, ap_fIfE, ap_ifEK, ap_fChain, ap_chK1, ap_chK2, ap_chK3, ap_fSkip, ap_fBrk, ap_fCnt, ap_fSeq, ap_seqK_nx, ap_seqK_rt, ap_seqK_bk, ap_seqK_ct, ap_fIf, ap_ifK, ap_fRet, ap_retK, ap_fRetN, ap_fDrop, ap_dropK, ap_fAsg, ap_asgK, ap_asgK2, ap_gN, ap_gNil, ap_gCons, ap_gsK, ap_gUnp, ap_unpK, ap_gSub, ap_subK1, ap_subK2, ap_subK3, ap_fIx, ap_ixK, isDict_ref, isDict_tup, isDict_rl, isDict_str, isDictC_lst, isDictC_dk, isDictC_dt, getL_tup, getL_rl, getL_str, getL_ref, getLC_lst, retO_some, atI_0, atI_1, atI_2, atI_3, oSet_ref, setC_lst, setLK_some, ixN_0, ixN_1, ap_fCall, ap_callK, ap_fnF, ap_fnK_nx, ap_fnK_rt, o_add, o_addR, o_addC, o_addS, o_addT, o_sub, o_mul, o_mod, o_div, o_pow, o_neg, o_lt, o_le, o_gt, o_ge, o_int, o_min2, o_max2, o_leS1, o_inS1, o_isB, o_eq, o_ne, eqK_some, neK_some, eqv_int, eqv_bool, toP_int, toP_bl, toP_non, toP_str, toP_tup, toP_rl, toP_ref, toPC_lst, toP_mapM_nil, toP_mapM_cons, toP_consO, o_len, lenK_some, lenD_tup, lenD_rl, lenD_str, lenD_ref, lenC_lst, ap_fIsi, ap_isiK0, ap_isiK, ap_isiK2, ap_fTyIs, ap_tyK0, ap_tyK, ap_fFor, ap_forK_fix, ap_forK_live, loopX_nil, loopX_cons, ap_turnK0, ap_turnK_nx, ap_turnK_ct, ap_turnK_bk, ap_turnK_rt, ap_fRng1, ap_rng1K, ap_fIter, ap_iterK_rl, ap_iterK_tup, ap_iterK_ref, iterC_lst, ap_fIterS, ap_iterSK, ap_fComp, ap_compK_fix, ap_compK_live, compX_nil, compX_cons, ap_compTK, ap_compEK, ap_fYes, ap_fDict0, ap_fDictT0, ap_fSl, ap_slK1, ap_slK2, ap_pNo, ap_pSo, ap_pSoK, oSl_tup, oSl_str, ap_fBm, ap_bmK, tyIn_str, tyIn_ref, tyInC_lst, tyD_ref, R.bind_ok, R.bind_ex, R.bind_bad, R.nox_ok, nox_bad', List.map_cons, List.map_nil, List.length_cons, List.length_nil, List.cons_append, List.nil_append, Nat.zero_add, Nat.reduceAdd, Nat.reduceSub, List.replicate_succ, List.replicate_zero, List.getElem?_cons_zero, List.getElem?_cons_succ, List.set_cons_zero, List.set_cons_succ, List.append_nil, Bool.false_eq_true, if_true, if_false, decide_eq_true_eq, decide_true, decide_false, Nat.add_zero, reduceIte, reduceDIte, Nat.reduceLeDiff, Int.reduceLT, Int.reduceLE, Int.reduceNeg, Int.reducePow, Int.reduceMul, Int.reduceAdd, Int.reduceSub, Nat.reduceEqDiff, Nat.reducePow, true_and, and_true, or_true, true_or, false_or, or_false, and_self, Bool.not_true, Bool.not_false, Nat.reduceLT, ge_iff_le, gt_iff_lt, Nat.le_refl, Option.map_some, Bool.not_eq_true, Bool.not_eq_eq_eq_not, not_true_eq_false, not_false_eq_true, Int.reduceToNat, beq_iff_eq, Int.reduceEq, String.reduceEq, String.reduceNe, Int.reduceNe, List.set_set, get_app, get_app0, get_apps, get_apps0, set_app, set_app0, set_apps, set_apps0, List.append_assoc, Nat.add_assoc, List.toList_toArray, List.size_toArray, List.length_set, List.length_append, hz, tyD, h1, h2, sgnD, ac]
      rw [o_all get_app0 (bls_az _)]
      simp only [ap_fVar, varK_some, ap_fC, ap_fBin, ap_binK, ap_fUn, ap_fApp, ap_fNil, ap_fCons, ap_consK, ap_consK2, ap_fTup, ap_fLst, ap_tupK, ap_lstK, ap_fTest, ap_testK, ap_fVal, ap_valK, ap_fAnd, ap_fOr, ap_fNot, ap_andK, ap_orK, ap_notK, ap_fAndV, ap_fOrV, ap_fNotV, ap_andVK, ap_orVK, ap_notVK, ap_fIfE, ap_ifEK, ap_fChain, ap_chK1, ap_chK2, ap_chK3, ap_fSkip, ap_fBrk, ap_fCnt, ap_fSeq, ap_seqK_nx, ap_seqK_rt, ap_seqK_bk, ap_seqK_ct, ap_fIf, ap_ifK, ap_fRet, ap_retK, ap_fRetN, ap_fDrop, ap_dropK, ap_fAsg, ap_asgK, ap_asgK2, ap_gN, ap_gNil, ap_gCons, ap_gsK, ap_gUnp, ap_unpK, ap_gSub, ap_subK1, ap_subK2, ap_subK3, ap_fIx, ap_ixK, isDict_ref, isDict_tup, isDict_rl, isDict_str, isDictC_lst, isDictC_dk, isDictC_dt, getL_tup, getL_rl, getL_str, getL_ref, getLC_lst, retO_some, atI_0, atI_1, atI_2, atI_3, oSet_ref, setC_lst, setLK_some, ixN_0, ixN_1, ap_fCall, ap_callK, ap_fnF, ap_fnK_nx, ap_fnK_rt, o_add, o_addR, o_addC, o_addS, o_addT, o_sub, o_mul, o_mod, o_div, o_pow, o_neg, o_lt, o_le, o_gt, o_ge, o_int, o_min2, o_max2, o_leS1, o_inS1, o_isB, o_eq, o_ne, eqK_some, neK_some, eqv_int, eqv_bool, toP_int, toP_bl, toP_non, toP_str, toP_tup, toP_rl, toP_ref, toPC_lst, toP_mapM_nil, toP_mapM_cons, toP_consO, o_len, lenK_some, lenD_tup, lenD_rl, lenD_str, lenD_ref, lenC_lst, ap_fIsi, ap_isiK0, ap_isiK, ap_isiK2, ap_fTyIs, ap_tyK0, ap_tyK, ap_fFor, ap_forK_fix, ap_forK_live, loopX_nil, loopX_cons, ap_turnK0, ap_turnK_nx, ap_turnK_ct, ap_turnK_bk, ap_turnK_rt, ap_fRng1, ap_rng1K, ap_fIter, ap_iterK_rl, ap_iterK_tup, ap_iterK_ref, iterC_lst, ap_fIterS, ap_iterSK, ap_fComp, ap_compK_fix, ap_compK_live, compX_nil, compX_cons, ap_compTK, ap_compEK, ap_fYes, ap_fDict0, ap_fDictT0, ap_fSl, ap_slK1, ap_slK2, ap_pNo, ap_pSo, ap_pSoK, oSl_tup, oSl_str, ap_fBm, ap_bmK, tyIn_str, tyIn_ref, tyInC_lst, tyD_ref, R.bind_ok, R.bind_ex, R.bind_bad, R.nox_ok, nox_bad', List.map_cons, List.map_nil, List.length_cons, List.length_nil, List.cons_append, List.nil_append, Nat.zero_add, Nat.reduceAdd, Nat.reduceSub, List.replicate_succ, List.replicate_zero, List.getElem?_cons_zero, List.getElem?_cons_succ, List.set_cons_zero, List.set_cons_succ, List.append_nil, Bool.false_eq_true, if_true, if_false, decide_eq_true_eq, decide_true, decide_false, Nat.add_zero, reduceIte, reduceDIte, Nat.reduceLeDiff, Int.reduceLT, Int.reduceLE, Int.reduceNeg, Int.reducePow, Int.reduceMul, Int.reduceAdd, Int.reduceSub, Nat.reduceEqDiff, Nat.reducePow, true_and, and_true, or_true, true_or, false_or, or_false, and_self, Bool.not_true, Bool.not_false, Nat.reduceLT, ge_iff_le, gt_iff_lt, Nat.le_refl, Option.map_some, Bool.not_eq_true, Bool.not_eq_eq_eq_not, not_true_eq_false, not_false_eq_true, Int.reduceToNat, beq_iff_eq, Int.reduceEq, String.reduceEq, String.reduceNe, Int.reduceNe, List.set_set, get_app, get_app0, get_apps, get_apps0, set_app, set_app0, set_apps, set_apps0, List.append_assoc, Nat.add_assoc, List.toList_toArray, List.size_toArray, List.length_set, List.length_append, sgn_az, nameB, h1', h2', Bool.true_and]
    · have h2' : ¬ z.length ≤ 12 := by omega
      exact ⟨[], by simp only [ap_fVar, varK_some, ap_fC, ap_fBin, ap_binK, ap_fUn, ap_fApp, ap_fNil, ap_fCons, ap_consK, ap_consK2, ap_fTup, ap_fLst, ap_tupK, ap_lstK, ap_fTest, ap_testK, ap_fVal, ap_valK, ap_fAnd, ap_fOr, ap_fNot, ap_andK, ap_orK, ap_notK, ap_fAndV, ap_fOrV, ap_fNotV, ap_andVK, ap_orVK, ap_notVK, ap_fIfE, ap_ifEK, ap_fChain, ap_chK1, ap_chK2, ap_chK3, ap_fSkip, ap_fBrk, ap_fCnt, ap_fSeq, ap_seqK_nx, ap_seqK_rt, ap_seqK_bk, ap_seqK_ct, ap_fIf, ap_ifK, ap_fRet, ap_retK, ap_fRetN, ap_fDrop, ap_dropK, ap_fAsg, ap_asgK, ap_asgK2, ap_gN, ap_gNil, ap_gCons, ap_gsK, ap_gUnp, ap_unpK, ap_gSub, ap_subK1, ap_subK2, ap_subK3, ap_fIx, ap_ixK, isDict_ref, isDict_tup, isDict_rl, isDict_str, isDictC_lst, isDictC_dk, isDictC_dt, getL_tup, getL_rl, getL_str, getL_ref, getLC_lst, retO_some, atI_0, atI_1, atI_2, atI_3, oSet_ref, setC_lst, setLK_some, ixN_0, ixN_1, ap_fCall, ap_callK, ap_fnF, ap_fnK_nx, ap_fnK_rt, o_add, o_addR, o_addC, o_addS, o_addT, o_sub, o_mul, o_mod, o_div, o_pow, o_neg, o_lt, o_le, o_gt, o_ge, o_int, o_min2, o_max2, o_leS1, o_inS1, o_isB, o_eq, o_ne, eqK_some, neK_some, eqv_int, eqv_bool, toP_int, toP_bl, toP_non, toP_str, toP_tup, toP_rl, toP_ref, toPC_lst, toP_mapM_nil, toP_mapM_cons, toP_consO, o_len, lenK_some, lenD_tup, lenD_rl, lenD_str, lenD_ref, lenC_lst, ap_fIsi, ap_isiK0, ap_isiK, ap_isiK2, ap_fTyIs, ap_tyK0, ap_tyK, ap_fFor, ap_forK_fix, ap_forK_live, loopX_nil, loopX_cons, ap_turnK0, ap_turnK_nx, ap_turnK_ct, ap_turnK_bk, ap_turnK_rt, ap_fRng1, ap_rng1K, ap_fIter, ap_iterK_rl, ap_iterK_tup, ap_iterK_ref, iterC_lst, ap_fIterS, ap_iterSK, ap_fComp, ap_compK_fix, ap_compK_live, compX_nil, compX_cons, ap_compTK, ap_compEK, ap_fYes, ap_fDict0, ap_fDictT0, ap_fSl, ap_slK1, ap_slK2, ap_pNo, ap_pSo, ap_pSoK, oSl_tup, oSl_str, ap_fBm, ap_bmK, tyIn_str, tyIn_ref, tyInC_lst, tyD_ref, R.bind_ok, R.bind_ex, R.bind_bad, R.nox_ok, nox_bad', List.map_cons, List.map_nil, List.length_cons, List.length_nil, List.cons_append, List.nil_append, Nat.zero_add, Nat.reduceAdd, Nat.reduceSub, List.replicate_succ, List.replicate_zero, List.getElem?_cons_zero, List.getElem?_cons_succ, List.set_cons_zero, List.set_cons_succ, List.append_nil, Bool.false_eq_true, if_true, if_false, decide_eq_true_eq, decide_true, decide_false, Nat.add_zero, reduceIte, reduceDIte, Nat.reduceLeDiff, Int.reduceLT, Int.reduceLE, Int.reduceNeg, Int.reducePow, Int.reduceMul, Int.reduceAdd, Int.reduceSub, Nat.reduceEqDiff, Nat.reducePow, true_and, and_true, or_true, true_or, false_or, or_false, and_self, Bool.not_true, Bool.not_false, Nat.reduceLT, ge_iff_le, gt_iff_lt, Nat.le_refl, Option.map_some, Bool.not_eq_true, Bool.not_eq_eq_eq_not, not_true_eq_false, not_false_eq_true, Int.reduceToNat, beq_iff_eq, Int.reduceEq, String.reduceEq, String.reduceNe, Int.reduceNe, List.set_set, get_app, get_app0, get_apps, get_apps0, set_app, set_app0, set_apps, set_apps0, List.append_assoc, Nat.add_assoc, List.toList_toArray, List.size_toArray, List.length_set, List.length_append, hz, tyD, h1, h2, nameB, h2', Bool.and_false, Bool.false_and]⟩
  · have h1' : ¬ 1 ≤ z.length := by omega
    exact ⟨[], by simp only [ap_fVar, varK_some, ap_fC, ap_fBin, ap_binK, ap_fUn, ap_fApp, ap_fNil, ap_fCons, ap_consK, ap_consK2, ap_fTup, ap_fLst, ap_tupK, ap_lstK, ap_fTest, ap_testK, ap_fVal, ap_valK, ap_fAnd, ap_fOr, ap_fNot, ap_andK, ap_orK, ap_notK, ap_fAndV, ap_fOrV, ap_fNotV, ap_andVK, ap_orVK, ap_notVK, ap_fIfE, ap_ifEK, ap_fChain, ap_chK1, ap_chK2, ap_chK3, ap_fSkip, ap_fBrk, ap_fCnt, ap_fSeq, ap_seqK_nx, ap_seqK_rt, ap_seqK_bk, ap_seqK_ct, ap_fIf, ap_ifK, ap_fRet, ap_retK, ap_fRetN, ap_fDrop, ap_dropK, ap_fAsg, ap_asgK, ap_asgK2, ap_gN, ap_gNil, ap_gCons, ap_gsK, ap_gUnp, ap_unpK, ap_gSub, ap_subK1, ap_subK2, ap_subK3, ap_fIx, ap_ixK, isDict_ref, isDict_tup, isDict_rl, isDict_str, isDictC_lst, isDictC_dk, isDictC_dt, getL_tup, getL_rl, getL_str, getL_ref, getLC_lst, retO_some, atI_0, atI_1, atI_2, atI_3, oSet_ref, setC_lst, setLK_some, ixN_0, ixN_1, ap_fCall, ap_callK, ap_fnF, ap_fnK_nx, ap_fnK_rt, o_add, o_addR, o_addC, o_addS, o_addT, o_sub, o_mul, o_mod, o_div, o_pow, o_neg, o_lt, o_le, o_gt, o_ge, o_int, o_min2, o_max2, o_leS1, o_inS1, o_isB, o_eq, o_ne, eqK_some, neK_some, eqv_int, eqv_bool, toP_int, toP_bl, toP_non, toP_str, toP_tup, toP_rl, toP_ref, toPC_lst, toP_mapM_nil, toP_mapM_cons, toP_consO, o_len, lenK_some, lenD_tup, lenD_rl, lenD_str, lenD_ref, lenC_lst, ap_fIsi, ap_isiK0, ap_isiK, ap_isiK2, ap_fTyIs, ap_tyK0, ap_tyK, ap_fFor, ap_forK_fix, ap_forK_live, loopX_nil, loopX_cons, ap_turnK0, ap_turnK_nx, ap_turnK_ct, ap_turnK_bk, ap_turnK_rt, ap_fRng1, ap_rng1K, ap_fIter, ap_iterK_rl, ap_iterK_tup, ap_iterK_ref, iterC_lst, ap_fIterS, ap_iterSK, ap_fComp, ap_compK_fix, ap_compK_live, compX_nil, compX_cons, ap_compTK, ap_compEK, ap_fYes, ap_fDict0, ap_fDictT0, ap_fSl, ap_slK1, ap_slK2, ap_pNo, ap_pSo, ap_pSoK, oSl_tup, oSl_str, ap_fBm, ap_bmK, tyIn_str, tyIn_ref, tyInC_lst, tyD_ref, R.bind_ok, R.bind_ex, R.bind_bad, R.nox_ok, nox_bad', List.map_cons, List.map_nil, List.length_cons, List.length_nil, List.cons_append, List.nil_append, Nat.zero_add, Nat.reduceAdd, Nat.reduceSub, List.replicate_succ, List.replicate_zero, List.getElem?_cons_zero, List.getElem?_cons_succ, List.set_cons_zero, List.set_cons_succ, List.append_nil, Bool.false_eq_true, if_true, if_false, decide_eq_true_eq, decide_true, decide_false, Nat.add_zero, reduceIte, reduceDIte, Nat.reduceLeDiff, Int.reduceLT, Int.reduceLE, Int.reduceNeg, Int.reducePow, Int.reduceMul, Int.reduceAdd, Int.reduceSub, Nat.reduceEqDiff, Nat.reducePow, true_and, and_true, or_true, true_or, false_or, or_false, and_self, Bool.not_true, Bool.not_false, Nat.reduceLT, ge_iff_le, gt_iff_lt, Nat.le_refl, Option.map_some, Bool.not_eq_true, Bool.not_eq_eq_eq_not, not_true_eq_false, not_false_eq_true, Int.reduceToNat, beq_iff_eq, Int.reduceEq, String.reduceEq, String.reduceNe, Int.reduceNe, List.set_set, get_app, get_app0, get_apps, get_apps0, set_app, set_app0, set_apps, set_apps0, List.append_assoc, Nat.add_assoc, List.toList_toArray, List.size_toArray, List.length_set, List.length_append, hz, tyD, h1, nameB, h1', Bool.false_and]⟩
theorem name_no (c : CA) {S : Sto} {d : D} {t : String} (h : tyD S d = some t) (h2 : ∀ z, d ≠ .str z) : F_is_name c [d] S = .ok (.bl false) S := by
  unfold F_is_name b_is_name
  rcases ty_ways h with ⟨i, rfl, rfl⟩ | ⟨k, rfl, rfl⟩ | ⟨z, rfl, rfl⟩ | ⟨_, _, _, ht⟩
  · simp only [ap_fVar, varK_some, ap_fC, ap_fBin, ap_binK, ap_fUn, ap_fApp, ap_fNil, ap_fCons, ap_consK, ap_consK2, ap_fTup, ap_fLst, ap_tupK, ap_lstK, ap_fTest, ap_testK, ap_fVal, ap_valK, ap_fAnd, ap_fOr, ap_fNot, ap_andK, ap_orK, ap_notK, ap_fAndV, ap_fOrV, ap_fNotV, ap_andVK, ap_orVK, ap_notVK, ap_fIfE, ap_ifEK, ap_fChain, ap_chK1, ap_chK2, ap_chK3, ap_fSkip, ap_fBrk, ap_fCnt, ap_fSeq, ap_seqK_nx, ap_seqK_rt, ap_seqK_bk, ap_seqK_ct, ap_fIf, ap_ifK, ap_fRet, ap_retK, ap_fRetN, ap_fDrop, ap_dropK, ap_fAsg, ap_asgK, ap_asgK2, ap_gN, ap_gNil, ap_gCons, ap_gsK, ap_gUnp, ap_unpK, ap_gSub, ap_subK1, ap_subK2, ap_subK3, ap_fIx, ap_ixK, isDict_ref, isDict_tup, isDict_rl, isDict_str, isDictC_lst, isDictC_dk, isDictC_dt, getL_tup, getL_rl, getL_str, getL_ref, getLC_lst, retO_some, atI_0, atI_1, atI_2, atI_3, oSet_ref, setC_lst, setLK_some, ixN_0, ixN_1, ap_fCall, ap_callK, ap_fnF, ap_fnK_nx, ap_fnK_rt, o_add, o_addR, o_addC, o_addS, o_addT, o_sub, o_mul, o_mod, o_div, o_pow, o_neg, o_lt, o_le, o_gt, o_ge, o_int, o_min2, o_max2, o_leS1, o_inS1, o_isB, o_eq, o_ne, eqK_some, neK_some, eqv_int, eqv_bool, toP_int, toP_bl, toP_non, toP_str, toP_tup, toP_rl, toP_ref, toPC_lst, toP_mapM_nil, toP_mapM_cons, toP_consO, o_len, lenK_some, lenD_tup, lenD_rl, lenD_str, lenD_ref, lenC_lst, ap_fIsi, ap_isiK0, ap_isiK, ap_isiK2, ap_fTyIs, ap_tyK0, ap_tyK, ap_fFor, ap_forK_fix, ap_forK_live, loopX_nil, loopX_cons, ap_turnK0, ap_turnK_nx, ap_turnK_ct, ap_turnK_bk, ap_turnK_rt, ap_fRng1, ap_rng1K, ap_fIter, ap_iterK_rl, ap_iterK_tup, ap_iterK_ref, iterC_lst, ap_fIterS, ap_iterSK, ap_fComp, ap_compK_fix, ap_compK_live, compX_nil, compX_cons, ap_compTK, ap_compEK, ap_fYes, ap_fDict0, ap_fDictT0, ap_fSl, ap_slK1, ap_slK2, ap_pNo, ap_pSo, ap_pSoK, oSl_tup, oSl_str, ap_fBm, ap_bmK, tyIn_str, tyIn_ref, tyInC_lst, tyD_ref, R.bind_ok, R.bind_ex, R.bind_bad, R.nox_ok, nox_bad', List.map_cons, List.map_nil, List.length_cons, List.length_nil, List.cons_append, List.nil_append, Nat.zero_add, Nat.reduceAdd, Nat.reduceSub, List.replicate_succ, List.replicate_zero, List.getElem?_cons_zero, List.getElem?_cons_succ, List.set_cons_zero, List.set_cons_succ, List.append_nil, Bool.false_eq_true, if_true, if_false, decide_eq_true_eq, decide_true, decide_false, Nat.add_zero, reduceIte, reduceDIte, Nat.reduceLeDiff, Int.reduceLT, Int.reduceLE, Int.reduceNeg, Int.reducePow, Int.reduceMul, Int.reduceAdd, Int.reduceSub, Nat.reduceEqDiff, Nat.reducePow, true_and, and_true, or_true, true_or, false_or, or_false, and_self, Bool.not_true, Bool.not_false, Nat.reduceLT, ge_iff_le, gt_iff_lt, Nat.le_refl, Option.map_some, Bool.not_eq_true, Bool.not_eq_eq_eq_not, not_true_eq_false, not_false_eq_true, Int.reduceToNat, beq_iff_eq, Int.reduceEq, String.reduceEq, String.reduceNe, Int.reduceNe, List.set_set, get_app, get_app0, get_apps, get_apps0, set_app, set_app0, set_apps, set_apps0, List.append_assoc, Nat.add_assoc, List.toList_toArray, List.size_toArray, List.length_set, List.length_append, h]
  · simp only [ap_fVar, varK_some, ap_fC, ap_fBin, ap_binK, ap_fUn, ap_fApp, ap_fNil, ap_fCons, ap_consK, ap_consK2, ap_fTup, ap_fLst, ap_tupK, ap_lstK, ap_fTest, ap_testK, ap_fVal, ap_valK, ap_fAnd, ap_fOr, ap_fNot, ap_andK, ap_orK, ap_notK, ap_fAndV, ap_fOrV, ap_fNotV, ap_andVK, ap_orVK, ap_notVK, ap_fIfE, ap_ifEK, ap_fChain, ap_chK1, ap_chK2, ap_chK3, ap_fSkip, ap_fBrk, ap_fCnt, ap_fSeq, ap_seqK_nx, ap_seqK_rt, ap_seqK_bk, ap_seqK_ct, ap_fIf, ap_ifK, ap_fRet, ap_retK, ap_fRetN, ap_fDrop, ap_dropK, ap_fAsg, ap_asgK, ap_asgK2, ap_gN, ap_gNil, ap_gCons, ap_gsK, ap_gUnp, ap_unpK, ap_gSub, ap_subK1, ap_subK2, ap_subK3, ap_fIx, ap_ixK, isDict_ref, isDict_tup, isDict_rl, isDict_str, isDictC_lst, isDictC_dk, isDictC_dt, getL_tup, getL_rl, getL_str, getL_ref, getLC_lst, retO_some, atI_0, atI_1, atI_2, atI_3, oSet_ref, setC_lst, setLK_some, ixN_0, ixN_1, ap_fCall, ap_callK, ap_fnF, ap_fnK_nx, ap_fnK_rt, o_add, o_addR, o_addC, o_addS, o_addT, o_sub, o_mul, o_mod, o_div, o_pow, o_neg, o_lt, o_le, o_gt, o_ge, o_int, o_min2, o_max2, o_leS1, o_inS1, o_isB, o_eq, o_ne, eqK_some, neK_some, eqv_int, eqv_bool, toP_int, toP_bl, toP_non, toP_str, toP_tup, toP_rl, toP_ref, toPC_lst, toP_mapM_nil, toP_mapM_cons, toP_consO, o_len, lenK_some, lenD_tup, lenD_rl, lenD_str, lenD_ref, lenC_lst, ap_fIsi, ap_isiK0, ap_isiK, ap_isiK2, ap_fTyIs, ap_tyK0, ap_tyK, ap_fFor, ap_forK_fix, ap_forK_live, loopX_nil, loopX_cons, ap_turnK0, ap_turnK_nx, ap_turnK_ct, ap_turnK_bk, ap_turnK_rt, ap_fRng1, ap_rng1K, ap_fIter, ap_iterK_rl, ap_iterK_tup, ap_iterK_ref, iterC_lst, ap_fIterS, ap_iterSK, ap_fComp, ap_compK_fix, ap_compK_live, compX_nil, compX_cons, ap_compTK, ap_compEK, ap_fYes, ap_fDict0, ap_fDictT0, ap_fSl, ap_slK1, ap_slK2, ap_pNo, ap_pSo, ap_pSoK, oSl_tup, oSl_str, ap_fBm, ap_bmK, tyIn_str, tyIn_ref, tyInC_lst, tyD_ref, R.bind_ok, R.bind_ex, R.bind_bad, R.nox_ok, nox_bad', List.map_cons, List.map_nil, List.length_cons, List.length_nil, List.cons_append, List.nil_append, Nat.zero_add, Nat.reduceAdd, Nat.reduceSub, List.replicate_succ, List.replicate_zero, List.getElem?_cons_zero, List.getElem?_cons_succ, List.set_cons_zero, List.set_cons_succ, List.append_nil, Bool.false_eq_true, if_true, if_false, decide_eq_true_eq, decide_true, decide_false, Nat.add_zero, reduceIte, reduceDIte, Nat.reduceLeDiff, Int.reduceLT, Int.reduceLE, Int.reduceNeg, Int.reducePow, Int.reduceMul, Int.reduceAdd, Int.reduceSub, Nat.reduceEqDiff, Nat.reducePow, true_and, and_true, or_true, true_or, false_or, or_false, and_self, Bool.not_true, Bool.not_false, Nat.reduceLT, ge_iff_le, gt_iff_lt, Nat.le_refl, Option.map_some, Bool.not_eq_true, Bool.not_eq_eq_eq_not, not_true_eq_false, not_false_eq_true, Int.reduceToNat, beq_iff_eq, Int.reduceEq, String.reduceEq, String.reduceNe, Int.reduceNe, List.set_set, get_app, get_app0, get_apps, get_apps0, set_app, set_app0, set_apps, set_apps0, List.append_assoc, Nat.add_assoc, List.toList_toArray, List.size_toArray, List.length_set, List.length_append, h]
  · exact absurd rfl (h2 z)
  · rcases ht with rfl | rfl | rfl | rfl
    all_goals simp only [ap_fVar, varK_some, ap_fC, ap_fBin, ap_binK, ap_fUn, ap_fApp, ap_fNil, ap_fCons, ap_consK, ap_consK2, ap_fTup, ap_fLst, ap_tupK, ap_lstK, ap_fTest, ap_testK, ap_fVal, ap_valK, ap_fAnd, ap_fOr, ap_fNot, ap_andK, ap_orK, ap_notK, ap_fAndV, ap_fOrV, ap_fNotV, ap_andVK, ap_orVK, ap_notVK, ap_fIfE, ap_ifEK, ap_fChain, ap_chK1, ap_chK2, ap_chK3, ap_fSkip, ap_fBrk, ap_fCnt, ap_fSeq, ap_seqK_nx, ap_seqK_rt, ap_seqK_bk, ap_seqK_ct, ap_fIf, ap_ifK, ap_fRet, ap_retK, ap_fRetN, ap_fDrop, ap_dropK, ap_fAsg, ap_asgK, ap_asgK2, ap_gN, ap_gNil, ap_gCons, ap_gsK, ap_gUnp, ap_unpK, ap_gSub, ap_subK1, ap_subK2, ap_subK3, ap_fIx, ap_ixK, isDict_ref, isDict_tup, isDict_rl, isDict_str, isDictC_lst, isDictC_dk, isDictC_dt, getL_tup, getL_rl, getL_str, getL_ref, getLC_lst, retO_some, atI_0, atI_1, atI_2, atI_3, oSet_ref, setC_lst, setLK_some, ixN_0, ixN_1, ap_fCall, ap_callK, ap_fnF, ap_fnK_nx, ap_fnK_rt, o_add, o_addR, o_addC, o_addS, o_addT, o_sub, o_mul, o_mod, o_div, o_pow, o_neg, o_lt, o_le, o_gt, o_ge, o_int, o_min2, o_max2, o_leS1, o_inS1, o_isB, o_eq, o_ne, eqK_some, neK_some, eqv_int, eqv_bool, toP_int, toP_bl, toP_non, toP_str, toP_tup, toP_rl, toP_ref, toPC_lst, toP_mapM_nil, toP_mapM_cons, toP_consO, o_len, lenK_some, lenD_tup, lenD_rl, lenD_str, lenD_ref, lenC_lst, ap_fIsi, ap_isiK0, ap_isiK, ap_isiK2, ap_fTyIs, ap_tyK0, ap_tyK, ap_fFor, ap_forK_fix, ap_forK_live, loopX_nil, loopX_cons, ap_turnK0, ap_turnK_nx, ap_turnK_ct, ap_turnK_bk, ap_turnK_rt, ap_fRng1, ap_rng1K, ap_fIter, ap_iterK_rl, ap_iterK_tup, ap_iterK_ref, iterC_lst, ap_fIterS, ap_iterSK, ap_fComp, ap_compK_fix, ap_compK_live, compX_nil, compX_cons, ap_compTK, ap_compEK, ap_fYes, ap_fDict0, ap_fDictT0, ap_fSl, ap_slK1, ap_slK2, ap_pNo, ap_pSo, ap_pSoK, oSl_tup, oSl_str, ap_fBm, ap_bmK, tyIn_str, tyIn_ref, tyInC_lst, tyD_ref, R.bind_ok, R.bind_ex, R.bind_bad, R.nox_ok, nox_bad', List.map_cons, List.map_nil, List.length_cons, List.length_nil, List.cons_append, List.nil_append, Nat.zero_add, Nat.reduceAdd, Nat.reduceSub, List.replicate_succ, List.replicate_zero, List.getElem?_cons_zero, List.getElem?_cons_succ, List.set_cons_zero, List.set_cons_succ, List.append_nil, Bool.false_eq_true, if_true, if_false, decide_eq_true_eq, decide_true, decide_false, Nat.add_zero, reduceIte, reduceDIte, Nat.reduceLeDiff, Int.reduceLT, Int.reduceLE, Int.reduceNeg, Int.reducePow, Int.reduceMul, Int.reduceAdd, Int.reduceSub, Nat.reduceEqDiff, Nat.reducePow, true_and, and_true, or_true, true_or, false_or, or_false, and_self, Bool.not_true, Bool.not_false, Nat.reduceLT, ge_iff_le, gt_iff_lt, Nat.le_refl, Option.map_some, Bool.not_eq_true, Bool.not_eq_eq_eq_not, not_true_eq_false, not_false_eq_true, Int.reduceToNat, beq_iff_eq, Int.reduceEq, String.reduceEq, String.reduceNe, Int.reduceNe, List.set_set, get_app, get_app0, get_apps, get_apps0, set_app, set_app0, set_apps, set_apps0, List.append_assoc, Nat.add_assoc, List.toList_toArray, List.size_toArray, List.length_set, List.length_append, h]
theorem lname_no (c : CA) {S : Sto} {d : D} {t : String} (h : tyD S d = some t) (h2 : ∀ z, d ≠ .str z) : F_law_is_name c [d] S = .ok (.bl false) S := by
  unfold F_law_is_name b_law_is_name
  rcases ty_ways h with ⟨i, rfl, rfl⟩ | ⟨k, rfl, rfl⟩ | ⟨z, rfl, rfl⟩ | ⟨_, _, _, ht⟩
  · simp only [ap_fVar, varK_some, ap_fC, ap_fBin, ap_binK, ap_fUn, ap_fApp, ap_fNil, ap_fCons, ap_consK, ap_consK2, ap_fTup, ap_fLst, ap_tupK, ap_lstK, ap_fTest, ap_testK, ap_fVal, ap_valK, ap_fAnd, ap_fOr, ap_fNot, ap_andK, ap_orK, ap_notK, ap_fAndV, ap_fOrV, ap_fNotV, ap_andVK, ap_orVK, ap_notVK, ap_fIfE, ap_ifEK, ap_fChain, ap_chK1, ap_chK2, ap_chK3, ap_fSkip, ap_fBrk, ap_fCnt, ap_fSeq, ap_seqK_nx, ap_seqK_rt, ap_seqK_bk, ap_seqK_ct, ap_fIf, ap_ifK, ap_fRet, ap_retK, ap_fRetN, ap_fDrop, ap_dropK, ap_fAsg, ap_asgK, ap_asgK2, ap_gN, ap_gNil, ap_gCons, ap_gsK, ap_gUnp, ap_unpK, ap_gSub, ap_subK1, ap_subK2, ap_subK3, ap_fIx, ap_ixK, isDict_ref, isDict_tup, isDict_rl, isDict_str, isDictC_lst, isDictC_dk, isDictC_dt, getL_tup, getL_rl, getL_str, getL_ref, getLC_lst, retO_some, atI_0, atI_1, atI_2, atI_3, oSet_ref, setC_lst, setLK_some, ixN_0, ixN_1, ap_fCall, ap_callK, ap_fnF, ap_fnK_nx, ap_fnK_rt, o_add, o_addR, o_addC, o_addS, o_addT, o_sub, o_mul, o_mod, o_div, o_pow, o_neg, o_lt, o_le, o_gt, o_ge, o_int, o_min2, o_max2, o_leS1, o_inS1, o_isB, o_eq, o_ne, eqK_some, neK_some, eqv_int, eqv_bool, toP_int, toP_bl, toP_non, toP_str, toP_tup, toP_rl, toP_ref, toPC_lst, toP_mapM_nil, toP_mapM_cons, toP_consO, o_len, lenK_some, lenD_tup, lenD_rl, lenD_str, lenD_ref, lenC_lst, ap_fIsi, ap_isiK0, ap_isiK, ap_isiK2, ap_fTyIs, ap_tyK0, ap_tyK, ap_fFor, ap_forK_fix, ap_forK_live, loopX_nil, loopX_cons, ap_turnK0, ap_turnK_nx, ap_turnK_ct, ap_turnK_bk, ap_turnK_rt, ap_fRng1, ap_rng1K, ap_fIter, ap_iterK_rl, ap_iterK_tup, ap_iterK_ref, iterC_lst, ap_fIterS, ap_iterSK, ap_fComp, ap_compK_fix, ap_compK_live, compX_nil, compX_cons, ap_compTK, ap_compEK, ap_fYes, ap_fDict0, ap_fDictT0, ap_fSl, ap_slK1, ap_slK2, ap_pNo, ap_pSo, ap_pSoK, oSl_tup, oSl_str, ap_fBm, ap_bmK, tyIn_str, tyIn_ref, tyInC_lst, tyD_ref, R.bind_ok, R.bind_ex, R.bind_bad, R.nox_ok, nox_bad', List.map_cons, List.map_nil, List.length_cons, List.length_nil, List.cons_append, List.nil_append, Nat.zero_add, Nat.reduceAdd, Nat.reduceSub, List.replicate_succ, List.replicate_zero, List.getElem?_cons_zero, List.getElem?_cons_succ, List.set_cons_zero, List.set_cons_succ, List.append_nil, Bool.false_eq_true, if_true, if_false, decide_eq_true_eq, decide_true, decide_false, Nat.add_zero, reduceIte, reduceDIte, Nat.reduceLeDiff, Int.reduceLT, Int.reduceLE, Int.reduceNeg, Int.reducePow, Int.reduceMul, Int.reduceAdd, Int.reduceSub, Nat.reduceEqDiff, Nat.reducePow, true_and, and_true, or_true, true_or, false_or, or_false, and_self, Bool.not_true, Bool.not_false, Nat.reduceLT, ge_iff_le, gt_iff_lt, Nat.le_refl, Option.map_some, Bool.not_eq_true, Bool.not_eq_eq_eq_not, not_true_eq_false, not_false_eq_true, Int.reduceToNat, beq_iff_eq, Int.reduceEq, String.reduceEq, String.reduceNe, Int.reduceNe, List.set_set, get_app, get_app0, get_apps, get_apps0, set_app, set_app0, set_apps, set_apps0, List.append_assoc, Nat.add_assoc, List.toList_toArray, List.size_toArray, List.length_set, List.length_append, h, isiD]
  · simp only [ap_fVar, varK_some, ap_fC, ap_fBin, ap_binK, ap_fUn, ap_fApp, ap_fNil, ap_fCons, ap_consK, ap_consK2, ap_fTup, ap_fLst, ap_tupK, ap_lstK, ap_fTest, ap_testK, ap_fVal, ap_valK, ap_fAnd, ap_fOr, ap_fNot, ap_andK, ap_orK, ap_notK, ap_fAndV, ap_fOrV, ap_fNotV, ap_andVK, ap_orVK, ap_notVK, ap_fIfE, ap_ifEK, ap_fChain, ap_chK1, ap_chK2, ap_chK3, ap_fSkip, ap_fBrk, ap_fCnt, ap_fSeq, ap_seqK_nx, ap_seqK_rt, ap_seqK_bk, ap_seqK_ct, ap_fIf, ap_ifK, ap_fRet, ap_retK, ap_fRetN, ap_fDrop, ap_dropK, ap_fAsg, ap_asgK, ap_asgK2, ap_gN, ap_gNil, ap_gCons, ap_gsK, ap_gUnp, ap_unpK, ap_gSub, ap_subK1, ap_subK2, ap_subK3, ap_fIx, ap_ixK, isDict_ref, isDict_tup, isDict_rl, isDict_str, isDictC_lst, isDictC_dk, isDictC_dt, getL_tup, getL_rl, getL_str, getL_ref, getLC_lst, retO_some, atI_0, atI_1, atI_2, atI_3, oSet_ref, setC_lst, setLK_some, ixN_0, ixN_1, ap_fCall, ap_callK, ap_fnF, ap_fnK_nx, ap_fnK_rt, o_add, o_addR, o_addC, o_addS, o_addT, o_sub, o_mul, o_mod, o_div, o_pow, o_neg, o_lt, o_le, o_gt, o_ge, o_int, o_min2, o_max2, o_leS1, o_inS1, o_isB, o_eq, o_ne, eqK_some, neK_some, eqv_int, eqv_bool, toP_int, toP_bl, toP_non, toP_str, toP_tup, toP_rl, toP_ref, toPC_lst, toP_mapM_nil, toP_mapM_cons, toP_consO, o_len, lenK_some, lenD_tup, lenD_rl, lenD_str, lenD_ref, lenC_lst, ap_fIsi, ap_isiK0, ap_isiK, ap_isiK2, ap_fTyIs, ap_tyK0, ap_tyK, ap_fFor, ap_forK_fix, ap_forK_live, loopX_nil, loopX_cons, ap_turnK0, ap_turnK_nx, ap_turnK_ct, ap_turnK_bk, ap_turnK_rt, ap_fRng1, ap_rng1K, ap_fIter, ap_iterK_rl, ap_iterK_tup, ap_iterK_ref, iterC_lst, ap_fIterS, ap_iterSK, ap_fComp, ap_compK_fix, ap_compK_live, compX_nil, compX_cons, ap_compTK, ap_compEK, ap_fYes, ap_fDict0, ap_fDictT0, ap_fSl, ap_slK1, ap_slK2, ap_pNo, ap_pSo, ap_pSoK, oSl_tup, oSl_str, ap_fBm, ap_bmK, tyIn_str, tyIn_ref, tyInC_lst, tyD_ref, R.bind_ok, R.bind_ex, R.bind_bad, R.nox_ok, nox_bad', List.map_cons, List.map_nil, List.length_cons, List.length_nil, List.cons_append, List.nil_append, Nat.zero_add, Nat.reduceAdd, Nat.reduceSub, List.replicate_succ, List.replicate_zero, List.getElem?_cons_zero, List.getElem?_cons_succ, List.set_cons_zero, List.set_cons_succ, List.append_nil, Bool.false_eq_true, if_true, if_false, decide_eq_true_eq, decide_true, decide_false, Nat.add_zero, reduceIte, reduceDIte, Nat.reduceLeDiff, Int.reduceLT, Int.reduceLE, Int.reduceNeg, Int.reducePow, Int.reduceMul, Int.reduceAdd, Int.reduceSub, Nat.reduceEqDiff, Nat.reducePow, true_and, and_true, or_true, true_or, false_or, or_false, and_self, Bool.not_true, Bool.not_false, Nat.reduceLT, ge_iff_le, gt_iff_lt, Nat.le_refl, Option.map_some, Bool.not_eq_true, Bool.not_eq_eq_eq_not, not_true_eq_false, not_false_eq_true, Int.reduceToNat, beq_iff_eq, Int.reduceEq, String.reduceEq, String.reduceNe, Int.reduceNe, List.set_set, get_app, get_app0, get_apps, get_apps0, set_app, set_app0, set_apps, set_apps0, List.append_assoc, Nat.add_assoc, List.toList_toArray, List.size_toArray, List.length_set, List.length_append, h, isiD]
  · exact absurd rfl (h2 z)
  · rcases ht with rfl | rfl | rfl | rfl
    all_goals simp only [ap_fVar, varK_some, ap_fC, ap_fBin, ap_binK, ap_fUn, ap_fApp, ap_fNil, ap_fCons, ap_consK, ap_consK2, ap_fTup, ap_fLst, ap_tupK, ap_lstK, ap_fTest, ap_testK, ap_fVal, ap_valK, ap_fAnd, ap_fOr, ap_fNot, ap_andK, ap_orK, ap_notK, ap_fAndV, ap_fOrV, ap_fNotV, ap_andVK, ap_orVK, ap_notVK, ap_fIfE, ap_ifEK, ap_fChain, ap_chK1, ap_chK2, ap_chK3, ap_fSkip, ap_fBrk, ap_fCnt, ap_fSeq, ap_seqK_nx, ap_seqK_rt, ap_seqK_bk, ap_seqK_ct, ap_fIf, ap_ifK, ap_fRet, ap_retK, ap_fRetN, ap_fDrop, ap_dropK, ap_fAsg, ap_asgK, ap_asgK2, ap_gN, ap_gNil, ap_gCons, ap_gsK, ap_gUnp, ap_unpK, ap_gSub, ap_subK1, ap_subK2, ap_subK3, ap_fIx, ap_ixK, isDict_ref, isDict_tup, isDict_rl, isDict_str, isDictC_lst, isDictC_dk, isDictC_dt, getL_tup, getL_rl, getL_str, getL_ref, getLC_lst, retO_some, atI_0, atI_1, atI_2, atI_3, oSet_ref, setC_lst, setLK_some, ixN_0, ixN_1, ap_fCall, ap_callK, ap_fnF, ap_fnK_nx, ap_fnK_rt, o_add, o_addR, o_addC, o_addS, o_addT, o_sub, o_mul, o_mod, o_div, o_pow, o_neg, o_lt, o_le, o_gt, o_ge, o_int, o_min2, o_max2, o_leS1, o_inS1, o_isB, o_eq, o_ne, eqK_some, neK_some, eqv_int, eqv_bool, toP_int, toP_bl, toP_non, toP_str, toP_tup, toP_rl, toP_ref, toPC_lst, toP_mapM_nil, toP_mapM_cons, toP_consO, o_len, lenK_some, lenD_tup, lenD_rl, lenD_str, lenD_ref, lenC_lst, ap_fIsi, ap_isiK0, ap_isiK, ap_isiK2, ap_fTyIs, ap_tyK0, ap_tyK, ap_fFor, ap_forK_fix, ap_forK_live, loopX_nil, loopX_cons, ap_turnK0, ap_turnK_nx, ap_turnK_ct, ap_turnK_bk, ap_turnK_rt, ap_fRng1, ap_rng1K, ap_fIter, ap_iterK_rl, ap_iterK_tup, ap_iterK_ref, iterC_lst, ap_fIterS, ap_iterSK, ap_fComp, ap_compK_fix, ap_compK_live, compX_nil, compX_cons, ap_compTK, ap_compEK, ap_fYes, ap_fDict0, ap_fDictT0, ap_fSl, ap_slK1, ap_slK2, ap_pNo, ap_pSo, ap_pSoK, oSl_tup, oSl_str, ap_fBm, ap_bmK, tyIn_str, tyIn_ref, tyInC_lst, tyD_ref, R.bind_ok, R.bind_ex, R.bind_bad, R.nox_ok, nox_bad', List.map_cons, List.map_nil, List.length_cons, List.length_nil, List.cons_append, List.nil_append, Nat.zero_add, Nat.reduceAdd, Nat.reduceSub, List.replicate_succ, List.replicate_zero, List.getElem?_cons_zero, List.getElem?_cons_succ, List.set_cons_zero, List.set_cons_succ, List.append_nil, Bool.false_eq_true, if_true, if_false, decide_eq_true_eq, decide_true, decide_false, Nat.add_zero, reduceIte, reduceDIte, Nat.reduceLeDiff, Int.reduceLT, Int.reduceLE, Int.reduceNeg, Int.reducePow, Int.reduceMul, Int.reduceAdd, Int.reduceSub, Nat.reduceEqDiff, Nat.reducePow, true_and, and_true, or_true, true_or, false_or, or_false, and_self, Bool.not_true, Bool.not_false, Nat.reduceLT, ge_iff_le, gt_iff_lt, Nat.le_refl, Option.map_some, Bool.not_eq_true, Bool.not_eq_eq_eq_not, not_true_eq_false, not_false_eq_true, Int.reduceToNat, beq_iff_eq, Int.reduceEq, String.reduceEq, String.reduceNe, Int.reduceNe, List.set_set, get_app, get_app0, get_apps, get_apps0, set_app, set_app0, set_apps, set_apps0, List.append_assoc, Nat.add_assoc, List.toList_toArray, List.size_toArray, List.length_set, List.length_append, h, isiD]
theorem na_comp (c : CA) (xs : List Nat) (v0 : Option D) : ∀ (S : Sto) (acc : List D), acc.length + xs.length ≤ 2000 →
    compX 1 (ct_law_is_name_0 c) (ce_law_is_name_0 c) [v0, none] (xs.map fun k => .str ⟨#[k]⟩) acc S
      = .ok (.ref S.length) (S ++ [.lst (acc ++ ((xs.filter fun k => !decide (k ∈ letS.cps.toList)).map fun k => .str (oneS k)))]) := by
  induction xs with
  | nil => intro S acc h; simp only [ap_fVar, varK_some, ap_fC, ap_fBin, ap_binK, ap_fUn, ap_fApp, ap_fNil, ap_fCons, ap_consK, ap_consK2, ap_fTup, ap_fLst, ap_tupK, ap_lstK, ap_fTest, ap_testK, ap_fVal, ap_valK, ap_fAnd, ap_fOr, ap_fNot, ap_andK, ap_orK, ap_notK, ap_fAndV, ap_fOrV, ap_fNotV, ap_andVK, ap_orVK, ap_notVK, ap_fIfE, ap_ifEK, ap_fChain, ap_chK1, ap_chK2, ap_chK3, ap_fSkip, ap_fBrk, ap_fCnt, ap_fSeq, ap_seqK_nx, ap_seqK_rt, ap_seqK_bk, ap_seqK_ct, ap_fIf, ap_ifK, ap_fRet, ap_retK, ap_fRetN, ap_fDrop, ap_dropK, ap_fAsg, ap_asgK, ap_asgK2, ap_gN, ap_gNil, ap_gCons, ap_gsK, ap_gUnp, ap_unpK, ap_gSub, ap_subK1, ap_subK2, ap_subK3, ap_fIx, ap_ixK, isDict_ref, isDict_tup, isDict_rl, isDict_str, isDictC_lst, isDictC_dk, isDictC_dt, getL_tup, getL_rl, getL_str, getL_ref, getLC_lst, retO_some, atI_0, atI_1, atI_2, atI_3, oSet_ref, setC_lst, setLK_some, ixN_0, ixN_1, ap_fCall, ap_callK, ap_fnF, ap_fnK_nx, ap_fnK_rt, o_add, o_addR, o_addC, o_addS, o_addT, o_sub, o_mul, o_mod, o_div, o_pow, o_neg, o_lt, o_le, o_gt, o_ge, o_int, o_min2, o_max2, o_leS1, o_inS1, o_isB, o_eq, o_ne, eqK_some, neK_some, eqv_int, eqv_bool, toP_int, toP_bl, toP_non, toP_str, toP_tup, toP_rl, toP_ref, toPC_lst, toP_mapM_nil, toP_mapM_cons, toP_consO, o_len, lenK_some, lenD_tup, lenD_rl, lenD_str, lenD_ref, lenC_lst, ap_fIsi, ap_isiK0, ap_isiK, ap_isiK2, ap_fTyIs, ap_tyK0, ap_tyK, ap_fFor, ap_forK_fix, ap_forK_live, loopX_nil, loopX_cons, ap_turnK0, ap_turnK_nx, ap_turnK_ct, ap_turnK_bk, ap_turnK_rt, ap_fRng1, ap_rng1K, ap_fIter, ap_iterK_rl, ap_iterK_tup, ap_iterK_ref, iterC_lst, ap_fIterS, ap_iterSK, ap_fComp, ap_compK_fix, ap_compK_live, compX_nil, compX_cons, ap_compTK, ap_compEK, ap_fYes, ap_fDict0, ap_fDictT0, ap_fSl, ap_slK1, ap_slK2, ap_pNo, ap_pSo, ap_pSoK, oSl_tup, oSl_str, ap_fBm, ap_bmK, tyIn_str, tyIn_ref, tyInC_lst, tyD_ref, R.bind_ok, R.bind_ex, R.bind_bad, R.nox_ok, nox_bad', List.map_cons, List.map_nil, List.length_cons, List.length_nil, List.cons_append, List.nil_append, Nat.zero_add, Nat.reduceAdd, Nat.reduceSub, List.replicate_succ, List.replicate_zero, List.getElem?_cons_zero, List.getElem?_cons_succ, List.set_cons_zero, List.set_cons_succ, List.append_nil, Bool.false_eq_true, if_true, if_false, decide_eq_true_eq, decide_true, decide_false, Nat.add_zero, reduceIte, reduceDIte, Nat.reduceLeDiff, Int.reduceLT, Int.reduceLE, Int.reduceNeg, Int.reducePow, Int.reduceMul, Int.reduceAdd, Int.reduceSub, Nat.reduceEqDiff, Nat.reducePow, true_and, and_true, or_true, true_or, false_or, or_false, and_self, Bool.not_true, Bool.not_false, Nat.reduceLT, ge_iff_le, gt_iff_lt, Nat.le_refl, Option.map_some, Bool.not_eq_true, Bool.not_eq_eq_eq_not, not_true_eq_false, not_false_eq_true, Int.reduceToNat, beq_iff_eq, Int.reduceEq, String.reduceEq, String.reduceNe, Int.reduceNe, List.set_set, get_app, get_app0, get_apps, get_apps0, set_app, set_app0, set_apps, set_apps0, List.append_assoc, Nat.add_assoc, List.toList_toArray, List.size_toArray, List.length_set, List.length_append, List.filter_nil]
  | cons x xs ih =>
    intro S acc h
    rw [List.length_cons] at h
    by_cases h1 : x ∈ letS.cps.toList
    · unfold letS at h1 ⊢
      simp only [List.toList_toArray] at h1 ⊢
      simp only [ap_fVar, varK_some, ap_fC, ap_fBin, ap_binK, ap_fUn, ap_fApp, ap_fNil, ap_fCons, ap_consK, ap_consK2, ap_fTup, ap_fLst, ap_tupK, ap_lstK, ap_fTest, ap_testK, ap_fVal, ap_valK, ap_fAnd, ap_fOr, ap_fNot, ap_andK, ap_orK, ap_notK, ap_fAndV, ap_fOrV, ap_fNotV, ap_andVK, ap_orVK, ap_notVK, ap_fIfE, ap_ifEK, ap_fChain, ap_chK1, ap_chK2, ap_chK3, ap_fSkip, ap_fBrk, ap_fCnt, ap_fSeq, ap_seqK_nx, ap_seqK_rt, ap_seqK_bk, ap_seqK_ct, ap_fIf, ap_ifK, ap_fRet, ap_retK, ap_fRetN, ap_fDrop, ap_dropK, ap_fAsg, ap_asgK, ap_asgK2, ap_gN, ap_gNil, ap_gCons, ap_gsK, ap_gUnp, ap_unpK, ap_gSub, ap_subK1, ap_subK2, ap_subK3, ap_fIx, ap_ixK, isDict_ref, isDict_tup, isDict_rl, isDict_str, isDictC_lst, isDictC_dk, isDictC_dt, getL_tup, getL_rl, getL_str, getL_ref, getLC_lst, retO_some, atI_0, atI_1, atI_2, atI_3, oSet_ref, setC_lst, setLK_some, ixN_0, ixN_1, ap_fCall, ap_callK, ap_fnF, ap_fnK_nx, ap_fnK_rt, o_add, o_addR, o_addC, o_addS, o_addT, o_sub, o_mul, o_mod, o_div, o_pow, o_neg, o_lt, o_le, o_gt, o_ge, o_int, o_min2, o_max2, o_leS1, o_inS1, o_isB, o_eq, o_ne, eqK_some, neK_some, eqv_int, eqv_bool, toP_int, toP_bl, toP_non, toP_str, toP_tup, toP_rl, toP_ref, toPC_lst, toP_mapM_nil, toP_mapM_cons, toP_consO, o_len, lenK_some, lenD_tup, lenD_rl, lenD_str, lenD_ref, lenC_lst, ap_fIsi, ap_isiK0, ap_isiK, ap_isiK2, ap_fTyIs, ap_tyK0, ap_tyK, ap_fFor, ap_forK_fix, ap_forK_live, loopX_nil, loopX_cons, ap_turnK0, ap_turnK_nx, ap_turnK_ct, ap_turnK_bk, ap_turnK_rt, ap_fRng1, ap_rng1K, ap_fIter, ap_iterK_rl, ap_iterK_tup, ap_iterK_ref, iterC_lst, ap_fIterS, ap_iterSK, ap_fComp, ap_compK_fix, ap_compK_live, compX_nil, compX_cons, ap_compTK, ap_compEK, ap_fYes, ap_fDict0, ap_fDictT0, ap_fSl, ap_slK1, ap_slK2, ap_pNo, ap_pSo, ap_pSoK, oSl_tup, oSl_str, ap_fBm, ap_bmK, tyIn_str, tyIn_ref, tyInC_lst, tyD_ref, R.bind_ok, R.bind_ex, R.bind_bad, R.nox_ok, nox_bad', List.map_cons, List.map_nil, List.length_cons, List.length_nil, List.cons_append, List.nil_append, Nat.zero_add, Nat.reduceAdd, Nat.reduceSub, List.replicate_succ, List.replicate_zero, List.getElem?_cons_zero, List.getElem?_cons_succ, List.set_cons_zero, List.set_cons_succ, List.append_nil, Bool.false_eq_true, if_true, if_false, decide_eq_true_eq, decide_true, decide_false, Nat.add_zero, reduceIte, reduceDIte, Nat.reduceLeDiff, Int.reduceLT, Int.reduceLE, Int.reduceNeg, Int.reducePow, Int.reduceMul, Int.reduceAdd, Int.reduceSub, Nat.reduceEqDiff, Nat.reducePow, true_and, and_true, or_true, true_or, false_or, or_false, and_self, Bool.not_true, Bool.not_false, Nat.reduceLT, ge_iff_le, gt_iff_lt, Nat.le_refl, Option.map_some, Bool.not_eq_true, Bool.not_eq_eq_eq_not, not_true_eq_false, not_false_eq_true, Int.reduceToNat, beq_iff_eq, Int.reduceEq, String.reduceEq, String.reduceNe, Int.reduceNe, List.set_set, get_app, get_app0, get_apps, get_apps0, set_app, set_app0, set_apps, set_apps0, List.append_assoc, Nat.add_assoc, List.toList_toArray, List.size_toArray, List.length_set, List.length_append, ap_ct_law_is_name_0, ap_ce_law_is_name_0, h1, List.filter_cons]
      rw [ih _ _ (by omega)]
      rfl
    · unfold letS at h1 ⊢
      simp only [List.toList_toArray] at h1 ⊢
      simp only [ap_fVar, varK_some, ap_fC, ap_fBin, ap_binK, ap_fUn, ap_fApp, ap_fNil, ap_fCons, ap_consK, ap_consK2, ap_fTup, ap_fLst, ap_tupK, ap_lstK, ap_fTest, ap_testK, ap_fVal, ap_valK, ap_fAnd, ap_fOr, ap_fNot, ap_andK, ap_orK, ap_notK, ap_fAndV, ap_fOrV, ap_fNotV, ap_andVK, ap_orVK, ap_notVK, ap_fIfE, ap_ifEK, ap_fChain, ap_chK1, ap_chK2, ap_chK3, ap_fSkip, ap_fBrk, ap_fCnt, ap_fSeq, ap_seqK_nx, ap_seqK_rt, ap_seqK_bk, ap_seqK_ct, ap_fIf, ap_ifK, ap_fRet, ap_retK, ap_fRetN, ap_fDrop, ap_dropK, ap_fAsg, ap_asgK, ap_asgK2, ap_gN, ap_gNil, ap_gCons, ap_gsK, ap_gUnp, ap_unpK, ap_gSub, ap_subK1, ap_subK2, ap_subK3, ap_fIx, ap_ixK, isDict_ref, isDict_tup, isDict_rl, isDict_str, isDictC_lst, isDictC_dk, isDictC_dt, getL_tup, getL_rl, getL_str, getL_ref, getLC_lst, retO_some, atI_0, atI_1, atI_2, atI_3, oSet_ref, setC_lst, setLK_some, ixN_0, ixN_1, ap_fCall, ap_callK, ap_fnF, ap_fnK_nx, ap_fnK_rt, o_add, o_addR, o_addC, o_addS, o_addT, o_sub, o_mul, o_mod, o_div, o_pow, o_neg, o_lt, o_le, o_gt, o_ge, o_int, o_min2, o_max2, o_leS1, o_inS1, o_isB, o_eq, o_ne, eqK_some, neK_some, eqv_int, eqv_bool, toP_int, toP_bl, toP_non, toP_str, toP_tup, toP_rl, toP_ref, toPC_lst, toP_mapM_nil, toP_mapM_cons, toP_consO, o_len, lenK_some, lenD_tup, lenD_rl, lenD_str, lenD_ref, lenC_lst, ap_fIsi, ap_isiK0, ap_isiK, ap_isiK2, ap_fTyIs, ap_tyK0, ap_tyK, ap_fFor, ap_forK_fix, ap_forK_live, loopX_nil, loopX_cons, ap_turnK0, ap_turnK_nx, ap_turnK_ct, ap_turnK_bk, ap_turnK_rt, ap_fRng1, ap_rng1K, ap_fIter, ap_iterK_rl, ap_iterK_tup, ap_iterK_ref, iterC_lst, ap_fIterS, ap_iterSK, ap_fComp, ap_compK_fix, ap_compK_live, compX_nil, compX_cons, ap_compTK, ap_compEK, ap_fYes, ap_fDict0, ap_fDictT0, ap_fSl, ap_slK1, ap_slK2, ap_pNo, ap_pSo, ap_pSoK, oSl_tup, oSl_str, ap_fBm, ap_bmK, tyIn_str, tyIn_ref, tyInC_lst, tyD_ref, R.bind_ok, R.bind_ex, R.bind_bad, R.nox_ok, nox_bad', List.map_cons, List.map_nil, List.length_cons, List.length_nil, List.cons_append, List.nil_append, Nat.zero_add, Nat.reduceAdd, Nat.reduceSub, List.replicate_succ, List.replicate_zero, List.getElem?_cons_zero, List.getElem?_cons_succ, List.set_cons_zero, List.set_cons_succ, List.append_nil, Bool.false_eq_true, if_true, if_false, decide_eq_true_eq, decide_true, decide_false, Nat.add_zero, reduceIte, reduceDIte, Nat.reduceLeDiff, Int.reduceLT, Int.reduceLE, Int.reduceNeg, Int.reducePow, Int.reduceMul, Int.reduceAdd, Int.reduceSub, Nat.reduceEqDiff, Nat.reducePow, true_and, and_true, or_true, true_or, false_or, or_false, and_self, Bool.not_true, Bool.not_false, Nat.reduceLT, ge_iff_le, gt_iff_lt, Nat.le_refl, Option.map_some, Bool.not_eq_true, Bool.not_eq_eq_eq_not, not_true_eq_false, not_false_eq_true, Int.reduceToNat, beq_iff_eq, Int.reduceEq, String.reduceEq, String.reduceNe, Int.reduceNe, List.set_set, get_app, get_app0, get_apps, get_apps0, set_app, set_app0, set_apps, set_apps0, List.append_assoc, Nat.add_assoc, List.toList_toArray, List.size_toArray, List.length_set, List.length_append, ap_ct_law_is_name_0, ap_ce_law_is_name_0, h1, List.filter_cons]
      rw [if_pos (by omega), ih _ _ (by rw [List.length_append, List.length_singleton]; omega)]
      simp only [ap_fVar, varK_some, ap_fC, ap_fBin, ap_binK, ap_fUn, ap_fApp, ap_fNil, ap_fCons, ap_consK, ap_consK2, ap_fTup, ap_fLst, ap_tupK, ap_lstK, ap_fTest, ap_testK, ap_fVal, ap_valK, ap_fAnd, ap_fOr, ap_fNot, ap_andK, ap_orK, ap_notK, ap_fAndV, ap_fOrV, ap_fNotV, ap_andVK, ap_orVK, ap_notVK, ap_fIfE, ap_ifEK, ap_fChain, ap_chK1, ap_chK2, ap_chK3, ap_fSkip, ap_fBrk, ap_fCnt, ap_fSeq, ap_seqK_nx, ap_seqK_rt, ap_seqK_bk, ap_seqK_ct, ap_fIf, ap_ifK, ap_fRet, ap_retK, ap_fRetN, ap_fDrop, ap_dropK, ap_fAsg, ap_asgK, ap_asgK2, ap_gN, ap_gNil, ap_gCons, ap_gsK, ap_gUnp, ap_unpK, ap_gSub, ap_subK1, ap_subK2, ap_subK3, ap_fIx, ap_ixK, isDict_ref, isDict_tup, isDict_rl, isDict_str, isDictC_lst, isDictC_dk, isDictC_dt, getL_tup, getL_rl, getL_str, getL_ref, getLC_lst, retO_some, atI_0, atI_1, atI_2, atI_3, oSet_ref, setC_lst, setLK_some, ixN_0, ixN_1, ap_fCall, ap_callK, ap_fnF, ap_fnK_nx, ap_fnK_rt, o_add, o_addR, o_addC, o_addS, o_addT, o_sub, o_mul, o_mod, o_div, o_pow, o_neg, o_lt, o_le, o_gt, o_ge, o_int, o_min2, o_max2, o_leS1, o_inS1, o_isB, o_eq, o_ne, eqK_some, neK_some, eqv_int, eqv_bool, toP_int, toP_bl, toP_non, toP_str, toP_tup, toP_rl, toP_ref, toPC_lst, toP_mapM_nil, toP_mapM_cons, toP_consO, o_len, lenK_some, lenD_tup, lenD_rl, lenD_str, lenD_ref, lenC_lst, ap_fIsi, ap_isiK0, ap_isiK, ap_isiK2, ap_fTyIs, ap_tyK0, ap_tyK, ap_fFor, ap_forK_fix, ap_forK_live, loopX_nil, loopX_cons, ap_turnK0, ap_turnK_nx, ap_turnK_ct, ap_turnK_bk, ap_turnK_rt, ap_fRng1, ap_rng1K, ap_fIter, ap_iterK_rl, ap_iterK_tup, ap_iterK_ref, iterC_lst, ap_fIterS, ap_iterSK, ap_fComp, ap_compK_fix, ap_compK_live, compX_nil, compX_cons, ap_compTK, ap_compEK, ap_fYes, ap_fDict0, ap_fDictT0, ap_fSl, ap_slK1, ap_slK2, ap_pNo, ap_pSo, ap_pSoK, oSl_tup, oSl_str, ap_fBm, ap_bmK, tyIn_str, tyIn_ref, tyInC_lst, tyD_ref, R.bind_ok, R.bind_ex, R.bind_bad, R.nox_ok, nox_bad', List.map_cons, List.map_nil, List.length_cons, List.length_nil, List.cons_append, List.nil_append, Nat.zero_add, Nat.reduceAdd, Nat.reduceSub, List.replicate_succ, List.replicate_zero, List.getElem?_cons_zero, List.getElem?_cons_succ, List.set_cons_zero, List.set_cons_succ, List.append_nil, Bool.false_eq_true, if_true, if_false, decide_eq_true_eq, decide_true, decide_false, Nat.add_zero, reduceIte, reduceDIte, Nat.reduceLeDiff, Int.reduceLT, Int.reduceLE, Int.reduceNeg, Int.reducePow, Int.reduceMul, Int.reduceAdd, Int.reduceSub, Nat.reduceEqDiff, Nat.reducePow, true_and, and_true, or_true, true_or, false_or, or_false, and_self, Bool.not_true, Bool.not_false, Nat.reduceLT, ge_iff_le, gt_iff_lt, Nat.le_refl, Option.map_some, Bool.not_eq_true, Bool.not_eq_eq_eq_not, not_true_eq_false, not_false_eq_true, Int.reduceToNat, beq_iff_eq, Int.reduceEq, String.reduceEq, String.reduceNe, Int.reduceNe, List.set_set, get_app, get_app0, get_apps, get_apps0, set_app, set_app0, set_apps, set_apps0, List.append_assoc, Nat.add_assoc, List.toList_toArray, List.size_toArray, List.length_set, List.length_append, oneS]
      rfl
theorem strs_P (S : Sto) (k : Nat) (l : List Nat) (h : ∀ c ∈ l, c < 1114112) : (l.map fun k => D.str (oneS k)).mapM (toP S k) = some (l.map fun k => PyData.str (oneS k)) := by
  induction l with
  | nil => rfl
  | cons a l ih =>
    rw [List.map_cons, List.mapM_cons, toP_str, if_pos ?_, ih fun c hc => h c (List.mem_cons_of_mem _ hc)]
    · rfl
    · have := h a (List.mem_cons_self)
      show (List.toArray [a]).all _ = true
      simp [this]
theorem eqv_nil (l : List PyData) : PyData.eqv (.list l) (.list []) = l.isEmpty := by
  cases l <;> simp [PyData.eqv, PyData.eqvAll]
theorem filt_az (l : List Nat) : (List.map (fun k => PyData.str (oneS k)) (l.filter fun k => !decide (k ∈ letS.cps.toList))).isEmpty = l.all fun c => decide (97 ≤ c) && decide (c ≤ 122) := by
  induction l with
  | nil => rfl
  | cons a l ih =>
    rw [List.filter_cons, List.all_cons, ← ih]
    by_cases h : 97 ≤ a ∧ a ≤ 122
    · have h' := (az_iff a).mpr h
      simp [h', h.1, h.2]
    · have h' : ¬ a ∈ letS.cps.toList := fun q => h ((az_iff a).mp q)
      have e : (decide (97 ≤ a) && decide (a ≤ 122)) = false := by
        rw [← Bool.decide_and, decide_eq_false h]
      simp [h', e]
theorem lname_str (c : CA) {S : Sto} {z : Str} (h : z.length ≤ 1000) (hs : PyData.strOk z = true) : ∃ T, F_law_is_name c [.str z] S = .ok (.bl (nameB z)) (S ++ T) := by
  unfold F_law_is_name b_law_is_name
  have hz : z.length ≤ 100000 := by omega
  have hs' : ∀ c ∈ z.cps.toList, c < 1114112 := by
    intro c hc
    have h' : z.cps.all (· < 0x110000) = true := hs
    rw [Array.all_eq_true_iff_forall_mem] at h'
    have := h' c (Array.mem_toList_iff.mp hc)
    simpa using this
  by_cases h1 : (z.length : Int) < 1
  · have h1' : ¬ 1 ≤ z.length := by omega
    exact ⟨[], by simp only [ap_fVar, varK_some, ap_fC, ap_fBin, ap_binK, ap_fUn, ap_fApp, ap_fNil, ap_fCons, ap_consK, ap_consK2, ap_fTup, ap_fLst, ap_tupK, ap_lstK, ap_fTest, ap_testK, ap_fVal, ap_valK, ap_fAnd, ap_fOr, ap_fNot, ap_andK, ap_orK, ap_notK, ap_fAndV, ap_fOrV, ap_fNotV, ap_andVK, ap_orVK, ap_notVK, ap_fIfE, ap_ifEK, ap_fChain, ap_chK1, ap_chK2, ap_chK3, ap_fSkip, ap_fBrk, ap_fCnt, ap_fSeq, ap_seqK_nx, ap_seqK_rt, ap_seqK_bk, ap_seqK_ct, ap_fIf, ap_ifK, ap_fRet, ap_retK, ap_fRetN, ap_fDrop, ap_dropK, ap_fAsg, ap_asgK, ap_asgK2, ap_gN, ap_gNil, ap_gCons, ap_gsK, ap_gUnp, ap_unpK, ap_gSub, ap_subK1, ap_subK2, ap_subK3, ap_fIx, ap_ixK, isDict_ref, isDict_tup, isDict_rl, isDict_str, isDictC_lst, isDictC_dk, isDictC_dt, getL_tup, getL_rl, getL_str, getL_ref, getLC_lst, retO_some, atI_0, atI_1, atI_2, atI_3, oSet_ref, setC_lst, setLK_some, ixN_0, ixN_1, ap_fCall, ap_callK, ap_fnF, ap_fnK_nx, ap_fnK_rt, o_add, o_addR, o_addC, o_addS, o_addT, o_sub, o_mul, o_mod, o_div, o_pow, o_neg, o_lt, o_le, o_gt, o_ge, o_int, o_min2, o_max2, o_leS1, o_inS1, o_isB, o_eq, o_ne, eqK_some, neK_some, eqv_int, eqv_bool, toP_int, toP_bl, toP_non, toP_str, toP_tup, toP_rl, toP_ref, toPC_lst, toP_mapM_nil, toP_mapM_cons, toP_consO, o_len, lenK_some, lenD_tup, lenD_rl, lenD_str, lenD_ref, lenC_lst, ap_fIsi, ap_isiK0, ap_isiK, ap_isiK2, ap_fTyIs, ap_tyK0, ap_tyK, ap_fFor, ap_forK_fix, ap_forK_live, loopX_nil, loopX_cons, ap_turnK0, ap_turnK_nx, ap_turnK_ct, ap_turnK_bk, ap_turnK_rt, ap_fRng1, ap_rng1K, ap_fIter, ap_iterK_rl, ap_iterK_tup, ap_iterK_ref, iterC_lst, ap_fIterS, ap_iterSK, ap_fComp, ap_compK_fix, ap_compK_live, compX_nil, compX_cons, ap_compTK, ap_compEK, ap_fYes, ap_fDict0, ap_fDictT0, ap_fSl, ap_slK1, ap_slK2, ap_pNo, ap_pSo, ap_pSoK, oSl_tup, oSl_str, ap_fBm, ap_bmK, tyIn_str, tyIn_ref, tyInC_lst, tyD_ref, R.bind_ok, R.bind_ex, R.bind_bad, R.nox_ok, nox_bad', List.map_cons, List.map_nil, List.length_cons, List.length_nil, List.cons_append, List.nil_append, Nat.zero_add, Nat.reduceAdd, Nat.reduceSub, List.replicate_succ, List.replicate_zero, List.getElem?_cons_zero, List.getElem?_cons_succ, List.set_cons_zero, List.set_cons_succ, List.append_nil, Bool.false_eq_true, if_true, if_false, decide_eq_true_eq, decide_true, decide_false, Nat.add_zero, reduceIte, reduceDIte, Nat.reduceLeDiff, Int.reduceLT, Int.reduceLE, Int.reduceNeg, Int.reducePow, Int.reduceMul, Int.reduceAdd, Int.reduceSub, Nat.reduceEqDiff, Nat.reducePow, true_and, and_true, or_true, true_or, false_or, or_false, and_self, Bool.not_true, Bool.not_false, Nat.reduceLT, ge_iff_le, gt_iff_lt, Nat.le_refl, Option.map_some, Bool.not_eq_true, Bool.not_eq_eq_eq_not, not_true_eq_false, not_false_eq_true, Int.reduceToNat, beq_iff_eq, Int.reduceEq, String.reduceEq, String.reduceNe, Int.reduceNe, List.set_set, get_app, get_app0, get_apps, get_apps0, set_app, set_app0, set_apps, set_apps0, List.append_assoc, Nat.add_assoc, List.toList_toArray, List.size_toArray, List.length_set, List.length_append, hz, tyD, isiD, h1, nameB, h1', Bool.false_and]⟩
  · have h1' : 1 ≤ z.length := by omega
    by_cases h2 : (12 : Int) < (z.length : Int)
    · have h2' : ¬ z.length ≤ 12 := by omega
      exact ⟨[], by simp only [ap_fVar, varK_some, ap_fC, ap_fBin, ap_binK, ap_fUn, ap_fApp, ap_fNil, ap_fCons, ap_consK, ap_consK2, ap_fTup, ap_fLst, ap_tupK, ap_lstK, ap_fTest, ap_testK, ap_fVal, ap_valK, ap_fAnd, ap_fOr, ap_fNot, ap_andK, ap_orK, ap_notK, ap_fAndV, ap_fOrV, ap_fNotV, ap_andVK, ap_orVK, ap_notVK, ap_fIfE, ap_ifEK, ap_fChain, ap_chK1, ap_chK2, ap_chK3, ap_fSkip, ap_fBrk, ap_fCnt, ap_fSeq, ap_seqK_nx, ap_seqK_rt, ap_seqK_bk, ap_seqK_ct, ap_fIf, ap_ifK, ap_fRet, ap_retK, ap_fRetN, ap_fDrop, ap_dropK, ap_fAsg, ap_asgK, ap_asgK2, ap_gN, ap_gNil, ap_gCons, ap_gsK, ap_gUnp, ap_unpK, ap_gSub, ap_subK1, ap_subK2, ap_subK3, ap_fIx, ap_ixK, isDict_ref, isDict_tup, isDict_rl, isDict_str, isDictC_lst, isDictC_dk, isDictC_dt, getL_tup, getL_rl, getL_str, getL_ref, getLC_lst, retO_some, atI_0, atI_1, atI_2, atI_3, oSet_ref, setC_lst, setLK_some, ixN_0, ixN_1, ap_fCall, ap_callK, ap_fnF, ap_fnK_nx, ap_fnK_rt, o_add, o_addR, o_addC, o_addS, o_addT, o_sub, o_mul, o_mod, o_div, o_pow, o_neg, o_lt, o_le, o_gt, o_ge, o_int, o_min2, o_max2, o_leS1, o_inS1, o_isB, o_eq, o_ne, eqK_some, neK_some, eqv_int, eqv_bool, toP_int, toP_bl, toP_non, toP_str, toP_tup, toP_rl, toP_ref, toPC_lst, toP_mapM_nil, toP_mapM_cons, toP_consO, o_len, lenK_some, lenD_tup, lenD_rl, lenD_str, lenD_ref, lenC_lst, ap_fIsi, ap_isiK0, ap_isiK, ap_isiK2, ap_fTyIs, ap_tyK0, ap_tyK, ap_fFor, ap_forK_fix, ap_forK_live, loopX_nil, loopX_cons, ap_turnK0, ap_turnK_nx, ap_turnK_ct, ap_turnK_bk, ap_turnK_rt, ap_fRng1, ap_rng1K, ap_fIter, ap_iterK_rl, ap_iterK_tup, ap_iterK_ref, iterC_lst, ap_fIterS, ap_iterSK, ap_fComp, ap_compK_fix, ap_compK_live, compX_nil, compX_cons, ap_compTK, ap_compEK, ap_fYes, ap_fDict0, ap_fDictT0, ap_fSl, ap_slK1, ap_slK2, ap_pNo, ap_pSo, ap_pSoK, oSl_tup, oSl_str, ap_fBm, ap_bmK, tyIn_str, tyIn_ref, tyInC_lst, tyD_ref, R.bind_ok, R.bind_ex, R.bind_bad, R.nox_ok, nox_bad', List.map_cons, List.map_nil, List.length_cons, List.length_nil, List.cons_append, List.nil_append, Nat.zero_add, Nat.reduceAdd, Nat.reduceSub, List.replicate_succ, List.replicate_zero, List.getElem?_cons_zero, List.getElem?_cons_succ, List.set_cons_zero, List.set_cons_succ, List.append_nil, Bool.false_eq_true, if_true, if_false, decide_eq_true_eq, decide_true, decide_false, Nat.add_zero, reduceIte, reduceDIte, Nat.reduceLeDiff, Int.reduceLT, Int.reduceLE, Int.reduceNeg, Int.reducePow, Int.reduceMul, Int.reduceAdd, Int.reduceSub, Nat.reduceEqDiff, Nat.reducePow, true_and, and_true, or_true, true_or, false_or, or_false, and_self, Bool.not_true, Bool.not_false, Nat.reduceLT, ge_iff_le, gt_iff_lt, Nat.le_refl, Option.map_some, Bool.not_eq_true, Bool.not_eq_eq_eq_not, not_true_eq_false, not_false_eq_true, Int.reduceToNat, beq_iff_eq, Int.reduceEq, String.reduceEq, String.reduceNe, Int.reduceNe, List.set_set, get_app, get_app0, get_apps, get_apps0, set_app, set_app0, set_apps, set_apps0, List.append_assoc, Nat.add_assoc, List.toList_toArray, List.size_toArray, List.length_set, List.length_append, hz, tyD, isiD, h1, h2, nameB, h2', Bool.and_false, Bool.false_and]⟩
    · have h2' : z.length ≤ 12 := by omega
      have nc := na_comp c z.cps.toList (some (.str z)) S [] (by rw [List.length_nil, ← strlen]; omega)
      unfold letS at nc
      refine ⟨[.lst ((z.cps.toList.filter fun k => !decide (k ∈ letS.cps.toList)).map fun k => .str (oneS k)), .lst []], ?_⟩
      simp only [ap_fVar, varK_some, ap_fC, ap_fBin, ap_binK, ap_fUn, ap_fApp, ap_fNil, ap_fCons, ap_consK, ap_consK2, ap_fTup, ap_fLst, ap_tupK, ap_lstK, ap_fTest, ap_testK, ap_fVal, ap_valK, ap_fAnd, ap_fOr, ap_fNot, ap_andK, ap_orK, ap_notK, ap_fAndV, ap_fOrV, ap_fNotV, ap_andVK, ap_orVK, ap_notVK, ap_fIfE, ap_ifEK, ap_fChain, ap_chK1, ap_chK2, ap_chK3, ap_fSkip, ap_fBrk, ap_fCnt, ap_fSeq, ap_seqK_nx, ap_seqK_rt, ap_seqK_bk, ap_seqK_ct, ap_fIf, ap_ifK, ap_fRet, ap_retK, ap_fRetN, ap_fDrop, ap_dropK, ap_fAsg, ap_asgK, ap_asgK2, ap_gN, ap_gNil, ap_gCons, ap_gsK, ap_gUnp, ap_unpK, ap_gSub, ap_subK1, ap_subK2, ap_subK3, ap_fIx, ap_ixK, isDict_ref, isDict_tup, isDict_rl, isDict_str, isDictC_lst, isDictC_dk, isDictC_dt, getL_tup, getL_rl, getL_str, getL_ref, getLC_lst, retO_some, atI_0, atI_1, atI_2, atI_3, oSet_ref, setC_lst, setLK_some, ixN_0, ixN_1, ap_fCall, ap_callK, ap_fnF, ap_fnK_nx, ap_fnK_rt, o_add, o_addR, o_addC, o_addS, o_addT, o_sub, o_mul, o_mod, o_div, o_pow, o_neg, o_lt, o_le, o_gt, o_ge, o_int, o_min2, o_max2, o_leS1, o_inS1, o_isB, o_eq, o_ne, eqK_some, neK_some, eqv_int, eqv_bool, toP_int, toP_bl, toP_non, toP_str, toP_tup, toP_rl, toP_ref, toPC_lst, toP_mapM_nil, toP_mapM_cons, toP_consO, o_len, lenK_some, lenD_tup, lenD_rl, lenD_str, lenD_ref, lenC_lst, ap_fIsi, ap_isiK0, ap_isiK, ap_isiK2, ap_fTyIs, ap_tyK0, ap_tyK, ap_fFor, ap_forK_fix, ap_forK_live, loopX_nil, loopX_cons, ap_turnK0, ap_turnK_nx, ap_turnK_ct, ap_turnK_bk, ap_turnK_rt, ap_fRng1, ap_rng1K, ap_fIter, ap_iterK_rl, ap_iterK_tup, ap_iterK_ref, iterC_lst, ap_fIterS, ap_iterSK, ap_fComp, ap_compK_fix, ap_compK_live, compX_nil, compX_cons, ap_compTK, ap_compEK, ap_fYes, ap_fDict0, ap_fDictT0, ap_fSl, ap_slK1, ap_slK2, ap_pNo, ap_pSo, ap_pSoK, oSl_tup, oSl_str, ap_fBm, ap_bmK, tyIn_str, tyIn_ref, tyInC_lst, tyD_ref, R.bind_ok, R.bind_ex, R.bind_bad, R.nox_ok, nox_bad', List.map_cons, List.map_nil, List.length_cons, List.length_nil, List.cons_append, List.nil_append, Nat.zero_add, Nat.reduceAdd, Nat.reduceSub, List.replicate_succ, List.replicate_zero, List.getElem?_cons_zero, List.getElem?_cons_succ, List.set_cons_zero, List.set_cons_succ, List.append_nil, Bool.false_eq_true, if_true, if_false, decide_eq_true_eq, decide_true, decide_false, Nat.add_zero, reduceIte, reduceDIte, Nat.reduceLeDiff, Int.reduceLT, Int.reduceLE, Int.reduceNeg, Int.reducePow, Int.reduceMul, Int.reduceAdd, Int.reduceSub, Nat.reduceEqDiff, Nat.reducePow, true_and, and_true, or_true, true_or, false_or, or_false, and_self, Bool.not_true, Bool.not_false, Nat.reduceLT, ge_iff_le, gt_iff_lt, Nat.le_refl, Option.map_some, Bool.not_eq_true, Bool.not_eq_eq_eq_not, not_true_eq_false, not_false_eq_true, Int.reduceToNat, beq_iff_eq, Int.reduceEq, String.reduceEq, String.reduceNe, Int.reduceNe, List.set_set, get_app, get_app0, get_apps, get_apps0, set_app, set_app0, set_apps, set_apps0, List.append_assoc, Nat.add_assoc, List.toList_toArray, List.size_toArray, List.length_set, List.length_append, hz, tyD, isiD, h1, h2, sgnD, nc]
      have sp := strs_P (S ++ [.lst ((z.cps.toList.filter fun k => !decide (k ∈ letS.cps.toList)).map fun k => .str (oneS k)), .lst []]) 19 (z.cps.toList.filter fun k => !decide (k ∈ letS.cps.toList)) (fun c hc => hs' c ((List.mem_filter.mp hc).1))
      unfold letS at sp
      have fa := filt_az z.cps.toList
      unfold letS at fa ⊢
      simp only [List.toList_toArray] at fa ⊢
      simp only [ap_fVar, varK_some, ap_fC, ap_fBin, ap_binK, ap_fUn, ap_fApp, ap_fNil, ap_fCons, ap_consK, ap_consK2, ap_fTup, ap_fLst, ap_tupK, ap_lstK, ap_fTest, ap_testK, ap_fVal, ap_valK, ap_fAnd, ap_fOr, ap_fNot, ap_andK, ap_orK, ap_notK, ap_fAndV, ap_fOrV, ap_fNotV, ap_andVK, ap_orVK, ap_notVK, ap_fIfE, ap_ifEK, ap_fChain, ap_chK1, ap_chK2, ap_chK3, ap_fSkip, ap_fBrk, ap_fCnt, ap_fSeq, ap_seqK_nx, ap_seqK_rt, ap_seqK_bk, ap_seqK_ct, ap_fIf, ap_ifK, ap_fRet, ap_retK, ap_fRetN, ap_fDrop, ap_dropK, ap_fAsg, ap_asgK, ap_asgK2, ap_gN, ap_gNil, ap_gCons, ap_gsK, ap_gUnp, ap_unpK, ap_gSub, ap_subK1, ap_subK2, ap_subK3, ap_fIx, ap_ixK, isDict_ref, isDict_tup, isDict_rl, isDict_str, isDictC_lst, isDictC_dk, isDictC_dt, getL_tup, getL_rl, getL_str, getL_ref, getLC_lst, retO_some, atI_0, atI_1, atI_2, atI_3, oSet_ref, setC_lst, setLK_some, ixN_0, ixN_1, ap_fCall, ap_callK, ap_fnF, ap_fnK_nx, ap_fnK_rt, o_add, o_addR, o_addC, o_addS, o_addT, o_sub, o_mul, o_mod, o_div, o_pow, o_neg, o_lt, o_le, o_gt, o_ge, o_int, o_min2, o_max2, o_leS1, o_inS1, o_isB, o_eq, o_ne, eqK_some, neK_some, eqv_int, eqv_bool, toP_int, toP_bl, toP_non, toP_str, toP_tup, toP_rl, toP_ref, toPC_lst, toP_mapM_nil, toP_mapM_cons, toP_consO, o_len, lenK_some, lenD_tup, lenD_rl, lenD_str, lenD_ref, lenC_lst, ap_fIsi, ap_isiK0, ap_isiK, ap_isiK2, ap_fTyIs, ap_tyK0, ap_tyK, ap_fFor, ap_forK_fix, ap_forK_live, loopX_nil, loopX_cons, ap_turnK0, ap_turnK_nx, ap_turnK_ct, ap_turnK_bk, ap_turnK_rt, ap_fRng1, ap_rng1K, ap_fIter, ap_iterK_rl, ap_iterK_tup, ap_iterK_ref, iterC_lst, ap_fIterS, ap_iterSK, ap_fComp, ap_compK_fix, ap_compK_live, compX_nil, compX_cons, ap_compTK, ap_compEK, ap_fYes, ap_fDict0, ap_fDictT0, ap_fSl, ap_slK1, ap_slK2, ap_pNo, ap_pSo, ap_pSoK, oSl_tup, oSl_str, ap_fBm, ap_bmK, tyIn_str, tyIn_ref, tyInC_lst, tyD_ref, R.bind_ok, R.bind_ex, R.bind_bad, R.nox_ok, nox_bad', List.map_cons, List.map_nil, List.length_cons, List.length_nil, List.cons_append, List.nil_append, Nat.zero_add, Nat.reduceAdd, Nat.reduceSub, List.replicate_succ, List.replicate_zero, List.getElem?_cons_zero, List.getElem?_cons_succ, List.set_cons_zero, List.set_cons_succ, List.append_nil, Bool.false_eq_true, if_true, if_false, decide_eq_true_eq, decide_true, decide_false, Nat.add_zero, reduceIte, reduceDIte, Nat.reduceLeDiff, Int.reduceLT, Int.reduceLE, Int.reduceNeg, Int.reducePow, Int.reduceMul, Int.reduceAdd, Int.reduceSub, Nat.reduceEqDiff, Nat.reducePow, true_and, and_true, or_true, true_or, false_or, or_false, and_self, Bool.not_true, Bool.not_false, Nat.reduceLT, ge_iff_le, gt_iff_lt, Nat.le_refl, Option.map_some, Bool.not_eq_true, Bool.not_eq_eq_eq_not, not_true_eq_false, not_false_eq_true, Int.reduceToNat, beq_iff_eq, Int.reduceEq, String.reduceEq, String.reduceNe, Int.reduceNe, List.set_set, get_app, get_app0, get_apps, get_apps0, set_app, set_app0, set_apps, set_apps0, List.append_assoc, Nat.add_assoc, List.toList_toArray, List.size_toArray, List.length_set, List.length_append, sp, eqv_nil, fa, nameB, h1', h2', Bool.true_and]
/-! the law -/
theorem stream_eq (c : CA) (x k : Int) (S : Sto) (hk : 0 ≤ k ∧ k < 1000) : ∃ s, F_law_stream c [.int x, .int k] S = .ok (.ref S.length) (S ++ [stC s]) := by
  unfold F_law_stream b_law_stream
  by_cases h : (1000000000000000000 : Int) ≤ x
  · refine ⟨(x, (x * 48271 + k * 69621 + 77) % 2147483647), ?_⟩
    simp only [ap_fVar, varK_some, ap_fC, ap_fBin, ap_binK, ap_fUn, ap_fApp, ap_fNil, ap_fCons, ap_consK, ap_consK2, ap_fTup, ap_fLst, ap_tupK, ap_lstK, ap_fTest, ap_testK, ap_fVal, ap_valK, ap_fAnd, ap_fOr, ap_fNot, ap_andK, ap_orK, ap_notK, ap_fAndV, ap_fOrV, ap_fNotV, ap_andVK, ap_orVK, ap_notVK, ap_fIfE, ap_ifEK, ap_fChain, ap_chK1, ap_chK2, ap_chK3, ap_fSkip, ap_fBrk, ap_fCnt, ap_fSeq, ap_seqK_nx, ap_seqK_rt, ap_seqK_bk, ap_seqK_ct, ap_fIf, ap_ifK, ap_fRet, ap_retK, ap_fRetN, ap_fDrop, ap_dropK, ap_fAsg, ap_asgK, ap_asgK2, ap_gN, ap_gNil, ap_gCons, ap_gsK, ap_gUnp, ap_unpK, ap_gSub, ap_subK1, ap_subK2, ap_subK3, ap_fIx, ap_ixK, isDict_ref, isDict_tup, isDict_rl, isDict_str, isDictC_lst, isDictC_dk, isDictC_dt, getL_tup, getL_rl, getL_str, getL_ref, getLC_lst, retO_some, atI_0, atI_1, atI_2, atI_3, oSet_ref, setC_lst, setLK_some, ixN_0, ixN_1, ap_fCall, ap_callK, ap_fnF, ap_fnK_nx, ap_fnK_rt, o_add, o_addR, o_addC, o_addS, o_addT, o_sub, o_mul, o_mod, o_div, o_pow, o_neg, o_lt, o_le, o_gt, o_ge, o_int, o_min2, o_max2, o_leS1, o_inS1, o_isB, o_eq, o_ne, eqK_some, neK_some, eqv_int, eqv_bool, toP_int, toP_bl, toP_non, toP_str, toP_tup, toP_rl, toP_ref, toPC_lst, toP_mapM_nil, toP_mapM_cons, toP_consO, o_len, lenK_some, lenD_tup, lenD_rl, lenD_str, lenD_ref, lenC_lst, ap_fIsi, ap_isiK0, ap_isiK, ap_isiK2, ap_fTyIs, ap_tyK0, ap_tyK, ap_fFor, ap_forK_fix, ap_forK_live, loopX_nil, loopX_cons, ap_turnK0, ap_turnK_nx, ap_turnK_ct, ap_turnK_bk, ap_turnK_rt, ap_fRng1, ap_rng1K, ap_fIter, ap_iterK_rl, ap_iterK_tup, ap_iterK_ref, iterC_lst, ap_fIterS, ap_iterSK, ap_fComp, ap_compK_fix, ap_compK_live, compX_nil, compX_cons, ap_compTK, ap_compEK, ap_fYes, ap_fDict0, ap_fDictT0, ap_fSl, ap_slK1, ap_slK2, ap_pNo, ap_pSo, ap_pSoK, oSl_tup, oSl_str, ap_fBm, ap_bmK, tyIn_str, tyIn_ref, tyInC_lst, tyD_ref, R.bind_ok, R.bind_ex, R.bind_bad, R.nox_ok, nox_bad', List.map_cons, List.map_nil, List.length_cons, List.length_nil, List.cons_append, List.nil_append, Nat.zero_add, Nat.reduceAdd, Nat.reduceSub, List.replicate_succ, List.replicate_zero, List.getElem?_cons_zero, List.getElem?_cons_succ, List.set_cons_zero, List.set_cons_succ, List.append_nil, Bool.false_eq_true, if_true, if_false, decide_eq_true_eq, decide_true, decide_false, Nat.add_zero, reduceIte, reduceDIte, Nat.reduceLeDiff, Int.reduceLT, Int.reduceLE, Int.reduceNeg, Int.reducePow, Int.reduceMul, Int.reduceAdd, Int.reduceSub, Nat.reduceEqDiff, Nat.reducePow, true_and, and_true, or_true, true_or, false_or, or_false, and_self, Bool.not_true, Bool.not_false, Nat.reduceLT, ge_iff_le, gt_iff_lt, Nat.le_refl, Option.map_some, Bool.not_eq_true, Bool.not_eq_eq_eq_not, not_true_eq_false, not_false_eq_true, Int.reduceToNat, beq_iff_eq, Int.reduceEq, String.reduceEq, String.reduceNe, Int.reduceNe, List.set_set, get_app, get_app0, get_apps, get_apps0, set_app, set_app0, set_apps, set_apps0, List.append_assoc, Nat.add_assoc, List.toList_toArray, List.size_toArray, List.length_set, List.length_append, h, stC]
  · refine ⟨(0, (x * 48271 + k * 69621 + 77) % 2147483647), ?_⟩
    simp only [ap_fVar, varK_some, ap_fC, ap_fBin, ap_binK, ap_fUn, ap_fApp, ap_fNil, ap_fCons, ap_consK, ap_consK2, ap_fTup, ap_fLst, ap_tupK, ap_lstK, ap_fTest, ap_testK, ap_fVal, ap_valK, ap_fAnd, ap_fOr, ap_fNot, ap_andK, ap_orK, ap_notK, ap_fAndV, ap_fOrV, ap_fNotV, ap_andVK, ap_orVK, ap_notVK, ap_fIfE, ap_ifEK, ap_fChain, ap_chK1, ap_chK2, ap_chK3, ap_fSkip, ap_fBrk, ap_fCnt, ap_fSeq, ap_seqK_nx, ap_seqK_rt, ap_seqK_bk, ap_seqK_ct, ap_fIf, ap_ifK, ap_fRet, ap_retK, ap_fRetN, ap_fDrop, ap_dropK, ap_fAsg, ap_asgK, ap_asgK2, ap_gN, ap_gNil, ap_gCons, ap_gsK, ap_gUnp, ap_unpK, ap_gSub, ap_subK1, ap_subK2, ap_subK3, ap_fIx, ap_ixK, isDict_ref, isDict_tup, isDict_rl, isDict_str, isDictC_lst, isDictC_dk, isDictC_dt, getL_tup, getL_rl, getL_str, getL_ref, getLC_lst, retO_some, atI_0, atI_1, atI_2, atI_3, oSet_ref, setC_lst, setLK_some, ixN_0, ixN_1, ap_fCall, ap_callK, ap_fnF, ap_fnK_nx, ap_fnK_rt, o_add, o_addR, o_addC, o_addS, o_addT, o_sub, o_mul, o_mod, o_div, o_pow, o_neg, o_lt, o_le, o_gt, o_ge, o_int, o_min2, o_max2, o_leS1, o_inS1, o_isB, o_eq, o_ne, eqK_some, neK_some, eqv_int, eqv_bool, toP_int, toP_bl, toP_non, toP_str, toP_tup, toP_rl, toP_ref, toPC_lst, toP_mapM_nil, toP_mapM_cons, toP_consO, o_len, lenK_some, lenD_tup, lenD_rl, lenD_str, lenD_ref, lenC_lst, ap_fIsi, ap_isiK0, ap_isiK, ap_isiK2, ap_fTyIs, ap_tyK0, ap_tyK, ap_fFor, ap_forK_fix, ap_forK_live, loopX_nil, loopX_cons, ap_turnK0, ap_turnK_nx, ap_turnK_ct, ap_turnK_bk, ap_turnK_rt, ap_fRng1, ap_rng1K, ap_fIter, ap_iterK_rl, ap_iterK_tup, ap_iterK_ref, iterC_lst, ap_fIterS, ap_iterSK, ap_fComp, ap_compK_fix, ap_compK_live, compX_nil, compX_cons, ap_compTK, ap_compEK, ap_fYes, ap_fDict0, ap_fDictT0, ap_fSl, ap_slK1, ap_slK2, ap_pNo, ap_pSo, ap_pSoK, oSl_tup, oSl_str, ap_fBm, ap_bmK, tyIn_str, tyIn_ref, tyInC_lst, tyD_ref, R.bind_ok, R.bind_ex, R.bind_bad, R.nox_ok, nox_bad', List.map_cons, List.map_nil, List.length_cons, List.length_nil, List.cons_append, List.nil_append, Nat.zero_add, Nat.reduceAdd, Nat.reduceSub, List.replicate_succ, List.replicate_zero, List.getElem?_cons_zero, List.getElem?_cons_succ, List.set_cons_zero, List.set_cons_succ, List.append_nil, Bool.false_eq_true, if_true, if_false, decide_eq_true_eq, decide_true, decide_false, Nat.add_zero, reduceIte, reduceDIte, Nat.reduceLeDiff, Int.reduceLT, Int.reduceLE, Int.reduceNeg, Int.reducePow, Int.reduceMul, Int.reduceAdd, Int.reduceSub, Nat.reduceEqDiff, Nat.reducePow, true_and, and_true, or_true, true_or, false_or, or_false, and_self, Bool.not_true, Bool.not_false, Nat.reduceLT, ge_iff_le, gt_iff_lt, Nat.le_refl, Option.map_some, Bool.not_eq_true, Bool.not_eq_eq_eq_not, not_true_eq_false, not_false_eq_true, Int.reduceToNat, beq_iff_eq, Int.reduceEq, String.reduceEq, String.reduceNe, Int.reduceNe, List.set_set, get_app, get_app0, get_apps, get_apps0, set_app, set_app0, set_apps, set_apps0, List.append_assoc, Nat.add_assoc, List.toList_toArray, List.size_toArray, List.length_set, List.length_append, h, stC]
theorem turn_eq (c : CA) (n : Int) (k : Nat) (e1 e2 : Option D) (ns : List Int) (hk : ns[k]? = some n) (h40 : k < 1000) (S : Sto) :
    ∃ S1 v, lb_law_0 c [some (.rl (ns.map D.int)), some (.int (0 + (k : Nat))), e2] S = .ok (.nx [some (.rl (ns.map D.int)), some (.int (0 + (k : Nat))), some v]) S1 := by
  have hx : atI (ns.map D.int) (0 + (k : Nat)) = some (.int n) := by
    rw [atI_nn (by omega), List.getElem?_map, show (0 + (k : Int)).toNat = k by omega, hk]; rfl
  obtain ⟨s, hs⟩ := stream_eq c n (0 + (k : Nat)) S (by omega)
  obtain ⟨d, S1, h1, ⟨t, ht⟩, hz⟩ := thing_eq c (n := S.length) (s := s) (S := S ++ [stC s]) get_app0
  rcases ty_ways ht with hd | hd | ⟨z, rfl, rfl⟩ | hd
  case inr.inr.inl =>
    obtain ⟨z1, z2⟩ := hz z rfl
    obtain ⟨T1, n1⟩ := name_str c (S := S1) z1
    obtain ⟨T2, n2⟩ := lname_str c (S := S1 ++ T1) z1 z2
    refine ⟨S1 ++ T1 ++ T2, .str z, ?_⟩
    simp only [ap_fVar, varK_some, ap_fC, ap_fBin, ap_binK, ap_fUn, ap_fApp, ap_fNil, ap_fCons, ap_consK, ap_consK2, ap_fTup, ap_fLst, ap_tupK, ap_lstK, ap_fTest, ap_testK, ap_fVal, ap_valK, ap_fAnd, ap_fOr, ap_fNot, ap_andK, ap_orK, ap_notK, ap_fAndV, ap_fOrV, ap_fNotV, ap_andVK, ap_orVK, ap_notVK, ap_fIfE, ap_ifEK, ap_fChain, ap_chK1, ap_chK2, ap_chK3, ap_fSkip, ap_fBrk, ap_fCnt, ap_fSeq, ap_seqK_nx, ap_seqK_rt, ap_seqK_bk, ap_seqK_ct, ap_fIf, ap_ifK, ap_fRet, ap_retK, ap_fRetN, ap_fDrop, ap_dropK, ap_fAsg, ap_asgK, ap_asgK2, ap_gN, ap_gNil, ap_gCons, ap_gsK, ap_gUnp, ap_unpK, ap_gSub, ap_subK1, ap_subK2, ap_subK3, ap_fIx, ap_ixK, isDict_ref, isDict_tup, isDict_rl, isDict_str, isDictC_lst, isDictC_dk, isDictC_dt, getL_tup, getL_rl, getL_str, getL_ref, getLC_lst, retO_some, atI_0, atI_1, atI_2, atI_3, oSet_ref, setC_lst, setLK_some, ixN_0, ixN_1, ap_fCall, ap_callK, ap_fnF, ap_fnK_nx, ap_fnK_rt, o_add, o_addR, o_addC, o_addS, o_addT, o_sub, o_mul, o_mod, o_div, o_pow, o_neg, o_lt, o_le, o_gt, o_ge, o_int, o_min2, o_max2, o_leS1, o_inS1, o_isB, o_eq, o_ne, eqK_some, neK_some, eqv_int, eqv_bool, toP_int, toP_bl, toP_non, toP_str, toP_tup, toP_rl, toP_ref, toPC_lst, toP_mapM_nil, toP_mapM_cons, toP_consO, o_len, lenK_some, lenD_tup, lenD_rl, lenD_str, lenD_ref, lenC_lst, ap_fIsi, ap_isiK0, ap_isiK, ap_isiK2, ap_fTyIs, ap_tyK0, ap_tyK, ap_fFor, ap_forK_fix, ap_forK_live, loopX_nil, loopX_cons, ap_turnK0, ap_turnK_nx, ap_turnK_ct, ap_turnK_bk, ap_turnK_rt, ap_fRng1, ap_rng1K, ap_fIter, ap_iterK_rl, ap_iterK_tup, ap_iterK_ref, iterC_lst, ap_fIterS, ap_iterSK, ap_fComp, ap_compK_fix, ap_compK_live, compX_nil, compX_cons, ap_compTK, ap_compEK, ap_fYes, ap_fDict0, ap_fDictT0, ap_fSl, ap_slK1, ap_slK2, ap_pNo, ap_pSo, ap_pSoK, oSl_tup, oSl_str, ap_fBm, ap_bmK, tyIn_str, tyIn_ref, tyInC_lst, tyD_ref, R.bind_ok, R.bind_ex, R.bind_bad, R.nox_ok, nox_bad', List.map_cons, List.map_nil, List.length_cons, List.length_nil, List.cons_append, List.nil_append, Nat.zero_add, Nat.reduceAdd, Nat.reduceSub, List.replicate_succ, List.replicate_zero, List.getElem?_cons_zero, List.getElem?_cons_succ, List.set_cons_zero, List.set_cons_succ, List.append_nil, Bool.false_eq_true, if_true, if_false, decide_eq_true_eq, decide_true, decide_false, Nat.add_zero, reduceIte, reduceDIte, Nat.reduceLeDiff, Int.reduceLT, Int.reduceLE, Int.reduceNeg, Int.reducePow, Int.reduceMul, Int.reduceAdd, Int.reduceSub, Nat.reduceEqDiff, Nat.reducePow, true_and, and_true, or_true, true_or, false_or, or_false, and_self, Bool.not_true, Bool.not_false, Nat.reduceLT, ge_iff_le, gt_iff_lt, Nat.le_refl, Option.map_some, Bool.not_eq_true, Bool.not_eq_eq_eq_not, not_true_eq_false, not_false_eq_true, Int.reduceToNat, beq_iff_eq, Int.reduceEq, String.reduceEq, String.reduceNe, Int.reduceNe, List.set_set, get_app, get_app0, get_apps, get_apps0, set_app, set_app0, set_apps, set_apps0, List.append_assoc, Nat.add_assoc, List.toList_toArray, List.size_toArray, List.length_set, List.length_append, ap_lb_law_0, hx, hs, h1, number_is c ht, integer_is c ht, value_is c ht, is_int_eq c ht, flag_eq, beq_self_eq_true, n1, n2]
  all_goals
    have hns : ∀ z, d ≠ .str z := by
      intro z e
      subst e
      first
        | (obtain ⟨_, q, _⟩ := hd; cases q; done)
        | exact hd.2.2.1 z rfl
    refine ⟨S1, d, ?_⟩
    simp only [ap_fVar, varK_some, ap_fC, ap_fBin, ap_binK, ap_fUn, ap_fApp, ap_fNil, ap_fCons, ap_consK, ap_consK2, ap_fTup, ap_fLst, ap_tupK, ap_lstK, ap_fTest, ap_testK, ap_fVal, ap_valK, ap_fAnd, ap_fOr, ap_fNot, ap_andK, ap_orK, ap_notK, ap_fAndV, ap_fOrV, ap_fNotV, ap_andVK, ap_orVK, ap_notVK, ap_fIfE, ap_ifEK, ap_fChain, ap_chK1, ap_chK2, ap_chK3, ap_fSkip, ap_fBrk, ap_fCnt, ap_fSeq, ap_seqK_nx, ap_seqK_rt, ap_seqK_bk, ap_seqK_ct, ap_fIf, ap_ifK, ap_fRet, ap_retK, ap_fRetN, ap_fDrop, ap_dropK, ap_fAsg, ap_asgK, ap_asgK2, ap_gN, ap_gNil, ap_gCons, ap_gsK, ap_gUnp, ap_unpK, ap_gSub, ap_subK1, ap_subK2, ap_subK3, ap_fIx, ap_ixK, isDict_ref, isDict_tup, isDict_rl, isDict_str, isDictC_lst, isDictC_dk, isDictC_dt, getL_tup, getL_rl, getL_str, getL_ref, getLC_lst, retO_some, atI_0, atI_1, atI_2, atI_3, oSet_ref, setC_lst, setLK_some, ixN_0, ixN_1, ap_fCall, ap_callK, ap_fnF, ap_fnK_nx, ap_fnK_rt, o_add, o_addR, o_addC, o_addS, o_addT, o_sub, o_mul, o_mod, o_div, o_pow, o_neg, o_lt, o_le, o_gt, o_ge, o_int, o_min2, o_max2, o_leS1, o_inS1, o_isB, o_eq, o_ne, eqK_some, neK_some, eqv_int, eqv_bool, toP_int, toP_bl, toP_non, toP_str, toP_tup, toP_rl, toP_ref, toPC_lst, toP_mapM_nil, toP_mapM_cons, toP_consO, o_len, lenK_some, lenD_tup, lenD_rl, lenD_str, lenD_ref, lenC_lst, ap_fIsi, ap_isiK0, ap_isiK, ap_isiK2, ap_fTyIs, ap_tyK0, ap_tyK, ap_fFor, ap_forK_fix, ap_forK_live, loopX_nil, loopX_cons, ap_turnK0, ap_turnK_nx, ap_turnK_ct, ap_turnK_bk, ap_turnK_rt, ap_fRng1, ap_rng1K, ap_fIter, ap_iterK_rl, ap_iterK_tup, ap_iterK_ref, iterC_lst, ap_fIterS, ap_iterSK, ap_fComp, ap_compK_fix, ap_compK_live, compX_nil, compX_cons, ap_compTK, ap_compEK, ap_fYes, ap_fDict0, ap_fDictT0, ap_fSl, ap_slK1, ap_slK2, ap_pNo, ap_pSo, ap_pSoK, oSl_tup, oSl_str, ap_fBm, ap_bmK, tyIn_str, tyIn_ref, tyInC_lst, tyD_ref, R.bind_ok, R.bind_ex, R.bind_bad, R.nox_ok, nox_bad', List.map_cons, List.map_nil, List.length_cons, List.length_nil, List.cons_append, List.nil_append, Nat.zero_add, Nat.reduceAdd, Nat.reduceSub, List.replicate_succ, List.replicate_zero, List.getElem?_cons_zero, List.getElem?_cons_succ, List.set_cons_zero, List.set_cons_succ, List.append_nil, Bool.false_eq_true, if_true, if_false, decide_eq_true_eq, decide_true, decide_false, Nat.add_zero, reduceIte, reduceDIte, Nat.reduceLeDiff, Int.reduceLT, Int.reduceLE, Int.reduceNeg, Int.reducePow, Int.reduceMul, Int.reduceAdd, Int.reduceSub, Nat.reduceEqDiff, Nat.reducePow, true_and, and_true, or_true, true_or, false_or, or_false, and_self, Bool.not_true, Bool.not_false, Nat.reduceLT, ge_iff_le, gt_iff_lt, Nat.le_refl, Option.map_some, Bool.not_eq_true, Bool.not_eq_eq_eq_not, not_true_eq_false, not_false_eq_true, Int.reduceToNat, beq_iff_eq, Int.reduceEq, String.reduceEq, String.reduceNe, Int.reduceNe, List.set_set, get_app, get_app0, get_apps, get_apps0, set_app, set_app0, set_apps, set_apps0, List.append_assoc, Nat.add_assoc, List.toList_toArray, List.size_toArray, List.length_set, List.length_append, ap_lb_law_0, hx, hs, h1, number_is c ht, integer_is c ht, value_is c ht, is_int_eq c ht, flag_eq, beq_self_eq_true, name_no c ht hns, lname_no c ht hns]
theorem loop_eq (c : CA) (ns : List Int) (m : Nat) (hm : m ≤ ns.length) (hl : m < 1000) : ∀ (r j : Nat), r = m - j → j ≤ m → ∀ (e1 e2 : Option D) (S : Sto),
    ∃ S1 f1 f2, loopX (gN 1) (lb_law_0 c) ((rngD 0 m).drop j) [some (.rl (ns.map D.int)), e1, e2] S = .ok (.nx [some (.rl (ns.map D.int)), f1, f2]) S1 := by
  intro r
  induction r with
  | zero =>
    intro j hr hj e1 e2 S
    rw [List.drop_eq_nil_of_le (by rw [rngD_len]; omega)]
    exact ⟨S, e1, e2, rfl⟩
  | succ r ih =>
    intro j hr hj e1 e2 S
    have hlt : j < (rngD 0 m).length := by rw [rngD_len]; omega
    rw [List.drop_eq_getElem_cons hlt]
    obtain ⟨_, hd⟩ := rngD_get (List.getElem?_eq_getElem hlt)
    rw [hd]
    have hk : ns[j]? = some ns[j] := List.getElem?_eq_getElem (by omega)
    obtain ⟨S1, v, h⟩ := turn_eq c ns[j] j e1 e2 ns hk (by omega) S
    obtain ⟨S2, a, b, h2⟩ := ih (j + 1) (by omega) (by omega) (some (.int (0 + (j : Nat)))) (some v) S1
    refine ⟨S2, a, b, ?_⟩
    simp only [ap_fVar, varK_some, ap_fC, ap_fBin, ap_binK, ap_fUn, ap_fApp, ap_fNil, ap_fCons, ap_consK, ap_consK2, ap_fTup, ap_fLst, ap_tupK, ap_lstK, ap_fTest, ap_testK, ap_fVal, ap_valK, ap_fAnd, ap_fOr, ap_fNot, ap_andK, ap_orK, ap_notK, ap_fAndV, ap_fOrV, ap_fNotV, ap_andVK, ap_orVK, ap_notVK, ap_fIfE, ap_ifEK, ap_fChain, ap_chK1, ap_chK2, ap_chK3, ap_fSkip, ap_fBrk, ap_fCnt, ap_fSeq, ap_seqK_nx, ap_seqK_rt, ap_seqK_bk, ap_seqK_ct, ap_fIf, ap_ifK, ap_fRet, ap_retK, ap_fRetN, ap_fDrop, ap_dropK, ap_fAsg, ap_asgK, ap_asgK2, ap_gN, ap_gNil, ap_gCons, ap_gsK, ap_gUnp, ap_unpK, ap_gSub, ap_subK1, ap_subK2, ap_subK3, ap_fIx, ap_ixK, isDict_ref, isDict_tup, isDict_rl, isDict_str, isDictC_lst, isDictC_dk, isDictC_dt, getL_tup, getL_rl, getL_str, getL_ref, getLC_lst, retO_some, atI_0, atI_1, atI_2, atI_3, oSet_ref, setC_lst, setLK_some, ixN_0, ixN_1, ap_fCall, ap_callK, ap_fnF, ap_fnK_nx, ap_fnK_rt, o_add, o_addR, o_addC, o_addS, o_addT, o_sub, o_mul, o_mod, o_div, o_pow, o_neg, o_lt, o_le, o_gt, o_ge, o_int, o_min2, o_max2, o_leS1, o_inS1, o_isB, o_eq, o_ne, eqK_some, neK_some, eqv_int, eqv_bool, toP_int, toP_bl, toP_non, toP_str, toP_tup, toP_rl, toP_ref, toPC_lst, toP_mapM_nil, toP_mapM_cons, toP_consO, o_len, lenK_some, lenD_tup, lenD_rl, lenD_str, lenD_ref, lenC_lst, ap_fIsi, ap_isiK0, ap_isiK, ap_isiK2, ap_fTyIs, ap_tyK0, ap_tyK, ap_fFor, ap_forK_fix, ap_forK_live, loopX_nil, loopX_cons, ap_turnK0, ap_turnK_nx, ap_turnK_ct, ap_turnK_bk, ap_turnK_rt, ap_fRng1, ap_rng1K, ap_fIter, ap_iterK_rl, ap_iterK_tup, ap_iterK_ref, iterC_lst, ap_fIterS, ap_iterSK, ap_fComp, ap_compK_fix, ap_compK_live, compX_nil, compX_cons, ap_compTK, ap_compEK, ap_fYes, ap_fDict0, ap_fDictT0, ap_fSl, ap_slK1, ap_slK2, ap_pNo, ap_pSo, ap_pSoK, oSl_tup, oSl_str, ap_fBm, ap_bmK, tyIn_str, tyIn_ref, tyInC_lst, tyD_ref, R.bind_ok, R.bind_ex, R.bind_bad, R.nox_ok, nox_bad', List.map_cons, List.map_nil, List.length_cons, List.length_nil, List.cons_append, List.nil_append, Nat.zero_add, Nat.reduceAdd, Nat.reduceSub, List.replicate_succ, List.replicate_zero, List.getElem?_cons_zero, List.getElem?_cons_succ, List.set_cons_zero, List.set_cons_succ, List.append_nil, Bool.false_eq_true, if_true, if_false, decide_eq_true_eq, decide_true, decide_false, Nat.add_zero, reduceIte, reduceDIte, Nat.reduceLeDiff, Int.reduceLT, Int.reduceLE, Int.reduceNeg, Int.reducePow, Int.reduceMul, Int.reduceAdd, Int.reduceSub, Nat.reduceEqDiff, Nat.reducePow, true_and, and_true, or_true, true_or, false_or, or_false, and_self, Bool.not_true, Bool.not_false, Nat.reduceLT, ge_iff_le, gt_iff_lt, Nat.le_refl, Option.map_some, Bool.not_eq_true, Bool.not_eq_eq_eq_not, not_true_eq_false, not_false_eq_true, Int.reduceToNat, beq_iff_eq, Int.reduceEq, String.reduceEq, String.reduceNe, Int.reduceNe, List.set_set, get_app, get_app0, get_apps, get_apps0, set_app, set_app0, set_apps, set_apps0, List.append_assoc, Nat.add_assoc, List.toList_toArray, List.size_toArray, List.length_set, List.length_append, h]
    exact h2
end Qk01

namespace Qk01
open PySem L2 RF
theorem nb1 : nameB ⟨#[97]⟩ = true := by decide
theorem nv1 : intIn 0 (10 ^ 12) (.int 0) = true := by simp only [ap_fVar, varK_some, ap_fC, ap_fBin, ap_binK, ap_fUn, ap_fApp, ap_fNil, ap_fCons, ap_consK, ap_consK2, ap_fTup, ap_fLst, ap_tupK, ap_lstK, ap_fTest, ap_testK, ap_fVal, ap_valK, ap_fAnd, ap_fOr, ap_fNot, ap_andK, ap_orK, ap_notK, ap_fAndV, ap_fOrV, ap_fNotV, ap_andVK, ap_orVK, ap_notVK, ap_fIfE, ap_ifEK, ap_fChain, ap_chK1, ap_chK2, ap_chK3, ap_fSkip, ap_fBrk, ap_fCnt, ap_fSeq, ap_seqK_nx, ap_seqK_rt, ap_seqK_bk, ap_seqK_ct, ap_fIf, ap_ifK, ap_fRet, ap_retK, ap_fRetN, ap_fDrop, ap_dropK, ap_fAsg, ap_asgK, ap_asgK2, ap_gN, ap_gNil, ap_gCons, ap_gsK, ap_gUnp, ap_unpK, ap_gSub, ap_subK1, ap_subK2, ap_subK3, ap_fIx, ap_ixK, isDict_ref, isDict_tup, isDict_rl, isDict_str, isDictC_lst, isDictC_dk, isDictC_dt, getL_tup, getL_rl, getL_str, getL_ref, getLC_lst, retO_some, atI_0, atI_1, atI_2, atI_3, oSet_ref, setC_lst, setLK_some, ixN_0, ixN_1, ap_fCall, ap_callK, ap_fnF, ap_fnK_nx, ap_fnK_rt, o_add, o_addR, o_addC, o_addS, o_addT, o_sub, o_mul, o_mod, o_div, o_pow, o_neg, o_lt, o_le, o_gt, o_ge, o_int, o_min2, o_max2, o_leS1, o_inS1, o_isB, o_eq, o_ne, eqK_some, neK_some, eqv_int, eqv_bool, toP_int, toP_bl, toP_non, toP_str, toP_tup, toP_rl, toP_ref, toPC_lst, toP_mapM_nil, toP_mapM_cons, toP_consO, o_len, lenK_some, lenD_tup, lenD_rl, lenD_str, lenD_ref, lenC_lst, ap_fIsi, ap_isiK0, ap_isiK, ap_isiK2, ap_fTyIs, ap_tyK0, ap_tyK, ap_fFor, ap_forK_fix, ap_forK_live, loopX_nil, loopX_cons, ap_turnK0, ap_turnK_nx, ap_turnK_ct, ap_turnK_bk, ap_turnK_rt, ap_fRng1, ap_rng1K, ap_fIter, ap_iterK_rl, ap_iterK_tup, ap_iterK_ref, iterC_lst, ap_fIterS, ap_iterSK, ap_fComp, ap_compK_fix, ap_compK_live, compX_nil, compX_cons, ap_compTK, ap_compEK, ap_fYes, ap_fDict0, ap_fDictT0, ap_fSl, ap_slK1, ap_slK2, ap_pNo, ap_pSo, ap_pSoK, oSl_tup, oSl_str, ap_fBm, ap_bmK, tyIn_str, tyIn_ref, tyInC_lst, tyD_ref, R.bind_ok, R.bind_ex, R.bind_bad, R.nox_ok, nox_bad', List.map_cons, List.map_nil, List.length_cons, List.length_nil, List.cons_append, List.nil_append, Nat.zero_add, Nat.reduceAdd, Nat.reduceSub, List.replicate_succ, List.replicate_zero, List.getElem?_cons_zero, List.getElem?_cons_succ, List.set_cons_zero, List.set_cons_succ, List.append_nil, Bool.false_eq_true, if_true, if_false, decide_eq_true_eq, decide_true, decide_false, Nat.add_zero, reduceIte, reduceDIte, Nat.reduceLeDiff, Int.reduceLT, Int.reduceLE, Int.reduceNeg, Int.reducePow, Int.reduceMul, Int.reduceAdd, Int.reduceSub, Nat.reduceEqDiff, Nat.reducePow, true_and, and_true, or_true, true_or, false_or, or_false, and_self, Bool.not_true, Bool.not_false, Nat.reduceLT, ge_iff_le, gt_iff_lt, Nat.le_refl, Option.map_some, Bool.not_eq_true, Bool.not_eq_eq_eq_not, not_true_eq_false, not_false_eq_true, Int.reduceToNat, beq_iff_eq, Int.reduceEq, String.reduceEq, String.reduceNe, Int.reduceNe, List.set_set, get_app, get_app0, get_apps, get_apps0, set_app, set_app0, set_apps, set_apps0, List.append_assoc, Nat.add_assoc, List.toList_toArray, List.size_toArray, List.length_set, List.length_append, intIn, Bool.and_self]
theorem main_law (c : CA) (ns : List Int) (h1 : ns.length ≤ 63) (h2 : ∀ z ∈ ns, Builtin.Int.intBits z ≤ 1048576) : isTrue1 (F_law c [.rl (ns.map D.int)] []) := by
  have hl : ∃ m : Nat, (if (40 : Int) < (ns.length : Int) then 40 else (ns.length : Int)) = (m : Int) ∧ m ≤ ns.length ∧ m < 1000 := by
    split
    · exact ⟨40, rfl, by omega, by omega⟩
    · exact ⟨ns.length, rfl, by omega, by omega⟩
  obtain ⟨m, hm, h3, h4⟩ := hl
  obtain ⟨S1, e1, e2, h5⟩ := loop_eq c ns m h3 h4 m 0 (by omega) (by omega) none none []
  rw [List.drop_zero] at h5
  obtain ⟨T1, n1⟩ := name_str c (S := S1) (z := ⟨#[97]⟩) (by decide)
  have nm := number_is c (S := S1 ++ T1) (d := .int 0) rfl
  rw [nv1] at nm
  rw [nb1] at n1
  have hr : -4611686018427387904 ≤ (m : Int) ∧ (m : Int) < 4611686018427387904 := by omega
  unfold F_law b_law
  simp only [ap_fVar, varK_some, ap_fC, ap_fBin, ap_binK, ap_fUn, ap_fApp, ap_fNil, ap_fCons, ap_consK, ap_consK2, ap_fTup, ap_fLst, ap_tupK, ap_lstK, ap_fTest, ap_testK, ap_fVal, ap_valK, ap_fAnd, ap_fOr, ap_fNot, ap_andK, ap_orK, ap_notK, ap_fAndV, ap_fOrV, ap_fNotV, ap_andVK, ap_orVK, ap_notVK, ap_fIfE, ap_ifEK, ap_fChain, ap_chK1, ap_chK2, ap_chK3, ap_fSkip, ap_fBrk, ap_fCnt, ap_fSeq, ap_seqK_nx, ap_seqK_rt, ap_seqK_bk, ap_seqK_ct, ap_fIf, ap_ifK, ap_fRet, ap_retK, ap_fRetN, ap_fDrop, ap_dropK, ap_fAsg, ap_asgK, ap_asgK2, ap_gN, ap_gNil, ap_gCons, ap_gsK, ap_gUnp, ap_unpK, ap_gSub, ap_subK1, ap_subK2, ap_subK3, ap_fIx, ap_ixK, isDict_ref, isDict_tup, isDict_rl, isDict_str, isDictC_lst, isDictC_dk, isDictC_dt, getL_tup, getL_rl, getL_str, getL_ref, getLC_lst, retO_some, atI_0, atI_1, atI_2, atI_3, oSet_ref, setC_lst, setLK_some, ixN_0, ixN_1, ap_fCall, ap_callK, ap_fnF, ap_fnK_nx, ap_fnK_rt, o_add, o_addR, o_addC, o_addS, o_addT, o_sub, o_mul, o_mod, o_div, o_pow, o_neg, o_lt, o_le, o_gt, o_ge, o_int, o_min2, o_max2, o_leS1, o_inS1, o_isB, o_eq, o_ne, eqK_some, neK_some, eqv_int, eqv_bool, toP_int, toP_bl, toP_non, toP_str, toP_tup, toP_rl, toP_ref, toPC_lst, toP_mapM_nil, toP_mapM_cons, toP_consO, o_len, lenK_some, lenD_tup, lenD_rl, lenD_str, lenD_ref, lenC_lst, ap_fIsi, ap_isiK0, ap_isiK, ap_isiK2, ap_fTyIs, ap_tyK0, ap_tyK, ap_fFor, ap_forK_fix, ap_forK_live, loopX_nil, loopX_cons, ap_turnK0, ap_turnK_nx, ap_turnK_ct, ap_turnK_bk, ap_turnK_rt, ap_fRng1, ap_rng1K, ap_fIter, ap_iterK_rl, ap_iterK_tup, ap_iterK_ref, iterC_lst, ap_fIterS, ap_iterSK, ap_fComp, ap_compK_fix, ap_compK_live, compX_nil, compX_cons, ap_compTK, ap_compEK, ap_fYes, ap_fDict0, ap_fDictT0, ap_fSl, ap_slK1, ap_slK2, ap_pNo, ap_pSo, ap_pSoK, oSl_tup, oSl_str, ap_fBm, ap_bmK, tyIn_str, tyIn_ref, tyInC_lst, tyD_ref, R.bind_ok, R.bind_ex, R.bind_bad, R.nox_ok, nox_bad', List.map_cons, List.map_nil, List.length_cons, List.length_nil, List.cons_append, List.nil_append, Nat.zero_add, Nat.reduceAdd, Nat.reduceSub, List.replicate_succ, List.replicate_zero, List.getElem?_cons_zero, List.getElem?_cons_succ, List.set_cons_zero, List.set_cons_succ, List.append_nil, Bool.false_eq_true, if_true, if_false, decide_eq_true_eq, decide_true, decide_false, Nat.add_zero, reduceIte, reduceDIte, Nat.reduceLeDiff, Int.reduceLT, Int.reduceLE, Int.reduceNeg, Int.reducePow, Int.reduceMul, Int.reduceAdd, Int.reduceSub, Nat.reduceEqDiff, Nat.reducePow, true_and, and_true, or_true, true_or, false_or, or_false, and_self, Bool.not_true, Bool.not_false, Nat.reduceLT, ge_iff_le, gt_iff_lt, Nat.le_refl, Option.map_some, Bool.not_eq_true, Bool.not_eq_eq_eq_not, not_true_eq_false, not_false_eq_true, Int.reduceToNat, beq_iff_eq, Int.reduceEq, String.reduceEq, String.reduceNe, Int.reduceNe, List.set_set, get_app, get_app0, get_apps, get_apps0, set_app, set_app0, set_apps, set_apps0, List.append_assoc, Nat.add_assoc, List.toList_toArray, List.size_toArray, List.length_set, List.length_append, List.length_map, hm, hr, Int.toNat_natCast, h5, n1, nm, isTrue1]
end Qk01

namespace Qk01
open PySem L2 RF
theorem all_mk {l : PySem.W.OpenLaw} {w : World} {K : PySem.W.Frag} {h : Heap} {mg : Str → Option Value} {fa  : Addr} {t_MOST_LETTERS t_MOST_NUMBER t_MOST_VALUE : Tok} (X : K.In h) (G : h.Ns mainGlobals mg) (hfa : mg "law" = some (.ref fa))
    {f0 : Addr} {od0 an0 : Option Addr} {sl0 : Array (Option Value)} {oc0 kV0 dc0 pm0 cd0 ct0 : Value}
    {f1 : Addr} {od1 an1 : Option Addr} {sl1 : Array (Option Value)} {oc1 kV1 dc1 pm1 cd1 ct1 : Value}
    {f2 : Addr} {od2 an2 : Option Addr} {sl2 : Array (Option Value)} {oc2 kV2 dc2 pm2 cd2 ct2 : Value}
    {f3 : Addr} {od3 an3 : Option Addr} {sl3 : Array (Option Value)} {oc3 kV3 dc3 pm3 cd3 ct3 : Value}
    {f4 : Addr} {od4 an4 : Option Addr} {sl4 : Array (Option Value)} {oc4 kV4 dc4 pm4 cd4 ct4 : Value}
    {f5 : Addr} {od5 an5 : Option Addr} {sl5 : Array (Option Value)} {oc5 kV5 dc5 pm5 cd5 ct5 : Value}
    {f6 : Addr} {od6 an6 : Option Addr} {sl6 : Array (Option Value)} {oc6 kV6 dc6 pm6 cd6 ct6 : Value}
    {f7 : Addr} {od7 an7 : Option Addr} {sl7 : Array (Option Value)} {oc7 kV7 dc7 pm7 cd7 ct7 : Value}
    {f8 : Addr} {od8 an8 : Option Addr} {sl8 : Array (Option Value)} {oc8 kV8 dc8 pm8 cd8 ct8 : Value}
    {f9 : Addr} {od9 an9 : Option Addr} {sl9 : Array (Option Value)} {oc9 kV9 dc9 pm9 cd9 ct9 : Value}
    {f10 : Addr} {od10 an10 : Option Addr} {sl10 : Array (Option Value)} {oc10 kV10 dc10 pm10 cd10 ct10 : Value}
    {f11 : Addr} {od11 an11 : Option Addr} {sl11 : Array (Option Value)} {oc11 kV11 dc11 pm11 cd11 ct11 : Value}
    {f12 : Addr} {od12 an12 : Option Addr} {sl12 : Array (Option Value)} {oc12 kV12 dc12 pm12 cd12 ct12 : Value}
    {f13 : Addr} {od13 an13 : Option Addr} {sl13 : Array (Option Value)} {oc13 kV13 dc13 pm13 cd13 ct13 : Value}
    {f14 : Addr} {od14 an14 : Option Addr} {sl14 : Array (Option Value)} {oc14 kV14 dc14 pm14 cd14 ct14 : Value}
    {f15 : Addr} {od15 an15 : Option Addr} {sl15 : Array (Option Value)} {oc15 kV15 dc15 pm15 cd15 ct15 : Value}
    (main : ∀ (c : CA) (ns : List Int), ns.length ≤ 63 → (∀ z ∈ ns, Builtin.Int.intBits z ≤ 1048576) → isTrue1 (F_law c [.rl (ns.map D.int)] []))
    (a0 : PySem.W.nsIn K mainGlobals "_law_next" = some (some (.ref f0)))
    (l0 : K.lookup f0 = some ⟨oc0, od0, .func (PySem.W.fnOf "_law_next" "_law_next" (defArgs s_law_next) (defBody s_law_next) (defScope s_law_next) .none kV0 dc0 pm0 an0 cd0 ct0), sl0⟩)
    (c0 : PySem.W.codeIn K cd0 "_law_next" = true)
    (k0 : PySem.W.keepIn K (.ref f0) = true)
    (a1 : PySem.W.nsIn K mainGlobals "_law_odd" = some (some (.ref f1)))
    (l1 : K.lookup f1 = some ⟨oc1, od1, .func (PySem.W.fnOf "_law_odd" "_law_odd" (defArgs s_law_odd) (defBody s_law_odd) (defScope s_law_odd) .none kV1 dc1 pm1 an1 cd1 ct1), sl1⟩)
    (c1 : PySem.W.codeIn K cd1 "_law_odd" = true)
    (k1 : PySem.W.keepIn K (.ref f1) = true)
    (a2 : PySem.W.nsIn K mainGlobals "_law_number" = some (some (.ref f2)))
    (l2 : K.lookup f2 = some ⟨oc2, od2, .func (PySem.W.fnOf "_law_number" "_law_number" (defArgs s_law_number) (defBody s_law_number) (defScope s_law_number) .none kV2 dc2 pm2 an2 cd2 ct2), sl2⟩)
    (c2 : PySem.W.codeIn K cd2 "_law_number" = true)
    (k2 : PySem.W.keepIn K (.ref f2) = true)
    (a3 : PySem.W.nsIn K mainGlobals "_law_integer" = some (some (.ref f3)))
    (l3 : K.lookup f3 = some ⟨oc3, od3, .func (PySem.W.fnOf "_law_integer" "_law_integer" (defArgs s_law_integer) (defBody s_law_integer) (defScope s_law_integer) .none kV3 dc3 pm3 an3 cd3 ct3), sl3⟩)
    (c3 : PySem.W.codeIn K cd3 "_law_integer" = true)
    (k3 : PySem.W.keepIn K (.ref f3) = true)
    (a4 : PySem.W.nsIn K mainGlobals "_law_name" = some (some (.ref f4)))
    (l4 : K.lookup f4 = some ⟨oc4, od4, .func (PySem.W.fnOf "_law_name" "_law_name" (defArgs s_law_name) (defBody s_law_name) (defScope s_law_name) .none kV4 dc4 pm4 an4 cd4 ct4), sl4⟩)
    (c4 : PySem.W.codeIn K cd4 "_law_name" = true)
    (k4 : PySem.W.keepIn K (.ref f4) = true)
    (a5 : PySem.W.nsIn K mainGlobals "_law_thing" = some (some (.ref f5)))
    (l5 : K.lookup f5 = some ⟨oc5, od5, .func (PySem.W.fnOf "_law_thing" "_law_thing" (defArgs s_law_thing) (defBody s_law_thing) (defScope s_law_thing) .none kV5 dc5 pm5 an5 cd5 ct5), sl5⟩)
    (c5 : PySem.W.codeIn K cd5 "_law_thing" = true)
    (k5 : PySem.W.keepIn K (.ref f5) = true)
    (a6 : PySem.W.nsIn K mainGlobals "_law_stream" = some (some (.ref f6)))
    (l6 : K.lookup f6 = some ⟨oc6, od6, .func (PySem.W.fnOf "_law_stream" "_law_stream" (defArgs s_law_stream) (defBody s_law_stream) (defScope s_law_stream) .none kV6 dc6 pm6 an6 cd6 ct6), sl6⟩)
    (c6 : PySem.W.codeIn K cd6 "_law_stream" = true)
    (k6 : PySem.W.keepIn K (.ref f6) = true)
    (a7 : PySem.W.nsIn K mainGlobals "_law_flag" = some (some (.ref f7)))
    (l7 : K.lookup f7 = some ⟨oc7, od7, .func (PySem.W.fnOf "_law_flag" "_law_flag" (defArgs s_law_flag) (defBody s_law_flag) (defScope s_law_flag) .none kV7 dc7 pm7 an7 cd7 ct7), sl7⟩)
    (c7 : PySem.W.codeIn K cd7 "_law_flag" = true)
    (k7 : PySem.W.keepIn K (.ref f7) = true)
    (a8 : PySem.W.nsIn K mainGlobals "_law_is_int" = some (some (.ref f8)))
    (l8 : K.lookup f8 = some ⟨oc8, od8, .func (PySem.W.fnOf "_law_is_int" "_law_is_int" (defArgs s_law_is_int) (defBody s_law_is_int) (defScope s_law_is_int) .none kV8 dc8 pm8 an8 cd8 ct8), sl8⟩)
    (c8 : PySem.W.codeIn K cd8 "_law_is_int" = true)
    (k8 : PySem.W.keepIn K (.ref f8) = true)
    (a9 : PySem.W.nsIn K mainGlobals "_is_between" = some (some (.ref f9)))
    (l9 : K.lookup f9 = some ⟨oc9, od9, .func (PySem.W.fnOf "_is_between" "_is_between" (defArgs s_is_between) (defBody s_is_between) (defScope s_is_between) .none kV9 dc9 pm9 an9 cd9 ct9), sl9⟩)
    (c9 : PySem.W.codeIn K cd9 "_is_between" = true)
    (k9 : PySem.W.keepIn K (.ref f9) = true)
    (a10 : PySem.W.nsIn K mainGlobals "is_number" = some (some (.ref f10)))
    (l10 : K.lookup f10 = some ⟨oc10, od10, .func (PySem.W.fnOf "is_number" "is_number" (defArgs s_is_number) (defBody s_is_number) (defScope s_is_number) .none kV10 dc10 pm10 an10 cd10 ct10), sl10⟩)
    (c10 : PySem.W.codeIn K cd10 "is_number" = true)
    (k10 : PySem.W.keepIn K (.ref f10) = true)
    (a11 : PySem.W.nsIn K mainGlobals "is_integer" = some (some (.ref f11)))
    (l11 : K.lookup f11 = some ⟨oc11, od11, .func (PySem.W.fnOf "is_integer" "is_integer" (defArgs s_is_integer) (defBody s_is_integer) (defScope s_is_integer) .none kV11 dc11 pm11 an11 cd11 ct11), sl11⟩)
    (c11 : PySem.W.codeIn K cd11 "is_integer" = true)
    (k11 : PySem.W.keepIn K (.ref f11) = true)
    (a12 : PySem.W.nsIn K mainGlobals "is_value" = some (some (.ref f12)))
    (l12 : K.lookup f12 = some ⟨oc12, od12, .func (PySem.W.fnOf "is_value" "is_value" (defArgs s_is_value) (defBody s_is_value) (defScope s_is_value) .none kV12 dc12 pm12 an12 cd12 ct12), sl12⟩)
    (c12 : PySem.W.codeIn K cd12 "is_value" = true)
    (k12 : PySem.W.keepIn K (.ref f12) = true)
    (a13 : PySem.W.nsIn K mainGlobals "_law_is_name" = some (some (.ref f13)))
    (l13 : K.lookup f13 = some ⟨oc13, od13, .func (PySem.W.fnOf "_law_is_name" "_law_is_name" (defArgs s_law_is_name) (defBody s_law_is_name) (defScope s_law_is_name) .none kV13 dc13 pm13 an13 cd13 ct13), sl13⟩)
    (c13 : PySem.W.codeIn K cd13 "_law_is_name" = true)
    (k13 : PySem.W.keepIn K (.ref f13) = true)
    (a14 : PySem.W.nsIn K mainGlobals "is_name" = some (some (.ref f14)))
    (l14 : K.lookup f14 = some ⟨oc14, od14, .func (PySem.W.fnOf "is_name" "is_name" (defArgs s_is_name) (defBody s_is_name) (defScope s_is_name) .none kV14 dc14 pm14 an14 cd14 ct14), sl14⟩)
    (c14 : PySem.W.codeIn K cd14 "is_name" = true)
    (k14 : PySem.W.keepIn K (.ref f14) = true)
    (a15 : PySem.W.nsIn K mainGlobals "law" = some (some (.ref f15)))
    (l15 : K.lookup f15 = some ⟨oc15, od15, .func (PySem.W.fnOf "law" "law" (defArgs s_law) (defBody s_law) (defScope s_law) .none kV15 dc15 pm15 an15 cd15 ct15), sl15⟩)
    (c15 : PySem.W.codeIn K cd15 "law" = true)
    (k15 : PySem.W.keepIn K (.ref f15) = true)
    (z_all : PySem.W.nsIn K mainGlobals "all" = some none)
    (z_bool : PySem.W.nsIn K mainGlobals "bool" = some none)
    (z_int : PySem.W.nsIn K mainGlobals "int" = some none)
    (z_isinstance : PySem.W.nsIn K mainGlobals "isinstance" = some none)
    (z_len : PySem.W.nsIn K mainGlobals "len" = some none)
    (z_min : PySem.W.nsIn K mainGlobals "min" = some none)
    (z_range : PySem.W.nsIn K mainGlobals "range" = some none)
    (z_str : PySem.W.nsIn K mainGlobals "str" = some none)
    (z_type : PySem.W.nsIn K mainGlobals "type" = some none)
    (v_MOST_LETTERS : PySem.W.nsIn K mainGlobals "MOST_LETTERS" = some (some (.int 12 t_MOST_LETTERS)))
    (v_MOST_NUMBER : PySem.W.nsIn K mainGlobals "MOST_NUMBER" = some (some (.int 1000000000000 t_MOST_NUMBER)))
    (v_MOST_VALUE : PySem.W.nsIn K mainGlobals "MOST_VALUE" = some (some (.int 1000000000000000 t_MOST_VALUE))) :
    ∃ fd : FuncData, (∀ (s : Shared) (v : Value), BindsTo s fd ⟨[v], []⟩ [("script", v)]) ∧ ∀ base : Heap, K.In base → base.Ns mainGlobals mg → FnOk l.prog w K mg base CX0 5 fa fd ["script"] (spLaw K) := by
  have e := hfa.symm.trans (PySem.W.mg_of X G a15)
  cases e
  have GG : Gm K mg { a_law_next := f0, d_law_next := PySem.W.fnOf "_law_next" "_law_next" (defArgs s_law_next) (defBody s_law_next) (defScope s_law_next) .none kV0 dc0 pm0 an0 cd0 ct0, a_law_odd := f1, d_law_odd := PySem.W.fnOf "_law_odd" "_law_odd" (defArgs s_law_odd) (defBody s_law_odd) (defScope s_law_odd) .none kV1 dc1 pm1 an1 cd1 ct1, a_law_number := f2, d_law_number := PySem.W.fnOf "_law_number" "_law_number" (defArgs s_law_number) (defBody s_law_number) (defScope s_law_number) .none kV2 dc2 pm2 an2 cd2 ct2, a_law_integer := f3, d_law_integer := PySem.W.fnOf "_law_integer" "_law_integer" (defArgs s_law_integer) (defBody s_law_integer) (defScope s_law_integer) .none kV3 dc3 pm3 an3 cd3 ct3, a_law_name := f4, d_law_name := PySem.W.fnOf "_law_name" "_law_name" (defArgs s_law_name) (defBody s_law_name) (defScope s_law_name) .none kV4 dc4 pm4 an4 cd4 ct4, a_law_thing := f5, d_law_thing := PySem.W.fnOf "_law_thing" "_law_thing" (defArgs s_law_thing) (defBody s_law_thing) (defScope s_law_thing) .none kV5 dc5 pm5 an5 cd5 ct5, a_law_stream := f6, d_law_stream := PySem.W.fnOf "_law_stream" "_law_stream" (defArgs s_law_stream) (defBody s_law_stream) (defScope s_law_stream) .none kV6 dc6 pm6 an6 cd6 ct6, a_law_flag := f7, d_law_flag := PySem.W.fnOf "_law_flag" "_law_flag" (defArgs s_law_flag) (defBody s_law_flag) (defScope s_law_flag) .none kV7 dc7 pm7 an7 cd7 ct7, a_law_is_int := f8, d_law_is_int := PySem.W.fnOf "_law_is_int" "_law_is_int" (defArgs s_law_is_int) (defBody s_law_is_int) (defScope s_law_is_int) .none kV8 dc8 pm8 an8 cd8 ct8, a_is_between := f9, d_is_between := PySem.W.fnOf "_is_between" "_is_between" (defArgs s_is_between) (defBody s_is_between) (defScope s_is_between) .none kV9 dc9 pm9 an9 cd9 ct9, a_is_number := f10, d_is_number := PySem.W.fnOf "is_number" "is_number" (defArgs s_is_number) (defBody s_is_number) (defScope s_is_number) .none kV10 dc10 pm10 an10 cd10 ct10, a_is_integer := f11, d_is_integer := PySem.W.fnOf "is_integer" "is_integer" (defArgs s_is_integer) (defBody s_is_integer) (defScope s_is_integer) .none kV11 dc11 pm11 an11 cd11 ct11, a_is_value := f12, d_is_value := PySem.W.fnOf "is_value" "is_value" (defArgs s_is_value) (defBody s_is_value) (defScope s_is_value) .none kV12 dc12 pm12 an12 cd12 ct12, a_law_is_name := f13, d_law_is_name := PySem.W.fnOf "_law_is_name" "_law_is_name" (defArgs s_law_is_name) (defBody s_law_is_name) (defScope s_law_is_name) .none kV13 dc13 pm13 an13 cd13 ct13, a_is_name := f14, d_is_name := PySem.W.fnOf "is_name" "is_name" (defArgs s_is_name) (defBody s_is_name) (defScope s_is_name) .none kV14 dc14 pm14 an14 cd14 ct14, a_law := fa, d_law := PySem.W.fnOf "law" "law" (defArgs s_law) (defBody s_law) (defScope s_law) .none kV15 dc15 pm15 an15 cd15 ct15 } := { z_all := PySem.W.mg_none_of X G z_all, z_bool := PySem.W.mg_none_of X G z_bool, z_int := PySem.W.mg_none_of X G z_int, z_isinstance := PySem.W.mg_none_of X G z_isinstance, z_len := PySem.W.mg_none_of X G z_len, z_min := PySem.W.mg_none_of X G z_min, z_range := PySem.W.mg_none_of X G z_range, z_str := PySem.W.mg_none_of X G z_str, z_type := PySem.W.mg_none_of X G z_type, c_MOST_LETTERS := ⟨_, PySem.W.mg_of X G v_MOST_LETTERS⟩, c_MOST_NUMBER := ⟨_, PySem.W.mg_of X G v_MOST_NUMBER⟩, c_MOST_VALUE := ⟨_, PySem.W.mg_of X G v_MOST_VALUE⟩, F_law_next := fun_mk (st := s_law_next) l0 c0 k0, b_law_next := (fun_mk (st := s_law_next) l0 c0 k0).binds (ps := ["stream", "size"]) fun _ _ _ _ _ _ us hl => match us, hl with | [_, _], _ => rfl, g_law_next := PySem.W.mg_of X G a0, F_law_odd := fun_mk (st := s_law_odd) l1 c1 k1, b_law_odd := (fun_mk (st := s_law_odd) l1 c1 k1).binds (ps := ["stream"]) fun _ _ _ _ _ _ us hl => match us, hl with | [_], _ => rfl, g_law_odd := PySem.W.mg_of X G a1, F_law_number := fun_mk (st := s_law_number) l2 c2 k2, b_law_number := (fun_mk (st := s_law_number) l2 c2 k2).binds (ps := ["stream"]) fun _ _ _ _ _ _ us hl => match us, hl with | [_], _ => rfl, g_law_number := PySem.W.mg_of X G a2, F_law_integer := fun_mk (st := s_law_integer) l3 c3 k3, b_law_integer := (fun_mk (st := s_law_integer) l3 c3 k3).binds (ps := ["stream"]) fun _ _ _ _ _ _ us hl => match us, hl with | [_], _ => rfl, g_law_integer := PySem.W.mg_of X G a3, F_law_name := fun_mk (st := s_law_name) l4 c4 k4, b_law_name := (fun_mk (st := s_law_name) l4 c4 k4).binds (ps := ["stream"]) fun _ _ _ _ _ _ us hl => match us, hl with | [_], _ => rfl, g_law_name := PySem.W.mg_of X G a4, F_law_thing := fun_mk (st := s_law_thing) l5 c5 k5, b_law_thing := (fun_mk (st := s_law_thing) l5 c5 k5).binds (ps := ["stream"]) fun _ _ _ _ _ _ us hl => match us, hl with | [_], _ => rfl, g_law_thing := PySem.W.mg_of X G a5, F_law_stream := fun_mk (st := s_law_stream) l6 c6 k6, b_law_stream := (fun_mk (st := s_law_stream) l6 c6 k6).binds (ps := ["cell", "k"]) fun _ _ _ _ _ _ us hl => match us, hl with | [_, _], _ => rfl, g_law_stream := PySem.W.mg_of X G a6, F_law_flag := fun_mk (st := s_law_flag) l7 c7 k7, b_law_flag := (fun_mk (st := s_law_flag) l7 c7 k7).binds (ps := ["actual", "due"]) fun _ _ _ _ _ _ us hl => match us, hl with | [_, _], _ => rfl, g_law_flag := PySem.W.mg_of X G a7, F_law_is_int := fun_mk (st := s_law_is_int) l8 c8 k8, b_law_is_int := (fun_mk (st := s_law_is_int) l8 c8 k8).binds (ps := ["thing", "least", "most"]) fun _ _ _ _ _ _ us hl => match us, hl with | [_, _, _], _ => rfl, g_law_is_int := PySem.W.mg_of X G a8, F_is_between := fun_mk (st := s_is_between) l9 c9 k9, b_is_between := (fun_mk (st := s_is_between) l9 c9 k9).binds (ps := ["thing", "least", "most"]) fun _ _ _ _ _ _ us hl => match us, hl with | [_, _, _], _ => rfl, g_is_between := PySem.W.mg_of X G a9, F_is_number := fun_mk (st := s_is_number) l10 c10 k10, b_is_number := (fun_mk (st := s_is_number) l10 c10 k10).binds (ps := ["thing"]) fun _ _ _ _ _ _ us hl => match us, hl with | [_], _ => rfl, g_is_number := PySem.W.mg_of X G a10, F_is_integer := fun_mk (st := s_is_integer) l11 c11 k11, b_is_integer := (fun_mk (st := s_is_integer) l11 c11 k11).binds (ps := ["thing"]) fun _ _ _ _ _ _ us hl => match us, hl with | [_], _ => rfl, g_is_integer := PySem.W.mg_of X G a11, F_is_value := fun_mk (st := s_is_value) l12 c12 k12, b_is_value := (fun_mk (st := s_is_value) l12 c12 k12).binds (ps := ["thing"]) fun _ _ _ _ _ _ us hl => match us, hl with | [_], _ => rfl, g_is_value := PySem.W.mg_of X G a12, F_law_is_name := fun_mk (st := s_law_is_name) l13 c13 k13, b_law_is_name := (fun_mk (st := s_law_is_name) l13 c13 k13).binds (ps := ["thing"]) fun _ _ _ _ _ _ us hl => match us, hl with | [_], _ => rfl, g_law_is_name := PySem.W.mg_of X G a13, F_is_name := fun_mk (st := s_is_name) l14 c14 k14, b_is_name := (fun_mk (st := s_is_name) l14 c14 k14).binds (ps := ["thing"]) fun _ _ _ _ _ _ us hl => match us, hl with | [_], _ => rfl, g_is_name := PySem.W.mg_of X G a14, F_law := fun_mk (st := s_law) l15 c15 k15, b_law := (fun_mk (st := s_law) l15 c15 k15).binds (ps := ["script"]) fun _ _ _ _ _ _ us hl => match us, hl with | [_], _ => rfl, g_law := PySem.W.mg_of X G a15 }
  exact ⟨PySem.W.fnOf "law" "law" (defArgs s_law) (defBody s_law) (defScope s_law) .none kV15 dc15 pm15 an15 cd15 ct15, fun s v => .of_eq rfl, fun base _ _ => law_sp (ok_law GG) (main _)⟩
theorem walk {l : PySem.W.OpenLaw} {q : Program} {loose : List Str} {XP : (Str → Option Value) → Heap → Prop} {YP : World → Heap → Prop} {d : DefRec} {K : Params → PySem.W.Frag} (hn : l.most = some 63) (hdf : d.params.defaults = [])
    (hY : ∀ (w : World) (h : Heap), YP w h → (K w.params).In h)
    (F : ∀ (w : World) (mg : Str → Option Value) (fa : Addr) (h : Heap), (K w.params).In h → h.Ns mainGlobals mg → mg d.name = some (.ref fa) →
      ∃ fd : FuncData, (∀ (s : Shared) (u : Value), BindsTo s fd ⟨[u], []⟩ [("script", u)]) ∧ ∀ base : Heap, (K w.params).In base → base.Ns mainGlobals mg → FnOk l.prog w (K w.params) mg base CX0 5 fa fd ["script"] (spLaw (K w.params))) :
    PySem.W.WalkO q loose XP YP l.row.toRowW d [] (fun f vs => PySem.call f vs) :=
  L2.walk_ofB (n := 63) (k := 5) (x := "script") (CX := fun _ => CX0) (sp := fun w => spLaw (K w.params)) hn (by rw [sizeLine_eq]; decide) hdf ⟨rfl, by decide, by decide⟩ hY F (fun _ _ a ns hl hb hO hS => ⟨a, ns, rfl, hO, hS, hl, hb, fun _ => rfl⟩) fun _ _ _ _ _ z => z
end Qk01
open PySem PySem.W PyProof.Rows in
set_option maxRecDepth 100000 in
set_option maxHeartbeats 0 in
theorem PySem.Challenge.cw_ringloosed_k01_numbers_and_names_holds : PySem.Challenge.rw_ringloosed_k01_numbers_and_names.Holds := by
  w_on; o_law; k_head; (case hw => w_witness2)
  k_fill
  refine Qk01.walk (l := PySem.Challenge.rw_ringloosed_k01_numbers_and_names) rfl rfl (fun w h Y => PySem.W.kIn_of Y) ?F
  case F =>
    intro w mg fa h KX G hmg
    refine' Qk01.all_mk KX G hmg Qk01.main_law ?a0 ?l0 ?c0 ?k0 ?a1 ?l1 ?c1 ?k1 ?a2 ?l2 ?c2 ?k2 ?a3 ?l3 ?c3 ?k3 ?a4 ?l4 ?c4 ?k4 ?a5 ?l5 ?c5 ?k5 ?a6 ?l6 ?c6 ?k6 ?a7 ?l7 ?c7 ?k7 ?a8 ?l8 ?c8 ?k8 ?a9 ?l9 ?c9 ?k9 ?a10 ?l10 ?c10 ?k10 ?a11 ?l11 ?c11 ?k11 ?a12 ?l12 ?c12 ?k12 ?a13 ?l13 ?c13 ?k13 ?a14 ?l14 ?c14 ?k14 ?a15 ?l15 ?c15 ?k15 ?z_all ?z_bool ?z_int ?z_isinstance ?z_len ?z_min ?z_range ?z_str ?z_type ?v_MOST_LETTERS ?v_MOST_NUMBER ?v_MOST_VALUE
    (case a0 => k_is)
    (case l0 => k_is)
    (case c0 => k_is)
    (case k0 => k_is)
    (case a1 => k_is)
    (case l1 => k_is)
    (case c1 => k_is)
    (case k1 => k_is)
    (case a2 => k_is)
    (case l2 => k_is)
    (case c2 => k_is)
    (case k2 => k_is)
    (case a3 => k_is)
    (case l3 => k_is)
    (case c3 => k_is)
    (case k3 => k_is)
    (case a4 => k_is)
    (case l4 => k_is)
    (case c4 => k_is)
    (case k4 => k_is)
    (case a5 => k_is)
    (case l5 => k_is)
    (case c5 => k_is)
    (case k5 => k_is)
    (case a6 => k_is)
    (case l6 => k_is)
    (case c6 => k_is)
    (case k6 => k_is)
    (case a7 => k_is)
    (case l7 => k_is)
    (case c7 => k_is)
    (case k7 => k_is)
    (case a8 => k_is)
    (case l8 => k_is)
    (case c8 => k_is)
    (case k8 => k_is)
    (case a9 => k_is)
    (case l9 => k_is)
    (case c9 => k_is)
    (case k9 => k_is)
    (case a10 => k_is)
    (case l10 => k_is)
    (case c10 => k_is)
    (case k10 => k_is)
    (case a11 => k_is)
    (case l11 => k_is)
    (case c11 => k_is)
    (case k11 => k_is)
    (case a12 => k_is)
    (case l12 => k_is)
    (case c12 => k_is)
    (case k12 => k_is)
    (case a13 => k_is)
    (case l13 => k_is)
    (case c13 => k_is)
    (case k13 => k_is)
    (case a14 => k_is)
    (case l14 => k_is)
    (case c14 => k_is)
    (case k14 => k_is)
    (case a15 => k_is)
    (case l15 => k_is)
    (case c15 => k_is)
    (case k15 => k_is)
    (case z_all => k_is)
    (case z_bool => k_is)
    (case z_int => k_is)
    (case z_isinstance => k_is)
    (case z_len => k_is)
    (case z_min => k_is)
    (case z_range => k_is)
    (case z_str => k_is)
    (case z_type => k_is)
    (case v_MOST_LETTERS => k_is)
    (case v_MOST_NUMBER => k_is)
    (case v_MOST_VALUE => k_is)
