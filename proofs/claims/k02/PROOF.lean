import PyProof.Rows.All
import Wide.All
import OpenK.AllK
import Wide.FinOn
import HandS.ForMost
import HandS.Wide
import HandS.TupAny
import HandS.TupMul
import HandS.Lambda
import HandS.Deep
import HandS.Small
import HandS.ForExc
import KE.KMinKey
import HandS.Walk
import HandS.Zip
import HandS.ClsMeth
import HandS.IsInst
import HandS.SortKw
import HandS.StrMore
import HandS.Style
import KE.GoesMore
import HandS.Star
import KE.DataMinMax
import KE.SortData
import KE.SortKeyHeap
import PySem.Challenge.RW_awaitrounds_k02_programs_at_the_limits
section
set_option Elab.async false
set_option linter.all false
set_option maxRecDepth 100000
set_option autoImplicit false
namespace Z
open PySem PySem.Spec L2

/-! ### data -/
inductive D where
  | non | bl (b : Bool) | int (i : Int) | str (x : Str)
  | tup (ds : List D) | lst (ds : List D) | sq (ds : List D)
  | dic (ks : List Key) (vs : List D)
  | obj (c : Nat) (ns : List Str) (vs : List D)
  | ref (i : Nat)
inductive O where
  | lst (ds : List D) | dic (ks : List Key) (vs : List D) | obj (c : Nat) (ns : List Str) (vs : List D) | dead
abbrev Sto := List O
abbrev Slo := List (Option D)

/-- the ghost: what is frozen, where the store's objects lie -/
structure Gh where
  F : Hp
  m : List Addr
  X : Hp
  /-- of what is kept aside: what is only read -/
  Y : Addr → Prop

mutual
def Rep (K : PySem.W.Frag) (C : Nat → Addr) (g : Gh) : D → V → Prop
  | .non, v => v = .non
  | .bl b, v => v = .bl b
  | .int i, v => v = .int i
  | .str x, v => v = .str x
  | .tup ds, v => ∃ a xs, v = .ref a ∧ SqT K g.F a xs ∧ Reps K C g ds xs
  | .lst ds, v => ∃ a xs, v = .ref a ∧ g.F a = some (.lst xs) ∧ Reps K C g ds xs
  | .sq ds, v => ∃ a xs, v = .ref a ∧ SqL K g.F a xs ∧ Reps K C g ds xs
  | .dic ks vs, v => ∃ a kvs, v = .ref a ∧ g.F a = some (.dK kvs) ∧ kvs.map (·.1) = ks ∧ Reps K C g vs (kvs.map (·.2))
  | .obj c ns vs, v => ∃ a dx fs, v = .ref a ∧ g.F a = some (.ins (C c) dx fs) ∧ g.F dx = some (.own a) ∧ fs.map (·.1) = ns ∧ Reps K C g vs (fs.map (·.2))
  | .ref i, v => ∃ a, g.m[i]? = some a ∧ v = .ref a
def Reps (K : PySem.W.Frag) (C : Nat → Addr) (g : Gh) : List D → List V → Prop
  | [], xs => xs = []
  | d :: ds, xs => ∃ x r, xs = x :: r ∧ Rep K C g d x ∧ Reps K C g ds r
end

/-- later: more is frozen, more objects -/
structure GLw (g g' : Gh) : Prop where
  F : ∀ a o, g.F a = some o → g'.F a = some o
  m : ∀ (i : Nat) (a : Addr), g.m[i]? = some a → g'.m[i]? = some a
structure GLe (g g' : Gh) : Prop where
  F : ∀ a o, g.F a = some o → g'.F a = some o
  m : ∀ (i : Nat) (a : Addr), g.m[i]? = some a → g'.m[i]? = some a
  Y : ∀ a o, g.Y a → g.X a = some o → g'.Y a ∧ g'.X a = some o
structure GExt (g g' : Gh) : Prop where
  F : ∀ a o, g.F a = some o → g'.F a = some o
  m : ∀ (i : Nat) (a : Addr), g.m[i]? = some a → g'.m[i]? = some a
  X : g'.X = g.X
  Y : g'.Y = g.Y
theorem GExt.le {g g' : Gh} (e : GExt g g') : GLe g g' := ⟨e.F, e.m, fun a o h q => ⟨by rw [e.Y]; exact h, by rw [e.X]; exact q⟩⟩
theorem GLe.w {g g' : Gh} (e : GLe g g') : GLw g g' := ⟨e.F, e.m⟩
theorem GExt.w {g g' : Gh} (e : GExt g g') : GLw g g' := ⟨e.F, e.m⟩
theorem GLe.refl (g : Gh) : GLe g g := ⟨fun _ _ h => h, fun _ _ h => h, fun _ _ h q => ⟨h, q⟩⟩
theorem GLe.trans {g h k : Gh} (a : GLe g h) (b : GLe h k) : GLe g k := ⟨fun x o q => b.F x o (a.F x o q), fun i x q => b.m i x (a.m i x q), fun x o y q => let ⟨y1, q1⟩ := a.Y x o y q; b.Y x o y1 q1⟩
theorem GLw.refl (g : Gh) : GLw g g := ⟨fun _ _ h => h, fun _ _ h => h⟩
theorem GLw.trans {g h k : Gh} (a : GLw g h) (b : GLw h k) : GLw g k := ⟨fun x o q => b.F x o (a.F x o q), fun i x q => b.m i x (a.m i x q)⟩
theorem GExt.refl (g : Gh) : GExt g g := ⟨fun _ _ h => h, fun _ _ h => h, rfl, rfl⟩
theorem GExt.trans {g h k : Gh} (a : GExt g h) (b : GExt h k) : GExt g k := ⟨fun x o q => b.F x o (a.F x o q), fun i x q => b.m i x (a.m i x q), b.X.trans a.X, b.Y.trans a.Y⟩

section
variable {K : PySem.W.Frag} {C : Nat → Addr} {g g' : Gh}
theorem rdMono {F F' : Hp} {a : Addr} {u : HO} (h : ∀ b o, F b = some o → F' b = some o) (r : Rd F a u) : Rd F' a u := by
  rcases r with r | ⟨o, r⟩
  · exact .inl (h _ _ r)
  · exact .inr ⟨o, h _ _ r⟩
theorem sqLMono {F F' : Hp} {a : Addr} {xs : List V} (h : ∀ b o, F b = some o → F' b = some o) (r : SqL K F a xs) : SqL K F' a xs := r.imp (rdMono h) id
theorem sqTMono {F F' : Hp} {a : Addr} {xs : List V} (h : ∀ b o, F b = some o → F' b = some o) (r : SqT K F a xs) : SqT K F' a xs := r.imp (rdMono h) id
mutual
theorem Rep.mono (e : GLw g g') : ∀ (d : D) (v : V), Rep K C g d v → Rep K C g' d v
  | .non, _, h => h
  | .bl _, _, h => h
  | .int _, _, h => h
  | .str _, _, h => h
  | .tup ds, v, h => by
    unfold Rep at h ⊢
    obtain ⟨a, xs, h1, h2, h3⟩ := h
    exact ⟨a, xs, h1, sqTMono e.F h2, Reps.mono e ds xs h3⟩
  | .lst ds, v, h => by
    unfold Rep at h ⊢
    obtain ⟨a, xs, h1, h2, h3⟩ := h
    exact ⟨a, xs, h1, e.F _ _ h2, Reps.mono e ds xs h3⟩
  | .sq ds, v, h => by
    unfold Rep at h ⊢
    obtain ⟨a, xs, h1, h2, h3⟩ := h
    exact ⟨a, xs, h1, sqLMono e.F h2, Reps.mono e ds xs h3⟩
  | .dic ks vs, v, h => by
    unfold Rep at h ⊢
    obtain ⟨a, kvs, h1, h2, h3, h4⟩ := h
    exact ⟨a, kvs, h1, e.F _ _ h2, h3, Reps.mono e vs _ h4⟩
  | .obj c ns vs, v, h => by
    unfold Rep at h ⊢
    obtain ⟨a, dx, fs, h1, h2, h3, h4, h5⟩ := h
    exact ⟨a, dx, fs, h1, e.F _ _ h2, e.F _ _ h3, h4, Reps.mono e vs _ h5⟩
  | .ref i, v, h => by
    unfold Rep at h ⊢
    obtain ⟨a, h1, h2⟩ := h
    exact ⟨a, e.m _ _ h1, h2⟩
theorem Reps.mono (e : GLw g g') : ∀ (ds : List D) (xs : List V), Reps K C g ds xs → Reps K C g' ds xs
  | [], _, h => h
  | d :: ds, xs, h => by
    unfold Reps at h ⊢
    obtain ⟨x, r, h1, h2, h3⟩ := h
    exact ⟨x, r, h1, Rep.mono e d x h2, Reps.mono e ds r h3⟩
end

theorem Reps.nil : Reps K C g [] [] := rfl
theorem Reps.cons {d : D} {ds : List D} {x : V} {xs : List V} (h : Rep K C g d x) (hs : Reps K C g ds xs) : Reps K C g (d :: ds) (x :: xs) := ⟨x, xs, rfl, h, hs⟩
theorem Reps.length : ∀ {ds : List D} {xs : List V}, Reps K C g ds xs → ds.length = xs.length
  | [], xs, h => by cases (show xs = [] from h); rfl
  | d :: ds, xs, h => by
    obtain ⟨x, r, rfl, _, h3⟩ := h
    simp only [List.length_cons, Reps.length h3]
theorem Reps.get : ∀ {ds : List D} {xs : List V} {i : Nat} {d : D}, Reps K C g ds xs → ds[i]? = some d → ∃ x, xs[i]? = some x ∧ Rep K C g d x
  | [], _, _, _, _, e => by simp at e
  | d :: ds, xs, 0, d', h, e => by
    obtain ⟨x, r, rfl, h2, _⟩ := h
    cases (show some d = some d' from e)
    exact ⟨x, rfl, h2⟩
  | d :: ds, xs, i + 1, d', h, e => by
    obtain ⟨x, r, rfl, _, h3⟩ := h
    exact Reps.get (i := i) h3 e
theorem Reps.append : ∀ {ds es : List D} {xs ys : List V}, Reps K C g ds xs → Reps K C g es ys → Reps K C g (ds ++ es) (xs ++ ys)
  | [], _, xs, _, h, h' => by cases (show xs = [] from h); exact h'
  | d :: ds, es, xs, ys, h, h' => by
    obtain ⟨x, r, rfl, h2, h3⟩ := h
    exact .cons h2 (Reps.append h3 h')
theorem Reps.set : ∀ {ds : List D} {xs : List V} {d : D} {x : V} (i : Nat), Reps K C g ds xs → Rep K C g d x → Reps K C g (ds.set i d) (xs.set i x)
  | [], xs, _, _, _, h, _ => by cases (show xs = [] from h); rfl
  | d :: ds, xs, _, _, 0, h, q => by
    obtain ⟨x, r, rfl, _, h3⟩ := h
    exact .cons q h3
  | d :: ds, xs, _, _, i + 1, h, q => by
    obtain ⟨x, r, rfl, h2, h3⟩ := h
    exact .cons h2 (Reps.set i h3 q)
theorem Reps.take : ∀ {ds : List D} {xs : List V} (n : Nat), Reps K C g ds xs → Reps K C g (ds.take n) (xs.take n)
  | _, _, 0, _ => rfl
  | [], xs, n + 1, h => by cases (show xs = [] from h); rfl
  | d :: ds, xs, n + 1, h => by
    obtain ⟨x, r, rfl, h2, h3⟩ := h
    exact .cons h2 (Reps.take n h3)
theorem Reps.drop : ∀ {ds : List D} {xs : List V} (n : Nat), Reps K C g ds xs → Reps K C g (ds.drop n) (xs.drop n)
  | _, _, 0, h => h
  | [], xs, n + 1, h => by cases (show xs = [] from h); rfl
  | d :: ds, xs, n + 1, h => by
    obtain ⟨x, r, rfl, _, h3⟩ := h
    exact Reps.drop n h3
theorem Reps.dropLast {ds : List D} {xs : List V} (h : Reps K C g ds xs) : Reps K C g ds.dropLast xs.dropLast := by
  rw [List.dropLast_eq_take, List.dropLast_eq_take, h.length]
  exact h.take _
theorem Reps.reverse : ∀ {ds : List D} {xs : List V}, Reps K C g ds xs → Reps K C g ds.reverse xs.reverse
  | [], xs, h => by cases (show xs = [] from h); exact rfl
  | d :: ds, xs, h => by
    obtain ⟨x, r, rfl, h2, h3⟩ := h
    rw [List.reverse_cons, List.reverse_cons]
    exact (Reps.reverse h3).append (.cons h2 rfl)
end

/-! ### the store -/
def OOk (K : PySem.W.Frag) (C : Nat → Addr) (g : Gh) (H : Hp) (a : Addr) : O → Prop
  | .dead => True
  | .lst ds => g.F a = none ∧ ∃ xs, H a = some (.lst xs) ∧ Reps K C g ds xs
  | .dic ks vs => g.F a = none ∧ ∃ kvs, H a = some (.dK kvs) ∧ kvs.map (·.1) = ks ∧ Reps K C g vs (kvs.map (·.2))
  | .obj c ns vs => g.F a = none ∧ ∃ dx fs, H a = some (.ins (C c) dx fs) ∧ g.F dx = none ∧ H dx = some (.own a) ∧ fs.map (·.1) = ns ∧ Reps K C g vs (fs.map (·.2))
/-- what the store's objects are -/
def Mu : Option HO → Prop
  | some (.lst _) => True
  | some (.dK _) => True
  | some (.dT _) => True
  | some (.set _ _) => True
  | some (.ins _ _ _) => True
  | _ => False
/-- the one def that makes lambdas: its code object's table lies at C 1000 (if that is not C 1001) -/
def qLam : Str := "repeated_course.<locals>.<lambda>"
def Tb (C : Nat → Addr) (F H : Hp) : Prop := C 1000 ≠ C 1001 → F (C 1000) = none ∧ LamX.TabS H (C 1000) qLam ∧ ∀ a ps, F a ≠ some (.tbl ps)
theorem Tb.new {C : Nat → Addr} {F H : Hp} {p : Addr} {u : HO} (t : Tb C F H) (hp : H p = none) : Tb C F (upd H p u) := fun h =>
  ⟨(t h).1, (t h).2.1.ext fun b o e => by rw [upd_ne (ne_of_none e hp)]; exact e, (t h).2.2⟩
theorem Tb.mut {C : Nat → Addr} {F H : Hp} {p : Addr} {u w : HO} (t : Tb C F H) (hp : H p = some w) (mu : Mu (some w)) : Tb C F (upd H p u) := fun h => by
  obtain ⟨h1, ⟨ps, h2, h3, h4⟩, h5⟩ := t h
  refine ⟨h1, ⟨ps, ?_, h3, fun pos cv e => ?_⟩, h5⟩
  · rw [upd_ne (fun z => by rw [← z, h2] at hp; cases hp; exact mu.elim)]; exact h2
  · obtain ⟨c, e1, e2⟩ := h4 pos cv e
    refine ⟨c, e1, ?_⟩
    rw [upd_ne (fun z => by subst z; rw [e2] at hp; cases hp; exact mu.elim)]; exact e2
theorem Tb.frz {C : Nat → Addr} {F H : Hp} {p : Addr} {o : HO} (t : Tb C F H) (hp : ∀ ps, H p ≠ some (.tbl ps)) (ho : ∀ ps, o ≠ .tbl ps) : Tb C (upd F p o) H := fun h => by
  obtain ⟨h1, ⟨ps, h2, h3⟩, h5⟩ := t h
  refine ⟨?_, ⟨ps, h2, h3⟩, fun a qs e => ?_⟩
  · rw [upd_ne (fun z => by rw [z] at h2; exact hp ps h2)]; exact h1
  · by_cases q : a = p
    · subst q; rw [upd_same] at e; exact ho qs (Option.some.inj e)
    · rw [upd_ne q] at e; exact h5 a qs e
def Live (st : Sto) (i : Nat) : Prop := ∃ o, st[i]? = some o ∧ o ≠ .dead
structure Rl (K : PySem.W.Frag) (C : Nat → Addr) (g : Gh) (H : Hp) (st : Sto) : Prop where
  sub : ∀ a o, g.F a = some o → H a = some o
  len : g.m.length = st.length
  obj : ∀ (i : Nat) (o : O) (a : Addr), st[i]? = some o → g.m[i]? = some a → OOk K C g H a o
  inj : ∀ (i j : Nat) (a : Addr), g.m[i]? = some a → g.m[j]? = some a → Live st i → Live st j → i = j
  fr : ∀ a o, g.X a = some o → H a = some o
  frF : ∀ a o, g.X a = some o → g.F a = none
  frS : ∀ (i : Nat) (a : Addr), g.m[i]? = some a → Live st i → g.X a = none
  frM : ∀ a o, g.X a = some o → Mu (some o)
  frY : ∀ a, g.Y a → g.X a ≠ none
  tb : Tb C g.F H
def RlS (K : PySem.W.Frag) (C : Nat → Addr) (g : Gh) (σ : St) (σd : Slo) : Prop :=
  σd.length = σ.length ∧ ∀ (i : Nat) (d : D), σd[i]? = some (some d) → ∃ v, σ[i]? = some (some v) ∧ Rep K C g d v

section
variable {K : PySem.W.Frag} {C : Nat → Addr} {g g' : Gh} {H H' : Hp} {st st' : Sto} {σ : St} {σd : Slo}
theorem RlS.monoW (h : RlS K C g σ σd) (e : GLw g g') : RlS K C g' σ σd := ⟨h.1, fun i d q => let ⟨v, h1, h2⟩ := h.2 i d q; ⟨v, h1, h2.mono e⟩⟩
theorem RlS.monoL (h : RlS K C g σ σd) (e : GLe g g') : RlS K C g' σ σd := h.monoW e.w
theorem RlS.mono (h : RlS K C g σ σd) (e : GExt g g') : RlS K C g' σ σd := h.monoW e.w
theorem RlS.set {i : Nat} {d : D} {v : V} (h : RlS K C g σ σd) (r : Rep K C g d v) : RlS K C g (σ.set i (some v)) (σd.set i (some d)) := by
  refine ⟨by simp [h.1], fun j e q => ?_⟩
  by_cases hj : i = j
  · subst hj
    by_cases hi : i < σd.length
    · rw [List.getElem?_set_self hi] at q
      cases q
      exact ⟨v, List.getElem?_set_self (by rw [← h.1]; exact hi), r⟩
    · rw [List.getElem?_eq_none (by simpa using hi)] at q
      cases q
  · rw [List.getElem?_set_ne hj] at q
    rw [List.getElem?_set_ne hj]
    exact h.2 j e q
theorem Rl.nothere (h : Rl K C g H st) {p : Addr} (hp : H p = none) : g.F p = none := by
  cases q : g.F p with
  | none => rfl
  | some o => rw [h.sub p o q] at hp; cases hp
/-- the frozen part grows by a new object; the store stays -/
theorem Rl.freeze1 (h : Rl K C g H st) {p : Addr} {o : HO} (hp : H p = none) (ho : ∀ ps, o ≠ .tbl ps := by nofun) :
    GExt g ⟨upd g.F p o, g.m, g.X, g.Y⟩ ∧ Rl K C ⟨upd g.F p o, g.m, g.X, g.Y⟩ (upd H p o) st := by
  have hF := h.nothere hp
  have ex : GExt g ⟨upd g.F p o, g.m, g.X, g.Y⟩ := ⟨fun a u q => by
    show upd g.F p o a = some u
    rw [upd_ne (ne_of_none q hF)]; exact q, fun _ _ q => q, rfl, rfl⟩
  refine ⟨ex, ⟨fun a u q => ?_, h.len, fun i u a q1 q2 => ?_, h.inj, fun a u q => ?_, fun a u q => ?_, h.frS, h.frM, h.frY, ?_⟩⟩
  rotate_left 4
  · intro hc
    obtain ⟨t1, t2, t4⟩ := h.tb.new (u := o) hp hc
    obtain ⟨ps, t3, _⟩ := (h.tb hc).2.1
    refine ⟨?_, t2, fun a qs e => ?_⟩
    · show upd g.F p o (C 1000) = none
      rw [upd_ne (ne_of_none t3 hp)]; exact t1
    · have e : upd g.F p o a = some (.tbl qs) := e
      by_cases q : a = p
      · subst q; rw [upd_same] at e; exact ho qs (Option.some.inj e)
      · rw [upd_ne q] at e; exact t4 a qs e
  · by_cases e : a = p
    · subst e
      have q : upd g.F a o a = some u := q
      rw [upd_same] at q ⊢; exact q
    · have q : upd g.F p o a = some u := q
      rw [upd_ne e] at q ⊢; exact h.sub a u q
  · have k := h.obj i u a q1 q2
    cases u with
    | dead => trivial
    | lst ds =>
      obtain ⟨k1, xs, k2, k3⟩ := k
      have ne : a ≠ p := ne_of_none k2 hp
      exact ⟨by show upd g.F p o a = none; rw [upd_ne ne]; exact k1, xs, by rw [upd_ne ne]; exact k2, k3.mono ex.w⟩
    | dic ks vs =>
      obtain ⟨k1, xs, k2, k3, k4⟩ := k
      have ne : a ≠ p := ne_of_none k2 hp
      exact ⟨by show upd g.F p o a = none; rw [upd_ne ne]; exact k1, xs, by rw [upd_ne ne]; exact k2, k3, k4.mono ex.w⟩
    | obj c ns vs =>
      obtain ⟨k1, dx, fs, k2, k3, k4, k5, k6⟩ := k
      have ne : a ≠ p := ne_of_none k2 hp
      have ne2 : dx ≠ p := ne_of_none k4 hp
      exact ⟨by show upd g.F p o a = none; rw [upd_ne ne]; exact k1, dx, fs, by rw [upd_ne ne]; exact k2, by show upd g.F p o dx = none; rw [upd_ne ne2]; exact k3, by rw [upd_ne ne2]; exact k4, k5, k6.mono ex.w⟩
  · rw [upd_ne (ne_of_none (h.fr a u q) hp)]; exact h.fr a u q
  · show upd g.F p o a = none
    rw [upd_ne (ne_of_none (h.fr a u q) hp)]; exact h.frF a u q

theorem Rep.upL {d : D} {v : V} (h : Rep K C g d v) (e : GLe g g') : Rep K C g' d v := Rep.mono e.w d v h
theorem Reps.upL {ds : List D} {xs : List V} (h : Reps K C g ds xs) (e : GLe g g') : Reps K C g' ds xs := Reps.mono e.w ds xs h
theorem Rep.up {d : D} {v : V} (h : Rep K C g d v) (e : GExt g g') : Rep K C g' d v := Rep.mono e.w d v h
theorem Reps.up {ds : List D} {xs : List V} (h : Reps K C g ds xs) (e : GExt g g') : Reps K C g' ds xs := Reps.mono e.w ds xs h
theorem OOk.up {a : Addr} {o : O} (h : OOk K C g H a o) (e : GLw g g') (hF : g'.F a = g.F a) (hH : H' a = H a) (hD : ∀ dx, H dx = some (.own a) → H' dx = H dx ∧ g'.F dx = g.F dx) : OOk K C g' H' a o := by
  cases o with
  | dead => trivial
  | lst ds =>
    obtain ⟨k1, xs, k2, k3⟩ := h
    exact ⟨hF.trans k1, xs, hH.trans k2, k3.mono e⟩
  | dic ks vs =>
    obtain ⟨k1, xs, k2, k3, k4⟩ := h
    exact ⟨hF.trans k1, xs, hH.trans k2, k3, k4.mono e⟩
  | obj c ns vs =>
    obtain ⟨k1, dx, fs, k2, k3, k4, k5, k6⟩ := h
    obtain ⟨q1, q2⟩ := hD dx k4
    exact ⟨hF.trans k1, dx, fs, hH.trans k2, q2.trans k3, q1.trans k4, k5, k6.mono e⟩
theorem Rl.mem (h : Rl K C g H st) {i : Nat} {o : O} (e : st[i]? = some o) : ∃ a, g.m[i]? = some a ∧ OOk K C g H a o := by
  have hi : i < g.m.length := by rw [h.len]; exact (List.getElem?_eq_some_iff.mp e).1
  exact ⟨g.m[i], List.getElem?_eq_getElem hi, h.obj i o _ e (List.getElem?_eq_getElem hi)⟩
theorem OOk.some {a : Addr} {o : O} (h : OOk K C g H a o) (ho : o ≠ .dead) : ∃ u, H a = some u ∧ Mu (some u) := by
  cases o with
  | dead => exact (ho rfl).elim
  | lst ds => obtain ⟨_, xs, k2, _⟩ := h; exact ⟨_, k2, trivial⟩
  | dic ks vs => obtain ⟨_, xs, k2, _⟩ := h; exact ⟨_, k2, trivial⟩
  | obj c ns vs => obtain ⟨_, dx, fs, k2, _⟩ := h; exact ⟨_, k2, trivial⟩
theorem OOk.notF {a : Addr} {o : O} (h : OOk K C g H a o) (ho : o ≠ .dead) : g.F a = none := by
  cases o with
  | dead => exact (ho rfl).elim
  | lst ds => exact h.1
  | dic ks vs => exact h.1
  | obj c ns vs => exact h.1
/-- a new object of the store -/
theorem Rl.alloc (h : Rl K C g H st) {p : Addr} {u : HO} {o : O} (hp : H p = none) (ho : OOk K C ⟨g.F, g.m ++ [p], g.X, g.Y⟩ (upd H p u) p o) :
    GExt g ⟨g.F, g.m ++ [p], g.X, g.Y⟩ ∧ Rl K C ⟨g.F, g.m ++ [p], g.X, g.Y⟩ (upd H p u) (st ++ [o]) := by
  have ex : GExt g ⟨g.F, g.m ++ [p], g.X, g.Y⟩ := ⟨fun _ _ q => q, fun i a q => by
    show (g.m ++ [p])[i]? = some a
    rw [List.getElem?_append_left (List.getElem?_eq_some_iff.mp q).1]; exact q, rfl, rfl⟩
  have nF : ∀ a o, g.F a = some o → a ≠ p := fun a o q e => by subst e; rw [h.sub _ _ q] at hp; cases hp
  have split : ∀ (i : Nat) (a : Addr), (g.m ++ [p])[i]? = some a → (i < st.length ∧ g.m[i]? = some a) ∨ (i = st.length ∧ a = p) := fun i a q => by
    by_cases hi : i < g.m.length
    · rw [List.getElem?_append_left hi] at q
      exact .inl ⟨by rw [← h.len]; exact hi, q⟩
    · rw [List.getElem?_append_right (by omega)] at q
      have hj : i - g.m.length = 0 := by
        have := (List.getElem?_eq_some_iff.mp q).1
        simp at this; omega
      rw [hj] at q
      cases q
      exact .inr ⟨by rw [← h.len]; omega, rfl⟩
  have live : ∀ i, i < st.length → Live (st ++ [o]) i → Live st i := fun i hi ⟨w, q1, q2⟩ => by
    rw [List.getElem?_append_left hi] at q1
    exact ⟨w, q1, q2⟩
  have liveNe : ∀ (i : Nat) (a : Addr), g.m[i]? = some a → Live st i → a ≠ p := fun i a q ⟨w, q1, q2⟩ e => by
    obtain ⟨z, z1, _⟩ := (h.obj i w a q1 q).some q2
    subst e
    rw [hp] at z1; cases z1
  refine ⟨ex, ⟨fun a w q => ?_, by simp [h.len], fun i w a q1 q2 => ?_, fun i j a q1 q2 l1 l2 => ?_, fun a u q => ?_, h.frF, fun i a q l => ?_, h.frM, h.frY, h.tb.new hp⟩⟩
  · rw [upd_ne (nF a w q)]; exact h.sub a w q
  · rcases split i a q2 with ⟨hi, q2⟩ | ⟨hi, rfl⟩
    · rw [List.getElem?_append_left hi] at q1
      have k := h.obj i w a q1 q2
      by_cases hw : w = .dead
      · subst hw; trivial
      · have ne := liveNe i a q2 ⟨w, q1, hw⟩
        refine k.up ex.w rfl (upd_ne ne) fun dx e => ⟨upd_ne (ne_of_none e hp), rfl⟩
    · subst hi
      rw [List.getElem?_append_right (Nat.le_refl _), Nat.sub_self] at q1
      cases q1
      exact ho
  · rcases split i a q1 with ⟨hi, q1⟩ | ⟨hi, e1⟩
    · rcases split j a q2 with ⟨hj, q2⟩ | ⟨hj, e2⟩
      · exact h.inj i j a q1 q2 (live i hi l1) (live j hj l2)
      · exact absurd e2 (liveNe i a q1 (live i hi l1))
    · rcases split j a q2 with ⟨hj, q2⟩ | ⟨hj, e2⟩
      · exact absurd e1 (liveNe j a q2 (live j hj l2))
      · rw [hi, hj]
  · rw [upd_ne (ne_of_none (h.fr a u q) hp)]; exact h.fr a u q
  · rcases split i a q with ⟨hi, q⟩ | ⟨hi, rfl⟩
    · exact h.frS i a q (live i hi l)
    · cases z : g.X a with
      | none => rfl
      | some w => rw [h.fr _ _ z] at hp; cases hp
/-- an object of the store is changed -/
theorem Rl.put (h : Rl K C g H st) {i : Nat} {a : Addr} {o o' : O} {u : HO} (e : st[i]? = some o) (hl : o ≠ .dead) (ha : g.m[i]? = some a) (ho : OOk K C g (upd H a u) a o') : Rl K C g (upd H a u) (st.set i o') := by
  have k := h.obj i o a e ha
  obtain ⟨w, hw, mu⟩ := k.some hl
  have nF : ∀ b z, g.F b = some z → b ≠ a := fun b z q e => by
    subst e
    rw [k.notF hl] at q; cases q
  have lv : ∀ j, j ≠ i → Live (st.set i o') j → Live st j := fun j hj ⟨z, q1, q2⟩ => by
    rw [List.getElem?_set_ne (Ne.symm hj)] at q1
    exact ⟨z, q1, q2⟩
  have xa := h.frS i a ha ⟨o, e, hl⟩
  refine ⟨fun b z q => ?_, by simp [h.len], fun j z b q1 q2 => ?_, fun j l b q1 q2 l1 l2 => ?_, fun b z q => ?_, h.frF, fun j b q l => ?_, h.frM, h.frY, h.tb.mut hw mu⟩
  · rw [upd_ne (nF b z q)]; exact h.sub b z q
  · by_cases hj : j = i
    · subst hj
      rw [ha] at q2; cases q2
      rw [List.getElem?_set_self (List.getElem?_eq_some_iff.mp e).1] at q1
      cases q1
      exact ho
    · rw [List.getElem?_set_ne (Ne.symm hj)] at q1
      have kj := h.obj j z b q1 q2
      by_cases hz : z = .dead
      · subst hz; trivial
      · have ne : b ≠ a := fun e' => by
          subst e'
          exact hj (h.inj j i b q2 ha ⟨z, q1, hz⟩ ⟨o, e, hl⟩)
        exact kj.up (GLw.refl g) rfl (upd_ne ne) fun dx q => ⟨upd_ne (fun e' => by subst e'; rw [hw] at q; cases q; exact mu), rfl⟩
  · by_cases hj : j = i
    · by_cases hl' : l = i
      · rw [hj, hl']
      · subst hj
        exact h.inj j l b q1 q2 ⟨o, e, hl⟩ (lv l hl' l2)
    · by_cases hl' : l = i
      · subst hl'
        exact h.inj j l b q1 q2 (lv j hj l1) ⟨o, e, hl⟩
      · exact h.inj j l b q1 q2 (lv j hj l1) (lv l hl' l2)
  · rw [upd_ne (ne_of_none q xa)]; exact h.fr b z q
  · by_cases hj : j = i
    · subst hj
      rw [ha] at q; cases q; exact xa
    · exact h.frS j b q (lv j hj l)
/-- an object of the store is frozen: its value, and the store without it -/
theorem Rl.ice (h : Rl K C g H st) {i : Nat} {a : Addr} {ds : List D} (e : st[i]? = some (.lst ds)) (ha : g.m[i]? = some a) :
    ∃ g', GExt g g' ∧ Rl K C g' H (st.set i .dead) ∧ Rep K C g' (.lst ds) (.ref a) := by
  obtain ⟨k1, xs, k2, k3⟩ := h.obj i _ a e ha
  have ex : GExt g ⟨upd g.F a (.lst xs), g.m, g.X, g.Y⟩ := ⟨fun b u q => by
    show upd g.F a (.lst xs) b = some u
    rw [upd_ne (ne_of_none q k1)]; exact q, fun _ _ q => q, rfl, rfl⟩
  have xa := h.frS i a ha ⟨_, e, fun z => nomatch z⟩
  have lv : ∀ j, Live (st.set i .dead) j → Live st j := fun j ⟨z, q1, q2⟩ => by
    by_cases hj : j = i
    · subst hj
      rw [List.getElem?_set_self (List.getElem?_eq_some_iff.mp e).1] at q1
      cases q1; exact (q2 rfl).elim
    · rw [List.getElem?_set_ne (Ne.symm hj)] at q1
      exact ⟨z, q1, q2⟩
  refine ⟨⟨upd g.F a (.lst xs), g.m, g.X, g.Y⟩, ex, ⟨fun b u q => ?_, by simpa using h.len, fun j z b q1 q2 => ?_, fun j l b q1 q2 l1 l2 => ?_, h.fr, fun b u q => ?_, fun j b q l => h.frS j b q (lv j l), h.frM, h.frY, h.tb.frz (fun ps z => by rw [k2] at z; cases z) (by nofun)⟩, ?_⟩
  · have q : upd g.F a (.lst xs) b = some u := q
    by_cases hb : b = a
    · subst hb
      rw [upd_same] at q; cases q; exact k2
    · rw [upd_ne hb] at q; exact h.sub b u q
  · by_cases hj : j = i
    · subst hj
      rw [List.getElem?_set_self (List.getElem?_eq_some_iff.mp e).1] at q1
      cases q1
      trivial
    · rw [List.getElem?_set_ne (Ne.symm hj)] at q1
      have kj := h.obj j z b q1 q2
      by_cases hz : z = .dead
      · subst hz; trivial
      · have ne : b ≠ a := fun e' => by
          subst e'
          exact hj (h.inj j i b q2 ha ⟨z, q1, hz⟩ ⟨_, e, fun z => nomatch z⟩)
        refine kj.up ex.w (upd_ne ne) rfl fun dx q => ⟨rfl, upd_ne (fun e' => by subst e'; rw [k2] at q; cases q)⟩
  · exact h.inj j l b q1 q2 (lv j l1) (lv l l2)
  · show upd g.F a (.lst xs) b = none
    rw [upd_ne (ne_of_none q xa)]; exact h.frF b u q
  · exact ⟨a, xs, rfl, upd_same, k3.up ex⟩

/-- an object beside: nothing of ours -/
theorem Rl.more (h : Rl K C g H st) {p : Addr} {o : HO} (hp : H p = none) : Rl K C g (upd H p o) st := by
  refine ⟨fun a u q => ?_, h.len, fun i u a q1 q2 => ?_, h.inj, fun a u q => ?_, h.frF, h.frS, h.frM, h.frY, h.tb.new hp⟩
  · rw [upd_ne (ne_of_none (h.sub a u q) hp)]; exact h.sub a u q
  · have k := h.obj i u a q1 q2
    by_cases hw : u = .dead
    · subst hw; trivial
    · obtain ⟨z, z1, _⟩ := k.some hw
      exact k.up (GLw.refl g) rfl (upd_ne (ne_of_none z1 hp)) fun dx e => ⟨upd_ne (ne_of_none e hp), rfl⟩
  · rw [upd_ne (ne_of_none (h.fr a u q) hp)]; exact h.fr a u q
/-- a table has grown -/
theorem Rl.extN (h : Rl K C g H st) (hc : C 1000 ≠ C 1001) (e : LamX.ExtN H H') (t : LamX.TabS H' (C 1000) qLam) : Rl K C g H' st := by
  have nt := (h.tb hc).2.2
  have up : ∀ a o, H a = some o → (∀ ps, o ≠ .tbl ps) → H' a = some o := fun a o q n => e a o q n
  refine ⟨fun a u q => up a u (h.sub a u q) fun ps z => nt a ps (by rw [q, z]), h.len, fun i u a q1 q2 => ?_, h.inj, fun a u q => up a u (h.fr a u q) fun ps z => by subst z; exact (h.frM a _ q).elim, h.frF, h.frS, h.frM, h.frY, fun _ => ⟨(h.tb hc).1, t, nt⟩⟩
  have k := h.obj i u a q1 q2
  by_cases hw : u = .dead
  · subst hw; trivial
  · obtain ⟨z, z1, mu⟩ := k.some hw
    exact k.up (GLw.refl g) rfl ((up a z z1 fun ps z => by subst z; exact mu.elim).trans z1.symm) fun dx e => ⟨(up dx _ e nofun).trans e.symm, rfl⟩
/-- .. that is kept for a while -/
theorem Rl.frame (h : Rl K C g H st) {p : Addr} {u0 : HO} (mu : Mu (some u0)) (hp : H p = some u0) (hF : g.F p = none) (hL : ∀ i : Nat, g.m[i]? = some p → ¬ Live st i) :
    GLe g ⟨g.F, g.m, upd g.X p u0, g.Y⟩ ∧ Rl K C ⟨g.F, g.m, upd g.X p u0, g.Y⟩ H st := by
  have ex : GLe g ⟨g.F, g.m, upd g.X p u0, g.Y⟩ := ⟨fun _ _ q => q, fun _ _ q => q, fun a o y q => ⟨y, by
    show upd g.X p u0 a = some o
    by_cases e : a = p
    · subst e
      have q1 := h.fr _ _ q
      rw [hp] at q1
      cases q1
      exact upd_same
    · rw [upd_ne e]; exact q⟩⟩
  refine ⟨ex, ⟨h.sub, h.len, fun i u a q1 q2 => ?_, h.inj, fun a u q => ?_, fun a u q => ?_, fun i a q l => ?_, fun a u q => ?_, fun a y z => ?_, h.tb⟩⟩
  · exact (h.obj i u a q1 q2).up ex.w rfl rfl fun dx e => ⟨rfl, rfl⟩
  · have q : upd g.X p u0 a = some u := q
    by_cases e : a = p
    · subst e; rw [upd_same] at q; cases q; exact hp
    · rw [upd_ne e] at q; exact h.fr a u q
  · have q : upd g.X p u0 a = some u := q
    by_cases e : a = p
    · subst e; exact hF
    · rw [upd_ne e] at q; exact h.frF a u q
  · have ne : a ≠ p := fun e => by subst e; exact hL i q l
    show upd g.X p u0 a = none
    rw [upd_ne ne]; exact h.frS i a q l
  · have q : upd g.X p u0 a = some u := q
    by_cases e : a = p
    · subst e; rw [upd_same] at q; cases q; exact mu
    · rw [upd_ne e] at q; exact h.frM a u q
  · have z : upd g.X p u0 a = none := z
    by_cases e : a = p
    · subst e; rw [upd_same] at z; cases z
    · rw [upd_ne e] at z; exact h.frY a y z
theorem Rl.unframe {F X₀ : Hp} {m : List Addr} {Y : Addr → Prop} {p : Addr} {u0 u1 : HO} (mu : Mu (some u0)) (h : Rl K C ⟨F, m, upd X₀ p u0, Y⟩ H st) (hX : X₀ p = none) (hY : ¬ Y p) :
    Rl K C ⟨F, m, X₀, Y⟩ (upd H p u1) st ∧ F p = none ∧ H p = some u0 ∧ ∀ i : Nat, m[i]? = some p → ¬ Live st i := by
  have hF : F p = none := h.frF p u0 upd_same
  have hH : H p = some u0 := h.fr p u0 upd_same
  have hL : ∀ i : Nat, m[i]? = some p → ¬ Live st i := fun i q l => by
    have := h.frS i p q l
    have e : upd X₀ p u0 p = none := this
    rw [upd_same] at e; cases e
  refine ⟨⟨fun a u q => ?_, h.len, fun i u a q1 q2 => ?_, h.inj, fun a u q => ?_, fun a u q => ?_, fun i a q l => ?_, fun a u q => ?_, fun a y z => ?_, h.tb.mut hH mu⟩, hF, hH, hL⟩
  · rw [upd_ne (ne_of_none q hF)]; exact h.sub a u q
  · have k := h.obj i u a q1 q2
    by_cases hw : u = .dead
    · subst hw; trivial
    · have ne : a ≠ p := fun e => by subst e; exact hL i q2 ⟨u, q1, hw⟩
      exact k.up (g' := ⟨F, m, X₀, Y⟩) ⟨fun _ _ q => q, fun _ _ q => q⟩ rfl (upd_ne ne) fun dx e => ⟨upd_ne (fun z => by subst z; rw [hH] at e; cases e; exact mu.elim), rfl⟩
  · have q : X₀ a = some u := q
    have ne : a ≠ p := ne_of_none q hX
    rw [upd_ne ne]
    exact h.fr a u (by show upd X₀ p u0 a = some u; rw [upd_ne ne]; exact q)
  · have q : X₀ a = some u := q
    exact h.frF a u (by show upd X₀ p u0 a = some u; rw [upd_ne (ne_of_none q hX)]; exact q)
  · have ne : a ≠ p := fun e => by subst e; exact hL i q l
    have := h.frS i a q l
    have e : upd X₀ p u0 a = none := this
    rw [upd_ne ne] at e
    exact e
  · have q : X₀ a = some u := q
    exact h.frM a u (by show upd X₀ p u0 a = some u; rw [upd_ne (ne_of_none q hX)]; exact q)
  · refine h.frY a y ?_
    have ne : a ≠ p := fun e => by subst e; exact hY y
    show upd X₀ p u0 a = none
    rw [upd_ne ne]; exact z
/-- a list beside becomes a value -/
theorem Rl.freezeH (h : Rl K C g H st) {p : Addr} {u0 : HO} (mu : Mu (some u0)) (hp : H p = some u0) (hF : g.F p = none) (hX : g.X p = none) (hL : ∀ i : Nat, g.m[i]? = some p → ¬ Live st i) :
    GExt g ⟨upd g.F p u0, g.m, g.X, g.Y⟩ ∧ Rl K C ⟨upd g.F p u0, g.m, g.X, g.Y⟩ H st := by
  have ex : GExt g ⟨upd g.F p u0, g.m, g.X, g.Y⟩ := ⟨fun b u q => by
    show upd g.F p u0 b = some u
    rw [upd_ne (ne_of_none q hF)]; exact q, fun _ _ q => q, rfl, rfl⟩
  refine ⟨ex, ⟨fun b u q => ?_, h.len, fun i u a q1 q2 => ?_, h.inj, h.fr, fun a u q => ?_, h.frS, h.frM, h.frY, h.tb.frz (fun ps z => by rw [hp] at z; cases z; exact mu.elim) (fun ps z => by subst z; exact mu.elim)⟩⟩
  · have q : upd g.F p u0 b = some u := q
    by_cases hb : b = p
    · subst hb; rw [upd_same] at q; cases q; exact hp
    · rw [upd_ne hb] at q; exact h.sub b u q
  · have k := h.obj i u a q1 q2
    by_cases hw : u = .dead
    · subst hw; trivial
    · have ne : a ≠ p := fun e => by subst e; exact hL i q2 ⟨u, q1, hw⟩
      exact k.up ex.w (upd_ne ne) rfl fun dx e => ⟨rfl, upd_ne (fun z => by subst z; rw [hp] at e; cases e; exact mu.elim)⟩
  · show upd g.F p u0 a = none
    rw [upd_ne (ne_of_none q hX)]; exact h.frF a u q
/-- an object of the store is frozen -/
theorem Rl.iceO (h : Rl K C g H st) {i c : Nat} {a : Addr} {ns : List Str} {vs : List D} (e : st[i]? = some (.obj c ns vs)) (ha : g.m[i]? = some a) :
    ∃ g', GExt g g' ∧ Rl K C g' H (st.set i .dead) ∧ Rep K C g' (.obj c ns vs) (.ref a) := by
  obtain ⟨k1, dx, fs, k2, k3, k4, k5, k6⟩ := h.obj i _ a e ha
  have hda : dx ≠ a := ne_of k4 k2 nofun
  have xa := h.frS i a ha ⟨_, e, fun z => nomatch z⟩
  have xd : g.X dx = none := by
    cases z : g.X dx with
    | none => rfl
    | some w =>
      have z1 := h.fr _ _ z
      rw [k4] at z1
      cases z1
      exact (h.frM _ _ z).elim
  let F' := upd (upd g.F dx (.own a)) a (.ins (C c) dx fs)
  have nd : ∀ b, g.F b ≠ none → b ≠ a ∧ b ≠ dx := fun b q => ⟨fun z => q (z ▸ k1), fun z => q (z ▸ k3)⟩
  have ex : GExt g ⟨F', g.m, g.X, g.Y⟩ := ⟨fun b u q => by
    have n := nd b (by rw [q]; simp)
    show upd (upd g.F dx (.own a)) a (.ins (C c) dx fs) b = some u
    rw [upd_ne n.1, upd_ne n.2]; exact q, fun _ _ q => q, rfl, rfl⟩
  have lv : ∀ j, Live (st.set i .dead) j → Live st j ∧ j ≠ i := fun j ⟨z, q1, q2⟩ => by
    by_cases hj : j = i
    · subst hj
      rw [List.getElem?_set_self (List.getElem?_eq_some_iff.mp e).1] at q1
      cases q1; exact (q2 rfl).elim
    · rw [List.getElem?_set_ne (Ne.symm hj)] at q1
      exact ⟨⟨z, q1, q2⟩, hj⟩
  refine ⟨⟨F', g.m, g.X, g.Y⟩, ex, ⟨fun b u q => ?_, by simpa using h.len, fun j z b q1 q2 => ?_, fun j l b q1 q2 l1 l2 => ?_, h.fr, fun b u q => ?_, fun j b q l => h.frS j b q (lv j l).1, h.frM, h.frY, Tb.frz (h.tb.frz (fun ps z => by rw [k4] at z; cases z) (by nofun)) (fun ps z => by rw [k2] at z; cases z) (by nofun)⟩, ?_⟩
  · have q : upd (upd g.F dx (.own a)) a (.ins (C c) dx fs) b = some u := q
    by_cases hb : b = a
    · subst hb
      rw [upd_same] at q; cases q; exact k2
    · rw [upd_ne hb] at q
      by_cases hd : b = dx
      · subst hd
        rw [upd_same] at q; cases q; exact k4
      · rw [upd_ne hd] at q; exact h.sub b u q
  · by_cases hz : z = .dead
    · subst hz; trivial
    · obtain ⟨⟨_, w1, w2⟩, hj⟩ := lv j ⟨z, q1, hz⟩
      rw [List.getElem?_set_ne (Ne.symm hj)] at q1
      have kj := h.obj j z b q1 q2
      have ne : b ≠ a := fun e' => by
        subst e'
        exact hj (h.inj j i b q2 ha ⟨z, q1, hz⟩ ⟨_, e, fun z => nomatch z⟩)
      obtain ⟨w, hw, mu⟩ := kj.some hz
      have ne2 : b ≠ dx := fun e' => by
        subst e'
        rw [k4] at hw
        cases hw
        exact mu.elim
      refine kj.up ex.w ?_ rfl fun dy q => ⟨rfl, ?_⟩
      · show upd (upd g.F dx (.own a)) a (.ins (C c) dx fs) b = g.F b
        rw [upd_ne ne, upd_ne ne2]
      · have n1 : dy ≠ a := ne_of q k2 nofun
        have n2 : dy ≠ dx := fun e' => by
          subst e'
          rw [k4] at q
          cases q
          exact ne rfl
        show upd (upd g.F dx (.own a)) a (.ins (C c) dx fs) dy = g.F dy
        rw [upd_ne n1, upd_ne n2]
  · exact h.inj j l b q1 q2 (lv j l1).1 (lv l l2).1
  · have n1 : b ≠ a := ne_of_none q xa
    have n2 : b ≠ dx := ne_of_none q xd
    show upd (upd g.F dx (.own a)) a (.ins (C c) dx fs) b = none
    rw [upd_ne n1, upd_ne n2]; exact h.frF b u q
  · exact ⟨a, dx, fs, rfl, upd_same, by show upd (upd g.F dx (.own a)) a (.ins (C c) dx fs) dx = _; rw [upd_ne hda, upd_same], k5, k6.up ex⟩
end
end Z

end
section
set_option Elab.async false
set_option linter.all false
set_option maxRecDepth 100000
set_option autoImplicit false
namespace Z
open PySem PySem.Spec L2

/-! ### readings -/
abbrev Ev (α : Type) := Slo → Sto → Option (α × Sto)
abbrev EM := Ev D
def tE (K : PySem.W.Frag) (C : Nat → Addr) (m : EM) : TE := fun σ H Q => ∃ g σd st d st', Rl K C g H st ∧ RlS K C g σ σd ∧ m σd st = some (d, st') ∧
  ∀ g' H' v, GExt g g' → Rl K C g' H' st' → Rep K C g' d v → Q v H'
def tT (K : PySem.W.Frag) (C : Nat → Addr) (m : Ev Bool) : TT := fun σ H Q => ∃ g σd st b st', Rl K C g H st ∧ RlS K C g σ σd ∧ m σd st = some (b, st') ∧
  ∀ g' H', GExt g g' → Rl K C g' H' st' → Q b H'
def tA (K : PySem.W.Frag) (C : Nat → Addr) (m : Ev (List D)) : TA := fun σ H Q => ∃ g σd st ds st', Rl K C g H st ∧ RlS K C g σ σd ∧ m σd st = some (ds, st') ∧
  ∀ g' H' vs, GExt g g' → Rl K C g' H' st' → Reps K C g' ds vs → Q vs H'
abbrev SE (X : Cx) (C : Nat → Addr) (e : Expr) (m : EM) : Prop := PE X e (tE X.K C m)
abbrev ST (X : Cx) (C : Nat → Addr) (e : Expr) (m : Ev Bool) : Prop := PT X e (tT X.K C m)
abbrev SA (X : Cx) (C : Nat → Addr) (es : List Expr) (m : Ev (List D)) : Prop := PA X es (tA X.K C m)
theorem PE.weak {X : Cx} {e : Expr} {t t' : TE} (h : PE X e t) (w : ∀ σ H Q, t' σ H Q → t σ H Q) : PE X e t' := ⟨fun pins s σ H Q I q => h.run pins s σ H Q I (w _ _ _ q)⟩
theorem PT.weak {X : Cx} {e : Expr} {t t' : TT} (h : PT X e t) (w : ∀ σ H Q, t' σ H Q → t σ H Q) : PT X e t' := ⟨fun pins s σ H Q I q => h.run pins s σ H Q I (w _ _ _ q)⟩
theorem PW.weak {X : Cx} {e : Expr} {t t' : TT} (h : PW X e t) (w : ∀ σ H Q, t' σ H Q → t σ H Q) : PW X e t' := ⟨fun wh pins s σ H Q I q => h.run wh pins s σ H Q I (w _ _ _ q)⟩
theorem PA.weak {X : Cx} {e : List Expr} {t t' : TA} (h : PA X e t) (w : ∀ σ H Q, t' σ H Q → t σ H Q) : PA X e t' := ⟨fun pos pins s σ H Q I q => h.run pos pins s σ H Q I (w _ _ _ q)⟩
theorem PS.weak {X : Cx} {e : Stmt} {t t' : TS} (h : PS X e t) (w : ∀ D σ H, t' D σ H → t D σ H) : PS X e t' := ⟨fun pins s σ H D I q => h.run pins s σ H D I (w _ _ _ q)⟩
theorem PSs.weak {X : Cx} {e : List Stmt} {t t' : TS} (h : PSs X e t) (w : ∀ D σ H, t' D σ H → t D σ H) : PSs X e t' := ⟨fun pins s σ H D I q => h.run pins s σ H D I (w _ _ _ q)⟩
theorem bind_some {α β : Type} {x : Option α} {f : α → Option β} {b : β} (h : x.bind f = some b) : ∃ a, x = some a ∧ f a = some b := Option.bind_eq_some_iff.mp h

/-! ### the mirror's words -/
def gv (i : Nat) : EM := fun σ st => match σ[i]? with | some (some d) => some (d, st) | _ => none
def ck (d : D) : EM := fun _ st => some (d, st)
def mB (f : D → D → Sto → Option (D × Sto)) (a b : EM) : EM := fun σ st => (a σ st).bind fun p => (b σ p.2).bind fun q => f p.1 q.1 q.2
def mU (f : D → Sto → Option (D × Sto)) (a : EM) : EM := fun σ st => (a σ st).bind fun p => f p.1 p.2
def aNil : Ev (List D) := fun _ st => some ([], st)
def aCons (a : EM) (r : Ev (List D)) : Ev (List D) := fun σ st => (a σ st).bind fun p => (r σ p.2).bind fun q => some (p.1 :: q.1, q.2)
def mTup (a : Ev (List D)) : EM := fun σ st => (a σ st).bind fun p => if p.1.length ≤ sizeLine then some (.tup p.1, p.2) else none
def mLst (a : Ev (List D)) : EM := fun σ st => (a σ st).bind fun p => if p.1.length ≤ sizeLine then some (.lst p.1, p.2) else none
/-- a list that will be changed: an object of the store -/
def mNew (a : Ev (List D)) : EM := fun σ st => (a σ st).bind fun p => if p.1.length ≤ sizeLine then some (.ref p.2.length, p.2 ++ [.lst p.1]) else none
def mIce (a : EM) : EM := fun σ st => (a σ st).bind fun p => match p.1 with
  | .ref i => match p.2[i]? with
    | some (.lst ds) => some (.lst ds, p.2.set i .dead)
    | _ => none
  | d => some (d, p.2)
/-- a list's items, wherever it lies -/
def vL : D → Sto → Option (List D)
  | .lst ds, _ => some ds
  | .sq ds, _ => some ds
  | .ref i, st => match st[i]? with
    | some (.lst ds) => some ds
    | _ => none
  | _, _ => none
def ofB (m : Ev Bool) : EM := fun σ st => (m σ st).bind fun p => some (.bl p.1, p.2)
def toB (m : EM) : Ev Bool := fun σ st => (m σ st).bind fun p => match p.1 with | .bl b => some (b, p.2) | _ => none
def mIf (c : Ev Bool) (a b : EM) : EM := fun σ st => (c σ st).bind fun p => if p.1 = true then a σ p.2 else b σ p.2
def bAnd (a b : Ev Bool) : Ev Bool := fun σ st => (a σ st).bind fun p => if p.1 = true then b σ p.2 else some (false, p.2)
def bOr (a b : Ev Bool) : Ev Bool := fun σ st => (a σ st).bind fun p => if p.1 = true then some (true, p.2) else b σ p.2
def bNot (a : Ev Bool) : Ev Bool := fun σ st => (a σ st).bind fun p => some (!p.1, p.2)
def truD : D → Sto → Option Bool
  | .non, _ => some false
  | .bl b, _ => some b
  | .int i, _ => some (i != 0)
  | .str x, _ => if x.length ≤ sizeLine then some ((x.length : Int) != 0) else none
  | .tup ds, _ => some (!ds.isEmpty)
  | .lst ds, _ => some (!ds.isEmpty)
  | .sq ds, _ => some (!ds.isEmpty)
  | .ref i, st => match st[i]? with
    | some (.lst ds) => some (!ds.isEmpty)
    | _ => none
  | _, _ => none
def bTru (a : EM) : Ev Bool := fun σ st => (a σ st).bind fun p => (truD p.1 p.2).bind fun b => some (b, p.2)

section
variable {X : Cx} {C : Nat → Addr}
/-! ### names, constants -/
theorem sv (i : Nat) {x : Str} {pos : Pos} (hN : X.N[i]? = some x := by rfl) (hv : Vis X.env.scope x := by first | exact Or.inl rfl | exact Or.inr (Or.inl rfl) | exact Or.inr (Or.inr rfl)) (hd : (x == ("__debug__" : Str)) = false := by decide)
    (hcd : (x == ("__classdict__" : Str)) = false := by decide) : SE X C (.Name x pos) (gv i) := by
  refine PE.weak (pe_var hN hv hd hcd) fun σ H Q h => ?_
  obtain ⟨g, σd, st, d, st', rl, rs, e, k⟩ := h
  unfold gv at e
  split at e
  · rename_i d' e'
    cases e
    obtain ⟨v, hv, r⟩ := rs.2 i d e'
    exact ⟨v, hv, k g H v (GExt.refl g) rl r⟩
  · cases e
theorem of_tC {v : V} {d : D} (r : ∀ K g, Rep K C g d v) (K : PySem.W.Frag) {σ : St} {H : Hp} {Q : VK} (h : tE K C (ck d) σ H Q) : tC v σ H Q := by
  obtain ⟨g, σd, st, d', st', rl, rs, e, k⟩ := h
  cases e
  exact k g H v (GExt.refl g) rl (r _ _)
theorem s_int {i : Int} {j : Nat} {pos : Pos} : SE X C (.Constant (.int i) j pos) (ck (.int i)) := PE.weak pe_int fun _ _ _ h => of_tC (v := .int i) (d := .int i) (fun _ _ => rfl) _ h
theorem s_bl {b : Bool} {j : Nat} {pos : Pos} : SE X C (.Constant (.bool b) j pos) (ck (.bl b)) := PE.weak pe_bl fun _ _ _ h => of_tC (v := .bl b) (d := .bl b) (fun _ _ => rfl) _ h
theorem s_non {j : Nat} {pos : Pos} : SE X C (.Constant .none j pos) (ck .non) := PE.weak pe_non fun _ _ _ h => of_tC (v := .non) (d := .non) (fun _ _ => rfl) _ h
theorem s_str {x : Str} {j : Nat} {pos : Pos} : SE X C (.Constant (.str x) j pos) (ck (.str x)) := PE.weak pe_str fun _ _ _ h => of_tC (v := .str x) (d := .str x) (fun _ _ => rfl) _ h
/-- a module's constant -/
theorem s_gint {x : Str} {i : Int} {t : Tok} {pos : Pos} (hg : Gl X x) (hm : X.mg x = some (.int i t)) (hd : (x == ("__debug__" : Str)) = false := by decide) : SE X C (.Name x pos) (ck (.int i)) :=
  PE.weak (pe_glob (v := .int i) hg hm ⟨t, rfl⟩ hd) fun _ _ _ h => of_tC (v := .int i) (d := .int i) (fun _ _ => rfl) _ h

/-! ### operators, by values -/
def rD (K : PySem.W.Frag) (C : Nat → Addr) (f : D → D → Sto → Option (D × Sto)) : R2 := fun x y H Q => ∃ g dx dy st d st', Rl K C g H st ∧ Rep K C g dx x ∧ Rep K C g dy y ∧ f dx dy st = some (d, st') ∧
  ∀ g' H' v, GExt g g' → Rl K C g' H' st' → Rep K C g' d v → Q v H'
abbrev SOp (X : Cx) (C : Nat → Addr) (f : Value → Value → Sem Value) (m : D → D → Sto → Option (D × Sto)) : Prop := OpR X f (rD X.K C m)
variable {a b : Expr} {ma mb : EM} {pos : Pos} {f : D → D → Sto → Option (D × Sto)}
theorem tOp_of {K : PySem.W.Frag} {σ : St} {H : Hp} {Q : VK} (h : tE K C (mB f ma mb) σ H Q) : tOp (rD K C f) (tE K C ma) (tE K C mb) σ H Q := by
  obtain ⟨g, σd, st, d, st', rl, rs, e, k⟩ := h
  obtain ⟨⟨x, st1⟩, e1, e⟩ := bind_some e
  obtain ⟨⟨y, st2⟩, e2, e⟩ := bind_some e
  refine ⟨g, σd, st, x, st1, rl, rs, e1, fun g1 H1 v1 x1 rl1 r1 => ?_⟩
  refine ⟨g1, σd, st1, y, st2, rl1, rs.mono x1, e2, fun g2 H2 v2 x2 rl2 r2 => ?_⟩
  exact ⟨g2, x, y, st2, d, st', rl2, r1.up x2, r2, e, fun g3 H3 v3 x3 rl3 r3 => k g3 H3 v3 (x1.trans (x2.trans x3)) rl3 r3⟩
theorem s_op {op : Operator} (ho : SOp X C (binaryOp op) f) (ha : SE X C a ma) (hb : SE X C b mb) : SE X C (.BinOp a op b pos) (mB f ma mb) :=
  PE.weak (pe_op ho ha hb) fun _ _ _ h => tOp_of h
theorem s_cmp {op : CmpOp} (ho : SOp X C (compareOp op) f) (ha : SE X C a ma) (hb : SE X C b mb) (hm : behindInMarks op b = false := by first | exact nobehind _ (by decide) (by decide) | rfl) : SE X C (.Compare a [op] [b] pos) (mB f ma mb) :=
  PE.weak (pe_cmpR ho ha hb hm) fun _ _ _ h => tOp_of h
theorem s_ix (ho : IxR X (rD X.K C f)) (ha : SE X C a ma) (hb : SE X C b mb) (hs : PlainIx b := by exact fun _ _ => rfl) : SE X C (.Subscript a b pos) (mB f ma mb) :=
  PE.weak (pe_ix ho ha hb hs) fun _ _ _ h => tOp_of h
def rU1 (K : PySem.W.Frag) (C : Nat → Addr) (f : D → Sto → Option (D × Sto)) : V → Hp → VK → Prop := fun x H Q => ∃ g dx st d st', Rl K C g H st ∧ Rep K C g dx x ∧ f dx st = some (d, st') ∧
  ∀ g' H' v, GExt g g' → Rl K C g' H' st' → Rep K C g' d v → Q v H'
variable {f1 : D → Sto → Option (D × Sto)}
theorem tUn_of {K : PySem.W.Frag} {σ : St} {H : Hp} {Q : VK} (h : tE K C (mU f1 ma) σ H Q) : tUn (rU1 K C f1) (tE K C ma) σ H Q := by
  obtain ⟨g, σd, st, d, st', rl, rs, e, k⟩ := h
  obtain ⟨⟨x, st1⟩, e1, e⟩ := bind_some e
  refine ⟨g, σd, st, x, st1, rl, rs, e1, fun g1 H1 v1 x1 rl1 r1 => ?_⟩
  exact ⟨g1, x, st1, d, st', rl1, r1, e, fun g3 H3 v3 x3 rl3 r3 => k g3 H3 v3 (x1.trans x3) rl3 r3⟩
theorem s_un {op : UnaryOp} (ho : UnR X (unaryOp op) (rU1 X.K C f1)) (ha : SE X C a ma) : SE X C (.UnaryOp op a pos) (mU f1 ma) :=
  PE.weak (pe_un ho ha) fun _ _ _ h => tUn_of h

/-! ### argument lists, displays -/
variable {e : Expr} {es : List Expr} {me : EM} {mes : Ev (List D)}
theorem sa_nil : SA X C [] aNil := PA.weak pa_nil fun σ H Q h => by
  obtain ⟨g, σd, st, ds, st', rl, rs, e, k⟩ := h
  cases e
  exact k g H [] (GExt.refl g) rl rfl
theorem sa_cons (ha : SE X C e me) (hr : SA X C es mes) (hs : starEach (e :: es) X.env = (false, eval e X.env) :: starEach es X.env := by rfl) : SA X C (e :: es) (aCons me mes) := by
  refine PA.weak (pa_cons ha hr hs) fun σ H Q h => ?_
  obtain ⟨g, σd, st, ds, st', rl, rs, e, k⟩ := h
  obtain ⟨⟨x, st1⟩, e1, e⟩ := bind_some e
  obtain ⟨⟨y, st2⟩, e2, e⟩ := bind_some e
  cases e
  refine ⟨g, σd, st, x, st1, rl, rs, e1, fun g1 H1 v1 x1 rl1 r1 => ?_⟩
  refine ⟨g1, σd, st1, y, _, rl1, rs.mono x1, e2, fun g2 H2 v2 x2 rl2 r2 => ?_⟩
  exact k g2 H2 _ (x1.trans x2) rl2 (.cons (r1.up x2) r2)
theorem s_tup {x1 : Nat} (h : SA X C es mes) : SE X C (.Tuple es x1 pos) (mTup mes) := by
  refine PE.weak (pe_tup h) fun σ H Q h => ?_
  obtain ⟨g, σd, st, d, st', rl, rs, e, k⟩ := h
  obtain ⟨⟨ds, st1⟩, e1, e⟩ := bind_some e
  split at e
  · rename_i hz
    cases e
    refine ⟨g, σd, st, ds, _, rl, rs, e1, fun g1 H1 vs x1 rl1 r1 => ⟨by rw [← r1.length]; exact hz, fun p hp => ?_⟩⟩
    obtain ⟨x2, rl2⟩ := rl1.freeze1 (o := .tup vs) hp
    exact k _ _ _ (x1.trans x2) rl2 ⟨p, vs, rfl, .inl (.inl upd_same), r1.up x2⟩
  · cases e
theorem s_lst (h : SA X C es mes) : SE X C (.List es pos) (mLst mes) := by
  refine PE.weak (pe_lst h) fun σ H Q h => ?_
  obtain ⟨g, σd, st, d, st', rl, rs, e, k⟩ := h
  obtain ⟨⟨ds, st1⟩, e1, e⟩ := bind_some e
  split at e
  · rename_i hz
    cases e
    refine ⟨g, σd, st, ds, _, rl, rs, e1, fun g1 H1 vs x1 rl1 r1 => ⟨by rw [← r1.length]; exact hz, fun p hp => ?_⟩⟩
    obtain ⟨x2, rl2⟩ := rl1.freeze1 (o := .lst vs) hp
    exact k _ _ _ (x1.trans x2) rl2 ⟨p, vs, rfl, upd_same, r1.up x2⟩
  · cases e
theorem new_of {g g1 : Gh} {st1 : Sto} {H1 : Hp} {ds : List D} {vs : List V} {K : PySem.W.Frag} {p : Addr} (rl1 : Rl K C g1 H1 st1) (r1 : Reps K C g1 ds vs) (hp : H1 p = none) :
    ∃ g2, GExt g1 g2 ∧ Rl K C g2 (upd H1 p (.lst vs)) (st1 ++ [.lst ds]) ∧ Rep K C g2 (.ref st1.length) (.ref p) := by
  have ex : GExt g1 ⟨g1.F, g1.m ++ [p], g1.X, g1.Y⟩ := ⟨fun _ _ q => q, fun i a q => by
    show (g1.m ++ [p])[i]? = some a
    rw [List.getElem?_append_left (List.getElem?_eq_some_iff.mp q).1]; exact q, rfl, rfl⟩
  obtain ⟨x2, rl2⟩ := rl1.alloc (u := .lst vs) (o := .lst ds) hp ⟨rl1.nothere hp, vs, upd_same, r1.up ex⟩
  refine ⟨_, x2, rl2, p, ?_, rfl⟩
  show (g1.m ++ [p])[st1.length]? = some p
  rw [← rl1.len, List.getElem?_append_right (Nat.le_refl _), Nat.sub_self]
  rfl
theorem s_new (h : SA X C es mes) : SE X C (.List es pos) (mNew mes) := by
  refine PE.weak (pe_lst h) fun σ H Q h => ?_
  obtain ⟨g, σd, st, d, st', rl, rs, e, k⟩ := h
  obtain ⟨⟨ds, st1⟩, e1, e⟩ := bind_some e
  split at e
  · rename_i hz
    cases e
    refine ⟨g, σd, st, ds, _, rl, rs, e1, fun g1 H1 vs x1 rl1 r1 => ⟨by rw [← r1.length]; exact hz, fun p hp => ?_⟩⟩
    obtain ⟨g2, x2, rl2, r2⟩ := new_of (g := g) rl1 r1 hp
    exact k _ _ _ (x1.trans x2) rl2 r2
  · cases e
/-- what is an object of the store becomes a value -/
theorem s_ice (h : SE X C e me) : SE X C e (mIce me) := by
  refine PE.weak h fun σ H Q h => ?_
  obtain ⟨g, σd, st, d, st', rl, rs, e, k⟩ := h
  obtain ⟨⟨x, st1⟩, e1, e⟩ := bind_some e
  refine ⟨g, σd, st, x, st1, rl, rs, e1, fun g1 H1 v x1 rl1 r1 => ?_⟩
  cases x with
  | ref i =>
    simp only at e
    split at e
    · rename_i ds e2
      cases e
      obtain ⟨a, q1, rfl⟩ := r1
      obtain ⟨g2, x2, rl2, r2⟩ := rl1.ice e2 q1
      exact k _ _ _ (x1.trans x2) rl2 r2
    · cases e
  | _ => cases e; exact k _ _ _ x1 rl1 r1

/-! ### tests -/
variable {c : Expr} {mc md : Ev Bool}
theorem of_test {K : PySem.W.Frag} {σ : St} {H : Hp} {Q : Bool → Hp → Prop} {m : EM} (h : tT K C (toB m) σ H Q) : tE K C m σ H fun x H' => ∃ k, x = .bl k ∧ Q k H' := by
  obtain ⟨g, σd, st, b, st', rl, rs, e, k⟩ := h
  obtain ⟨⟨x, st1⟩, e1, e⟩ := bind_some e
  cases x with
  | bl b' =>
    cases e
    exact ⟨g, σd, st, _, _, rl, rs, e1, fun g1 H1 v x1 rl1 r1 => ⟨_, r1, k g1 H1 x1 rl1⟩⟩
  | _ => cases e
theorem t_cmp {op : CmpOp} (ho : SOp X C (compareOp op) f) (ha : SE X C a ma) (hb : SE X C b mb) (hm : behindInMarks op b = false := by first | exact nobehind _ (by decide) (by decide) | rfl) : ST X C (.Compare a [op] [b] pos) (toB (mB f ma mb)) :=
  PT.weak (pt_cmpR ho ha hb hm) fun _ _ _ h => by
    obtain ⟨g, σd, st, d, st', rl, rs, e, k⟩ := of_test h
    exact tOp_of ⟨g, σd, st, d, st', rl, rs, e, k⟩
theorem truV_of {K : PySem.W.Frag} {g : Gh} {H : Hp} {st : Sto} {d : D} {v : V} {b : Bool} (rl : Rl K C g H st) (r : Rep K C g d v) (e : truD d st = some b) : TruV K v H b := by
  cases d with
  | non => cases (show v = .non from r); cases e; exact rfl
  | bl c => cases (show v = .bl c from r); cases e; exact rfl
  | int i => cases (show v = .int i from r); cases e; exact rfl
  | str x =>
    cases (show v = .str x from r)
    have e : (if x.length ≤ sizeLine then some ((x.length : Int) != 0) else none) = some b := e
    split at e
    · rename_i hz; cases e; exact ⟨hz, rfl⟩
    · cases e
  | tup ds =>
    obtain ⟨p, xs, rfl, h1, h2⟩ := r
    cases e
    refine .inr (.inl ⟨xs, sqTMono rl.sub h1, ?_⟩)
    have := h2.length
    cases ds <;> cases xs <;> simp_all
  | lst ds =>
    obtain ⟨p, xs, rfl, h1, h2⟩ := r
    cases e
    refine .inl ⟨xs, .inl (.inl (rl.sub _ _ h1)), ?_⟩
    have := h2.length
    cases ds <;> cases xs <;> simp_all
  | sq ds =>
    obtain ⟨p, xs, rfl, h1, h2⟩ := r
    cases e
    refine .inl ⟨xs, sqLMono rl.sub h1, ?_⟩
    have := h2.length
    cases ds <;> cases xs <;> simp_all
  | ref i =>
    obtain ⟨p, h1, rfl⟩ := r
    simp only [truD] at e
    split at e
    · rename_i ds e2
      cases e
      obtain ⟨_, xs, k2, k3⟩ := rl.obj i _ p e2 h1
      refine .inl ⟨xs, .inl (.inl k2), ?_⟩
      have := k3.length
      cases ds <;> cases xs <;> simp_all
    · cases e
  | dic ks vs => cases e
  | obj c ns vs => cases e
theorem t_tru (ha : SE X C a ma) (he : ∀ whole, isTrue a X.env whole = (do let v ← whole; standAt a.pos; holding [v] (truthy v)) := by intro _; rfl) : ST X C a (bTru ma) := by
  refine PT.weak (pt_truth ha he) fun σ H Q h => ?_
  obtain ⟨g, σd, st, b, st', rl, rs, e, k⟩ := h
  obtain ⟨⟨x, st1⟩, e1, e⟩ := bind_some e
  obtain ⟨b', e2, e⟩ := bind_some e
  cases e
  exact ⟨g, σd, st, _, _, rl, rs, e1, fun g1 H1 v x1 rl1 r1 => ⟨_, truV_of rl1 r1 e2, k g1 H1 x1 rl1⟩⟩
theorem t_not (ha : ST X C a mc) : ST X C (.UnaryOp .Not a pos) (bNot mc) := by
  refine PT.weak (pt_not ha) fun σ H Q h => ?_
  obtain ⟨g, σd, st, b, st', rl, rs, e, k⟩ := h
  obtain ⟨⟨x, st1⟩, e1, e⟩ := bind_some e
  cases e
  exact ⟨g, σd, st, _, _, rl, rs, e1, k⟩
abbrev SW (X : Cx) (C : Nat → Addr) (e : Expr) (m : Ev Bool) : Prop := PW X e (tT X.K C m)
theorem w_and1 (ha : ST X C a mc) : SW X C (.BoolOp .And [a] pos) mc := pw_and1 ha
theorem w_or1 (ha : ST X C a mc) : SW X C (.BoolOp .Or [a] pos) mc := pw_or1 ha
theorem w_and {rest : List Expr} (ha : ST X C a mc) (hb : SW X C (.BoolOp .And (b :: rest) pos) md) : SW X C (.BoolOp .And (a :: b :: rest) pos) (bAnd mc md) := by
  refine PW.weak (pw_and ha hb) fun σ H Q h => ?_
  obtain ⟨g, σd, st, b, st', rl, rs, e, k⟩ := h
  obtain ⟨⟨x, st1⟩, e1, e⟩ := bind_some e
  refine ⟨g, σd, st, _, _, rl, rs, e1, fun g1 H1 x1 rl1 => ?_⟩
  cases x with
  | true => exact ⟨g1, σd, st1, b, st', rl1, rs.mono x1, e, fun g2 H2 x2 rl2 => k g2 H2 (x1.trans x2) rl2⟩
  | false => cases e; exact k g1 H1 x1 rl1
theorem w_or {rest : List Expr} (ha : ST X C a mc) (hb : SW X C (.BoolOp .Or (b :: rest) pos) md) : SW X C (.BoolOp .Or (a :: b :: rest) pos) (bOr mc md) := by
  refine PW.weak (pw_or ha hb) fun σ H Q h => ?_
  obtain ⟨g, σd, st, b, st', rl, rs, e, k⟩ := h
  obtain ⟨⟨x, st1⟩, e1, e⟩ := bind_some e
  refine ⟨g, σd, st, _, _, rl, rs, e1, fun g1 H1 x1 rl1 => ?_⟩
  cases x with
  | false => exact ⟨g1, σd, st1, b, st', rl1, rs.mono x1, e, fun g2 H2 x2 rl2 => k g2 H2 (x1.trans x2) rl2⟩
  | true => cases e; exact k g1 H1 x1 rl1
theorem t_w (h : SW X C e mc) : ST X C e mc := h.pt
theorem s_if (hc : ST X C c mc) (ha : SE X C a ma) (hb : SE X C b mb) : SE X C (.IfExp c a b pos) (mIf mc ma mb) := by
  refine PE.weak (pe_ifExp hc ha hb) fun σ H Q h => ?_
  obtain ⟨g, σd, st, d, st', rl, rs, e, k⟩ := h
  obtain ⟨⟨x, st1⟩, e1, e⟩ := bind_some e
  refine ⟨g, σd, st, _, _, rl, rs, e1, fun g1 H1 x1 rl1 => ?_⟩
  cases x with
  | true => exact ⟨g1, σd, st1, d, st', rl1, rs.mono x1, e, fun g2 H2 v x2 rl2 r2 => k g2 H2 v (x1.trans x2) rl2 r2⟩
  | false => exact ⟨g1, σd, st1, d, st', rl1, rs.mono x1, e, fun g2 H2 v x2 rl2 r2 => k g2 H2 v (x1.trans x2) rl2 r2⟩
/-- and, or, not of bools, as values -/
def vAnd (a b : EM) : EM := fun σ st => (a σ st).bind fun p => match p.1 with | .bl true => b σ p.2 | .bl false => some (.bl false, p.2) | _ => none
def vOr (a b : EM) : EM := fun σ st => (a σ st).bind fun p => match p.1 with | .bl true => some (.bl true, p.2) | .bl false => b σ p.2 | _ => none
def vNot (a : EM) : EM := fun σ st => (a σ st).bind fun p => match p.1 with | .bl b => some (.bl !b, p.2) | _ => none
theorem s_one {op : BoolOp} (h : SE X C a ma) : SE X C (.BoolOp op [a] pos) ma := pe_one h
theorem s_and {rest : List Expr} (ha : SE X C a ma) (hb : SE X C (.BoolOp .And (b :: rest) pos) mb) : SE X C (.BoolOp .And (a :: b :: rest) pos) (vAnd ma mb) := by
  refine PE.weak (pe_and ha hb) fun σ H Q h => ?_
  obtain ⟨g, σd, st, d, st', rl, rs, e, k⟩ := h
  obtain ⟨⟨x, st1⟩, e1, e⟩ := bind_some e
  refine ⟨g, σd, st, _, _, rl, rs, e1, fun g1 H1 v x1 rl1 r1 => ?_⟩
  cases x with
  | bl b' =>
    refine ⟨b', r1, ?_⟩
    cases b' with
    | true => exact ⟨g1, σd, st1, d, st', rl1, rs.mono x1, e, fun g2 H2 v x2 rl2 r2 => k g2 H2 v (x1.trans x2) rl2 r2⟩
    | false => cases e; exact k g1 H1 _ x1 rl1 rfl
  | _ => cases e
theorem s_or {rest : List Expr} (ha : SE X C a ma) (hb : SE X C (.BoolOp .Or (b :: rest) pos) mb) : SE X C (.BoolOp .Or (a :: b :: rest) pos) (vOr ma mb) := by
  refine PE.weak (pe_or ha hb) fun σ H Q h => ?_
  obtain ⟨g, σd, st, d, st', rl, rs, e, k⟩ := h
  obtain ⟨⟨x, st1⟩, e1, e⟩ := bind_some e
  refine ⟨g, σd, st, _, _, rl, rs, e1, fun g1 H1 v x1 rl1 r1 => ?_⟩
  cases x with
  | bl b' =>
    refine ⟨b', r1, ?_⟩
    cases b' with
    | false => exact ⟨g1, σd, st1, d, st', rl1, rs.mono x1, e, fun g2 H2 v x2 rl2 r2 => k g2 H2 v (x1.trans x2) rl2 r2⟩
    | true => cases e; exact k g1 H1 _ x1 rl1 rfl
  | _ => cases e
theorem s_not (ha : SE X C a ma) : SE X C (.UnaryOp .Not a pos) (vNot ma) := by
  refine PE.weak (pe_not ha) fun σ H Q h => ?_
  obtain ⟨g, σd, st, d, st', rl, rs, e, k⟩ := h
  obtain ⟨⟨x, st1⟩, e1, e⟩ := bind_some e
  refine ⟨g, σd, st, _, _, rl, rs, e1, fun g1 H1 v x1 rl1 r1 => ?_⟩
  cases x with
  | bl b' => cases e; exact ⟨b', r1, k g1 H1 _ x1 rl1 rfl⟩
  | _ => cases e
/-- a chain a op b op' c -/
def mCh (f f' : D → D → Sto → Option (D × Sto)) (a b c : EM) : EM := fun σ st => (a σ st).bind fun p => (b σ p.2).bind fun q => (f p.1 q.1 q.2).bind fun r => match r.1 with
  | .bl true => (c σ r.2).bind fun z => f' q.1 z.1 z.2
  | .bl false => some (.bl false, r.2)
  | _ => none
end
end Z

end
section
set_option Elab.async false
set_option linter.all false
set_option maxRecDepth 100000
set_option autoImplicit false
namespace Z
open PySem PySem.Spec L2

/-! ### data as the kit's data -/
mutual
def pyD : D → Option PyData
  | .non => some .none
  | .bl b => some (.bool b)
  | .int i => some (.int i)
  | .str x => some (.str x)
  | .tup ds => (pyDs ds).bind fun xs => some (.tuple xs)
  | .lst ds => (pyDs ds).bind fun xs => some (.list xs)
  | .sq ds => (pyDs ds).bind fun xs => some (.list xs)
  | .dic _ _ => none
  | .obj _ _ _ => none
  | .ref _ => none
def pyDs : List D → Option (List PyData)
  | [] => some []
  | d :: ds => (pyD d).bind fun x => (pyDs ds).bind fun xs => some (x :: xs)
end
def pyT (d : D) (st : Sto) : Option PyData := match d with
  | .ref i => match st[i]? with
    | some (.lst ds) => (pyDs ds).bind fun xs => some (.list xs)
    | _ => none
  | d => pyD d
section
variable {K : PySem.W.Frag} {C : Nat → Addr} {g : Gh} {H : Hp} {st : Sto}
mutual
theorem Rep.dp (hs : ∀ a o, g.F a = some o → H a = some o) : ∀ (d : D) (v : V) (p : PyData), Rep K C g d v → pyD d = some p → Dp K H v p
  | .non, v, p, r, e => by cases (show v = .non from r); cases e; exact .non
  | .bl b, v, p, r, e => by cases (show v = .bl b from r); cases e; exact .bl b
  | .int i, v, p, r, e => by cases (show v = .int i from r); cases e; exact .int i
  | .str x, v, p, r, e => by cases (show v = .str x from r); cases e; exact .str x
  | .tup ds, v, p, r, e => by
    unfold pyD at e
    obtain ⟨ps, e1, e⟩ := bind_some e
    cases e
    obtain ⟨a, xs, rfl, h1, h2⟩ := r
    exact .tup (sqTMono hs h1) (Reps.dp hs ds xs ps h2 e1)
  | .lst ds, v, p, r, e => by
    unfold pyD at e
    obtain ⟨ps, e1, e⟩ := bind_some e
    cases e
    obtain ⟨a, xs, rfl, h1, h2⟩ := r
    exact .lst (.inl (.inl (hs _ _ h1))) (Reps.dp hs ds xs ps h2 e1)
  | .sq ds, v, p, r, e => by
    unfold pyD at e
    obtain ⟨ps, e1, e⟩ := bind_some e
    cases e
    obtain ⟨a, xs, rfl, h1, h2⟩ := r
    exact .lst (sqLMono hs h1) (Reps.dp hs ds xs ps h2 e1)
  | .dic _ _, _, _, _, e => by cases e
  | .obj _ _ _, _, _, _, e => by cases e
  | .ref _, _, _, _, e => by cases e
theorem Reps.dp (hs : ∀ a o, g.F a = some o → H a = some o) : ∀ (ds : List D) (xs : List V) (ps : List PyData), Reps K C g ds xs → pyDs ds = some ps → DpAll K H xs ps
  | [], xs, ps, r, e => by cases (show xs = [] from r); cases e; exact .nil
  | d :: ds, xs, ps, r, e => by
    unfold pyDs at e
    obtain ⟨p, e1, e⟩ := bind_some e
    obtain ⟨qs, e2, e⟩ := bind_some e
    cases e
    obtain ⟨x, ys, rfl, h1, h2⟩ := r
    exact .cons (Rep.dp hs d x p h1 e1) (Reps.dp hs ds ys qs h2 e2)
end
theorem pyT_of {d : D} {v : V} {p : PyData} (rl : Rl K C g H st) (r : Rep K C g d v) (e : pyT d st = some p) : Dp K H v p := by
  cases d with
  | ref i =>
    obtain ⟨a, h1, rfl⟩ := r
    simp only [pyT] at e
    split at e
    · rename_i ds e2
      obtain ⟨ps, e1, e⟩ := bind_some e
      cases e
      obtain ⟨_, xs, k2, k3⟩ := rl.obj i _ a e2 h1
      exact .lst (.inl (.inl k2)) (Reps.dp rl.sub ds xs ps k3 e1)
    · cases e
  | _ => exact Rep.dp rl.sub _ _ _ r e
theorem vL_of {d : D} {v : V} {ds : List D} (rl : Rl K C g H st) (r : Rep K C g d v) (e : vL d st = some ds) : ∃ a xs, v = .ref a ∧ SqL K H a xs ∧ Reps K C g ds xs := by
  cases d with
  | lst es => obtain ⟨a, xs, h0, h1, h2⟩ := r; cases e; exact ⟨a, xs, h0, .inl (.inl (rl.sub _ _ h1)), h2⟩
  | sq es => obtain ⟨a, xs, h0, h1, h2⟩ := r; cases e; exact ⟨a, xs, h0, sqLMono rl.sub h1, h2⟩
  | ref i =>
    obtain ⟨a, h1, h0⟩ := r
    simp only [vL] at e
    split at e
    · rename_i es e2
      cases e
      obtain ⟨_, xs, k2, k3⟩ := rl.obj i _ a e2 h1
      exact ⟨a, xs, h0, .inl (.inl k2), k3⟩
    · cases e
  | _ => cases e
/-- a list whose object is known to the heap -/
def pL : D → Sto → Option (List D)
  | .lst ds, _ => some ds
  | .ref i, st => match st[i]? with
    | some (.lst ds) => some ds
    | _ => none
  | _, _ => none
theorem pL_of {d : D} {v : V} {ds : List D} (rl : Rl K C g H st) (r : Rep K C g d v) (e : pL d st = some ds) : ∃ a xs, v = .ref a ∧ H a = some (.lst xs) ∧ Reps K C g ds xs := by
  cases d with
  | lst es => obtain ⟨a, xs, h0, h1, h2⟩ := r; cases e; exact ⟨a, xs, h0, rl.sub _ _ h1, h2⟩
  | ref i =>
    obtain ⟨a, h1, h0⟩ := r
    simp only [pL] at e
    split at e
    · rename_i es e2
      cases e
      obtain ⟨_, xs, k2, k3⟩ := rl.obj i _ a e2 h1
      exact ⟨a, xs, h0, k2, k3⟩
    · cases e
  | _ => cases e
end

/-! ### operators -/
def oAdd (a b : D) (st : Sto) : Option (D × Sto) := match a with
  | .int i => match b with
    | .int j => some (.int (i + j), st)
    | _ => none
  | .str x => match b with
    | .str y => if x.length + y.length ≤ sizeLine then some (.str (x ++ y), st) else none
    | _ => none
  | .tup xs => match b with
    | .tup ys => if xs.length + ys.length ≤ sizeLine then some (.tup (xs ++ ys), st) else none
    | _ => none
  | a => (pL a st).bind fun xs => (pL b st).bind fun ys => if xs.length + ys.length ≤ sizeLine then some (.lst (xs ++ ys), st) else none
def oI (c : Int → Int → Bool) (f : Int → Int → D) (a b : D) (st : Sto) : Option (D × Sto) := match a with
  | .int i => match b with
    | .int j => if c i j = true then some (f i j, st) else none
    | _ => none
  | _ => none
def oSub := oI (fun _ _ => true) fun i j => .int (i - j)
def cMul (i j : Int) : Bool := decide (i.natAbs.log2 + j.natAbs.log2 < 1000000)
def mulS (x : Str) (n : Nat) : Str := ⟨(List.replicate n x.cps.toList).flatten.toArray⟩
def oMul (a b : D) (st : Sto) : Option (D × Sto) := match a with
  | .int i => match b with
    | .int j => if cMul i j = true then some (.int (i * j), st) else none
    | _ => none
  | .str x => match b with
    | .int k => if (decide (0 ≤ k) && decide (k < 2 ^ 31) && decide (x.length * k.toNat ≤ sizeLine)) = true then some (.str (mulS x k.toNat), st) else none
    | _ => none
  | .tup xs => match b with
    | .int k => if (!xs.isEmpty && decide (2 ≤ k) && decide (k ≤ 1000) && decide (xs.length ≤ 1000)) = true then some (.tup (List.replicate k.toNat xs).flatten, st) else none
    | _ => none
  | a => (pL a st).bind fun xs => match b with
    | .int k => if (decide (-(2 ^ 63) ≤ k) && decide (k < 2 ^ 63) && decide (xs.length * k.toNat ≤ sizeLine)) = true then some (.lst (List.replicate k.toNat xs).flatten, st) else none
    | _ => none
def cDiv (_ j : Int) : Bool := decide (0 < j) && decide (j.natAbs.log2 < 9000)
def oDiv := oI cDiv fun i j => .int (i / j)
def oMod := oI (fun _ j => decide (0 < j)) fun i j => .int (i % j)
def cPow (i j : Int) : Bool := decide (0 ≤ j) && decide ((Builtin.Int.intBits i : Int) * j ≤ 2 ^ 27)
def oPow := oI cPow fun i j => .int (i ^ j.toNat)
def oNeg (a : D) (st : Sto) : Option (D × Sto) := match a with
  | .int i => some (.int (-i), st)
  | _ => none
def oEq (a b : D) (st : Sto) : Option (D × Sto) := (pyT a st).bind fun p => (pyT b st).bind fun q => if (SeqAt.shaped p && SeqAt.shaped q) = true then some (.bl (PyData.eqv p q), st) else none
def oNe (a b : D) (st : Sto) : Option (D × Sto) := (pyT a st).bind fun p => (pyT b st).bind fun q => if (SeqAt.shaped p && SeqAt.shaped q) = true then some (.bl (!PyData.eqv p q), st) else none
def oLt := oI (fun _ _ => true) fun i j => .bl (decide (i < j))
def oGt := oI (fun _ _ => true) fun i j => .bl (decide (j < i))
def oGe := oI (fun _ _ => true) fun i j => .bl (decide (j ≤ i))
def oLe (a b : D) (st : Sto) : Option (D × Sto) := match a with
  | .int i => match b with
    | .int j => some (.bl (decide (i ≤ j)), st)
    | _ => none
  | .str x => match b with
    | .str y => some (.bl (!decide (y.cps.toList < x.cps.toList)), st)
    | _ => none
  | _ => none
def oIs (a b : D) (st : Sto) : Option (D × Sto) := match b with
  | .non => match a with
    | .non => some (.bl true, st)
    | .ref _ => some (.bl false, st)
    | _ => some (.bl false, st)
  | _ => none
def oIsNot (a b : D) (st : Sto) : Option (D × Sto) := match b with
  | .non => match a with
    | .non => some (.bl false, st)
    | _ => some (.bl true, st)
  | _ => none
section
variable {X : Cx} {C : Nat → Addr}
theorem op_intro {f : Value → Value → Sem Value} {m : D → D → Sto → Option (D × Sto)}
    (h : ∀ g H st dx dy x y d st', Rl X.K C g H st → Rep X.K C g dx x → Rep X.K C g dy y → m dx dy st = some (d, st') →
      ∃ r : R2, OpR X f r ∧ ∀ Q : VK, (∀ g' H' v, GExt g g' → Rl X.K C g' H' st' → Rep X.K C g' d v → Q v H') → r x y H Q) : SOp X C f m := by
  intro pins s σ H x y v u Q I rx ry hh
  obtain ⟨g, dx, dy, st, d, st', rl, r1, r2, e, k⟩ := hh
  obtain ⟨r, ho, hr⟩ := h g H st dx dy x y d st' rl r1 r2 e
  exact ho pins s σ H x y v u Q I rx ry (hr Q k)
theorem op_int {f : Value → Value → Sem Value} {c : Int → Int → Bool} {q : Int → Int → D} {p : Int → Int → V} {P : Int → Int → Prop} (ho : OpR X f (rI P p)) (hc : ∀ i j, c i j = true → P i j) (hr : ∀ K g i j, Rep K C g (q i j) (p i j)) : SOp X C f (oI c q) := by
  refine op_intro fun g H st dx dy x y d st' rl r1 r2 e => ⟨_, ho, fun Q k => ?_⟩
  cases dx with
  | int i =>
    cases dy with
    | int j =>
      have e : (if c i j = true then some (q i j, st) else none) = some (d, st') := e
      split at e
      · rename_i h
        cases e
        exact ⟨i, j, r1, r2, hc i j h, k g H _ (GExt.refl g) rl (hr _ _ _ _)⟩
      · cases e
    | _ => cases e
  | _ => cases e
theorem op_int0 {f : Value → Value → Sem Value} {q : Int → Int → D} {p : Int → Int → V} (ho : OpR X f (rI0 p)) (hr : ∀ K g i j, Rep K C g (q i j) (p i j)) : SOp X C f (oI (fun _ _ => true) q) := by
  refine op_intro fun g H st dx dy x y d st' rl r1 r2 e => ⟨_, ho, fun Q k => ?_⟩
  cases dx with
  | int i =>
    cases dy with
    | int j =>
      cases e
      exact ⟨i, j, r1, r2, k g H _ (GExt.refl g) rl (hr _ _ _ _)⟩
    | _ => cases e
  | _ => cases e
theorem sSub : SOp X C (binaryOp .Sub) oSub := op_int0 op_sub fun _ _ _ _ => rfl
theorem sDiv : SOp X C (binaryOp .FloorDiv) oDiv := op_int op_fdivW (fun i j h => by
  simp only [cDiv, Bool.and_eq_true, decide_eq_true_eq] at h
  exact h) fun _ _ _ _ => rfl
theorem sMod : SOp X C (binaryOp .Mod) oMod := op_int op_mod (fun i j h => by simpa using h) fun _ _ _ _ => rfl
theorem op_powG : OpR X (binaryOp .Pow) (rI (fun i j => 0 ≤ j ∧ (Builtin.Int.intBits i : Int) * j ≤ 2 ^ 27) fun i j => .int (i ^ j.toNat)) := opI fun _ _ _ _ _ _ _ hc q => PyProof.Rows.pow_int hc.1 hc.2 q
theorem sPow : SOp X C (binaryOp .Pow) oPow := op_int op_powG (fun i j h => by
  simp only [cPow, Bool.and_eq_true, decide_eq_true_eq] at h
  exact h) fun _ _ _ _ => rfl
theorem sLt : SOp X C (compareOp .Lt) oLt := op_int0 op_lt fun _ _ _ _ => rfl
theorem sGt : SOp X C (compareOp .Gt) oGt := op_int0 op_gt fun _ _ _ _ => rfl
theorem sGe : SOp X C (compareOp .GtE) oGe := op_int0 op_ge fun _ _ _ _ => rfl
theorem sLe : SOp X C (compareOp .LtE) oLe := by
  refine op_intro fun g H st dx dy x y d st' rl r1 r2 e => ?_
  cases dx with
  | int i =>
    cases dy with
    | int j => cases e; exact ⟨_, op_le, fun Q k => ⟨i, j, r1, r2, k g H _ (GExt.refl g) rl rfl⟩⟩
    | _ => cases e
  | str i =>
    cases dy with
    | str j => cases e; exact ⟨_, op_le_str, fun Q k => ⟨i, j, r1, r2, k g H _ (GExt.refl g) rl rfl⟩⟩
    | _ => cases e
  | _ => cases e
theorem sAdd : SOp X C (binaryOp .Add) oAdd := by
  refine op_intro fun g H st dx dy x y d st' rl r1 r2 e => ?_
  have lists : ∀ a, (a = dx) → ((pL a st).bind fun xs => (pL dy st).bind fun ys => if xs.length + ys.length ≤ sizeLine then some (D.lst (xs ++ ys), st) else none) = some (d, st') →
      ∃ r : R2, OpR X (binaryOp .Add) r ∧ ∀ Q : VK, (∀ g' H' v, GExt g g' → Rl X.K C g' H' st' → Rep X.K C g' d v → Q v H') → r x y H Q := fun a ea q => by
    clear e
    subst ea
    obtain ⟨xs, e1, e⟩ := bind_some q
    obtain ⟨ys, e2, e⟩ := bind_some e
    split at e
    · rename_i hz
      cases e
      obtain ⟨a, vs, rfl, h1, h2⟩ := pL_of rl r1 e1
      obtain ⟨b, ws, rfl, h3, h4⟩ := pL_of rl r2 e2
      refine ⟨_, op_cat, fun Q k => ⟨a, b, vs, ws, rfl, rfl, h1, h3, by rw [← h2.length, ← h4.length]; exact hz, fun p hp => ?_⟩⟩
      obtain ⟨x2, rl2⟩ := rl.freeze1 (o := .lst (vs ++ ws)) hp
      exact k _ _ _ x2 rl2 ⟨p, _, rfl, upd_same, (h2.append h4).up x2⟩
    · cases e
  cases dx with
  | int i =>
    cases dy with
    | int j => cases e; exact ⟨_, op_add, fun Q k => ⟨i, j, r1, r2, k g H _ (GExt.refl g) rl rfl⟩⟩
    | _ => cases e
  | str i =>
    cases dy with
    | str j =>
      have e : (if i.length + j.length ≤ sizeLine then some (D.str (i ++ j), st) else none) = some (d, st') := e
      split at e
      · rename_i hz; cases e; exact ⟨_, op_add_str, fun Q k => ⟨i, j, r1, r2, hz, k g H _ (GExt.refl g) rl rfl⟩⟩
      · cases e
    | _ => cases e
  | tup xs =>
    cases dy with
    | tup ys =>
      have e : (if xs.length + ys.length ≤ sizeLine then some (D.tup (xs ++ ys), st) else none) = some (d, st') := e
      split at e
      · rename_i hz
        cases e
        obtain ⟨a, vs, rfl, h1, h2⟩ := r1
        obtain ⟨b, ws, rfl, h3, h4⟩ := r2
        refine ⟨_, op_catA, fun Q k => ⟨a, b, vs, ws, rfl, rfl, sqTMono rl.sub h1, sqTMono rl.sub h3, by rw [← h2.length, ← h4.length]; exact hz, fun ev => ?_, fun _ ew => ?_, fun _ _ p hp => ?_⟩⟩
        · subst ev
          have : xs = [] := List.eq_nil_of_length_eq_zero h2.length
          subst this
          exact k g H _ (GExt.refl g) rl ⟨b, ws, rfl, h3, h4⟩
        · subst ew
          have : ys = [] := List.eq_nil_of_length_eq_zero h4.length
          subst this
          rw [List.append_nil] at k
          exact k g H _ (GExt.refl g) rl ⟨a, vs, rfl, h1, h2⟩
        · obtain ⟨x2, rl2⟩ := rl.freeze1 (o := .tup (vs ++ ws)) hp
          exact k _ _ _ x2 rl2 ⟨p, _, rfl, .inl (.inl upd_same), (h2.append h4).up x2⟩
      · cases e
    | _ => cases e
  | lst _ => exact lists _ rfl e
  | ref _ => exact lists _ rfl e
  | _ => cases e
theorem Reps.rep {K : PySem.W.Frag} {g : Gh} {ds : List D} {xs : List V} (h : Reps K C g ds xs) : ∀ n : Nat, Reps K C g (List.replicate n ds).flatten (List.replicate n xs).flatten
  | 0 => rfl
  | n + 1 => by
    rw [List.replicate_succ, List.replicate_succ, List.flatten_cons, List.flatten_cons]
    exact h.append (Reps.rep h n)
theorem foldl_app (l : List (Array Nat)) : ∀ a : Array Nat, (l.foldl (· ++ ·) a).toList = a.toList ++ (l.map Array.toList).flatten := by
  induction l with
  | nil => intro a; simp
  | cons b l ih => intro a; rw [List.foldl_cons, ih]; simp
theorem op_mulS : OpR X (binaryOp .Mult) (fun x y H Q => ∃ z k, x = .str z ∧ y = .int k ∧ 0 ≤ k ∧ k < 2 ^ 31 ∧ z.length * k.toNat ≤ sizeLine ∧ Q (.str (mulS z k.toNat)) H) := by
  intro pins s σ H x y v u Q I rx ry h
  obtain ⟨z, k, rfl, rfl, h0, h1, hz, q⟩ := h
  obtain ⟨t, rfl⟩ := rx
  obtain ⟨t', rfl⟩ := ry
  have hs : sizeLine = 16777216 := sizeLine_eq
  have e1 : mulS z k.toNat = ⟨(List.replicate k.toNat z.cps).foldl (· ++ ·) #[]⟩ := by
    unfold mulS
    congr 1
    apply Array.ext'
    rw [foldl_app]
    simp
  have big : ¬ k < 1 → ¬ ((z.length : Int) > (2 ^ 63 - 1) / k) := fun hk => by
    have hk1 : (1 : Int) ≤ k := by omega
    have : (z.length : Int) ≤ 16777216 := by
      have : z.length * 1 ≤ z.length * k.toNat := Nat.mul_le_mul_left _ (by omega)
      omega
    have : (2 ^ 63 - 1 : Int) / k ≥ 16777216 := by
      rw [ge_iff_le, Int.le_ediv_iff_mul_le (by omega)]
      omega
    omega
  refine PySem.P.mul_str ?_ (fun hk _ => big hk) (fun _ _ => ?_) ?_
  · have a1 : ¬ k < -(2 ^ 63 : Int) := by omega
    have a2 : ¬ k ≥ 2 ^ 63 := by omega
    rw [decide_eq_false a1, decide_eq_false a2]; rfl
  · unfold Builtin.Str.tooLong
    simp only [decide_eq_false_iff_not]
    omega
  · split
    · rename_i hk
      have : k = 0 := by omega
      subst this
      exact ⟨by decide, ⟨.str _, H, I.tok _, ⟨_, rfl⟩, q⟩⟩
    · rename_i hk
      split
      · rename_i hc
        have e2 : mulS z k.toNat = z := by
          rcases Bool.or_eq_true _ _ ▸ hc with h | h
          · have : k = 1 := by simpa using h
            subst this
            obtain ⟨c⟩ := z
            simp [mulS]
          · have hz0 : z.length = 0 := by simpa using h
            obtain ⟨c⟩ := z
            have : c.toList = [] := List.eq_nil_of_length_eq_zero (by simpa [Str.length] using hz0)
            have hc : c = #[] := by apply Array.ext'; simpa using this
            subst hc
            simp [mulS]
        rw [e2] at q
        exact ⟨.str z, H, I, ⟨_, rfl⟩, q⟩
      · rw [← e1]
        refine ⟨?_, ⟨.str _, H, I.tok _, ⟨_, rfl⟩, q⟩⟩
        have : (mulS z k.toNat).length = k.toNat * z.length := by
          obtain ⟨c⟩ := z
          simp [mulS, Str.length]
        rw [this, Nat.mul_comm]
        exact hz
theorem sMul : SOp X C (binaryOp .Mult) oMul := by
  refine op_intro fun g H st dx dy x y d st' rl r1 r2 e => ?_
  have lists : ∀ a, (a = dx) → ((pL a st).bind fun xs => match dy with
    | .int k => if (decide (-(2 ^ 63) ≤ k) && decide (k < 2 ^ 63) && decide (xs.length * k.toNat ≤ sizeLine)) = true then some (D.lst (List.replicate k.toNat xs).flatten, st) else none
    | _ => none) = some (d, st') →
      ∃ r : R2, OpR X (binaryOp .Mult) r ∧ ∀ Q : VK, (∀ g' H' v, GExt g g' → Rl X.K C g' H' st' → Rep X.K C g' d v → Q v H') → r x y H Q := fun a ea q => by
    clear e
    subst ea
    obtain ⟨xs, e1, e⟩ := bind_some q
    cases dy with
    | int j =>
      simp only at e
      split at e
      · rename_i hz
        simp only [Bool.and_eq_true, decide_eq_true_eq] at hz
        cases e
        obtain ⟨a, vs, rfl, h1, h2⟩ := pL_of rl r1 e1
        refine ⟨_, op_rep, fun Q k => ⟨a, j, vs, rfl, r2, h1, hz.1.1, hz.1.2, by rw [← h2.length]; exact hz.2, fun p hp => ?_⟩⟩
        obtain ⟨x2, rl2⟩ := rl.freeze1 (o := .lst (List.replicate j.toNat vs).flatten) hp
        exact k _ _ _ x2 rl2 ⟨p, _, rfl, upd_same, (Reps.rep h2 _).up x2⟩
      · cases e
    | _ => cases e
  cases dx with
  | int i =>
    cases dy with
    | int j =>
      have e : (if cMul i j = true then some (D.int (i * j), st) else none) = some (d, st') := e
      split at e
      · rename_i hz; cases e; exact ⟨_, op_mulW, fun Q k => ⟨i, j, r1, r2, (show i.natAbs.log2 + j.natAbs.log2 < 1000000 from of_decide_eq_true hz), k g H _ (GExt.refl g) rl rfl⟩⟩
      · cases e
    | _ => cases e
  | str z =>
    cases dy with
    | int j =>
      have e : (if (decide (0 ≤ j) && decide (j < 2 ^ 31) && decide (z.length * j.toNat ≤ sizeLine)) = true then some (D.str (mulS z j.toNat), st) else none) = some (d, st') := e
      split at e
      · rename_i hz
        simp only [Bool.and_eq_true, decide_eq_true_eq] at hz
        cases e
        exact ⟨_, op_mulS, fun Q k => ⟨z, j, r1, r2, hz.1.1, hz.1.2, hz.2, k g H _ (GExt.refl g) rl rfl⟩⟩
      · cases e
    | _ => cases e
  | tup xs =>
    cases dy with
    | int j =>
      have e : (if (!xs.isEmpty && decide (2 ≤ j) && decide (j ≤ 1000) && decide (xs.length ≤ 1000)) = true then some (D.tup (List.replicate j.toNat xs).flatten, st) else none) = some (d, st') := e
      split at e
      · rename_i hz
        simp only [Bool.and_eq_true, decide_eq_true_eq] at hz
        cases e
        obtain ⟨a, vs, rfl, h1, h2⟩ := r1
        refine ⟨_, op_repT, fun Q k => ⟨a, j, vs, rfl, r2, sqTMono rl.sub h1, fun ev => ?_, hz.1.1.2, hz.1.2, by rw [← h2.length]; exact hz.2, fun p hp => ?_⟩⟩
        · subst ev
          have : xs = [] := List.eq_nil_of_length_eq_zero h2.length
          subst this
          simp at hz
        · obtain ⟨x2, rl2⟩ := rl.freeze1 (o := .tup (List.replicate j.toNat vs).flatten) hp
          exact k _ _ _ x2 rl2 ⟨p, _, rfl, .inl (.inl upd_same), (Reps.rep h2 _).up x2⟩
      · cases e
    | _ => cases e
  | lst _ => exact lists _ rfl e
  | ref _ => exact lists _ rfl e
  | _ => cases e
theorem sNeg : UnR X (unaryOp .USub) (rU1 X.K C oNeg) := by
  intro pins s σ H x v Q I rx h
  obtain ⟨g, dx, st, d, st', rl, r1, e, k⟩ := h
  cases dx with
  | int i =>
    cases e
    exact un_neg pins s σ H x v Q I rx ⟨i, r1, k g H _ (GExt.refl g) rl rfl⟩
  | _ => cases e
theorem sEq (hu : X.A.units + 64 < cLine) : SOp X C (compareOp .Eq) oEq := by
  refine op_intro fun g H st dx dy x y d st' rl r1 r2 e => ⟨_, op_eqD hu, fun Q k => ?_⟩
  obtain ⟨p, e1, e⟩ := bind_some e
  obtain ⟨q, e2, e⟩ := bind_some e
  split at e
  · rename_i hz
    simp only [Bool.and_eq_true] at hz
    cases e
    exact ⟨p, q, pyT_of rl r1 e1, pyT_of rl r2 e2, hz.1, hz.2, k g H _ (GExt.refl g) rl rfl⟩
  · cases e
theorem sNe (hu : X.A.units + 64 < cLine) : SOp X C (compareOp .NotEq) oNe := by
  refine op_intro fun g H st dx dy x y d st' rl r1 r2 e => ⟨_, op_neD hu, fun Q k => ?_⟩
  obtain ⟨p, e1, e⟩ := bind_some e
  obtain ⟨q, e2, e⟩ := bind_some e
  split at e
  · rename_i hz
    simp only [Bool.and_eq_true] at hz
    cases e
    exact ⟨p, q, pyT_of rl r1 e1, pyT_of rl r2 e2, hz.1, hz.2, k g H _ (GExt.refl g) rl rfl⟩
  · cases e
theorem isNon {K : PySem.W.Frag} {g : Gh} {dx : D} {x : V} (r : Rep K C g dx x) : decide (x = .non) = match dx with | .non => true | _ => false := by
  cases dx with
  | non => cases (show x = .non from r); rfl
  | bl _ => cases (show x = .bl _ from r); rfl
  | int _ => cases (show x = .int _ from r); rfl
  | str _ => cases (show x = .str _ from r); rfl
  | tup _ => obtain ⟨a, xs, rfl, _⟩ := r; rfl
  | lst _ => obtain ⟨a, xs, rfl, _⟩ := r; rfl
  | sq _ => obtain ⟨a, xs, rfl, _⟩ := r; rfl
  | dic _ _ => obtain ⟨a, xs, rfl, _⟩ := r; rfl
  | obj _ _ _ => obtain ⟨a, xs, fs, rfl, _⟩ := r; rfl
  | ref _ => obtain ⟨a, _, rfl⟩ := r; rfl
theorem sIs : SOp X C (compareOp .Is) oIs := by
  refine op_intro fun g H st dx dy x y d st' rl r1 r2 e => ⟨_, op_isN, fun Q k => ?_⟩
  cases dy with
  | non =>
    have hy : y = .non := r2
    have hx := isNon r1
    refine ⟨hy, ?_⟩
    rw [hx]
    cases dx <;> cases e <;> exact k g H _ (GExt.refl g) rl rfl
  | _ => cases e
theorem sIsNot : SOp X C (compareOp .IsNot) oIsNot := by
  refine op_intro fun g H st dx dy x y d st' rl r1 r2 e => ⟨_, op_notN, fun Q k => ?_⟩
  cases dy with
  | non =>
    have hy : y = .non := r2
    have hx := isNon r1
    refine ⟨hy, ?_⟩
    rw [hx]
    cases dx <;> cases e <;> exact k g H _ (GExt.refl g) rl rfl
  | _ => cases e
end
end Z

end
section
set_option Elab.async false
set_option linter.all false
set_option maxRecDepth 100000
set_option autoImplicit false
namespace Z
open PySem PySem.Spec L2

/-! ### subscripts, slices -/
/-- the value at a key -/
def getK : List Key → List D → Key → Option D
  | k :: ks, v :: vs, q => if k = q then some v else getK ks vs q
  | _, _, _ => none
/-- stored at a key: in its place or at the end -/
def putKs (ks : List Key) (q : Key) : List Key := if (ks.any fun k => decide (k = q)) = true then ks else ks ++ [q]
def putVs : List Key → List D → Key → D → List D
  | k :: ks, v :: vs, q, d => if k = q then d :: putVs ks vs q d else v :: putVs ks vs q d
  | _, _, _, _ => []
def putV (ks : List Key) (vs : List D) (q : Key) (d : D) : List D := if (ks.any fun k => decide (k = q)) = true then putVs ks vs q d else vs ++ [d]
def keyD : D → Option Key
  | .int i => some (.inl i)
  | .str x => some (.inr x)
  | _ => none
def ixL (ds : List D) (b : D) (st : Sto) : Option (D × Sto) := match b with
  | .int i => (atI ds i).bind fun d => some (d, st)
  | _ => none
def oIx (a b : D) (st : Sto) : Option (D × Sto) := match a with
  | .tup ds => ixL ds b st
  | .str z => match b with
    | .int i => if z.length ≤ sizeLine then (atI z.cps.toList i).bind fun c => some (.str ⟨#[c]⟩, st) else none
    | _ => none
  | .dic ks vs => (keyD b).bind fun k => (getK ks vs k).bind fun d => some (d, st)
  | .ref i => match st[i]? with
    | some (.lst ds) => ixL ds b st
    | some (.dic ks vs) => (keyD b).bind fun k => (getK ks vs k).bind fun d => some (d, st)
    | _ => none
  | .lst ds => ixL ds b st
  | .sq ds => ixL ds b st
  | _ => none
section
variable {K : PySem.W.Frag} {C : Nat → Addr} {g : Gh} {H : Hp} {st : Sto}
theorem atI_len {α β : Type} {xs : List α} {ys : List β} {i : Int} {d : α} (hl : xs.length = ys.length) (e : atI xs i = some d) : ∃ j, ixN ys.length i = some j ∧ xs[j]? = some d := by
  unfold atI at e
  obtain ⟨j, e1, e2⟩ := bind_some e
  exact ⟨j, by rw [← hl]; exact e1, e2⟩
theorem Reps.atI {ds : List D} {xs : List V} {i : Int} {d : D} (h : Reps K C g ds xs) (e : atI ds i = some d) : ∃ v, L2.atI xs i = some v ∧ Rep K C g d v := by
  obtain ⟨j, e1, e2⟩ := atI_len h.length e
  obtain ⟨v, e3, r⟩ := h.get e2
  exact ⟨v, by unfold L2.atI; rw [e1]; exact e3, r⟩
theorem getK_of : ∀ {kvs : List (Key × V)} {ks : List Key} {vs : List D} {k : Key} {d : D}, kvs.map (·.1) = ks → Reps K C g vs (kvs.map (·.2)) → getK ks vs k = some d → ∃ v, valV kvs k = some v ∧ Rep K C g d v
  | [], ks, vs, k, d, e, _, e2 => by subst e; cases vs <;> cases e2
  | p :: r, ks, vs, k, d, e, h, e2 => by
    subst e
    cases vs with
    | nil => cases e2
    | cons w ws =>
      obtain ⟨x, xs, ex, h1, h2⟩ := h
      have ex : p.2 :: r.map (·.2) = x :: xs := ex
      cases ex
      have e2 : (if p.1 = k then some w else getK (r.map (·.1)) ws k) = some d := e2
      by_cases hk : p.1 = k
      · rw [if_pos hk] at e2
        cases e2
        exact ⟨p.2, valV_pos hk, h1⟩
      · rw [if_neg hk] at e2
        obtain ⟨v, q1, q2⟩ := getK_of rfl h2 e2
        exact ⟨v, (valV_neg hk).trans q1, q2⟩
theorem keyD_of {d : D} {v : V} {k : Key} (r : Rep K C g d v) (e : keyD d = some k) : v = kV k := by
  cases d with
  | int i => cases e; exact r
  | str x => cases e; exact r
  | _ => cases e
theorem getK_none : ∀ {kvs : List (Key × V)} {ks : List Key} {vs : List D} {k : Key}, kvs.map (·.1) = ks → Reps K C g vs (kvs.map (·.2)) → getK ks vs k = none → valV kvs k = none
  | [], ks, vs, k, e, _, e2 => rfl
  | p :: r, ks, vs, k, e, h, e2 => by
    subst e
    cases vs with
    | nil => cases (show (p :: r).map (·.2) = [] from h)
    | cons w ws =>
      obtain ⟨x, xs, ex, h1, h2⟩ := h
      have ex : p.2 :: r.map (·.2) = x :: xs := ex
      cases ex
      have e2 : (if p.1 = k then some w else getK (r.map (·.1)) ws k) = none := e2
      by_cases hk : p.1 = k
      · rw [if_pos hk] at e2; cases e2
      · rw [if_neg hk] at e2
        exact (valV_neg hk).trans (getK_none rfl h2 e2)
end
section
variable {X : Cx} {C : Nat → Addr}
def rIxDic (X : Cx) : R2 := fun x y H Q => ∃ a v, x = .ref a ∧ DGet H a y (some v) ∧ Q v H
theorem ix_dic (hu : X.A.units + 1 < cLine) : IxR X (rIxDic X) := by
  intro value slice pins s σ H x y v u Q I rx ry h hs
  obtain ⟨a, z, ex, gt, q⟩ := h
  subst ex
  obtain rfl : v = Value.ref a := rx
  exact PyProof.Rows.tail_any (dict_typeIs I gt) PySem.F.slot_dict_getitem.lookup (d_getItem hu I gt ry fun w' s3 I3 rw' => ⟨z, H, I3, rw', q⟩) hs
theorem ix_intro {m : D → D → Sto → Option (D × Sto)}
    (h : ∀ g H st dx dy x y d st', Rl X.K C g H st → Rep X.K C g dx x → Rep X.K C g dy y → m dx dy st = some (d, st') →
      ∃ r : R2, IxR X r ∧ ∀ Q : VK, (∀ g' H' v, GExt g g' → Rl X.K C g' H' st' → Rep X.K C g' d v → Q v H') → r x y H Q) : IxR X (rD X.K C m) := by
  intro value slice pins s σ H x y v u Q I rx ry hh hs
  obtain ⟨g, dx, dy, st, d, st', rl, r1, r2, e, k⟩ := hh
  obtain ⟨r, ho, hr⟩ := h g H st dx dy x y d st' rl r1 r2 e
  exact ho value slice pins s σ H x y v u Q I rx ry (hr Q k) hs
theorem sIx (hu : X.A.units + 1 < cLine) : IxR X (rD X.K C oIx) := by
  refine ix_intro fun g H st dx dy x y d st' rl r1 r2 e => ?_
  have onL : ∀ {ds : List D} {p : Addr} {xs : List V}, x = .ref p → SqL X.K H p xs → Reps X.K C g ds xs → ixL ds dy st = some (d, st') → ∃ r : R2, IxR X r ∧ ∀ Q : VK, (∀ g' H' v, GExt g g' → Rl X.K C g' H' st' → Rep X.K C g' d v → Q v H') → r x y H Q := fun {ds p xs} ex hl hr q => by
    cases dy with
    | int i =>
      obtain ⟨d', e1, e2⟩ := bind_some q
      cases e2
      obtain ⟨v, e3, r3⟩ := hr.atI e1
      exact ⟨_, ix_list, fun Q k => ⟨p, xs, i, v, ex, r2, hl, e3, k g H v (GExt.refl g) rl r3⟩⟩
    | _ => cases q
  have onD : ∀ {ks : List Key} {vs : List D} {p : Addr} {kvs : List (Key × V)}, x = .ref p → H p = some (.dK kvs) → kvs.map (·.1) = ks → Reps X.K C g vs (kvs.map (·.2)) → ((keyD dy).bind fun k => (getK ks vs k).bind fun d => some (d, st)) = some (d, st') →
      ∃ r : R2, IxR X r ∧ ∀ Q : VK, (∀ g' H' v, GExt g g' → Rl X.K C g' H' st' → Rep X.K C g' d v → Q v H') → r x y H Q := fun {ks vs p kvs} ex hd hk hr q => by
    obtain ⟨k, e1, q⟩ := bind_some q
    obtain ⟨d', e2, q⟩ := bind_some q
    cases q
    obtain ⟨v, e3, r3⟩ := getK_of hk hr e2
    have ey := keyD_of r2 e1
    subst ey
    exact ⟨_, ix_dic hu, fun Q kk => ⟨p, v, ex, by rw [← e3]; exact DGet.k hd, kk g H v (GExt.refl g) rl r3⟩⟩
  cases dx with
  | tup ds =>
    obtain ⟨p, xs, rfl, h1, h2⟩ := r1
    cases dy with
    | int i =>
      obtain ⟨d', e1, e2⟩ := bind_some e
      cases e2
      obtain ⟨v, e3, r3⟩ := h2.atI e1
      exact ⟨_, ix_tup, fun Q k => ⟨p, xs, i, v, rfl, r2, sqTMono rl.sub h1, e3, k g H v (GExt.refl g) rl r3⟩⟩
    | _ => cases e
  | str z =>
    cases dy with
    | int i =>
      have e : (if z.length ≤ sizeLine then (atI z.cps.toList i).bind fun c => some (D.str ⟨#[c]⟩, st) else none) = some (d, st') := e
      split at e
      · rename_i hz
        obtain ⟨c, e1, e2⟩ := bind_some e
        cases e2
        exact ⟨_, ix_str, fun Q k => ⟨z, i, c, r1, r2, hz, e1, k g H _ (GExt.refl g) rl rfl⟩⟩
      · cases e
    | _ => cases e
  | dic ks vs =>
    obtain ⟨p, kvs, rfl, h1, h2, h3⟩ := r1
    exact onD rfl (rl.sub _ _ h1) h2 h3 e
  | lst ds =>
    obtain ⟨p, xs, rfl, h1, h2⟩ := r1
    exact onL rfl (.inl (.inl (rl.sub _ _ h1))) h2 e
  | sq ds =>
    obtain ⟨p, xs, rfl, h1, h2⟩ := r1
    exact onL rfl (sqLMono rl.sub h1) h2 e
  | ref i =>
    obtain ⟨p, h1, rfl⟩ := r1
    simp only [oIx] at e
    split at e
    · rename_i ds e2
      obtain ⟨_, xs, k2, k3⟩ := rl.obj i _ p e2 h1
      exact onL rfl (.inl (.inl k2)) k3 e
    · rename_i ks vs e2
      obtain ⟨_, kvs, k2, k3, k4⟩ := rl.obj i _ p e2 h1
      exact onD rfl k2 k3 k4 e
    · cases e
  | _ => cases e

/-! slices -/
abbrev EO := Slo → Sto → Option (Option Int × Sto)
def tO (K : PySem.W.Frag) (C : Nat → Addr) (m : EO) : TO := fun σ H Q => ∃ g σd st i st', Rl K C g H st ∧ RlS K C g σ σd ∧ m σd st = some (i, st') ∧ ∀ g' H', GExt g g' → Rl K C g' H' st' → Q i H'
theorem PO.weak {X : Cx} {e : Option Expr} {t t' : TO} (h : PO X e t) (w : ∀ σ H Q, t' σ H Q → t σ H Q) : PO X e t' := ⟨fun pins s σ H Q I q => h.run pins s σ H Q I (w _ _ _ q)⟩
abbrev SO (X : Cx) (C : Nat → Addr) (e : Option Expr) (m : EO) : Prop := PO X e (tO X.K C m)
def oNo : EO := fun _ st => some (none, st)
def oSo (a : EM) : EO := fun σ st => (a σ st).bind fun p => match p.1 with
  | .int i => some (some i, p.2)
  | _ => none
theorem so_no : SO X C none oNo := PO.weak po_none fun σ H Q h => by
  obtain ⟨g, σd, st, i, st', rl, rs, e, k⟩ := h
  cases e
  exact k g H (GExt.refl g) rl
theorem so_so {e : Expr} {me : EM} (h : SE X C e me) : SO X C (some e) (oSo me) := PO.weak (po_some h) fun σ H Q h => by
  obtain ⟨g, σd, st, i, st', rl, rs, e, k⟩ := h
  obtain ⟨⟨x, st1⟩, e1, e⟩ := bind_some e
  refine ⟨g, σd, st, x, st1, rl, rs, e1, fun g1 H1 v x1 rl1 r1 => ?_⟩
  cases x with
  | int j => cases e; exact ⟨j, r1, k g1 H1 x1 rl1⟩
  | _ => cases e
def cutD {α : Type} (xs : List α) (lo hi : Option Int) : List α := (xs.drop (HT.sIx xs.length 0 lo)).take (HT.sIx xs.length xs.length hi - HT.sIx xs.length 0 lo)
theorem Reps.cut {K : PySem.W.Frag} {g : Gh} {ds : List D} {xs : List V} (h : Reps K C g ds xs) (lo hi : Option Int) : Reps K C g (cutD ds lo hi) (cutV xs lo hi) := by
  unfold cutD cutV
  rw [h.length]
  exact (h.drop _).take _
def oSl (a : D) (lo hi : Option Int) (st : Sto) : Option (D × Sto) := match a with
  | .tup ds => some (.tup (cutD ds lo hi), st)
  | .str z => if z.length ≤ sizeLine then some (.str (cutS z lo hi), st) else none
  | a => (vL a st).bind fun ds => some (.lst (cutD ds lo hi), st)
def mSl (f : D → Option Int → Option Int → Sto → Option (D × Sto)) (a : EM) (l h : EO) : EM := fun σ st => (a σ st).bind fun p => (l σ p.2).bind fun q => (h σ q.2).bind fun r => f p.1 q.1 r.1 r.2
theorem sl_intro {m : D → Option Int → Option Int → Sto → Option (D × Sto)} {a : Expr} {lo hi : Option Expr} {p2 pos : Pos} {ma : EM} {ml mh : EO} (ha : SE X C a ma) (hl : SO X C lo ml) (hh : SO X C hi mh)
    (h : ∀ g H st dx x l u d st', Rl X.K C g H st → Rep X.K C g dx x → m dx l u st = some (d, st') →
      ∃ r : V → Option Int → Option Int → Hp → VK → Prop, SlR X r ∧ ∀ Q : VK, (∀ g' H' v, GExt g g' → Rl X.K C g' H' st' → Rep X.K C g' d v → Q v H') → r x l u H Q) :
    SE X C (.Subscript a (.Slice lo hi none p2) pos) (mSl m ma ml mh) := by
  have hr : SlR X fun x l u H Q => ∃ g dx st d st', Rl X.K C g H st ∧ Rep X.K C g dx x ∧ m dx l u st = some (d, st') ∧ ∀ g' H' v, GExt g g' → Rl X.K C g' H' st' → Rep X.K C g' d v → Q v H' := by
    intro pins s σ H x v vl vu lo hi sl Q I rx hs pl pu hh
    obtain ⟨g, dx, st, d, st', rl, r1, e, k⟩ := hh
    obtain ⟨r, ho, hr⟩ := h g H st dx x lo hi d st' rl r1 e
    exact ho pins s σ H x v vl vu lo hi sl Q I rx hs pl pu (hr Q k)
  refine PE.weak (pe_slice hr ha hl hh) fun σ H Q q => ?_
  obtain ⟨g, σd, st, d, st', rl, rs, e, k⟩ := q
  obtain ⟨⟨x, st1⟩, e1, e⟩ := bind_some e
  obtain ⟨⟨l, st2⟩, e2, e⟩ := bind_some e
  obtain ⟨⟨u, st3⟩, e3, e⟩ := bind_some e
  refine ⟨g, σd, st, x, st1, rl, rs, e1, fun g1 H1 v1 x1 rl1 r1 => ?_⟩
  refine ⟨g1, σd, st1, l, st2, rl1, rs.mono x1, e2, fun g2 H2 x2 rl2 => ?_⟩
  refine ⟨g2, σd, st2, u, st3, rl2, rs.mono (x1.trans x2), e3, fun g3 H3 x3 rl3 => ?_⟩
  exact ⟨g3, x, st3, d, st', rl3, r1.up (x2.trans x3), e, fun g4 H4 v4 x4 rl4 r4 => k g4 H4 v4 (x1.trans (x2.trans (x3.trans x4))) rl4 r4⟩
theorem s_sl {a : Expr} {lo hi : Option Expr} {p2 pos : Pos} {ma : EM} {ml mh : EO} (ha : SE X C a ma) (hl : SO X C lo ml) (hh : SO X C hi mh) : SE X C (.Subscript a (.Slice lo hi none p2) pos) (mSl oSl ma ml mh) := by
  refine sl_intro ha hl hh fun g H st dx x l u d st' rl r1 e => ?_
  have lists : ∀ z, z = dx → ((vL z st).bind fun ds => some (D.lst (cutD ds l u), st)) = some (d, st') →
      ∃ r : V → Option Int → Option Int → Hp → VK → Prop, SlR X r ∧ ∀ Q : VK, (∀ g' H' v, GExt g g' → Rl X.K C g' H' st' → Rep X.K C g' d v → Q v H') → r x l u H Q := fun z ez q => by
    clear e
    subst ez
    obtain ⟨ds, e1, q⟩ := bind_some q
    cases q
    obtain ⟨p, xs, rfl, h1, h2⟩ := vL_of rl r1 e1
    refine ⟨_, sl_list, fun Q k => ⟨p, xs, rfl, h1, fun q hq => ?_⟩⟩
    obtain ⟨x2, rl2⟩ := rl.freeze1 (o := .lst (cutV xs l u)) hq
    exact k _ _ _ x2 rl2 ⟨q, _, rfl, upd_same, (h2.cut l u).up x2⟩
  cases dx with
  | tup ds =>
    obtain ⟨p, xs, rfl, h1, h2⟩ := r1
    cases e
    refine ⟨_, sl_tupA, fun Q k => ⟨p, xs, rfl, sqTMono rl.sub h1, fun hw => ?_, fun hw q hq => ?_⟩⟩
    · have ec : cutD ds l u = ds := by
        unfold cutD
        rw [h2.length, hw.1, hw.2, ← h2.length, List.drop_zero, Nat.sub_zero, List.take_length]
      rw [ec] at k
      exact k g H _ (GExt.refl g) rl ⟨p, xs, rfl, h1, h2⟩
    · obtain ⟨x2, rl2⟩ := rl.freeze1 (o := .tup (cutV xs l u)) hq
      exact k _ _ _ x2 rl2 ⟨q, _, rfl, .inl (.inl upd_same), (h2.cut l u).up x2⟩
  | str z =>
    have e : (if z.length ≤ sizeLine then some (D.str (cutS z l u), st) else none) = some (d, st') := e
    split at e
    · rename_i hz
      cases e
      exact ⟨_, sl_str, fun Q k => ⟨z, r1, hz, k g H _ (GExt.refl g) rl rfl⟩⟩
    · cases e
  | lst _ => exact lists _ rfl e
  | sq _ => exact lists _ rfl e
  | ref _ => exact lists _ rfl e
  | _ => cases e

/-! ### calls of built-ins, methods of built-ins -/
def rC (K : PySem.W.Frag) (C : Nat → Addr) (m : List D → Sto → Option (D × Sto)) : List V → Hp → VK → Prop := fun vs H Q => ∃ g ds st d st', Rl K C g H st ∧ Reps K C g ds vs ∧ m ds st = some (d, st') ∧
  ∀ g' H' v, GExt g g' → Rl K C g' H' st' → Rep K C g' d v → Q v H'
def mC (m : List D → Sto → Option (D × Sto)) (a : Ev (List D)) : EM := fun σ st => (a σ st).bind fun p => m p.1 p.2
abbrev SC (X : Cx) (C : Nat → Addr) (f : Value) (m : List D → Sto → Option (D × Sto)) : Prop := CallR X f (rC X.K C m)
theorem tCB_of {K : PySem.W.Frag} {m : List D → Sto → Option (D × Sto)} {ma : Ev (List D)} {σ : St} {H : Hp} {Q : VK} (h : tE K C (mC m ma) σ H Q) : tCB (rC K C m) (tA K C ma) σ H Q := by
  obtain ⟨g, σd, st, d, st', rl, rs, e, k⟩ := h
  obtain ⟨⟨x, st1⟩, e1, e⟩ := bind_some e
  refine ⟨g, σd, st, x, st1, rl, rs, e1, fun g1 H1 vs x1 rl1 r1 => ?_⟩
  exact ⟨g1, x, st1, d, st', rl1, r1, e, fun g2 H2 v2 x2 rl2 r2 => k g2 H2 v2 (x1.trans x2) rl2 r2⟩
variable {e : Expr} {es : List Expr} {x : Str} {p pos apos cpos : Pos} {id T : String} {m : List D → Sto → Option (D × Sto)} {ma : Ev (List D)}
theorem s_callB (hc : SC X C (.builtin id) m) (hg : Gl X x) (hm : X.mg x = none) (hv : bootBuiltins x = some (.builtin id)) (ha : SA X C (e :: es) ma) (hn : x ≠ "__name__" := by decide) (hdb : (x == ("__debug__" : Str)) = false := by decide)
    (he : starEach (e :: es) X.env = (false, eval e X.env) :: starEach es X.env := by rfl) (hpl : (backTo pos (starEach es X.env)).any (·.1) = false := by rfl) : SE X C (.Call (.Name x p) (e :: es) [] pos) (mC m ma) :=
  PE.weak (pe_callB hc hg hm hv ha hn hdb he hpl) fun _ _ _ h => tCB_of h
theorem s_callTy (hc : SC X C (.type T) m) (hg : Gl X x) (hm : X.mg x = none) (hv : bootBuiltins x = some (.type T)) (ha : SA X C (e :: es) ma) (hn : x ≠ "__name__" := by decide) (hdb : (x == ("__debug__" : Str)) = false := by decide)
    (he : starEach (e :: es) X.env = (false, eval e X.env) :: starEach es X.env := by rfl) (hpl : (backTo pos (starEach es X.env)).any (·.1) = false := by rfl) : SE X C (.Call (.Name x p) (e :: es) [] pos) (mC m ma) :=
  PE.weak (pe_callTy hc hg hm hv ha hn hdb he hpl) fun _ _ _ h => tCB_of h
theorem sc_intro {f : Value} {m : List D → Sto → Option (D × Sto)}
    (h : ∀ g H st ds vs d st', Rl X.K C g H st → Reps X.K C g ds vs → m ds st = some (d, st') →
      ∃ r, CallR X f r ∧ ∀ Q : VK, (∀ g' H' v, GExt g g' → Rl X.K C g' H' st' → Rep X.K C g' d v → Q v H') → r vs H Q) : SC X C f m := by
  intro pins s σ H vs us Q I r hh
  obtain ⟨g, ds, st, d, st', rl, r1, e, k⟩ := hh
  obtain ⟨rr, ho, hr⟩ := h g H st ds vs d st' rl r1 e
  exact ho pins s σ H vs us Q I r (hr Q k)
theorem Reps.one {K : PySem.W.Frag} {g : Gh} {d : D} {vs : List V} (h : Reps K C g [d] vs) : ∃ v, vs = [v] ∧ Rep K C g d v := by
  obtain ⟨v, r, rfl, h1, h2⟩ := h
  cases (show r = [] from h2)
  exact ⟨v, rfl, h1⟩
theorem Reps.two {K : PySem.W.Frag} {g : Gh} {d e : D} {vs : List V} (h : Reps K C g [d, e] vs) : ∃ v w, vs = [v, w] ∧ Rep K C g d v ∧ Rep K C g e w := by
  obtain ⟨v, r, rfl, h1, h2⟩ := h
  obtain ⟨w, rfl, h3⟩ := Reps.one h2
  exact ⟨v, w, rfl, h1, h3⟩
/-- len -/
def lenD (d : D) (st : Sto) : Option Nat := match d with
  | .str y => if y.length ≤ sizeLine then some y.length else none
  | .tup ds => some ds.length
  | d => (vL d st).bind fun ds => some ds.length
def bLen (ds : List D) (st : Sto) : Option (D × Sto) := match ds with
  | [d] => (lenD d st).bind fun n => some (.int n, st)
  | _ => none
theorem cLen : SC X C (.builtin "len") bLen := by
  refine sc_intro fun g H st ds vs d st' rl r e => ⟨_, call_len, fun Q k => ?_⟩
  match ds, e with
  | [y], e =>
    obtain ⟨v, rfl, r1⟩ := r.one
    obtain ⟨n, e1, e⟩ := bind_some e
    cases e
    refine ⟨v, n, rfl, ?_, k g H _ (GExt.refl g) rl rfl⟩
    have lists : ∀ z, z = y → ((vL z st).bind fun ds => some ds.length) = some n → LenV X.K v H n := fun z ez q => by
      clear e1
      subst ez
      obtain ⟨ds, e1, q⟩ := bind_some q
      cases q
      obtain ⟨p, xs, rfl, h1, h2⟩ := vL_of rl r1 e1
      exact .inl ⟨xs, h1, h2.length⟩
    cases y with
    | str z =>
      cases (show v = .str z from r1)
      have e1 : (if z.length ≤ sizeLine then some z.length else none) = some n := e1
      split at e1
      · rename_i hz; cases e1; exact ⟨hz, rfl⟩
      · cases e1
    | tup ds =>
      obtain ⟨p, xs, rfl, h1, h2⟩ := r1
      cases e1
      exact .inr ⟨xs, sqTMono rl.sub h1, h2.length⟩
    | lst _ => exact lists _ rfl e1
    | sq _ => exact lists _ rfl e1
    | ref _ => exact lists _ rfl e1
    | _ => cases e1
def bInt1 (f : Int → Int) (ds : List D) (st : Sto) : Option (D × Sto) := match ds with
  | [.int i] => some (.int (f i), st)
  | _ => none
def bInt2 (f : Int → Int → Int) (ds : List D) (st : Sto) : Option (D × Sto) := match ds with
  | [.int i, .int j] => some (.int (f i j), st)
  | _ => none
def bAbs := bInt1 fun i => if i < 0 then -i else i
def bMax2 := bInt2 fun i j => if j > i then j else i
def bMin2 := bInt2 fun i j => if j < i then j else i
theorem cAbs : SC X C (.builtin "abs") bAbs := by
  refine sc_intro fun g H st ds vs d st' rl r e => ⟨_, call_abs, fun Q k => ?_⟩
  match ds, e with
  | [.int i], e => obtain ⟨v, rfl, r1⟩ := r.one; cases (show v = .int i from r1); cases e; exact ⟨i, rfl, k g H _ (GExt.refl g) rl rfl⟩
theorem cMax2 (hc : X.calm = true) : SC X C (.builtin "max") bMax2 := by
  refine sc_intro fun g H st ds vs d st' rl r e => ⟨_, call_max2 hc, fun Q k => ?_⟩
  match ds, e with
  | [.int i, .int j], e => obtain ⟨v, w, rfl, r1, r2⟩ := r.two; cases (show v = .int i from r1); cases (show w = .int j from r2); cases e; exact ⟨i, j, rfl, k g H _ (GExt.refl g) rl rfl⟩
theorem cMin2 (hc : X.calm = true) : SC X C (.builtin "min") bMin2 := by
  refine sc_intro fun g H st ds vs d st' rl r e => ⟨_, call_min2 hc, fun Q k => ?_⟩
  match ds, e with
  | [.int i, .int j], e => obtain ⟨v, w, rfl, r1, r2⟩ := r.two; cases (show v = .int i from r1); cases (show w = .int j from r2); cases e; exact ⟨i, j, rfl, k g H _ (GExt.refl g) rl rfl⟩
def bToInt (ds : List D) (st : Sto) : Option (D × Sto) := match ds with
  | [.int i] => some (.int i, st)
  | [.bl b] => some (.int (if b then 1 else 0), st)
  | _ => none
theorem cToInt : SC X C (.type "int") bToInt := by
  refine sc_intro fun g H st ds vs d st' rl r e => ⟨_, call_int1, fun Q k => ?_⟩
  match ds, e with
  | [.int i], e => obtain ⟨v, rfl, r1⟩ := r.one; cases (show v = .int i from r1); cases e; exact .inl ⟨i, rfl, k g H _ (GExt.refl g) rl rfl⟩
  | [.bl i], e => obtain ⟨v, rfl, r1⟩ := r.one; cases (show v = .bl i from r1); cases e; exact .inr ⟨i, rfl, k g H _ (GExt.refl g) rl rfl⟩
/-! lists of ints, of bools -/
def intsD : List D → Option (List Int)
  | [] => some []
  | .int i :: r => (intsD r).bind fun ns => some (i :: ns)
  | _ :: _ => none
def blsD : List D → Option (List Bool)
  | [] => some []
  | .bl b :: r => (blsD r).bind fun ns => some (b :: ns)
  | _ :: _ => none
theorem Reps.ints {K : PySem.W.Frag} {g : Gh} : ∀ {ds : List D} {xs : List V} {ns : List Int}, Reps K C g ds xs → intsD ds = some ns → xs = ns.map V.int
  | [], xs, ns, h, e => by cases (show xs = [] from h); cases e; rfl
  | .int i :: r, xs, ns, h, e => by
    obtain ⟨x, ys, rfl, h1, h2⟩ := h
    obtain ⟨ms, e1, e⟩ := bind_some e
    cases e
    cases (show x = .int i from h1)
    rw [Reps.ints h2 e1]
    rfl
  | .non :: _, _, _, _, e => nomatch e
  | .bl _ :: _, _, _, _, e => nomatch e
  | .str _ :: _, _, _, _, e => nomatch e
  | .tup _ :: _, _, _, _, e => nomatch e
  | .lst _ :: _, _, _, _, e => nomatch e
  | .sq _ :: _, _, _, _, e => nomatch e
  | .dic _ _ :: _, _, _, _, e => nomatch e
  | .obj _ _ _ :: _, _, _, _, e => nomatch e
  | .ref _ :: _, _, _, _, e => nomatch e
theorem Reps.bls {K : PySem.W.Frag} {g : Gh} : ∀ {ds : List D} {xs : List V} {ns : List Bool}, Reps K C g ds xs → blsD ds = some ns → xs = ns.map V.bl
  | [], xs, ns, h, e => by cases (show xs = [] from h); cases e; rfl
  | .bl i :: r, xs, ns, h, e => by
    obtain ⟨x, ys, rfl, h1, h2⟩ := h
    obtain ⟨ms, e1, e⟩ := bind_some e
    cases e
    cases (show x = .bl i from h1)
    rw [Reps.bls h2 e1]
    rfl
  | .non :: _, _, _, _, e => nomatch e
  | .int _ :: _, _, _, _, e => nomatch e
  | .str _ :: _, _, _, _, e => nomatch e
  | .tup _ :: _, _, _, _, e => nomatch e
  | .lst _ :: _, _, _, _, e => nomatch e
  | .sq _ :: _, _, _, _, e => nomatch e
  | .dic _ _ :: _, _, _, _, e => nomatch e
  | .obj _ _ _ :: _, _, _, _, e => nomatch e
  | .ref _ :: _, _, _, _, e => nomatch e
def bSum (ds : List D) (st : Sto) : Option (D × Sto) := match ds with
  | [d] => (vL d st).bind fun xs => (intsD xs).bind fun ns => some (.int ns.sum, st)
  | _ => none
theorem cSum (hc : X.calm = true) : SC X C (.builtin "sum") bSum := by
  refine sc_intro fun g H st ds vs d st' rl r e => ⟨_, cr_sum hc, fun Q k => ?_⟩
  match ds, e with
  | [y], e =>
    obtain ⟨v, rfl, r1⟩ := r.one
    obtain ⟨xs, e1, e⟩ := bind_some e
    obtain ⟨ns, e2, e⟩ := bind_some e
    cases e
    obtain ⟨a, ws, rfl, h1, h2⟩ := vL_of rl r1 e1
    have := h2.ints e2
    subst this
    exact ⟨a, ns, rfl, h1, k g H _ (GExt.refl g) rl rfl⟩
def bAll (ds : List D) (st : Sto) : Option (D × Sto) := match ds with
  | [d] => (vL d st).bind fun xs => (blsD xs).bind fun bs => some (.bl (bs.all _root_.id), st)
  | _ => none
theorem cAll (hc : X.calm = true) : SC X C (.builtin "all") bAll := by
  refine sc_intro fun g H st ds vs d st' rl r e => ⟨_, cr_all hc, fun Q k => ?_⟩
  match ds, e with
  | [y], e =>
    obtain ⟨v, rfl, r1⟩ := r.one
    obtain ⟨xs, e1, e⟩ := bind_some e
    obtain ⟨ns, e2, e⟩ := bind_some e
    cases e
    obtain ⟨a, ws, rfl, h1, h2⟩ := vL_of rl r1 e1
    have := h2.bls e2
    subst this
    exact ⟨a, ns, rfl, h1, k g H _ (GExt.refl g) rl rfl⟩
def bAny (ds : List D) (st : Sto) : Option (D × Sto) := match ds with
  | [d] => (vL d st).bind fun xs => (blsD xs).bind fun bs => some (.bl (bs.any _root_.id), st)
  | _ => none
theorem cAny (hc : X.calm = true) : SC X C (.builtin "any") bAny := by
  refine sc_intro fun g H st ds vs d st' rl r e => ⟨_, cr_any hc, fun Q k => ?_⟩
  match ds, e with
  | [y], e =>
    obtain ⟨v, rfl, r1⟩ := r.one
    obtain ⟨xs, e1, e⟩ := bind_some e
    obtain ⟨ns, e2, e⟩ := bind_some e
    cases e
    obtain ⟨a, ws, rfl, h1, h2⟩ := vL_of rl r1 e1
    have := h2.bls e2
    subst this
    exact ⟨a, ns, rfl, h1, k g H _ (GExt.refl g) rl rfl⟩
def bTuple (ds : List D) (st : Sto) : Option (D × Sto) := match ds with
  | [d] => match d with
    | .tup xs => some (.tup xs, st)
    | d => (vL d st).bind fun xs => some (.tup xs, st)
  | _ => none
theorem cTuple : SC X C (.type "tuple") bTuple := by
  refine sc_intro fun g H st ds vs d st' rl r e => ⟨_, call_tuple_of, fun Q k => ?_⟩
  match ds, e with
  | [y], e =>
    obtain ⟨v, rfl, r1⟩ := r.one
    have lists : ∀ z, z = y → ((vL z st).bind fun xs => some (D.tup xs, st)) = some (d, st') → ∃ p ys, [v] = [.ref p] ∧ ((SqL X.K H p ys ∧ ∀ l, H l = none → Q (.ref l) (upd H l (.tup ys))) ∨ (SqT X.K H p ys ∧ Q (.ref p) H)) := fun z ez q => by
      clear e
      subst ez
      obtain ⟨xs, e1, q⟩ := bind_some q
      cases q
      obtain ⟨a, ws, rfl, h1, h2⟩ := vL_of rl r1 e1
      refine ⟨a, ws, rfl, .inl ⟨h1, fun l hl => ?_⟩⟩
      obtain ⟨x2, rl2⟩ := rl.freeze1 (o := .tup ws) hl
      exact k _ _ _ x2 rl2 ⟨l, _, rfl, .inl (.inl upd_same), h2.up x2⟩
    cases y with
    | tup xs =>
      obtain ⟨p, ws, rfl, h1, h2⟩ := r1
      cases e
      exact ⟨p, ws, rfl, .inr ⟨sqTMono rl.sub h1, k g H _ (GExt.refl g) rl ⟨p, ws, rfl, h1, h2⟩⟩⟩
    | lst _ => exact lists _ rfl e
    | sq _ => exact lists _ rfl e
    | ref _ => exact lists _ rfl e
    | _ => cases e
/-- a list or a tuple -/
def vS (d : D) (st : Sto) : Option (List D) := match d with
  | .tup xs => some xs
  | d => vL d st
theorem vS_of {K : PySem.W.Frag} {g : Gh} {H : Hp} {st : Sto} {d : D} {v : V} {ds : List D} (rl : Rl K C g H st) (r : Rep K C g d v) (e : vS d st = some ds) : ∃ a xs, v = .ref a ∧ (SqL K H a xs ∨ SqT K H a xs) ∧ Reps K C g ds xs := by
  have lists : ∀ z, z = d → vL z st = some ds → ∃ a xs, v = .ref a ∧ (SqL K H a xs ∨ SqT K H a xs) ∧ Reps K C g ds xs := fun z ez q => by
    subst ez
    obtain ⟨a, xs, h0, h1, h2⟩ := vL_of rl r q
    exact ⟨a, xs, h0, .inl h1, h2⟩
  cases d with
  | tup xs =>
    obtain ⟨p, ws, rfl, h1, h2⟩ := r
    cases e
    exact ⟨p, ws, rfl, .inr (sqTMono rl.sub h1), h2⟩
  | _ => exact lists _ rfl e
def bList (ds : List D) (st : Sto) : Option (D × Sto) := match ds with
  | [d] => (vS d st).bind fun xs => some (.lst xs, st)
  | _ => none
theorem cList : SC X C (.type "list") bList := by
  refine sc_intro fun g H st ds vs d st' rl r e => ⟨_, call_list_of, fun Q k => ?_⟩
  match ds, e with
  | [y], e =>
    obtain ⟨v, rfl, r1⟩ := r.one
    obtain ⟨xs, e1, e⟩ := bind_some e
    cases e
    obtain ⟨a, ws, rfl, h1, h2⟩ := vS_of rl r1 e1
    refine ⟨a, ws, rfl, h1, fun l hl => ?_⟩
    obtain ⟨x2, rl2⟩ := rl.freeze1 (o := .lst ws) hl
    exact k _ _ _ x2 rl2 ⟨l, _, rfl, upd_same, h2.up x2⟩
def bListN (ds : List D) (st : Sto) : Option (D × Sto) := match ds with
  | [d] => (vS d st).bind fun xs => some (.ref st.length, st ++ [.lst xs])
  | _ => none
theorem cListN : SC X C (.type "list") bListN := by
  refine sc_intro fun g H st ds vs d st' rl r e => ⟨_, call_list_of, fun Q k => ?_⟩
  match ds, e with
  | [y], e =>
    obtain ⟨v, rfl, r1⟩ := r.one
    obtain ⟨xs, e1, e⟩ := bind_some e
    cases e
    obtain ⟨a, ws, rfl, h1, h2⟩ := vS_of rl r1 e1
    refine ⟨a, ws, rfl, h1, fun l hl => ?_⟩
    obtain ⟨g2, x2, rl2, r2⟩ := new_of (g := g) rl h2 hl
    exact k _ _ _ x2 rl2 r2

/-! methods of lists of the store -/
def mM (ok : D → Sto → Bool) (m : D → List D → Sto → Option (D × Sto)) (o : EM) (a : Ev (List D)) : EM := fun σ st => (o σ st).bind fun p => if ok p.1 p.2 = true then (a σ p.2).bind fun q => m p.1 q.1 q.2 else none
def rM (K : PySem.W.Frag) (C : Nat → Addr) (m : D → List D → Sto → Option (D × Sto)) : V → List V → Hp → VK → Prop := fun x vs H Q => ∃ g dx ds st d st', Rl K C g H st ∧ Rep K C g dx x ∧ Reps K C g ds vs ∧ m dx ds st = some (d, st') ∧
  ∀ g' H' v, GExt g g' → Rl K C g' H' st' → Rep K C g' d v → Q v H'
def okL (d : D) (st : Sto) : Bool := (vL d st).isSome
def okS (d : D) (_ : Sto) : Bool := match d with | .str _ => true | _ => false
theorem tyL {K : PySem.W.Frag} {g : Gh} {H : Hp} {st : Sto} {d : D} {v : V} (rl : Rl K C g H st) (r : Rep K C g d v) (h : okL d st = true) : tyV K "list" v H := by
  unfold okL at h
  obtain ⟨ds, e⟩ := Option.isSome_iff_exists.mp h
  obtain ⟨a, xs, rfl, h1, _⟩ := vL_of rl r e
  exact .inl ⟨rfl, xs, h1⟩
theorem tyS {K : PySem.W.Frag} {g : Gh} {H : Hp} {st : Sto} {d : D} {v : V} (rl : Rl K C g H st) (r : Rep K C g d v) (h : okS d st = true) : tyV K "str" v H := by
  cases d with
  | str z => cases (show v = .str z from r); exact rfl
  | _ => cases h
theorem s_bm {o : Expr} {name : Str} {mo : EM} {ok : D → Sto → Bool} {m : D → List D → Sto → Option (D × Sto)} (pa : PlainAttrs T) (slot : Slot T name id) (hty : typeOf (.builtin id) = pure (.type "method_descriptor")) (hm : MtR X id (rM X.K C m)) (ho : SE X C o mo) (ha : SA X C (e :: es) ma)
    (hok : ∀ {g : Gh} {H : Hp} {st : Sto} {d : D} {v : V}, Rl X.K C g H st → Rep X.K C g d v → ok d st = true → tyV X.K T v H)
    (hbase : attributeBase o name X.env (eval o X.env) = eval o X.env := by rfl)
    (hfew : ((backTo cpos (starEach (e :: es) X.env)).all (fun x => !x.1) && (backToKw cpos (keywordEach [] X.env)).all (fun x => x.1.isSome)
      && decide ((e :: es).length + ([] : List Keyword).length + (if ([] : List Keyword).isEmpty then 0 else 1) < 30)) = true := by rfl)
    (hline : (apos.endLine == cpos.line) = true := by rfl) (hs : starEach (e :: es) X.env = (false, eval e X.env) :: starEach es X.env := by rfl) (hplain : (backTo cpos (starEach es X.env)).any (·.1) = false := by rfl) :
    SE X C (.Call (.Attribute o name apos) (e :: es) [] cpos) (mM ok m mo ma) := by
  refine PE.weak (pe_bm pa slot hty hm ho ha hbase hfew hline hs hplain) fun σ H Q h => ?_
  obtain ⟨g, σd, st, d, st', rl, rs, e, k⟩ := h
  obtain ⟨⟨x, st1⟩, e1, e⟩ := bind_some e
  split at e
  · rename_i hk
    obtain ⟨⟨ds, st2⟩, e2, e⟩ := bind_some e
    refine ⟨g, σd, st, x, st1, rl, rs, e1, fun g1 H1 v1 x1 rl1 r1 => ⟨hok rl1 r1 hk, ?_⟩⟩
    refine ⟨g1, σd, st1, ds, st2, rl1, rs.mono x1, e2, fun g2 H2 vs x2 rl2 r2 => ?_⟩
    exact ⟨g2, x, ds, st2, d, st', rl2, r1.up x2, r2, e, fun g3 H3 v3 x3 rl3 r3 => k g3 H3 v3 (x1.trans (x2.trans x3)) rl3 r3⟩
  · cases e
theorem s_bm0 {o : Expr} {name : Str} {mo : EM} {ok : D → Sto → Bool} {m : D → List D → Sto → Option (D × Sto)} (pa : PlainAttrs T) (slot : Slot T name id) (hty : typeOf (.builtin id) = pure (.type "method_descriptor")) (hm : MtR X id (rM X.K C m)) (ho : SE X C o mo)
    (hok : ∀ {g : Gh} {H : Hp} {st : Sto} {d : D} {v : V}, Rl X.K C g H st → Rep X.K C g d v → ok d st = true → tyV X.K T v H)
    (hbase : attributeBase o name X.env (eval o X.env) = eval o X.env := by rfl) (hline : (apos.endLine == cpos.line) = true := by rfl) :
    SE X C (.Call (.Attribute o name apos) [] [] cpos) (mM ok m mo aNil) := by
  refine PE.weak (pe_bm0 pa slot hty hm ho hbase hline) fun σ H Q h => ?_
  obtain ⟨g, σd, st, d, st', rl, rs, e, k⟩ := h
  obtain ⟨⟨x, st1⟩, e1, e⟩ := bind_some e
  split at e
  · rename_i hk
    obtain ⟨⟨ds, st2⟩, e2, e⟩ := bind_some e
    cases e2
    refine ⟨g, σd, st, x, _, rl, rs, e1, fun g1 H1 v1 x1 rl1 r1 => ⟨hok rl1 r1 hk, ?_⟩⟩
    exact ⟨g1, x, [], _, d, st', rl1, r1, rfl, e, fun g3 H3 v3 x3 rl3 r3 => k g3 H3 v3 (x1.trans x3) rl3 r3⟩
  · cases e
def oApp (o : D) (ds : List D) (st : Sto) : Option (D × Sto) := match o with
  | .ref i => match st[i]? with
    | some (.lst xs) => match ds with
      | [d] => if xs.length < sizeLine then some (.non, st.set i (.lst (xs ++ [d]))) else none
      | _ => none
    | _ => none
  | _ => none
theorem mApp : MtR X "list.append" (rM X.K C oApp) := by
  intro pins s σ H x vs v us Q I rx rv h
  obtain ⟨g, dx, ds, st, d, st', rl, r1, r2, e, k⟩ := h
  cases dx with
  | ref i =>
    obtain ⟨a, h1, rfl⟩ := r1
    simp only [oApp] at e
    split at e
    · rename_i xs e2
      split at e
      · rename_i d1
        split at e
        · rename_i hz
          cases e
          obtain ⟨w, rfl, r3⟩ := r2.one
          obtain ⟨k1, ys, k2, k3⟩ := rl.obj i _ a e2 h1
          exact mt_append pins s σ H _ _ v us Q I rx rv ⟨a, ys, w, rfl, rfl, k2, by rw [← k3.length]; exact hz, k g _ _ (GExt.refl g) (rl.put e2 (fun z => nomatch z) h1 ⟨k1, _, upd_same, k3.append (.cons r3 .nil)⟩) rfl⟩
        · cases e
      · cases e
    · cases e
  | _ => cases e
def oExt (o : D) (ds : List D) (st : Sto) : Option (D × Sto) := match o with
  | .ref i => match st[i]? with
    | some (.lst xs) => match ds with
      | [d] => (pL d st).bind fun ys => if xs.length + ys.length ≤ sizeLine then some (.non, st.set i (.lst (xs ++ ys))) else none
      | _ => none
    | _ => none
  | _ => none
theorem mExt : MtR X "list.extend" (rM X.K C oExt) := by
  intro pins s σ H x vs v us Q I rx rv h
  obtain ⟨g, dx, ds, st, d, st', rl, r1, r2, e, k⟩ := h
  cases dx with
  | ref i =>
    obtain ⟨a, h1, rfl⟩ := r1
    simp only [oExt] at e
    split at e
    · rename_i xs e2
      split at e
      · rename_i d1
        obtain ⟨ys, e3, e⟩ := bind_some e
        split at e
        · rename_i hz
          cases e
          obtain ⟨w, rfl, r3⟩ := r2.one
          obtain ⟨b, ws, rfl, h3, h4⟩ := pL_of rl r3 e3
          obtain ⟨k1, zs, k2, k3⟩ := rl.obj i _ a e2 h1
          exact mt_extend pins s σ H _ _ v us Q I rx rv ⟨a, b, zs, ws, rfl, rfl, k2, h3, by rw [← k3.length, ← h4.length]; exact hz, k g _ _ (GExt.refl g) (rl.put e2 (fun z => nomatch z) h1 ⟨k1, _, upd_same, k3.append h4⟩) rfl⟩
        · cases e
      · cases e
    · cases e
  | _ => cases e
def oPop (o : D) (ds : List D) (st : Sto) : Option (D × Sto) := match o with
  | .ref i => match st[i]? with
    | some (.lst xs) => match ds with
      | [] => (xs[xs.length - 1]?).bind fun d => some (d, st.set i (.lst xs.dropLast))
      | _ => none
    | _ => none
  | _ => none
theorem mPop : MtR X "list.pop" (rM X.K C oPop) := by
  intro pins s σ H x vs v us Q I rx rv h
  obtain ⟨g, dx, ds, st, d, st', rl, r1, r2, e, k⟩ := h
  cases dx with
  | ref i =>
    obtain ⟨a, h1, rfl⟩ := r1
    simp only [oPop] at e
    split at e
    · rename_i xs e2
      split at e
      · obtain ⟨y, e3, e⟩ := bind_some e
        cases e
        cases (show vs = [] from r2)
        obtain ⟨k1, zs, k2, k3⟩ := rl.obj i _ a e2 h1
        obtain ⟨w, hw, rw'⟩ := k3.get e3
        exact mt_pop pins s σ H _ _ v us Q I rx rv ⟨a, zs, w, rfl, rfl, k2, by rw [← k3.length]; exact hw, k g _ _ (GExt.refl g) (rl.put e2 (fun z => nomatch z) h1 ⟨k1, _, upd_same, k3.dropLast⟩) rw'⟩
      · cases e
    · cases e
  | _ => cases e
end
end Z

end
section
set_option Elab.async false
set_option linter.all false
set_option maxRecDepth 100000
set_option autoImplicit false
namespace Z
open PySem PySem.Spec L2

/-! ### statements -/
inductive Fl where
  | nx | bk | ct | rt (d : D)
abbrev SM := Slo → Sto → Option (Fl × Slo × Sto)
def EndK (K : PySem.W.Frag) (C : Nat → Addr) (E : Ends) (fl : Fl) (σd : Slo) (g : Gh) (H : Hp) : Prop := match fl with
  | .nx => ∀ σ, RlS K C g σ σd → E.nx σ H
  | .bk => ∀ σ, RlS K C g σ σd → E.bk σ H
  | .ct => ∀ σ, RlS K C g σ σd → E.ct σ H
  | .rt d => ∀ v, Rep K C g d v → E.rt v H
def tS (K : PySem.W.Frag) (C : Nat → Addr) (m : SM) : TS := fun E σ H => ∃ g σd st fl σd' st', Rl K C g H st ∧ RlS K C g σ σd ∧ m σd st = some (fl, σd', st') ∧
  ∀ g' H', GExt g g' → Rl K C g' H' st' → EndK K C E fl σd' g' H'
abbrev SS (X : Cx) (C : Nat → Addr) (st : Stmt) (m : SM) : Prop := PS X st (tS X.K C m)
abbrev SB (X : Cx) (C : Nat → Addr) (st : List Stmt) (m : SM) : Prop := PSs X st (tS X.K C m)
def mNil : SM := fun σ st => some (.nx, σ, st)
def mSeq (a b : SM) : SM := fun σ st => (a σ st).bind fun r => match r.1 with
  | .nx => b r.2.1 r.2.2
  | fl => some (fl, r.2)
def mBrk : SM := fun σ st => some (.bk, σ, st)
def mCon : SM := fun σ st => some (.ct, σ, st)
def mEx (e : EM) : SM := fun σ st => (e σ st).bind fun p => some (.nx, σ, p.2)
def mRet (e : EM) : SM := fun σ st => (e σ st).bind fun p => some (.rt p.1, σ, p.2)
def mRetN : SM := fun σ st => some (.rt .non, σ, st)
def mIfS (c : Ev Bool) (a b : SM) : SM := fun σ st => (c σ st).bind fun p => if p.1 = true then a σ p.2 else b σ p.2
def mSet (i : Nat) (e : EM) : SM := fun σ st => (e σ st).bind fun p => some (.nx, σ.set i (some p.1), p.2)
section
variable {X : Cx} {C : Nat → Addr} {st : Stmt} {rest : List Stmt} {ma mb : SM} {e : Expr} {me : EM} {pos pos' : Pos}
theorem b_nil : SB X C [] mNil := PSs.weak pss_nil fun E σ H h => by
  obtain ⟨g, σd, st, fl, σd', st', rl, rs, e, k⟩ := h
  cases e
  exact k g H (GExt.refl g) rl σ rs
theorem b_cons (h1 : SS X C st ma) (h2 : SB X C rest mb) : SB X C (st :: rest) (mSeq ma mb) := PSs.weak (pss_cons h1 h2) fun E σ H h => by
  obtain ⟨g, σd, st, fl, σd', st', rl, rs, e, k⟩ := h
  obtain ⟨⟨f1, σ1, st1⟩, e1, e⟩ := bind_some e
  refine ⟨g, σd, st, f1, σ1, st1, rl, rs, e1, fun g1 H1 x1 rl1 => ?_⟩
  cases f1 with
  | nx => exact fun σ' rs' => ⟨g1, σ1, st1, fl, σd', st', rl1, rs', e, fun g2 H2 x2 rl2 => k g2 H2 (x1.trans x2) rl2⟩
  | bk => cases e; exact k g1 H1 x1 rl1
  | ct => cases e; exact k g1 H1 x1 rl1
  | rt d => cases e; exact k g1 H1 x1 rl1
theorem b_one (h1 : SS X C st ma) : SB X C [st] ma := pss_one h1
theorem st_pass : SS X C (.Pass pos) mNil := PS.weak ps_pass fun E σ H h => by
  obtain ⟨g, σd, st, fl, σd', st', rl, rs, e, k⟩ := h
  cases e
  exact k g H (GExt.refl g) rl σ rs
theorem st_brk : SS X C (.Break pos) mBrk := PS.weak ps_break fun E σ H h => by
  obtain ⟨g, σd, st, fl, σd', st', rl, rs, e, k⟩ := h
  cases e
  exact k g H (GExt.refl g) rl σ rs
theorem st_con : SS X C (.Continue pos) mCon := PS.weak ps_continue fun E σ H h => by
  obtain ⟨g, σd, st, fl, σd', st', rl, rs, e, k⟩ := h
  cases e
  exact k g H (GExt.refl g) rl σ rs
theorem st_ex (he : SE X C e me) (hs : swapsWith e none pos.line X.env = pure false := by rfl) : SS X C (.Expr e pos) (mEx me) := PS.weak (ps_expr he hs) fun E σ H h => by
  obtain ⟨g, σd, st, fl, σd', st', rl, rs, e, k⟩ := h
  obtain ⟨⟨x, st1⟩, e1, e⟩ := bind_some e
  cases e
  exact ⟨g, σd, st, x, _, rl, rs, e1, fun g1 H1 v x1 rl1 r1 => k g1 H1 x1 rl1 σ (rs.mono x1)⟩
theorem st_ret (he : SE X C e me) : SS X C (.Return (some e) pos) (mRet me) := PS.weak (ps_ret he) fun E σ H h => by
  obtain ⟨g, σd, st, fl, σd', st', rl, rs, e, k⟩ := h
  obtain ⟨⟨x, st1⟩, e1, e⟩ := bind_some e
  cases e
  exact ⟨g, σd, st, x, _, rl, rs, e1, fun g1 H1 v x1 rl1 r1 => k g1 H1 x1 rl1 v r1⟩
theorem st_retN : SS X C (.Return none pos) mRetN := PS.weak ps_retN fun E σ H h => by
  obtain ⟨g, σd, st, fl, σd', st', rl, rs, e, k⟩ := h
  cases e
  exact k g H (GExt.refl g) rl .non rfl
theorem st_if {c : Expr} {a b : List Stmt} {mc : Ev Bool} (hc : ST X C c mc) (ha : SB X C a ma) (hb : SB X C b mb) : SS X C (.If c a b pos) (mIfS mc ma mb) := PS.weak (ps_if hc ha hb) fun E σ H h => by
  obtain ⟨g, σd, st, fl, σd', st', rl, rs, e, k⟩ := h
  obtain ⟨⟨x, st1⟩, e1, e⟩ := bind_some e
  refine ⟨g, σd, st, x, _, rl, rs, e1, fun g1 H1 x1 rl1 => ?_⟩
  cases x with
  | true => exact ⟨g1, σd, st1, fl, σd', st', rl1, rs.mono x1, e, fun g2 H2 x2 rl2 => k g2 H2 (x1.trans x2) rl2⟩
  | false => exact ⟨g1, σd, st1, fl, σd', st', rl1, rs.mono x1, e, fun g2 H2 x2 rl2 => k g2 H2 (x1.trans x2) rl2⟩
theorem set_of {K : PySem.W.Frag} {E : Ends} {σ : St} {H : Hp} {i : Nat} (h : tS K C (mSet i me) E σ H) : tAsg (tE K C me) (gName i) E σ H := by
  obtain ⟨g, σd, st, fl, σd', st', rl, rs, e, k⟩ := h
  obtain ⟨⟨x, st1⟩, e1, e⟩ := bind_some e
  cases e
  exact ⟨g, σd, st, x, _, rl, rs, e1, fun g1 H1 v x1 rl1 r1 => k g1 H1 x1 rl1 _ ((rs.mono x1).set r1)⟩
theorem st_set (i : Nat) {x : Str} (hN : X.N.Nodup) (he : SE X C e me) (hi : X.N[i]? = some x := by rfl) (hx : Loc X.env.scope x := by first | exact Or.inl rfl | exact Or.inr rfl) (hs : swapsWith e (some (.Name x pos')) pos.line X.env = pure false := by rfl) (hf : X.fn x = true ∨ X.env.scope.names.lookup x = some .local := by first | exact .inl rfl | exact .inr rfl | assumption) :
    SS X C (.Assign [.Name x pos'] e pos) (mSet i me) := PS.weak (ps_set hN hi hx he hs hf) fun _ _ _ h => set_of h

/-! targets -/
abbrev GM := D → Slo → Sto → Option (Slo × Sto)
/-- is: the slots that it stores -/
def tG (K : PySem.W.Frag) (C : Nat → Addr) (is : List Nat) (m : GM) : TG := fun v σ H Q => ∃ g d σd st σd' st', Rl K C g H st ∧ RlS K C g σ σd ∧ Rep K C g d v ∧ m d σd st = some (σd', st') ∧
  ∀ g' σ' H', GExt g g' → Rl K C g' H' st' → RlS K C g' σ' σd' → (∀ js, (∀ i ∈ is, i ∈ js) → wipe σ' js = wipe σ js) → Q σ' H'
def tGs (K : PySem.W.Frag) (C : Nat → Addr) (is : List Nat) (m : List D → Slo → Sto → Option (Slo × Sto)) : TGs := fun vs σ H Q => ∃ g ds σd st σd' st', Rl K C g H st ∧ RlS K C g σ σd ∧ Reps K C g ds vs ∧ m ds σd st = some (σd', st') ∧
  ∀ g' σ' H', GExt g g' → Rl K C g' H' st' → RlS K C g' σ' σd' → (∀ js, (∀ i ∈ is, i ∈ js) → wipe σ' js = wipe σ js) → Q σ' H'
abbrev SG (X : Cx) (C : Nat → Addr) (tg : Expr) (is : List Nat) (m : GM) : Prop := PG X tg (tG X.K C is m)
abbrev SGs (X : Cx) (C : Nat → Addr) (tgs : List Expr) (is : List Nat) (m : List D → Slo → Sto → Option (Slo × Sto)) : Prop := PGs X tgs (tGs X.K C is m)
theorem PG.weak {X : Cx} {e : Expr} {t t' : TG} (h : PG X e t) (w : ∀ v σ H Q, t' v σ H Q → t v σ H Q) : PG X e t' := ⟨fun pins s σ H v u Q I r q => h.run pins s σ H v u Q I r (w _ _ _ _ q)⟩
theorem PGs.weak {X : Cx} {e : List Expr} {t t' : TGs} (h : PGs X e t) (w : ∀ v σ H Q, t' v σ H Q → t v σ H Q) : PGs X e t' := ⟨fun pins s σ H v u Q I r q => h.run pins s σ H v u Q I r (w _ _ _ _ q)⟩
def gN (i : Nat) : GM := fun d σ st => some (σ.set i (some d), st)
def gsNil : List D → Slo → Sto → Option (Slo × Sto) := fun ds σ st => match ds with | [] => some (σ, st) | _ => none
def gsCons (a : GM) (r : List D → Slo → Sto → Option (Slo × Sto)) : List D → Slo → Sto → Option (Slo × Sto) := fun ds σ st => match ds with
  | d :: ds => (a d σ st).bind fun p => r ds p.1 p.2
  | _ => none
def gT (n : Nat) (r : List D → Slo → Sto → Option (Slo × Sto)) : GM := fun d σ st => match d with
  | .tup ds => if ds.length = n then r ds σ st else none
  | _ => none
theorem wipe_set {σ : St} {i : Nat} {v : Option V} : ∀ {js : List Nat}, i ∈ js → wipe (σ.set i v) js = wipe σ js
  | [], h => by cases h
  | j :: js, h => by
    show (wipe (σ.set i v) js).set j none = (wipe σ js).set j none
    by_cases hij : i ∈ js
    · rw [wipe_set hij]
    · have e : i = j := by
        rcases List.mem_cons.mp h with e | e
        · exact e
        · exact (hij e).elim
      subst e
      have key : ∀ js : List Nat, i ∉ js → wipe (σ.set i v) js = (wipe σ js).set i v := by
        intro js
        induction js with
        | nil => intro _; rfl
        | cons k ks ih =>
          intro hk
          show (wipe (σ.set i v) ks).set k none = ((wipe σ ks).set k none).set i v
          rw [ih (fun z => hk (List.mem_cons_of_mem _ z)), List.set_comm _ _ (fun e => hk (by subst e; exact List.mem_cons_self))]
      rw [key js hij, List.set_set]
theorem g_name (i : Nat) {x : Str} (hN : X.N.Nodup) (hi : X.N[i]? = some x := by rfl) (hx : Loc X.env.scope x := by first | exact Or.inl rfl | exact Or.inr rfl) (hf : X.fn x = true ∨ X.env.scope.names.lookup x = some .local := by first | exact .inl rfl | exact .inr rfl | assumption) : SG X C (.Name x pos) [i] (gN i) := by
  refine PG.weak (pg_name hN hi hx hf) fun v σ H Q h => ?_
  obtain ⟨g, d, σd, st, σd', st', rl, rs, r, e, k⟩ := h
  cases e
  exact k g _ H (GExt.refl g) rl (rs.set r) fun js h => wipe_set (h i (List.mem_cons_self))
theorem gs_nil : SGs X C [] [] gsNil := by
  refine PGs.weak pgs_nil fun vs σ H Q h => ?_
  obtain ⟨g, ds, σd, st, σd', st', rl, rs, r, e, k⟩ := h
  cases ds with
  | nil => cases e; exact ⟨r, k g σ H (GExt.refl g) rl rs fun _ _ => rfl⟩
  | cons d ds => cases e
theorem gs_cons {t : Expr} {ts : List Expr} {is js : List Nat} {ga : GM} {gr : List D → Slo → Sto → Option (Slo × Sto)} (h1 : SG X C t is ga) (h2 : SGs X C ts js gr)
    (hs : (assignEach (t :: ts) X.env).map (·.2) = assign t X.env :: (assignEach ts X.env).map (·.2) := by rfl) : SGs X C (t :: ts) (is ++ js) (gsCons ga gr) := by
  refine PGs.weak (pgs_cons h1 h2 hs) fun vs σ H Q h => ?_
  obtain ⟨g, ds, σd, st, σd', st', rl, rs, r, e, k⟩ := h
  cases ds with
  | nil => cases e
  | cons d ds =>
    obtain ⟨v, ws, rfl, r1, r2⟩ := r
    obtain ⟨⟨σ1, st1⟩, e1, e⟩ := bind_some e
    refine ⟨v, ws, rfl, g, d, σd, st, σ1, st1, rl, rs, r1, e1, fun g1 σ' H1 x1 rl1 rs1 hw => ?_⟩
    refine ⟨g1, ds, σ1, st1, σd', st', rl1, rs1, r2.up x1, e, fun g2 σ2 H2 x2 rl2 rs2 hw2 => ?_⟩
    exact k g2 σ2 H2 (x1.trans x2) rl2 rs2 fun ks hk => (hw2 ks fun i hi => hk i (List.mem_append_right _ hi)).trans (hw ks fun i hi => hk i (List.mem_append_left _ hi))
theorem g_tup {ts : List Expr} {q n : Nat} {is : List Nat} {gr : List D → Slo → Sto → Option (Slo × Sto)} (hc : X.calm = true) (h : SGs X C ts is gr)
    (hn : (assignEach ts X.env).length = n := by rfl) (hst : (assignEach ts X.env).findIdx? (·.1) = none := by rfl) : SG X C (.Tuple ts q pos) is (gT n gr) := by
  refine PG.weak (pg_tup hc h hn hst) fun v σ H Q h => ?_
  obtain ⟨g, d, σd, st, σd', st', rl, rs, r, e, k⟩ := h
  cases d with
  | tup ds =>
    have e : (if ds.length = n then gr ds σd st else none) = some (σd', st') := e
    split at e
    · rename_i hl
      obtain ⟨a, xs, rfl, h1, h2⟩ := r
      exact ⟨a, xs, rfl, sqTMono rl.sub h1, h2.length.symm.trans hl, g, ds, σd, st, σd', st', rl, rs, h2, e, k⟩
    · cases e
  | _ => cases e
def mAsg (e : EM) (g : GM) : SM := fun σ st => (e σ st).bind fun p => (g p.1 σ p.2).bind fun q => some (.nx, q.1, q.2)
theorem st_asg {tg : Expr} {is : List Nat} {gm : GM} (he : SE X C e me) (hg : SG X C tg is gm) (hs : swapsWithSole [tg] e pos.line X.env = pure false := by rfl) (hw : swappedStores [tg] e X.env = pure none := by rfl)
    (h1 : (assignEach [tg] X.env).map (·.2) = [assign tg X.env] := by rfl) : SS X C (.Assign [tg] e pos) (mAsg me gm) := PS.weak (ps_asg he hg hs hw h1) fun E σ H h => by
  obtain ⟨g, σd, st, fl, σd', st', rl, rs, e, k⟩ := h
  obtain ⟨⟨x, st1⟩, e1, e⟩ := bind_some e
  obtain ⟨⟨σ2, st2⟩, e2, e⟩ := bind_some e
  cases e
  refine ⟨g, σd, st, x, _, rl, rs, e1, fun g1 H1 v x1 rl1 r1 => ?_⟩
  exact ⟨g1, x, σd, st1, _, _, rl1, rs.mono x1, r1, e2, fun g2 σ' H2 x2 rl2 rs2 _ => k g2 H2 (x1.trans x2) rl2 σ' rs2⟩
/-- a, b = x, y -/
def mPar (i j : Nat) (a : Ev (List D)) : SM := fun σ st => (a σ st).bind fun p => match p.1 with
  | [x, y] => some (.nx, (σ.set i (some x)).set j (some y), p.2)
  | _ => none
theorem st_par (i j : Nat) {x y : Str} {a b : Expr} {mab : Ev (List D)} {px py pt : Pos} {kt k2 : Nat} {pt2 : Pos} (hc : X.calm = true) (hN : X.N.Nodup) (ha : SA X C [a, b] mab) (hi : X.N[i]? = some x := by rfl) (hj : X.N[j]? = some y := by rfl) (hij : i ≠ j := by decide)
    (hx : X.env.scope.names.lookup x = some .local := by rfl) (hy : X.env.scope.names.lookup y = some .local := by rfl)
    (hw : swappedStores [.Tuple [.Name x px, .Name y py] kt pt] (.Tuple [a, b] k2 pt2) X.env = pure (some [x, y]) := by rfl)
    (hs : swapsWithSole [.Tuple [.Name x px, .Name y py] kt pt] (.Tuple [a, b] k2 pt2) pos.line X.env = pure false := by rfl) :
    SS X C (.Assign [.Tuple [.Name x px, .Name y py] kt pt] (.Tuple [a, b] k2 pt2) pos) (mPar i j mab) := PS.weak (ps_par hc hN hi hj hij hx hy ha hw hs) fun E σ H h => by
  obtain ⟨g, σd, st, fl, σd', st', rl, rs, e, k⟩ := h
  obtain ⟨⟨ds, st1⟩, e1, e⟩ := bind_some e
  refine ⟨g, σd, st, ds, _, rl, rs, e1, fun g1 H1 vs x1 rl1 r1 => ?_⟩
  match ds, e with
  | [x, y], e =>
    cases e
    obtain ⟨v, w, rfl, r2, r3⟩ := r1.two
    exact ⟨v, w, rfl, k g1 H1 x1 rl1 _ (((rs.mono x1).set r2).set r3)⟩

/-! o[i] = v -/
def oPut (o i v : D) (st : Sto) : Option Sto := match o with
  | .ref r => match st[r]? with
    | some (.lst xs) => match i with
      | .int k => (ixN xs.length k).bind fun j => some (st.set r (.lst (xs.set j v)))
      | _ => none
    | some (.dic ks vs) => (keyD i).bind fun k => if ks.length < sizeLine then some (st.set r (.dic (putKs ks k) (putV ks vs k v))) else none
    | _ => none
  | _ => none
def gPut (o i : EM) : GM := fun d σ st => (o σ st).bind fun p => (i σ p.2).bind fun q => (oPut p.1 q.1 d q.2).bind fun s => some (σ, s)
theorem putKs_of {kvs : List (Key × V)} {k : Key} {v : V} : (putK kvs k v).map (·.1) = putKs (kvs.map (·.1)) k := by
  unfold putK putKs
  have e : (kvs.any fun kv => decide (kv.1 = k)) = ((kvs.map (·.1)).any fun q => decide (q = k)) := by
    rw [List.any_map]; rfl
  rw [e]
  split
  · rw [List.map_map]
    refine List.map_congr_left fun p _ => ?_
    show (if p.1 = k then (p.1, v) else p).1 = p.1
    split <;> rfl
  · rw [List.map_append]; rfl
theorem putV_of {K : PySem.W.Frag} {g : Gh} {k : Key} {v : V} {d : D} (r : Rep K C g d v) : ∀ {kvs : List (Key × V)} {vs : List D}, Reps K C g vs (kvs.map (·.2)) → Reps K C g (putVs (kvs.map (·.1)) vs k d) ((kvs.map fun kv => if kv.1 = k then (kv.1, v) else kv).map (·.2))
  | [], vs, h => by cases vs <;> first | exact rfl | (obtain ⟨x, xs, e, _⟩ := h; cases e)
  | p :: rs, vs, h => by
    cases vs with
    | nil => cases (show (p :: rs).map (·.2) = [] from h)
    | cons w ws =>
      obtain ⟨x, xs, ex, h1, h2⟩ := h
      have ex : p.2 :: rs.map (·.2) = x :: xs := ex
      cases ex
      show Reps K C g (if p.1 = k then d :: putVs (rs.map (·.1)) ws k d else w :: putVs (rs.map (·.1)) ws k d) ((if p.1 = k then (p.1, v) else p).2 :: (rs.map fun kv => if kv.1 = k then (kv.1, v) else kv).map (·.2))
      by_cases hk : p.1 = k
      · rw [if_pos hk, if_pos hk]; exact .cons r (putV_of r h2)
      · rw [if_neg hk, if_neg hk]; exact .cons h1 (putV_of r h2)
theorem putV_ok {K : PySem.W.Frag} {g : Gh} {k : Key} {v : V} {d : D} {kvs : List (Key × V)} {vs : List D} (r : Rep K C g d v) (h : Reps K C g vs (kvs.map (·.2))) : Reps K C g (putV (kvs.map (·.1)) vs k d) ((putK kvs k v).map (·.2)) := by
  unfold putK putV
  have e : (kvs.any fun kv => decide (kv.1 = k)) = ((kvs.map (·.1)).any fun q => decide (q = k)) := by
    rw [List.any_map]; rfl
  rw [e]
  split
  · exact putV_of r h
  · rw [List.map_append]
    exact h.append (.cons r rfl)
def rPut (K : PySem.W.Frag) (C : Nat → Addr) : TSet := fun o i v H Q => ∃ g od id vd st st', Rl K C g H st ∧ Rep K C g od o ∧ Rep K C g id i ∧ Rep K C g vd v ∧ oPut od id vd st = some st' ∧ ∀ g' H', GExt g g' → Rl K C g' H' st' → Q H'
theorem put_ok (hu : X.A.units + 1 < cLine) : PSet X (rPut X.K C) := by
  intro pins s σ H o i v ov iv u Q I ro ri rv h
  obtain ⟨g, od, id, vd, st, st', rl, r1, r2, r3, e, k⟩ := h
  cases od with
  | ref r =>
    obtain ⟨a, h1, rfl⟩ := r1
    simp only [oPut] at e
    split at e
    · rename_i xs e2
      cases id with
      | int z =>
        obtain ⟨j, e3, e⟩ := bind_some e
        cases e
        obtain ⟨k1, ys, k2, k3⟩ := rl.obj r _ a e2 h1
        exact set_list pins s σ H _ i v ov iv u Q I ro ri rv ⟨a, ys, z, j, rfl, r2, k2, by rw [← k3.length]; exact e3, k g _ (GExt.refl g) (rl.put e2 (fun z => nomatch z) h1 ⟨k1, _, upd_same, k3.set j r3⟩)⟩
      | _ => cases e
    · rename_i ks vs e2
      obtain ⟨q, e3, e⟩ := bind_some e
      split at e
      · rename_i hz
        cases e
        obtain ⟨k1, kvs, k2, k3, k4⟩ := rl.obj r _ a e2 h1
        have ei := keyD_of r2 e3
        subst ei
        subst k3
        exact set_dict hu pins s σ H _ _ v ov iv u Q I ro ri rv ⟨a, _, rfl, DPut.k k2 (by rw [List.length_map] at hz; exact hz), k g _ (GExt.refl g) (rl.put e2 (fun z => nomatch z) h1 ⟨k1, _, upd_same, putKs_of, putV_ok r3 k4⟩)⟩
      · cases e
    · cases e
  | _ => cases e
theorem g_put {o i : Expr} {mo mi : EM} (hu : X.A.units + 1 < cLine) (ho : SE X C o mo) (hi : SE X C i mi)
    (ha : ∀ v, assign (.Subscript o i pos) X.env v = (do
      let ov ← holding [v] (eval o X.env)
      let iv ← holding [v, ov] (eval i X.env)
      standAt pos
      holding [v, ov, iv] (setItem ov iv v)
      release [v, ov, iv] []) := by intro _; rfl) : SG X C (.Subscript o i pos) [] (gPut mo mi) := by
  refine PG.weak (pg_sub ho hi (put_ok (C := C) hu) ha) fun v σ H Q h => ?_
  obtain ⟨g, d, σd, st, σd', st', rl, rs, r, e, k⟩ := h
  obtain ⟨⟨x, st1⟩, e1, e⟩ := bind_some e
  obtain ⟨⟨y, st2⟩, e2, e⟩ := bind_some e
  obtain ⟨st3, e3, e⟩ := bind_some e
  cases e
  refine ⟨g, σd, st, x, st1, rl, rs, e1, fun g1 H1 v1 x1 rl1 r1 => ?_⟩
  refine ⟨g1, σd, st1, y, st2, rl1, rs.mono x1, e2, fun g2 H2 v2 x2 rl2 r2 => ?_⟩
  exact ⟨g2, x, y, d, st2, _, rl2, r1.up x2, r2, r.up (x1.trans x2), e3, fun g3 H3 x3 rl3 => k g3 σ H3 (x1.trans (x2.trans x3)) rl3 (rs.mono (x1.trans (x2.trans x3))) fun _ _ => rfl⟩

/-! ### while -/
def mWh (c : Ev Bool) (b : SM) : Nat → SM
  | 0 => fun _ _ => none
  | n + 1 => fun σ st => (c σ st).bind fun p => if p.1 = true then (b σ p.2).bind fun r => match r.1 with
      | .nx => mWh c b n r.2.1 r.2.2
      | .ct => mWh c b n r.2.1 r.2.2
      | .bk => some (.nx, r.2)
      | .rt d => some (.rt d, r.2)
    else some (.nx, σ, p.2)
theorem st_wh (n : Nat) {c : Expr} {body : List Stmt} {mc : Ev Bool} (hp : PassesOwn (model X.prog X.w) X.A X.env X.xe) (hc : ST X C c mc) (hb : SB X C body mb) : SS X C (.While c body [] pos) (mWh mc mb n) := PS.weak (ps_while hp hc hb) fun E σ H h => by
  refine ⟨fun m σ H => tS X.K C (mWh mc mb m) E σ H, ⟨n, h⟩, fun m σ H h => ?_⟩
  obtain ⟨g, σd, st, fl, σd', st', rl, rs, e, k⟩ := h
  cases m with
  | zero => cases e
  | succ m =>
    obtain ⟨⟨x, st1⟩, e1, e⟩ := bind_some e
    refine ⟨g, σd, st, x, _, rl, rs, e1, fun g1 H1 x1 rl1 => ?_⟩
    cases x with
    | true =>
      obtain ⟨⟨f2, σ2, st2⟩, e2, e⟩ := bind_some (show (mb σd st1).bind _ = some (fl, σd', st') from e)
      refine ⟨fun σ' H' => tS X.K C (mWh mc mb m) E σ' H', fun σ' H' q => ⟨m, Nat.lt_succ_self m, q⟩, ?_⟩
      refine ⟨g1, σd, st1, f2, σ2, st2, rl1, rs.mono x1, e2, fun g2 H2 x2 rl2 => ?_⟩
      cases f2 with
      | nx => exact fun σ' rs' => ⟨g2, σ2, st2, fl, σd', st', rl2, rs', e, fun g3 H3 x3 rl3 => k g3 H3 (x1.trans (x2.trans x3)) rl3⟩
      | ct => exact fun σ' rs' => ⟨g2, σ2, st2, fl, σd', st', rl2, rs', e, fun g3 H3 x3 rl3 => k g3 H3 (x1.trans (x2.trans x3)) rl3⟩
      | bk => cases e; exact fun σ' rs' => k g2 H2 (x1.trans x2) rl2 σ' rs'
      | rt d => cases e; exact k g2 H2 (x1.trans x2) rl2
    | false => cases e; exact k g1 H1 x1 rl1 σ (rs.mono x1)

/-! ### what is walked -/
def ItOk (K : PySem.W.Frag) (C : Nat → Addr) (J : It) (ds : List D) (g : Gh) : Prop := ∀ (i : Nat) (g' : Gh) (H : Hp) (st : Sto), GLe g g' → Rl K C g' H st →
  (∀ d, ds[i]? = some d → J.go i H ∧ ∀ x H', J.yld i H x H' → ∃ g2, GExt g' g2 ∧ Rl K C g2 H' st ∧ Rep K C g2 d x) ∧ (ds.length ≤ i → J.stop i H)
def tI (K : PySem.W.Frag) (C : Nat → Addr) (m : Ev (List D)) : TI := fun σ H R => ∃ g σd st ds st', Rl K C g H st ∧ RlS K C g σ σd ∧ m σd st = some (ds, st') ∧
  ∀ g' H' J, GExt g g' → Rl K C g' H' st' → ItOk K C J ds g' → R J H'
abbrev SI (X : Cx) (C : Nat → Addr) (tg it : Expr) (m : Ev (List D)) : Prop := PI X tg it (tI X.K C m)
theorem PI.weak {X : Cx} {tg e : Expr} {t t' : TI} (h : PI X tg e t) (w : ∀ σ H Q, t' σ H Q → t σ H Q) : PI X tg e t' := ⟨fun pins s σ H Q I q => h.run pins s σ H Q I (w _ _ _ q)⟩
/-- a frozen list -/
def iLst (a : EM) : Ev (List D) := fun σ st => (a σ st).bind fun p => match p.1 with
  | .lst ds => some (ds, p.2)
  | .sq ds => some (ds, p.2)
  | _ => none
def iTp (a : EM) : Ev (List D) := fun σ st => (a σ st).bind fun p => match p.1 with
  | .tup ds => some (ds, p.2)
  | _ => none
theorem sqL_inj {K : PySem.W.Frag} {H : Hp} {a : Addr} {xs ys : List V} (hi : ∀ o u, H a ≠ some (.frz o u) ∨ True) (h : H a = some (.lst xs)) (h' : Rd H a (.lst ys)) : xs = ys := by
  rcases h' with h' | ⟨o, h'⟩
  · rw [h] at h'; cases h'; rfl
  · rw [h] at h'; cases h'
variable {tg it : Expr}
theorem si_tup (h : SE X C it me) : SI X C tg it (iTp me) := PI.weak (pi_tup h) fun σ H R q => by
  obtain ⟨g, σd, st, ds, st', rl, rs, e, k⟩ := q
  obtain ⟨⟨x, st1⟩, e1, e⟩ := bind_some e
  refine ⟨g, σd, st, x, st1, rl, rs, e1, fun g1 H1 v x1 rl1 r1 => ?_⟩
  cases x with
  | tup es =>
    cases e
    obtain ⟨a, xs, rfl, h1, h2⟩ := r1
    refine ⟨a, rfl, ⟨xs, sqTMono rl1.sub h1⟩, k g1 H1 _ x1 rl1 fun i g' H' st' x' rl' => ⟨fun d hd => ?_, fun hl => ?_⟩⟩
    · obtain ⟨v, hv, rv⟩ := (h2.upL x').get hd
      have hs := sqTMono rl'.sub (sqTMono x'.F h1)
      exact ⟨⟨xs, v, hs, hv⟩, fun y H2 ⟨e, hy⟩ => by
        subst e
        have := hy xs hs
        rw [hv] at this
        cases this
        exact ⟨g', GExt.refl g', rl', rv⟩⟩
    · exact ⟨xs, sqTMono rl'.sub (sqTMono x'.F h1), by rw [← h2.length]; exact hl⟩
  | _ => cases e
theorem si_lst (h : SE X C it me) : SI X C tg it (iLst me) := PI.weak (pi_list h) fun σ H R q => by
  obtain ⟨g, σd, st, ds, st', rl, rs, e, k⟩ := q
  obtain ⟨⟨x, st1⟩, e1, e⟩ := bind_some e
  refine ⟨g, σd, st, x, st1, rl, rs, e1, fun g1 H1 v x1 rl1 r1 => ?_⟩
  have main : ∀ {a : Addr} {xs : List V}, SqL X.K g1.F a xs → Reps X.K C g1 ds xs → ItOk X.K C (Itl X.K a) ds g1 := fun {a xs} h1 h2 i g' H' st' x' rl' => by
    have hs := sqLMono rl'.sub (sqLMono x'.F h1)
    refine ⟨fun d hd => ?_, fun hl => ⟨xs, hs, by rw [← h2.length]; exact hl⟩⟩
    obtain ⟨v, hv, rv⟩ := (h2.upL x').get hd
    exact ⟨⟨xs, v, hs, hv⟩, fun y H2 ⟨e, hy⟩ => by
      subst e
      have := hy xs hs
      rw [hv] at this
      cases this
      exact ⟨g', GExt.refl g', rl', rv⟩⟩
  cases x with
  | lst es =>
    cases e
    obtain ⟨a, xs, rfl, h1, h2⟩ := r1
    have h1 : SqL X.K g1.F a xs := .inl (.inl h1)
    exact ⟨a, rfl, ⟨xs, sqLMono rl1.sub h1⟩, k g1 H1 _ x1 rl1 (main h1 h2)⟩
  | sq es =>
    cases e
    obtain ⟨a, xs, rfl, h1, h2⟩ := r1
    exact ⟨a, rfl, ⟨xs, sqLMono rl1.sub h1⟩, k g1 H1 _ x1 rl1 (main h1 h2)⟩
  | _ => cases e
def rngD (lo : Int) (n : Nat) : List D := (List.range n).map fun (i : Nat) => D.int (lo + (i : Int))
theorem it_range (K : PySem.W.Frag) (lo : Int) (n : Nat) (g : Gh) : ItOk K C (Itr lo n) (rngD lo n) g := fun i g' H' st' x' rl' => by
  refine ⟨fun d hd => ?_, fun hl => ?_⟩
  · unfold rngD at hd
    rw [List.getElem?_map] at hd
    have hi : i < n := by
      by_cases hi : i < n
      · exact hi
      · rw [List.getElem?_eq_none (by simpa using hi)] at hd; cases hd
    rw [List.getElem?_range hi] at hd
    cases hd
    exact ⟨hi, fun y H2 ⟨e1, e2⟩ => by subst e1; exact ⟨g', GExt.refl g', rl', e2⟩⟩
  · show n ≤ i
    unfold rngD at hl
    simpa using hl
def iRg1 (a : Ev (List D)) : Ev (List D) := fun σ st => (a σ st).bind fun p => match p.1 with
  | [.int j] => if (decide (-(2 ^ 62) ≤ j) && decide (j < 2 ^ 62)) = true then some (rngD 0 j.toNat, p.2) else none
  | _ => none
theorem si_range1 {a : Expr} {p : Pos} {mas : Ev (List D)} (hg : Gl X "range") (hm : X.mg "range" = none) (ha : SA X C [a] mas) (hs : starEach [a] X.env = [(false, eval a X.env)] := by rfl) : SI X C tg (.Call (.Name "range" p) [a] [] pos) (iRg1 mas) :=
  PI.weak (pi_range1 hg hm ha hs) fun σ H R q => by
  obtain ⟨g, σd, st, ds, st', rl, rs, e, k⟩ := q
  obtain ⟨⟨es, st1⟩, e1, e⟩ := bind_some e
  refine ⟨g, σd, st, es, st1, rl, rs, e1, fun g1 H1 vs x1 rl1 r1 => ?_⟩
  match es, e with
  | [.int j], e =>
    have e : (if (decide (-(2 ^ 62) ≤ j) && decide (j < 2 ^ 62)) = true then some (rngD 0 j.toNat, st1) else none) = some (ds, st') := e
    split at e
    · rename_i hz
      simp only [Bool.and_eq_true, decide_eq_true_eq] at hz
      cases e
      obtain ⟨v, rfl, r2⟩ := r1.one
      exact ⟨j, by cases (show v = .int j from r2); rfl, hz.1, hz.2, k g1 H1 _ x1 rl1 (it_range _ 0 _ _)⟩
    · cases e
def stepD (lo c : Int) (n : Nat) : List D := (List.range n).map fun (i : Nat) => D.int (lo + (i : Int) * c)
/-- enumerate -/
def enumD (i : Nat) : List D → List D
  | [] => []
  | d :: ds => .tup [.int i, d] :: enumD (i + 1) ds
theorem enumD_get : ∀ (ds : List D) (i j : Nat), (enumD j ds)[i]? = (ds[i]?).map fun d => .tup [.int (j + i : Nat), d]
  | [], i, j => by simp [enumD]
  | d :: ds, 0, j => by simp [enumD]
  | d :: ds, i + 1, j => by
    simp only [enumD, List.getElem?_cons_succ]
    rw [enumD_get ds i (j + 1), show j + 1 + i = j + (i + 1) by omega]
theorem enumD_len : ∀ (ds : List D) (j : Nat), (enumD j ds).length = ds.length
  | [], _ => rfl
  | d :: ds, j => by simp [enumD, enumD_len ds]

/-! ### for -/
def mFor (g : GM) (b : SM) : List D → SM
  | [] => fun σ st => some (.nx, σ, st)
  | d :: ds => fun σ st => (g d σ st).bind fun q => (b q.1 q.2).bind fun r => match r.1 with
      | .nx => mFor g b ds r.2.1 r.2.2
      | .ct => mFor g b ds r.2.1 r.2.2
      | .bk => some (.nx, r.2)
      | .rt d => some (.rt d, r.2)
def mForS (it : Ev (List D)) (g : GM) (b : SM) : SM := fun σ st => (it σ st).bind fun p => mFor g b p.1 σ p.2
theorem st_for {body : List Stmt} {mi : Ev (List D)} {is : List Nat} {gm : GM} (hp : PassesOwn (model X.prog X.w) X.A X.env X.xe) (hc : X.calm = true) (hi : SI X C tg it mi) (hg : SG X C tg is gm) (hb : SB X C body mb)
    (hs : ∀ x, foldedSetIterable it X.env x = pure x := by intro _; rfl) : SS X C (.For tg it body [] pos) (mForS mi gm mb) := PS.weak (ps_for hp hc hi hg hb hs) fun E σ H h => by
  obtain ⟨g, σd, st, fl, σd', st', rl, rs, e, k⟩ := h
  obtain ⟨⟨ds, st1⟩, e1, e⟩ := bind_some e
  refine ⟨g, σd, st, ds, st1, rl, rs, e1, fun g1 H1 J x1 rl1 ok => ?_⟩
  refine ⟨fun i m σ H => m = ds.length - i ∧ ∃ g2 σ2 st2, GExt g1 g2 ∧ Rl X.K C g2 H st2 ∧ RlS X.K C g2 σ σ2 ∧ mFor gm mb (ds.drop i) σ2 st2 = some (fl, σd', st'), ⟨ds.length, rfl, g1, σd, st1, GExt.refl g1, rl1, rs.mono x1, e⟩, ?_⟩
  rintro i m σ3 H3 ⟨rfl, g2, σ2, st2, x2, rl2, rs2, e2⟩
  obtain ⟨go, stop⟩ := ok i g2 H3 st2 x2.le rl2
  cases hd : ds[i]? with
  | none =>
    have hl : ds.length ≤ i := List.getElem?_eq_none_iff.mp hd
    rw [List.drop_eq_nil_of_le hl] at e2
    cases e2
    exact .inl ⟨stop hl, k g2 H3 (x1.trans x2) rl2 σ3 rs2⟩
  | some d =>
    obtain ⟨hi, hd'⟩ := List.getElem?_eq_some_iff.mp hd
    rw [List.drop_eq_getElem_cons hi, hd'] at e2
    obtain ⟨go1, go2⟩ := go d hd
    obtain ⟨⟨σ4, st4⟩, e4, e2⟩ := bind_some e2
    obtain ⟨⟨f5, σ5, st5⟩, e5, e2⟩ := bind_some e2
    refine .inr ⟨go1, fun σ' H' => ∃ g2 σ2 st2, GExt g1 g2 ∧ Rl X.K C g2 H' st2 ∧ RlS X.K C g2 σ' σ2 ∧ mFor gm mb (ds.drop (i + 1)) σ2 st2 = some (fl, σd', st'),
      fun σ' H' q => ⟨ds.length - (i + 1), by omega, rfl, q⟩, fun x H4 hy => ?_⟩
    obtain ⟨g4, x4, rl4, r4⟩ := go2 x H4 hy
    refine ⟨g4, d, σ2, st2, σ4, st4, rl4, rs2.mono x4, r4, e4, fun g5 σ6 H5 x5 rl5 rs5 _ => ?_⟩
    refine ⟨g5, σ4, st4, f5, σ5, st5, rl5, rs5, e5, fun g6 H6 x6 rl6 => ?_⟩
    cases f5 with
    | nx => exact fun σ' rs' => ⟨g6, σ5, st5, x2.trans (x4.trans (x5.trans x6)), rl6, rs', e2⟩
    | ct => exact fun σ' rs' => ⟨g6, σ5, st5, x2.trans (x4.trans (x5.trans x6)), rl6, rs', e2⟩
    | bk => cases e2; exact fun σ' rs' => k g6 H6 (x1.trans (x2.trans (x4.trans (x5.trans x6)))) rl6 σ' rs'
    | rt d => cases e2; exact k g6 H6 (x1.trans (x2.trans (x4.trans (x5.trans x6)))) rl6
end
end Z

end
section
set_option Elab.async false
set_option linter.all false
set_option maxRecDepth 100000
set_option autoImplicit false
namespace Z
open PySem PySem.Spec L2

/-! ### list comprehensions -/
def wipeD (σ : Slo) : List Nat → Slo
  | [] => σ
  | v :: vs => (wipeD σ vs).set v none
theorem RlS.wipe {K : PySem.W.Frag} {C : Nat → Addr} {g : Gh} {σ : St} {σd : Slo} (h : RlS K C g σ σd) : ∀ vs : List Nat, RlS K C g (L2.wipe σ vs) (wipeD σd vs)
  | [] => h
  | v :: vs => by
    have ih := RlS.wipe h vs
    refine ⟨?_, fun i d q => ?_⟩
    · show ((wipeD σd vs).set v none).length = ((L2.wipe σ vs).set v none).length
      rw [List.length_set, List.length_set]; exact ih.1
    · have q : ((wipeD σd vs).set v none)[i]? = some (some d) := q
      have ne : v ≠ i := fun e => by
        subst e
        by_cases hv : v < (wipeD σd vs).length
        · rw [List.getElem?_set_self hv] at q; cases q
        · rw [List.getElem?_eq_none (by simpa using hv)] at q; cases q
      rw [List.getElem?_set_ne ne] at q
      obtain ⟨u, h1, h2⟩ := ih.2 i d q
      refine ⟨u, ?_, h2⟩
      show ((L2.wipe σ vs).set v none)[i]? = some (some u)
      rw [List.getElem?_set_ne ne]; exact h1
def mComp (g : GM) (c : Ev Bool) (e : EM) (σ : Slo) : List D → Sto → Option (List D × Sto)
  | [], st => some ([], st)
  | d :: ds, st => (g d σ st).bind fun q => (c q.1 q.2).bind fun b => if b.1 = true then (e q.1 b.2).bind fun y => (mComp g c e σ ds y.2).bind fun r => some (y.1 :: r.1, r.2)
    else mComp g c e σ ds b.2
def mLc (it : Ev (List D)) (g : GM) (c : Ev Bool) (e : EM) (vs : List Nat) : EM := fun σ st => (it σ st).bind fun p => (mComp g c e (wipeD σ vs) p.1 p.2).bind fun q => if q.1.length ≤ sizeLine then some (.lst q.1, q.2) else none
def bYes : Ev Bool := fun _ st => some (true, st)
theorem wipe_wipe (τ : St) (js : List Nat) : L2.wipe (L2.wipe τ js) js = L2.wipe τ js := by
  have comm : ∀ (ρ : St) (ks : List Nat) (j : Nat), L2.wipe (ρ.set j none) ks = (L2.wipe ρ ks).set j none := by
    intro ρ ks j
    induction ks with
    | nil => rfl
    | cons k ks ih =>
      show (L2.wipe (ρ.set j none) ks).set k none = ((L2.wipe ρ ks).set k none).set j none
      rw [ih]
      by_cases e : k = j
      · subst e; rfl
      · rw [List.set_comm _ _ (fun z => e z.symm)]
  induction js with
  | nil => rfl
  | cons j js ih =>
    show (L2.wipe ((L2.wipe τ js).set j none) js).set j none = (L2.wipe τ js).set j none
    rw [comm, ih, List.set_set]
/-- the list that is being built, beside the store -/
structure AccAt (K : PySem.W.Frag) (C : Nat → Addr) (g0 : Gh) (p : Addr) (H : Hp) (g : Gh) (st : Sto) (acc : List D) (accV : List V) : Prop where
  x : GExt g0 g
  rl : Rl K C g H st
  hD : H p = some (.lst accV)
  hF : g.F p = none
  hX : g.X p = none
  hY : ¬ g.Y p
  hL : ∀ j : Nat, g.m[j]? = some p → ¬ Live st j
  ra : Reps K C g acc accV
abbrev frG (g : Gh) (p : Addr) (accV : List V) : Gh := ⟨g.F, g.m, upd g.X p (.lst accV), g.Y⟩
section
variable {K : PySem.W.Frag} {C : Nat → Addr} {g0 g g4 : Gh} {p : Addr} {H H4 : Hp} {st st4 : Sto} {acc : List D} {accV : List V}
theorem AccAt.start (rl : Rl K C g H st) (hD : H p = none) : AccAt K C g p (upd H p (.lst [])) g st [] [] := by
  have hX : g.X p = none := by
    cases z : g.X p with
    | none => rfl
    | some o => rw [rl.fr _ _ z] at hD; cases hD
  refine ⟨GExt.refl g, rl.more hD, upd_same, rl.nothere hD, hX, fun y => rl.frY p y hX, fun j q l => ?_, rfl⟩
  · obtain ⟨o, q1, q2⟩ := l
    obtain ⟨z, z1, _⟩ := (rl.obj j o p q1 q).some q2
    rw [hD] at z1; cases z1
theorem AccAt.frame (A : AccAt K C g0 p H g st acc accV) : GLe g (frG g p accV) ∧ Rl K C (frG g p accV) H st := A.rl.frame (u0 := .lst accV) trivial A.hD A.hF A.hL
theorem AccAt.shape (x4 : GExt (frG g p accV) g4) : g4 = ⟨g4.F, g4.m, upd g.X p (.lst accV), g.Y⟩ := by
  obtain ⟨F, m, X, Y⟩ := g4
  have h1 : X = upd g.X p (.lst accV) := x4.X
  have h2 : Y = g.Y := x4.Y
  rw [h1, h2]
theorem AccAt.back (A : AccAt K C g0 p H g st acc accV) (x4 : GExt (frG g p accV) g4) : GLe g4 ⟨g4.F, g4.m, g.X, g.Y⟩ := ⟨fun _ _ q => q, fun _ _ q => q, fun a o y q => by
  have y1 : g.Y a := by have := x4.Y; rw [this] at y; exact y
  have q1 : upd g.X p (.lst accV) a = some o := by have := x4.X; rw [this] at q; exact q
  have ne : a ≠ p := fun e => by subst e; exact A.hY y1
  rw [upd_ne ne] at q1
  exact ⟨y1, q1⟩⟩
theorem AccAt.push (A : AccAt K C g0 p H g st acc accV) (x4 : GExt (frG g p accV) g4) (rl4 : Rl K C g4 H4 st4) {y : D} {v : V} (r4 : Rep K C g4 y v) :
    H4 p = some (.lst accV) ∧ GLe g4 ⟨g4.F, g4.m, g.X, g.Y⟩ ∧ AccAt K C g0 p (upd H4 p (.lst (accV ++ [v]))) ⟨g4.F, g4.m, g.X, g.Y⟩ st4 (acc ++ [y]) (accV ++ [v]) := by
  have hx := AccAt.shape x4
  rw [hx] at rl4
  obtain ⟨rl5, f1, f2, f3⟩ := Rl.unframe (u0 := .lst accV) (u1 := .lst (accV ++ [v])) trivial rl4 A.hX A.hY
  have x5 : GExt g ⟨g4.F, g4.m, g.X, g.Y⟩ := ⟨fun a o q => x4.F a o q, fun i a q => x4.m i a q, rfl, rfl⟩
  have l5 : GLe g4 ⟨g4.F, g4.m, g.X, g.Y⟩ := A.back x4
  exact ⟨f2, l5, A.x.trans x5, rl5, upd_same, f1, A.hX, A.hY, f3, (A.ra.up x5).append (.cons (r4.upL l5) rfl)⟩
theorem AccAt.keep (A : AccAt K C g0 p H g st acc accV) (x4 : GExt (frG g p accV) g4) (rl4 : Rl K C g4 H4 st4) : GLe g4 ⟨g4.F, g4.m, g.X, g.Y⟩ ∧ AccAt K C g0 p H4 ⟨g4.F, g4.m, g.X, g.Y⟩ st4 acc accV := by
  have hx := AccAt.shape x4
  rw [hx] at rl4
  obtain ⟨rl5, f1, f2, f3⟩ := Rl.unframe (u0 := .lst accV) (u1 := .lst accV) trivial rl4 A.hX A.hY
  have hH : upd H4 p (.lst accV) = H4 := by
    funext b
    by_cases hb : b = p
    · subst hb; rw [upd_same]; exact f2.symm
    · rw [upd_ne hb]
  rw [hH] at rl5
  have x5 : GExt g ⟨g4.F, g4.m, g.X, g.Y⟩ := ⟨fun a o q => x4.F a o q, fun i a q => x4.m i a q, rfl, rfl⟩
  exact ⟨A.back x4, A.x.trans x5, rl5, f2, f1, A.hX, A.hY, f3, A.ra.up x5⟩
/-- the turns of a comprehension over what J gives -/
theorem lc_turns {J : It} {ds ys : List D} {st1 st2 : Sto} {is : List Nat} {gm : GM} {mc : Ev Bool} {me : EM} {vs : List Nat} {g1 : Gh} {H1 : Hp} {σ : St} {σd : Slo} {Q : VK} (hv : ∀ i ∈ is, i ∈ vs) (rl1 : Rl K C g1 H1 st1) (ok : ItOk K C J ds g1) (rs : RlS K C g1 σ σd)
    (e2 : mComp gm mc me (wipeD σd vs) ds st1 = some (ys, st2)) (hz : ys.length ≤ sizeLine) (k : ∀ g' H' v, GExt g1 g' → Rl K C g' H' st2 → Rep K C g' (.lst ys) v → Q v H') :
    tLc (fun _ H R => R J H) (tG K C is gm) (tT K C mc) (tE K C me) vs σ H1 Q := fun p hD => by
  have rw1 := rs.wipe vs
  refine ⟨fun i m H => m = ds.length - i ∧ ∃ g2 st3 acc accV zs, AccAt K C g1 p H g2 st3 acc accV ∧ mComp gm mc me (wipeD σd vs) (ds.drop i) st3 = some (zs, st2) ∧ acc ++ zs = ys,
    ⟨ds.length, rfl, g1, st1, [], [], ys, AccAt.start rl1 hD, e2, rfl⟩, ?_⟩
  rintro i m H3 ⟨rfl, g2, st3, acc, accV, zs, A, e3, hys⟩
  obtain ⟨xf, rlf⟩ := A.frame
  obtain ⟨go, stop⟩ := ok i (frG g2 p accV) H3 st3 (A.x.le.trans xf) rlf
  cases hd : ds[i]? with
  | none =>
    have hl : ds.length ≤ i := List.getElem?_eq_none_iff.mp hd
    rw [List.drop_eq_nil_of_le hl] at e3
    cases e3
    rw [List.append_nil] at hys
    subst hys
    obtain ⟨x6, rl6⟩ := A.rl.freezeH (u0 := .lst accV) trivial A.hD A.hF A.hX A.hL
    exact .inl ⟨stop hl, k _ _ _ (A.x.trans x6) rl6 ⟨p, accV, rfl, upd_same, A.ra.up x6⟩⟩
  | some d =>
    obtain ⟨hi, hd'⟩ := List.getElem?_eq_some_iff.mp hd
    rw [List.drop_eq_getElem_cons hi, hd'] at e3
    obtain ⟨go1, go2⟩ := go d hd
    obtain ⟨⟨σ4, st4⟩, e4, e3⟩ := bind_some e3
    obtain ⟨⟨b, st5⟩, e5, e3⟩ := bind_some e3
    refine .inr ⟨go1, fun H' => ∃ g2 st3 acc accV zs, AccAt K C g1 p H' g2 st3 acc accV ∧ mComp gm mc me (wipeD σd vs) (ds.drop (i + 1)) st3 = some (zs, st2) ∧ acc ++ zs = ys, fun H' q => ⟨ds.length - (i + 1), by omega, rfl, q⟩, fun x H4 hy => ?_⟩
    obtain ⟨g4, x4, rl4, r4⟩ := go2 x H4 hy
    refine ⟨g4, d, _, st3, σ4, st4, rl4, (rw1.monoL (A.x.le.trans xf)).mono x4, r4, e4, fun g5 σ6 H5 x5 rl5 rs5 hw => ⟨?_, ?_⟩⟩
    · rw [hw vs hv, wipe_wipe]
    refine ⟨g5, σ4, st4, b, st5, rl5, rs5, e5, fun g6 H6 x6 rl6 => ?_⟩
    cases b with
    | false =>
      simp only [Bool.false_eq_true, if_false] at e3 ⊢
      exact ⟨_, _, _, _, _, (A.keep (x4.trans (x5.trans x6)) rl6).2, e3, hys⟩
    | true =>
      simp only [if_true] at e3 ⊢
      obtain ⟨⟨y, st7⟩, e7, e3⟩ := bind_some e3
      obtain ⟨⟨ws, st8⟩, e8, e3⟩ := bind_some e3
      obtain ⟨ew, es⟩ : y :: ws = zs ∧ st8 = st2 := by cases e3; exact ⟨rfl, rfl⟩
      subst ew es
      refine ⟨g6, σ4, st5, y, st7, rl6, rs5.mono x6, e7, fun g7 H7 v x7 rl7 r7 => ?_⟩
      obtain ⟨f1, _, f3⟩ := A.push (x4.trans (x5.trans (x6.trans x7))) rl7 r7
      refine ⟨accV, f1, ?_, _, _, _, _, ws, f3, e8, by rw [← hys]; simp⟩
      have hl := A.ra.length
      rw [← hys, List.length_append, List.length_cons] at hz
      omega
theorem lc_of {mi : Ev (List D)} {is : List Nat} {gm : GM} {mc : Ev Bool} {me : EM} {vs : List Nat} (hv : ∀ i ∈ is, i ∈ vs) {σ : St} {Q : VK} (h : tE K C (mLc mi gm mc me vs) σ H Q) :
    tLc (tI K C mi) (tG K C is gm) (tT K C mc) (tE K C me) vs σ H Q := by
  obtain ⟨g, σd, st, d, st', rl, rs, e, k⟩ := h
  obtain ⟨⟨ds, st1⟩, e1, e⟩ := bind_some e
  obtain ⟨⟨ys, st2⟩, e2, e⟩ := bind_some e
  split at e
  case isFalse => cases e
  rename_i hz
  cases e
  exact ⟨g, σd, st, ds, st1, rl, rs, e1, fun g1 H1 J x1 rl1 ok => lc_turns hv rl1 ok (rs.mono x1) e2 hz fun g' H' v x => k g' H' v (x1.trans x)⟩
end
section
variable {X : Cx} {C : Nat → Addr} {pos : Pos}
theorem pts_weak {X : Cx} {ifs : List Expr} {t t' : TT} (h : PTs X ifs t) (w : ∀ σ H Q, t' σ H Q → t σ H Q) : PTs X ifs t' := ⟨fun pins s σ H Q I q => h.run pins s σ H Q I (w _ _ _ q)⟩
abbrev SIf (X : Cx) (C : Nat → Addr) (ifs : List Expr) (m : Ev Bool) : Prop := PTs X ifs (tT X.K C m)
theorem if_no : SIf X C [] bYes := pts_weak pts_nil fun σ H Q h => by
  obtain ⟨g, σd, st, b, st', rl, rs, e, k⟩ := h
  cases e
  exact k g H (GExt.refl g) rl
theorem if_one {c : Expr} {mc : Ev Bool} (h : ST X C c mc) : SIf X C [c] mc := pts_one h
theorem s_lc {elt tg iter : Expr} {ifs : List Expr} {scope : Scope} {own : List (Str × Nat)} {mi : Ev (List D)} {is : List Nat} {gm : GM} {mc : Ev Bool} {me : EM} (hc : X.calm = true) (hN : X.N.Nodup) (hi : SI X C tg iter mi) (ok : BlkOk X.N X.env.scope scope own)
    (hg : ∀ (s : Shared) (H : Hp) (A : Addr) (cl : List (Str × Addr)) (fp : List Addr), SG (X.blk s H scope (compEnvC scope cl A X.env) fp) C tg is gm) (ht : ∀ (s : Shared) (H : Hp) (A : Addr) (cl : List (Str × Addr)) (fp : List Addr), SIf (X.blk s H scope (compEnvC scope cl A X.env) fp) C ifs mc)
    (he : ∀ (s : Shared) (H : Hp) (A : Addr) (cl : List (Str × Addr)) (fp : List Addr), SE (X.blk s H scope (compEnvC scope cl A X.env) fp) C elt me) (hs : ∀ x, foldedSetIterable iter X.env x = pure x := by intro _; rfl) (hv : ∀ i ∈ is, i ∈ own.map (·.2) := by decide) :
    SE X C (.ListComp elt [⟨tg, iter, ifs, 0⟩] scope pos) (mLc mi gm mc me (own.map (·.2))) :=
  PE.weak (pe_lc hc hN hi ok hg ht he hs) fun _ _ _ h => lc_of hv h
theorem st_setLc (i : Nat) {y : Str} {py spos : Pos} {elt tg iter : Expr} {ifs : List Expr} {scope : Scope} {own : List (Str × Nat)} {mi : Ev (List D)} {is : List Nat} {gm : GM} {mc : Ev Bool} {me : EM} (hc : X.calm = true) (hN : X.N.Nodup) (hi : SI X C tg iter mi) (ok : BlkOk X.N X.env.scope scope own)
    (hg : ∀ (s : Shared) (H : Hp) (A : Addr) (cl : List (Str × Addr)) (fp : List Addr), SG (X.blk s H scope (compEnvC scope cl A X.env) fp) C tg is gm) (ht : ∀ (s : Shared) (H : Hp) (A : Addr) (cl : List (Str × Addr)) (fp : List Addr), SIf (X.blk s H scope (compEnvC scope cl A X.env) fp) C ifs mc)
    (he : ∀ (s : Shared) (H : Hp) (A : Addr) (cl : List (Str × Addr)) (fp : List Addr), SE (X.blk s H scope (compEnvC scope cl A X.env) fp) C elt me)
    (hsw : swapsWith (.ListComp elt [⟨tg, iter, ifs, 0⟩] scope pos) (some (.Name y py)) spos.line X.env = pure true) (hy : X.N[i]? = some y := by rfl) (hyl : X.env.scope.names.lookup y = some .local := by rfl) (hs : ∀ x, foldedSetIterable iter X.env x = pure x := by intro _; rfl) (hv : ∀ i ∈ is, i ∈ own.map (·.2) := by decide) :
    SS X C (.Assign [.Name y py] (.ListComp elt [⟨tg, iter, ifs, 0⟩] scope pos) spos) (mSet i (mLc mi gm mc me (own.map (·.2)))) :=
  PS.weak (ps_setLc hc hN hy hyl hsw hi ok hg ht he hs) fun E σ H h => by
    obtain ⟨g, σd, st, fl, σd', st', rl, rs, e, k⟩ := h
    obtain ⟨⟨x, st1⟩, e1, e⟩ := bind_some e
    cases e
    exact lc_of hv ⟨g, σd, st, x, _, rl, rs, e1, fun g1 H1 v x1 rl1 r1 => k g1 H1 x1 rl1 _ ((rs.mono x1).set r1)⟩
end

/-! ### defs and calls -/
structure RoomG (k : Nat) (A : Around) : Prop where
  room : Room k A
  guards : A.guards = some []
/-- a def's promise, for calls from where nothing is being shown -/
structure FnG (P : Program) (w : World) (K : PySem.W.Frag) (mg : Str → Option Value) (base : Heap) (CX : CXT) (k : Nat) (f : Addr) (fd : FuncData) (ps : List Str) (sp : Sp) : Prop where
  len : ∀ vs H Q E, sp vs H Q E → vs.length = ps.length
  run : ∀ (A : Around) (outer : List Env) (s : Shared) (H : Hp) (args : Args) (us : List Value) (vs : List V) (Q : VK) (E : XK), RoomG k A → Env0 P w K mg base A outer s H →
    BindsTo s fd args (ps.zip us) → Vals vs us → sp vs H Q E → codeAny (model P w) A (.call (.ref f) args) (CR CX outer P w H s Q E) s
abbrev FM := List D → Sto → Option (D × Sto)
def spF (K : PySem.W.Frag) (C : Nat → Addr) (m : FM) : Sp := fun vs H Q _ => rC K C m vs H Q
theorem FnG.none {P : Program} {w : World} {K : PySem.W.Frag} {C : Nat → Addr} {mg : Str → Option Value} {base : Heap} {CX : CXT} {f : Addr} {fd : FuncData} {ps : List Str} {k : Nat} : FnG P w K mg base CX k f fd ps (spF K C fun _ _ => .none) := by
  have no : ∀ vs H Q E, ¬ spF K C (fun _ _ => .none) vs H Q E := by
    rintro vs H Q E ⟨g, ds, st, d, st', rl, r, e, k⟩
    cases e
  exact ⟨fun _ _ _ _ h => (no _ _ _ _ h).elim, fun A outer s H args us vs Q E _ _ _ _ h => (no _ _ _ _ h).elim⟩
/-! what leaves a def: no object of its own -/
mutual
def below (n : Nat) : D → Bool
  | .tup ds => belows n ds
  | .lst ds => belows n ds
  | .sq ds => belows n ds
  | .dic _ vs => belows n vs
  | .obj _ _ vs => belows n vs
  | .ref i => decide (i < n)
  | .non => true
  | .bl _ => true
  | .int _ => true
  | .str _ => true
def belows (n : Nat) : List D → Bool
  | [] => true
  | d :: ds => below n d && belows n ds
end
def belowO (n : Nat) : O → Bool
  | .lst ds => belows n ds
  | .dic _ vs => belows n vs
  | .obj _ _ vs => belows n vs
  | .dead => true
/-- what stays behind a def that keeps the store's first n objects -/
def cutSt (n : Nat) (d : D) (st : Sto) : Option (D × Sto) := if (below n d && (st.take n).all (belowO n)) = true then some (d, st.take n) else none
section
variable {K : PySem.W.Frag} {C : Nat → Addr} {g g' : Gh} {H : Hp} {st : Sto} {n : Nat}
mutual
theorem below_ok (e : ∀ (i : Nat) (a : Addr), i < n → g.m[i]? = some a → g'.m[i]? = some a) (f : g'.F = g.F) : ∀ (d : D) (v : V), below n d = true → Rep K C g d v → Rep K C g' d v
  | .non, _, _, h => h
  | .bl _, _, _, h => h
  | .int _, _, _, h => h
  | .str _, _, _, h => h
  | .tup ds, v, hb, h => by
    obtain ⟨a, xs, h1, h2, h3⟩ := h
    exact ⟨a, xs, h1, by rw [f]; exact h2, belows_ok e f ds xs hb h3⟩
  | .lst ds, v, hb, h => by
    obtain ⟨a, xs, h1, h2, h3⟩ := h
    exact ⟨a, xs, h1, by rw [f]; exact h2, belows_ok e f ds xs hb h3⟩
  | .sq ds, v, hb, h => by
    obtain ⟨a, xs, h1, h2, h3⟩ := h
    exact ⟨a, xs, h1, by rw [f]; exact h2, belows_ok e f ds xs hb h3⟩
  | .dic ks vs, v, hb, h => by
    obtain ⟨a, kvs, h1, h2, h3, h4⟩ := h
    exact ⟨a, kvs, h1, by rw [f]; exact h2, h3, belows_ok e f vs _ hb h4⟩
  | .obj c ns vs, v, hb, h => by
    obtain ⟨a, dx, fs, h1, h2, h3, h4, h5⟩ := h
    exact ⟨a, dx, fs, h1, by rw [f]; exact h2, by rw [f]; exact h3, h4, belows_ok e f vs _ hb h5⟩
  | .ref i, v, hb, h => by
    obtain ⟨a, h1, h2⟩ := h
    exact ⟨a, e i a (of_decide_eq_true hb) h1, h2⟩
theorem belows_ok (e : ∀ (i : Nat) (a : Addr), i < n → g.m[i]? = some a → g'.m[i]? = some a) (f : g'.F = g.F) : ∀ (ds : List D) (vs : List V), belows n ds = true → Reps K C g ds vs → Reps K C g' ds vs
  | [], _, _, h => h
  | d :: ds, vs, hb, h => by
    obtain ⟨x, r, h1, h2, h3⟩ := h
    have hb : (below n d && belows n ds) = true := hb
    rw [Bool.and_eq_true] at hb
    exact ⟨x, r, h1, below_ok e f d x hb.1 h2, belows_ok e f ds r hb.2 h3⟩
end
/-- the store cut behind a def -/
theorem Rl.cut (h : Rl K C g H st) {d : D} {st' : Sto} {v : V} {d' : D} (e : cutSt n d st = some (d', st')) (r : Rep K C g d v) :
    Rl K C ⟨g.F, g.m.take n, g.X, g.Y⟩ H st' ∧ Rep K C ⟨g.F, g.m.take n, g.X, g.Y⟩ d' v ∧ ∀ (i : Nat) (a : Addr), i < n → g.m[i]? = some a → (g.m.take n)[i]? = some a := by
  unfold cutSt at e
  split at e
  case isFalse => cases e
  rename_i hb
  cases e
  rw [Bool.and_eq_true, List.all_eq_true] at hb
  have up : ∀ (i : Nat) (a : Addr), i < n → g.m[i]? = some a → (g.m.take n)[i]? = some a := fun i a hi q => by rw [List.getElem?_take_of_lt hi]; exact q
  have dn : ∀ (i : Nat) (a : Addr), (g.m.take n)[i]? = some a → i < n ∧ g.m[i]? = some a := fun i a q => by
    by_cases hi : i < n
    · rw [List.getElem?_take_of_lt hi] at q; exact ⟨hi, q⟩
    · rw [List.getElem?_take_eq_none (by omega)] at q; cases q
  have dnS : ∀ (i : Nat) (o : O), (st.take n)[i]? = some o → st[i]? = some o := fun i o q => by
    by_cases hi : i < n
    · rw [List.getElem?_take_of_lt hi] at q; exact q
    · rw [List.getElem?_take_eq_none (by omega)] at q; cases q
  have lv : ∀ i, Live (st.take n) i → Live st i := fun i ⟨o, q1, q2⟩ => ⟨o, dnS i o q1, q2⟩
  refine ⟨⟨h.sub, by simp [h.len], fun i o a q1 q2 => ?_, fun i j a q1 q2 l1 l2 => h.inj i j a (dn i a q1).2 (dn j a q2).2 (lv i l1) (lv j l2), h.fr, h.frF, fun i a q l => h.frS i a (dn i a q).2 (lv i l), h.frM, h.frY, h.tb⟩, below_ok (g' := ⟨g.F, g.m.take n, g.X, g.Y⟩) up rfl d v hb.1 r, up⟩
  have k := h.obj i o a (dnS i o q1) (dn i a q2).2
  have ho := hb.2 o (List.mem_of_getElem? q1)
  cases o with
  | dead => trivial
  | lst ds =>
    obtain ⟨k1, xs, k2, k3⟩ := k
    exact ⟨k1, xs, k2, belows_ok (g' := ⟨g.F, g.m.take n, g.X, g.Y⟩) up rfl _ _ ho k3⟩
  | dic ks vs =>
    obtain ⟨k1, xs, k2, k3, k4⟩ := k
    exact ⟨k1, xs, k2, k3, belows_ok (g' := ⟨g.F, g.m.take n, g.X, g.Y⟩) up rfl _ _ ho k4⟩
  | obj c ns vs =>
    obtain ⟨k1, dx, fs, k2, k3, k4, k5, k6⟩ := k
    exact ⟨k1, dx, fs, k2, k3, k4, k5, belows_ok (g' := ⟨g.F, g.m.take n, g.X, g.Y⟩) up rfl _ _ ho k6⟩
end
/-- a def by its body: N slots, n parameters, keep: how many new objects of the store stay -/
def mkF (N n keep : Nat) (b : SM) : FM := fun ds st => if ds.length = n then (b (ds.map some ++ List.replicate (N - n) none) st).bind fun r => match r.1 with
    | .rt d => cutSt (st.length + keep) d r.2.2
    | .nx => cutSt (st.length + keep) .non r.2.2
    | _ => none
  else none
theorem RlS_start {K : PySem.W.Frag} {C : Nat → Addr} {g : Gh} {ds : List D} {vs : List V} {N : List Str} (r : Reps K C g ds vs) : RlS K C g (start N vs) (ds.map some ++ List.replicate (N.length - ds.length) none) := by
  have hl := r.length
  refine ⟨by simp [L2.start, hl], fun i d q => ?_⟩
  by_cases hi : i < ds.length
  · rw [List.getElem?_append_left (by simpa using hi), List.getElem?_map, List.getElem?_eq_getElem hi] at q
    cases q
    obtain ⟨v, h1, h2⟩ := r.get (List.getElem?_eq_getElem hi)
    refine ⟨v, ?_, h2⟩
    unfold L2.start
    rw [List.getElem?_append_left (by simp; omega), List.getElem?_map, h1]
    rfl
  · rw [List.getElem?_append_right (by simpa using hi), List.getElem?_replicate] at q
    split at q <;> cases q
end Z

end
section
set_option Elab.async false
set_option linter.all false
set_option maxRecDepth 100000
set_option autoImplicit false
namespace Z
open PySem PySem.Spec L2
open PyProof.Rows hiding St

section
variable {P : Program} {w : World} {K : PySem.W.Frag} {C : Nat → Addr} {mg : Str → Option Value} {base : Heap} {CX : CXT}
/-- a def keeps what its body's mirror says -/
theorem fnG_ofC {k : Nat} {f : Addr} {fd : FuncData} {x qual : Str} {st : Stmt} {N ps : List Str} {m : SM} (keep : Nat) (F : Fun K x qual st f fd) (S : FnScope N ps (defScope st))
    (hb : ∀ (cdv : Value) (A : Around) (outer : List Env) (s : Shared) (H : Hp) (E : XK), fd.code = cdv → RoomG k (A.deeper (envOfC qual (defScope st) s.heap.objs.size f cdv)) →
      SB (cxOf CX P w K mg base N qual (defScope st) f cdv A outer s H E).nox C (defBody st) m) :
    FnG P w K mg base CX (k + 1) f fd ps (spF K C (mkF N.length ps.length keep m)) := by
  obtain ⟨oc, od, kwd, doc, pm, an, cdv, ct, slots, rfl, look, codeOk⟩ := F.ex
  have lens : ∀ vs H Q E, spF K C (mkF N.length ps.length keep m) vs H Q E → vs.length = ps.length := by
    rintro vs H Q E ⟨g, ds, sto, d, sto', rl, rr, e, fin⟩
    unfold mkF at e
    split at e
    · rename_i h; exact rr.length.symm.trans h
    · cases e
  refine ⟨lens, fun A outer s H args us vs Q E room e0 bound r hsp => ?_⟩
  have hlen := lens _ _ _ _ hsp
  have there : K.In s.heap := e0.mod.kin.keeps fun b o e => (e0.bs b o e).1
  have freeH : s.heap.NoLimit := e0.mod.nolimit.keeps fun b o e => (e0.bs b o e).1
  have kinds : ∀ y ∈ ps.zip us, (defScope st).names.lookup y.1 = some .local ∨ ((defScope st).names.lookup y.1 = some .cell ∧ ((cellsFrom (s.heap.objs.size + 1) (defScope st).names []).lookup y.1).isSome = true) := by
    rintro ⟨n, v⟩ hy
    rcases S.par n (List.of_mem_zip hy).1 with q | q
    · exact Or.inl q
    · exact Or.inr ⟨q, PySem.W.cellsFrom_some _ _ _ (.inl q)⟩
  refine codeAny_call_function room.room.depth (there _ _ look) rfl S.co S.gen rfl (PySem.W.codeRec_of there codeOk) (bound _ _ _ _ ?_)
  refine wpAny_newFunctionEnv_cells S.kind kinds fun env he s1 start1 => ?_
  subst he
  refine ⟨freeH.keeps start1.toInCall.keep, codeAny_func ?_⟩
  have body := hb cdv A outer s H E rfl ⟨room.room.deeper _, room.guards⟩
  have I : Inv (cxOf CX P w K mg base N qual (defScope st) f cdv A outer s H E) [] (L2.start N vs) H s1 := inv_start S room.room.hd e0 hlen r start1
  obtain ⟨g, ds, sto, d, sto', rl, rr, e, fin⟩ := hsp
  have hl : ds.length = ps.length := rr.length.trans hlen
  unfold mkF at e
  rw [if_pos hl] at e
  obtain ⟨⟨fl, σd', sto2⟩, e1, e⟩ := bind_some e
  have rs : RlS K C g (L2.start N vs) (ds.map some ++ List.replicate (N.length - ps.length) none) := by
    rw [← hl]; exact RlS_start rr
  have closing : ∀ (g' : Gh) (H' : Hp) (v : V) (y : D), GExt g g' → Rl K C g' H' sto2 → Rep K C g' y v → cutSt (sto.length + keep) y sto2 = some (d, sto') → Q v H' := fun g' H' v y x' rl' r' ec => by
    obtain ⟨c1, c2, c3⟩ := rl'.cut ec r'
    refine fin ⟨g'.F, g'.m.take (sto.length + keep), g'.X, g'.Y⟩ H' v ⟨x'.F, fun i a q => c3 i a ?_ (x'.m i a q), x'.X, x'.Y⟩ c1 c2
    have := (List.getElem?_eq_some_iff.mp q).1
    rw [rl.len] at this
    omega
  have reading : tS K C m { nx := fun _ H' => Q .non H', rt := Q } (L2.start N vs) H := ⟨g, _, sto, fl, σd', sto2, rl, rs, e1, fun g' H' x' rl' => by
    cases fl with
    | nx => exact fun σ _ => closing g' H' .non .non x' rl' rfl e
    | rt y => exact fun v rv => closing g' H' v y x' rl' rv e
    | bk => cases e
    | ct => cases e⟩
  refine wpAny_mono (body.nox.run [] s1 (L2.start N vs) H _ I reading) (fun fl s' hs => ?_) fun err s' hs => hs
  cases fl with
  | ret u =>
    obtain ⟨v, σ', H', J, rv, q⟩ := hs
    exact ⟨v, H', J.os, J.bare, J.base, J.hok, rv, q⟩
  | next =>
    obtain ⟨σ', H', J, q⟩ := hs
    exact ⟨V.non, H', J.os, J.bare, J.base, J.hok, rfl, q⟩
  | brk => obtain ⟨_, _, _, q⟩ := hs; exact q.elim
  | cont => obtain ⟨_, _, _, q⟩ := hs; exact q.elim
theorem fnG_of {k : Nat} {f : Addr} {fd : FuncData} {x qual : Str} {st : Stmt} {N ps : List Str} {m : SM} (keep : Nat) (F : Fun K x qual st f fd) (S : FnScope N ps (defScope st))
    (hb : ∀ (cdv : Value) (A : Around) (outer : List Env) (s : Shared) (H : Hp) (E : XK), RoomG k (A.deeper (envOfC qual (defScope st) s.heap.objs.size f cdv)) →
      SB (cxOf CX P w K mg base N qual (defScope st) f cdv A outer s H E).nox C (defBody st) m) :
    FnG P w K mg base CX (k + 1) f fd ps (spF K C (mkF N.length ps.length keep m)) := fnG_ofC keep F S fun cdv A outer s H E _ => hb cdv A outer s H E
end

/-! calls of defs -/
section
variable {X : Cx} {C : Nat → Addr} {CX : CXT} {k : Nat} {f : Addr} {fd : FuncData} {ps : List Str} {m : FM} {x : Str} {p pos : Pos} {e : Expr} {es : List Expr} {ma : Ev (List D)}
theorem runG {pins : List (Addr × Obj)} {σ : St} {H : Hp} {s : Shared} {Q : VK} {us : List Value} {vs : List V} {sp : Sp} (F : FnG X.prog X.w X.K X.mg X.base CX k f fd ps sp) (hr : RoomG k X.A) (hb : Binds X.K fd ps []) (hx : Passes CX X E0)
    (I : Inv X pins σ H s) (r : Vals vs us) (h : sp vs H Q E0) : wpAny (model X.prog X.w) X.A (call (.ref f) us) (EP X pins σ Q) X.xe s := by
  have hn : (us ++ ([] : List Value)).length = ps.length := by rw [List.append_nil, ← r.length]; exact F.len _ _ _ _ h
  have bd := hb s us I.kIn hn
  rw [List.append_nil] at bd
  refine wpAny_call (codeAny_mono (F.run X.A X.stack s H ⟨us, []⟩ us vs Q E0 hr I.env0 bd r h) fun res s' hq => ?_)
  cases res with
  | error err => exact hx pins σ H s err s' I hq
  | ok fl =>
    cases fl with
    | ret u => exact I.after hq
    | _ => exact hq.elim
theorem s_call (F : FnG X.prog X.w X.K X.mg X.base CX k f fd ps (spF X.K C m)) (hr : RoomG k X.A) (hm : X.mg x = some (.ref f)) (hk : PySem.W.keepIn X.K (.ref f) = true) (hb : Binds X.K fd ps []) (hx : Passes CX X E0)
    (ha : SA X C (e :: es) ma) (hg : Gl X x := by rfl) (hdb : (x == ("__debug__" : Str)) = false := by decide) (he : starEach (e :: es) X.env = (false, eval e X.env) :: starEach es X.env := by rfl) (hpl : (backTo pos (starEach es X.env)).any (·.1) = false := by rfl) :
    SE X C (.Call (.Name x p) (e :: es) [] pos) (mC m ma) := by
  refine ⟨fun pins s σ H Q I h => ?_⟩
  refine wpAny_Call_Name_kw (ld_glob I hg hm ?_ hdb)
  obtain ⟨g, σd, st, d, st', rl, rs, e1, fin⟩ := h
  obtain ⟨⟨ds, st1⟩, e2, e3⟩ := bind_some e1
  have reading : tA X.K C ma σ H fun vs H1 => spF X.K C m vs H1 Q E0 := ⟨g, σd, st, ds, st1, rl, rs, e2, fun g1 H1 vs x1 rl1 r1 =>
    ⟨g1, ds, st1, d, st', rl1, r1, e3, fun g2 H2 v x2 rl2 r2 => fin g2 H2 v (x1.trans x2) rl2 r2⟩⟩
  exact PySem.W.callWith_K (h₀ := X.base) I.ok.mod.kin hk (thn (ha.run pos pins s σ H _ I reading) fun us s1 ⟨vs, H1, I1, r1, q1⟩ => ⟨I1.kIn, runG F hr hb hx I1 r1 q1⟩) he hpl
end

/-! ### the end: the law's own def, called with the script -/
def noT : Option HO → Option HO
  | some (.tbl _) => none
  | o => o
def g0 (H : Hp) : Gh := ⟨fun a => noT (H a), [], fun _ => none, fun _ => False⟩
theorem noT_of {o : Option HO} {u : HO} (h : noT o = some u) : o = some u := by
  unfold noT at h
  split at h
  · cases h
  · exact h
theorem noT_no {o : Option HO} {ps : Array Value} : noT o ≠ some (.tbl ps) := by
  intro h
  unfold noT at h
  split at h
  · cases h
  · rename_i hz; exact hz ps h
theorem rl0 {K : PySem.W.Frag} {C : Nat → Addr} (H : Hp) (hT : C 1000 ≠ C 1001 → H (C 1000) = some (.tbl #[])) : Rl K C (g0 H) H [] := by
  refine ⟨fun _ _ h => noT_of h, rfl, fun i o a h => ?_, fun i j a h => ?_, fun _ u h => ?_, fun _ u h => ?_, fun i a h => ?_, fun _ u h => ?_, fun _ y => False.elim y, fun hc => ⟨?_, LamX.TabS.nil (hT hc), fun a ps h => noT_no h⟩⟩
  · simp at h
  · have h : ([] : List Addr)[i]? = some a := h
    simp at h
  · have h : (none : Option HO) = some u := h
    cases h
  · have h : (none : Option HO) = some u := h
    cases h
  · have h : ([] : List Addr)[i]? = some a := h
    simp at h
  · have h : (none : Option HO) = some u := h
    cases h
  · show noT (H (C 1000)) = none
    rw [hT hc]; rfl
theorem reps_ints {K : PySem.W.Frag} {C : Nat → Addr} {g : Gh} : ∀ ns : List Int, Reps K C g (ns.map D.int) (ns.map V.int)
  | [] => rfl
  | n :: ns => .cons rfl (reps_ints ns)
theorem lawG {P : Program} {w : World} {K : PySem.W.Frag} {C : Nat → Addr} {mg mb : Str → Option Value} {k : Nat} {fa a cc : Addr} {fd : FuncData} {x : Str} {m : FM} {s1 : Shared} {vs : List Value} {ns : List Int}
    (KX : K.In s1.heap) (hns : s1.heap.Ns mainGlobals mg) (hb : s1.heap.Ns builtinsNs mb) (hbb : ∀ x : Str, x ≠ "__name__" → mb x = bootBuiltins x) (hlim : s1.heap.NoLimit) (hg : s1.gens = #[]) (hsy : ∃ mm, s1.heap.Ns sysModules mm)
    (hbm : ∃ (bm : Addr) (ob : Obj), mg "__builtins__" = some (.ref bm) ∧ bm ≠ builtinsNs ∧ s1.heap.get? bm = some ob ∧ ob.cls = .type "module" ∧ ob.dict = some builtinsNs ∧ ob.data = .plain)
    (hT : C 1000 ≠ C 1001 → s1.heap.get? (C 1000) = some { cls := .none, data := .fields #[] } ∧ K.lookup (C 1000) = none ∧ PySem.W.CodeHd s1.heap cc (C 1000))
    (ha : s1.heap.get? a = some { cls := .type "list", data := .seq vs.toArray }) (hi : IntsAre vs ns) (hl : ns.length ≤ sizeLine) (hr : RoomG k callerA)
    (F : ∀ base : Heap, K.In base → base.Ns mainGlobals mg → (∃ o, base.get? sysModules = some o) → (C 1000 ≠ C 1001 → LamX.TabB base mg cc (C 1000)) → FnG P w K mg base CX0 k fa fd [x] (spF K C m)) (hbind : ∀ (s : Shared) (u : Value), BindsTo s fd ⟨[u], []⟩ [(x, u)])
    (law : m [.sq (ns.map D.int)] [] = some (.bl true, [])) :
    codeAny (model P w) callerA (.call (.ref fa) ⟨[.ref a], []⟩) (fun r s' => r = .ok (.ret (.bool true)) ∧ OldK s1.heap s'.heap ∧ s'.os = s1.os ∧ AllBare s'.gens) s1 := by
  have hin := vals_ints hi
  have len := hi.length
  -- where a table lies
  let isT : Addr → Prop := fun b => b = C 1000 ∧ C 1000 ≠ C 1001
  have tabAt : ∀ {b : Addr}, isT b → s1.heap.get? b = some { cls := .none, data := .fields #[] } := fun {b} q => by
    rw [q.1]; exact (hT q.2).1
  have notA : ¬ isT a := fun q => by
    have e := tabAt q
    rw [ha] at e
    have e2 := congrArg Obj.data (Option.some.inj e)
    cases (show Data.seq vs.toArray _ = Data.fields #[] from e2)
  -- what is tracked at the start: the script at most, and the table
  have from' : ∀ H : Hp, (∀ b, H b = none ∨ isT b ∨ ∃ o xs, H b = some (.frz o (.lst xs))) → (∀ b, isT b → H b = some (.tbl #[])) → SqL K (fun b => noT (H b)) a (ns.map V.int) → HOk P w H s1.heap → (∀ b, H b ≠ none → b = a ∨ isT b) → (H a ≠ none → K.lookup a = none) →
      codeAny (model P w) callerA (.call (.ref fa) ⟨[.ref a], []⟩) (fun r s' => r = .ok (.ret (.bool true)) ∧ OldK s1.heap s'.heap ∧ s'.os = s1.os ∧ AllBare s'.gens) s1 := by
    intro H only tabs script held onlyA notK
    have keep : ∀ {b : Addr} {o : Obj}, s1.heap.get? b = some o → H b = none → (hidT s1.heap H).get? b = some o := fun e n => hidT_get e n
    have other : ∀ {b : Addr} {o : Obj}, s1.heap.get? b = some o → (∀ us n, o.data ≠ .seq us n) → o.data ≠ .fields #[] → H b = none := by
      intro b o e d1 d2
      cases q : H b with
      | none => rfl
      | some u =>
        rcases onlyA b (by rw [q]; simp) with e' | e'
        · subst e'
          rw [ha] at e
          cases e
          exact (d1 _ _ rfl).elim
        · rw [tabAt e'] at e
          cases e
          exact (d2 rfl).elim
    have names : ∀ {b : Addr} {m : Str → Option Value}, s1.heap.Ns b m → (hidT s1.heap H).Ns b m := by
      rintro b m ⟨o, es, ep, e, d, r⟩
      exact ⟨o, es, ep, keep e (other e (fun us n z => by rw [d] at z; cases z) fun z => by rw [d] at z; cases z), d, r⟩
    have written : K.In (hidT s1.heap H) := fun b o e => keep (KX b o e) (by
      cases q : H b with
      | none => rfl
      | some u =>
        rcases onlyA b (by rw [q]; simp) with e' | e'
        · subst e'
          rw [notK (by rw [q]; simp)] at e
          cases e
        · rw [e'.1, (hT e'.2).2.1] at e
          cases e)
    have modOk : Mod K mg (hidT s1.heap H) := by
      refine ⟨written, names hns, ⟨mb, names hb, hbb⟩, ?_⟩
      obtain ⟨mc, h1, h2⟩ := hlim
      exact ⟨mc, names h1, h2⟩
    have sys : ∃ o, (hidT s1.heap H).get? sysModules = some o := by
      obtain ⟨mm, hmm⟩ := hsy
      obtain ⟨o, es, ep, e, _⟩ := names hmm
      exact ⟨o, e⟩
    have maker : C 1000 ≠ C 1001 → LamX.TabB (hidT s1.heap H) mg cc (C 1000) := fun hc => by
      obtain ⟨t1, _, t3⟩ := hT hc
      refine ⟨?_, ?_, fun z => ?_⟩
      · obtain ⟨o, us, file, tf, flags, tg, inF, text, tt, q1, q2, q3, q4, q5⟩ := t3
        refine ⟨o, us, file, tf, flags, tg, inF, text, tt, keep q1 (other q1 (fun us n z => by rw [q3] at z; cases z) fun z => ?_), q2, q3, q4, q5⟩
        rw [q3] at z
        cases z
        simp at q4
      · obtain ⟨bm, ob, q1, q2, q3, q4, q5, q6⟩ := hbm
        refine ⟨bm, ob, q1, q2, fun z => ?_, fun z => ?_, keep q3 (other q3 (fun us n z => by rw [q6] at z; cases z) fun z => by rw [q6] at z; cases z), q4, q5, q6⟩
        · obtain ⟨o, es, ep, e, d, _⟩ := hns
          rw [← z, q3] at e
          cases e
          rw [q6] at d
          cases d
        · rw [z, t1] at q3
          cases q3
          cases q6
      · obtain ⟨o, es, ep, e, d, _⟩ := hns
        rw [z, t1] at e
        cases e
        cases d
    have env : Env0 P w K mg (hidT s1.heap H) callerA [] s1 H := by
      refine ⟨rfl, modOk, fun b o e => of_hidT e, Nat.le_of_eq (hidT_size _ _), trivial, fun b hb => ?_, held, .of_eq hg⟩
      cases hb
    have start : spF K C m [.ref a] H (fun v _ => v = .bl true) fun _ _ _ => False :=
      ⟨g0 H, [.sq (ns.map D.int)], [], .bl true, [], rl0 H fun hc => tabs _ ⟨rfl, hc⟩, .cons ⟨a, _, rfl, script, reps_ints ns⟩ rfl, law, fun g' H' v _ _ r => r⟩
    refine codeAny_mono ((F _ written (names hns) sys maker).run callerA [] s1 H ⟨[.ref a], []⟩ [.ref a] [.ref a] _ _ hr env (hbind s1 (.ref a)) (.cons rfl .nil) start) fun r s' h => ?_
    cases r with
    | error e => exact h.elim
    | ok fl =>
      cases fl with
      | next => exact h.elim
      | brk => exact h.elim
      | cont => exact h.elim
      | ret u =>
        obtain ⟨v, H', os, bare, un, held', r', q⟩ := h
        cases (show v = .bl true from q)
        cases (show u = Value.bool true from r')
        have stays : ∀ b o, ¬ isT b → s1.heap.get? b = some o → s'.heap.get? b = some o := fun b o hn e => by
          cases q : H b with
          | none => exact un.keep b o e q (by simp [frs]) (by simp)
          | some u =>
            rcases only b with z | z | ⟨ob, xs, z⟩
            · rw [q] at z; cases z
            · exact (hn z).elim
            · have z2 := un.frzs b ob _ z
              obtain ⟨e1, _⟩ := held b _ z
              obtain ⟨e2, _⟩ := held' b _ z2
              rw [e] at e1
              cases e1
              exact e2
        have longer : ∀ b, isT b → ∃ more : Array Value, s'.heap.get? b = some { cls := .none, data := .fields (#[] ++ more) } := fun b hb => by
          obtain ⟨more, z⟩ := un.tbls b #[] (tabs b hb)
          exact ⟨more, held' b _ z⟩
        refine ⟨rfl, ⟨fun b o e => ?_, fun b o e => ?_⟩, os, bare⟩
        · by_cases hb : isT b
          · obtain ⟨more, hm⟩ := longer b hb
            rw [tabAt hb] at e
            cases e
            refine .inr (.inl ⟨?_, rfl, #[], more, rfl, hm⟩)
            have t3 := (hT hb.2).2.2.tab (hT hb.2).1
            rw [hb.1]
            exact t3.isCodeTable
          · exact .inl (stays b o hb e)
        · by_cases hb : isT b
          · obtain ⟨more, hm⟩ := longer b hb
            exact ⟨_, hm⟩
          · exact ⟨o, stays b o hb e⟩
  have dT : ∀ b, Decidable (isT b) := fun b => Classical.propDecidable _
  cases hk : K.lookup a with
  | some o =>
    have e := KX a o hk
    rw [ha] at e
    cases e
    refine from' (fun b => if isT b then some (.tbl #[]) else none) (fun b => ?_) (fun b q => if_pos q) (.inr ⟨_, vs.toArray, _, hk, rfl, rfl, rfl, ?_, ?_⟩) (fun b u z => ?_) (fun b z => ?_) fun z => absurd (if_neg notA) z
    · by_cases q : isT b
      · exact .inr (.inl q)
      · exact .inl (if_neg q)
    · rw [List.size_toArray, len]; exact hl
    · simpa using hin
    · by_cases q : isT b
      · cases (if_pos q).symm.trans z
        exact tabAt q
      · cases (if_neg q).symm.trans z
    · by_cases q : isT b
      · exact .inr q
      · exact absurd (if_neg q) z
  | none =>
    refine from' (fun b => if b = a then some (.frz { cls := .type "list", data := .seq vs.toArray } (.lst (ns.map V.int))) else if isT b then some (.tbl #[]) else none) (fun b => ?_) (fun b q => ?_) (.inl (.inr ⟨{ cls := .type "list", data := .seq vs.toArray }, ?_⟩)) (fun b u z => ?_) (fun b z => ?_) fun _ => hk
    · by_cases hb : b = a
      · exact .inr (.inr ⟨_, _, if_pos hb⟩)
      · by_cases q : isT b
        · exact .inr (.inl q)
        · exact .inl ((if_neg hb).trans (if_neg q))
    · have hb : b ≠ a := fun z => notA (z ▸ q)
      exact (if_neg hb).trans (if_pos q)
    · show noT (if a = a then _ else _) = _
      rw [if_pos rfl]; rfl
    · by_cases hb : b = a
      · subst hb
        cases ((if_pos rfl).symm.trans z)
        exact ⟨ha, by rw [List.length_map]; exact hl, vs, _, hin, ha⟩
      · by_cases q : isT b
        · cases (if_pos q).symm.trans ((if_neg hb).symm.trans z)
          exact tabAt q
        · cases (if_neg q).symm.trans ((if_neg hb).symm.trans z)
    · by_cases hb : b = a
      · exact .inl hb
      · by_cases q : isT b
        · exact .inr q
        · exact absurd ((if_neg hb).trans (if_neg q)) z
/-- the goal that the head leaves -/
theorem walkG {l : PySem.W.OpenLaw} {n k : Nat} {q : Program} {loose : List Str} {XP : (Str → Option Value) → Heap → Prop} {YP : World → Heap → Prop} {d : DefRec} {K : Params → PySem.W.Frag} {x : Str} {m : FM}
    (hq : PyProof.Rows.importsNone q = true) (hn : l.most = some n) (hn2 : n ≤ sizeLine) (hdf : d.params.defaults = []) (hr : RoomG k callerA)
    (hY : ∀ (w : World) (h : Heap), YP w h → (K w.params).In h)
    (F : ∀ (w : World) (mg : Str → Option Value) (fa : Addr) (h : Heap), (K w.params).In h → h.Ns mainGlobals mg → mg d.name = some (.ref fa) → XP mg h → YP w h →
      ∃ (C : Nat → Addr) (fd : FuncData) (cc : Addr), (C 1000 ≠ C 1001 → h.get? (C 1000) = some { cls := .none, data := .fields #[] } ∧ (K w.params).lookup (C 1000) = none ∧ PySem.W.CodeHd h cc (C 1000)) ∧ (∀ (s : Shared) (u : Value), BindsTo s fd ⟨[u], []⟩ [(x, u)]) ∧
        ∀ base : Heap, (K w.params).In base → base.Ns mainGlobals mg → (∃ o, base.get? sysModules = some o) → (C 1000 ≠ C 1001 → LamX.TabB base mg cc (C 1000)) → FnG l.prog w (K w.params) mg base CX0 k fa fd [x] (spF (K w.params) C m))
    (law : ∀ ns : List Int, ns.length ≤ n → m [.sq (ns.map D.int)] [] = some (.bl true, [])) :
    PySem.W.WalkO q loose XP YP l.row.toRowW d [] (fun f vs => PySem.call f vs) := by
  refine Att.attach_call hn hdf fun w s0 s1 mg mb fa o pm cd doc a vs ns G Y ho hd hcd hmg hobj hints hlen hg => ?_
  have KX := hY w _ Y
  obtain ⟨C, fd, cc, hT, hb, hF⟩ := F w mg fa _ KX G.T.g hmg G.X Y
  exact lawG KX G.T.g G.T.b G.T.builtins G.T.nolimit hg (let ⟨mm, h, _⟩ := (G.T.seer hq).mods; ⟨mm, h⟩) G.T.bmain hT hobj hints (Nat.le_trans hlen hn2) hr hF hb (law ns hlen)
end Z

end
section
set_option Elab.async false
set_option linter.all false
set_option maxRecDepth 100000
set_option autoImplicit false
namespace PySem
open Sem (wp)
open Builtin

/-! max(.., default = d): the loop with its keywords carried -/
theorem args_max_d (a d : Value) : argsOk "max" ⟨[a], [(Str.ofString "default", d)]⟩ := by unfold argsOk; kernel_rfl
section
variable {prog : Program} {w : World} {A : Around} {R : Result → Shared → Prop} {I : Addr} {fp wr : List Addr} {n : Nat} {P : Nat → Value → Prop} {Stt : Nat → Heap → Prop} {kws : List (Str × Value)}
theorem max_turns (W : Walks prog w A.in1 I fp wr n P Stt) (bt : Nat → Nat → Bool) (cmp : CmpOf prog w A.in1 .Gt P bt) (B : Addr) (out : B ∉ fp) :
    ∀ (left j : Nat) (s : Shared) (best : Value) (c : Nat), n - (j + 1) = left → j + 1 ≤ n → Stt (j + 1) s.heap → P (argBest bt j) best →
    s.heap.get? B = some { cls := .type "list", dict := none, data := .seq #[best, best] c, slots := #[] } →
    (∀ v h' tk, P (argBest bt (n - 1)) v → (∀ b o, b ∉ wr → b ≠ B → s.heap.get? b = some o → h'.get? b = some o) → R (.ok (.ret v)) { s with heap := h', toks := tk }) →
    codeAny (model prog w) A (.builtin "max.loop" ⟨[.ref I, .none, .ref B], kws⟩) R s := by
  have outw : B ∉ wr := fun h => out (W.sub _ h)
  have name : (toString "max" ++ toString ".loop" : String) = "max.loop" := by decide
  intro left
  induction left with
  | zero =>
    intro j s best c hl hj st hb there fin
    have at' : j + 1 = n := by omega
    refine codeAny_builtin F.entry_max_loop ?_
    rw [Around.under_plainId F.plain_max_loop _]
    show wpAny _ A.in1 (seqItems? (.ref B) >>= _) _ _ _
    refine wpAny_bind (wpAny_seqItems there rfl ?_)
    show wpAny _ A.in1 (tryCatch (pyNext (.ref I)) _ >>= _) _ _ _
    refine wpAny_bind (wpAny_tryCatch (W.done s _ _ (at' ▸ st) fun h' tk kept => ?_))
    have there' := kept B _ outw there
    show wpAny _ A.in1 (updateSeq B (fun _ => #[]) >>= _) _ _ _
    refine wpAny_bind (wpAny_updateSeq there' rfl (wpAny_bind (wpAny_letGo (wpAny_pure ?_))))
    exact fin best _ tk (by rw [← at']; exact hb) fun b o hw hB e => (Heap.get?_update_other _ _ (Ne.symm hB)).trans (kept b o hw e)
  | succ left ih =>
    intro j s best c hl hj st hb there fin
    have lt : j + 1 < n := by omega
    refine codeAny_builtin F.entry_max_loop ?_
    rw [Around.under_plainId F.plain_max_loop _]
    show wpAny _ A.in1 (seqItems? (.ref B) >>= _) _ _ _
    refine wpAny_bind (wpAny_seqItems there rfl ?_)
    show wpAny _ A.in1 (tryCatch (pyNext (.ref I)) _ >>= _) _ _ _
    refine wpAny_bind (wpAny_tryCatch (W.item (j + 1) s _ _ lt st fun v h' tk hP st' kept => ?_))
    have there' := kept B _ outw there
    show wpAny _ A.in1 (tryCatch (holding [v, v] (richCompare .Gt v best >>= _)) _ >>= _) _ _ _
    refine wpAny_bind (wpAny_tryCatch (wpAny_holding (wpAny_bind (cmp (j + 1) (argBest bt j) v best _ _ _ hP hb ?_))))
    refine wpAny_bind (wpAny_holding (wpAny_truthy_bool ?_))
    refine wpAny_bind (wpAny_letGo (wpAny_pure ?_))
    cases better : bt (j + 1) (argBest bt j) with
    | true =>
      simp only [if_true]
      refine wpAny_bind (wpAny_updateSeq there' rfl (wpAny_bind (wpAny_letGo ?_)))
      rw [name]
      refine wpAny_pure ⟨plainId_quiet F.plain_max_loop _, ih (j + 1) _ v _ (by omega) lt (W.frame _ _ _ st' fun b hbf o e => ?_) (by simp only [argBest, better, if_true]; exact hP) (Heap.get?_update_self _ there' rfl) fun v' h2 tk2 hP2 kept2 => ?_⟩
      · exact (Heap.get?_update_other _ _ (fun h : B = b => out (by rw [h]; exact hbf))).trans e
      · exact fin v' h2 tk2 hP2 fun b o hw hB e => kept2 b o hw hB ((Heap.get?_update_other _ _ (Ne.symm hB)).trans (kept b o hw e))
    | false =>
      simp only [Bool.false_eq_true, if_false]
      refine wpAny_bind (wpAny_letGo ?_)
      rw [name]
      refine wpAny_pure ⟨plainId_quiet F.plain_max_loop _, ih (j + 1) _ best c (by omega) lt st' (by simp only [argBest, better, Bool.false_eq_true, if_false]; exact hb) there' fun v' h2 tk2 hP2 kept2 => ?_⟩
      exact fin v' h2 tk2 hP2 fun b o hw hB e => kept2 b o hw hB (kept b o hw e)
theorem max_starts (W : Walks prog w A.in1 I fp wr n P Stt) (bt : Nat → Nat → Bool) (cmp : CmpOf prog w A.in1 .Gt P bt) (B : Addr) (out : B ∉ fp) {s : Shared} {c : Nat} (st : Stt 0 s.heap)
    (there : s.heap.get? B = some { cls := .type "list", dict := none, data := .seq #[] c, slots := #[] }) (d : Value)
    (some' : 0 < n → ∀ v h' tk, P (argBest bt (n - 1)) v → (∀ b o, b ∉ wr → b ≠ B → s.heap.get? b = some o → h'.get? b = some o) → R (.ok (.ret v)) { s with heap := h', toks := tk })
    (none' : n = 0 → ∀ h' tk, (∀ b o, b ∉ wr → b ≠ B → s.heap.get? b = some o → h'.get? b = some o) → R (.ok (.ret d)) { s with heap := h', toks := tk }) :
    codeAny (model prog w) A (.builtin "max.loop" ⟨[.ref I, .none, .ref B], [("default", d)]⟩) R s := by
  have outw : B ∉ wr := fun h => out (W.sub _ h)
  have name : (toString "max" ++ toString ".loop" : String) = "max.loop" := by decide
  refine codeAny_builtin F.entry_max_loop ?_
  rw [Around.under_plainId F.plain_max_loop _]
  show wpAny _ A.in1 (seqItems? (.ref B) >>= _) _ _ _
  refine wpAny_bind (wpAny_seqItems there rfl ?_)
  show wpAny _ A.in1 (tryCatch (pyNext (.ref I)) _ >>= _) _ _ _
  by_cases hn : 0 < n
  · refine wpAny_bind (wpAny_tryCatch (W.item 0 s _ _ hn st fun v h' tk hP st' kept => ?_))
    have there' := kept B _ outw there
    show wpAny _ A.in1 (updateSeq B (fun _ => #[v, v]) >>= _) _ _ _
    refine wpAny_bind (wpAny_updateSeq there' rfl ?_)
    rw [name]
    refine wpAny_pure ⟨plainId_quiet F.plain_max_loop _, max_turns W bt cmp B out _ 0 _ v _ rfl hn (W.frame _ _ _ st' fun b hbf o e => ?_) hP (Heap.get?_update_self _ there' rfl) fun v' h2 tk2 hP2 kept2 => ?_⟩
    · exact (Heap.get?_update_other _ _ (fun h : B = b => out (by rw [h]; exact hbf))).trans e
    · exact some' hn v' h2 tk2 hP2 fun b o hw hB e => kept2 b o hw hB ((Heap.get?_update_other _ _ (Ne.symm hB)).trans (kept b o hw e))
  · have n0 : n = 0 := by omega
    subst n0
    refine wpAny_bind (wpAny_tryCatch (W.done s _ _ st fun h' tk kept => ?_))
    show wpAny _ A.in1 (rule _ >>= fun _ => ret d) _ _ _
    refine wpAny_bind (wpAny_rule (wpAny_pure ?_))
    exact none' rfl h' tk fun b o hw hB e => kept b o hw e
end
theorem call_max_d {prog : Program} {w : World} {A : Around} {E : Value → Shared → Prop} {s : Shared} {x d : Value} {Q : Value → Shared → Prop}
    (h : wpAny (model prog w) A.in1 (pyIter x) (fun it s2 => ∃ I fp wr n P Stt bt, it = .ref I ∧ Walks prog w A.in1 I fp wr n P Stt ∧ Stt 0 s2.heap ∧ (∀ b ∈ fp, b < s2.heap.objs.size) ∧ CmpOf prog w A.in1 .Gt P bt ∧
      (0 < n → ∀ v h' tk, P (argBest bt (n - 1)) v → (∀ b o, b ∉ wr → s2.heap.get? b = some o → h'.get? b = some o) → Q v { s2 with heap := h', toks := tk }) ∧
      (n = 0 → ∀ h' tk, (∀ b o, b ∉ wr → s2.heap.get? b = some o → h'.get? b = some o) → Q d { s2 with heap := h', toks := tk })) E s) :
    wpAny (model prog w) A (call (.builtin "max") [x] [(Str.ofString "default", d)]) Q E s := by
  have name : (toString "max" ++ toString ".loop" : String) = "max.loop" := by decide
  refine PyProof.Rows.kmk_tree F.kind_max F.plain_max F.entry_max (args_max_d x d) ?_
  show wpAny _ A.in1 (Builtin.Builtins.bindParams "max" ["key", "default"] 0 ⟨[], [(Str.ofString "default", d)]⟩ >>= _) _ _ _
  refine wpAny_bind (wpAny_of_eq (show Builtin.Builtins.bindParams "max" ["key", "default"] 0 ⟨[], [(Str.ofString "default", d)]⟩ = pure [none, some d] from rfl) ?_)
  refine wpAny_bind (wpAny_pure ?_)
  refine wpAny_bind (wpAny_mono h (fun it s2 h2 => ?_) fun _ _ e => e)
  obtain ⟨I, fp, wr, n, P, Stt, bt, rfl, W, st, hfp, cmp, q1, q2⟩ := h2
  refine wpAny_bind (wpAny_newObj_type ?_)
  have out : s2.heap.objs.size ∉ fp := fun hm => Nat.lt_irrefl _ (hfp _ hm)
  rw [name]
  refine wpAny_pure ⟨plainId_quiet F.plain_max_loop _, max_starts W bt cmp s2.heap.objs.size out (W.frame _ _ _ st fun b _ o e => Heap.get?_push_of_some _ e) (Heap.get?_push_size _ rfl) d (fun hn v h' tk hP kept => ?_) fun hn h' tk kept => ?_⟩
  · exact q1 hn v h' tk hP fun b o hw e => kept b o hw (Nat.ne_of_lt (Heap.lt_size e)) (Heap.get?_push_of_some _ e)
  · exact q2 hn h' tk fun b o hw e => kept b o hw (Nat.ne_of_lt (Heap.lt_size e)) (Heap.get?_push_of_some _ e)

/-! min(.., default = d): the loop with its keywords carried -/
theorem args_min_d (a d : Value) : argsOk "min" ⟨[a], [(Str.ofString "default", d)]⟩ := by unfold argsOk; kernel_rfl
section
variable {prog : Program} {w : World} {A : Around} {R : Result → Shared → Prop} {I : Addr} {fp wr : List Addr} {n : Nat} {P : Nat → Value → Prop} {Stt : Nat → Heap → Prop} {kws : List (Str × Value)}
theorem min_turns (W : Walks prog w A.in1 I fp wr n P Stt) (bt : Nat → Nat → Bool) (cmp : CmpOf prog w A.in1 .Lt P bt) (B : Addr) (out : B ∉ fp) :
    ∀ (left j : Nat) (s : Shared) (best : Value) (c : Nat), n - (j + 1) = left → j + 1 ≤ n → Stt (j + 1) s.heap → P (argBest bt j) best →
    s.heap.get? B = some { cls := .type "list", dict := none, data := .seq #[best, best] c, slots := #[] } →
    (∀ v h' tk, P (argBest bt (n - 1)) v → (∀ b o, b ∉ wr → b ≠ B → s.heap.get? b = some o → h'.get? b = some o) → R (.ok (.ret v)) { s with heap := h', toks := tk }) →
    codeAny (model prog w) A (.builtin "min.loop" ⟨[.ref I, .none, .ref B], kws⟩) R s := by
  have outw : B ∉ wr := fun h => out (W.sub _ h)
  have name : (toString "min" ++ toString ".loop" : String) = "min.loop" := by decide
  intro left
  induction left with
  | zero =>
    intro j s best c hl hj st hb there fin
    have at' : j + 1 = n := by omega
    refine codeAny_builtin F.entry_min_loop ?_
    rw [Around.under_plainId F.plain_min_loop _]
    show wpAny _ A.in1 (seqItems? (.ref B) >>= _) _ _ _
    refine wpAny_bind (wpAny_seqItems there rfl ?_)
    show wpAny _ A.in1 (tryCatch (pyNext (.ref I)) _ >>= _) _ _ _
    refine wpAny_bind (wpAny_tryCatch (W.done s _ _ (at' ▸ st) fun h' tk kept => ?_))
    have there' := kept B _ outw there
    show wpAny _ A.in1 (updateSeq B (fun _ => #[]) >>= _) _ _ _
    refine wpAny_bind (wpAny_updateSeq there' rfl (wpAny_bind (wpAny_letGo (wpAny_pure ?_))))
    exact fin best _ tk (by rw [← at']; exact hb) fun b o hw hB e => (Heap.get?_update_other _ _ (Ne.symm hB)).trans (kept b o hw e)
  | succ left ih =>
    intro j s best c hl hj st hb there fin
    have lt : j + 1 < n := by omega
    refine codeAny_builtin F.entry_min_loop ?_
    rw [Around.under_plainId F.plain_min_loop _]
    show wpAny _ A.in1 (seqItems? (.ref B) >>= _) _ _ _
    refine wpAny_bind (wpAny_seqItems there rfl ?_)
    show wpAny _ A.in1 (tryCatch (pyNext (.ref I)) _ >>= _) _ _ _
    refine wpAny_bind (wpAny_tryCatch (W.item (j + 1) s _ _ lt st fun v h' tk hP st' kept => ?_))
    have there' := kept B _ outw there
    show wpAny _ A.in1 (tryCatch (holding [v, v] (richCompare .Lt v best >>= _)) _ >>= _) _ _ _
    refine wpAny_bind (wpAny_tryCatch (wpAny_holding (wpAny_bind (cmp (j + 1) (argBest bt j) v best _ _ _ hP hb ?_))))
    refine wpAny_bind (wpAny_holding (wpAny_truthy_bool ?_))
    refine wpAny_bind (wpAny_letGo (wpAny_pure ?_))
    cases better : bt (j + 1) (argBest bt j) with
    | true =>
      simp only [if_true]
      refine wpAny_bind (wpAny_updateSeq there' rfl (wpAny_bind (wpAny_letGo ?_)))
      rw [name]
      refine wpAny_pure ⟨plainId_quiet F.plain_min_loop _, ih (j + 1) _ v _ (by omega) lt (W.frame _ _ _ st' fun b hbf o e => ?_) (by simp only [argBest, better, if_true]; exact hP) (Heap.get?_update_self _ there' rfl) fun v' h2 tk2 hP2 kept2 => ?_⟩
      · exact (Heap.get?_update_other _ _ (fun h : B = b => out (by rw [h]; exact hbf))).trans e
      · exact fin v' h2 tk2 hP2 fun b o hw hB e => kept2 b o hw hB ((Heap.get?_update_other _ _ (Ne.symm hB)).trans (kept b o hw e))
    | false =>
      simp only [Bool.false_eq_true, if_false]
      refine wpAny_bind (wpAny_letGo ?_)
      rw [name]
      refine wpAny_pure ⟨plainId_quiet F.plain_min_loop _, ih (j + 1) _ best c (by omega) lt st' (by simp only [argBest, better, Bool.false_eq_true, if_false]; exact hb) there' fun v' h2 tk2 hP2 kept2 => ?_⟩
      exact fin v' h2 tk2 hP2 fun b o hw hB e => kept2 b o hw hB (kept b o hw e)
theorem min_starts (W : Walks prog w A.in1 I fp wr n P Stt) (bt : Nat → Nat → Bool) (cmp : CmpOf prog w A.in1 .Lt P bt) (B : Addr) (out : B ∉ fp) {s : Shared} {c : Nat} (st : Stt 0 s.heap)
    (there : s.heap.get? B = some { cls := .type "list", dict := none, data := .seq #[] c, slots := #[] }) (d : Value)
    (some' : 0 < n → ∀ v h' tk, P (argBest bt (n - 1)) v → (∀ b o, b ∉ wr → b ≠ B → s.heap.get? b = some o → h'.get? b = some o) → R (.ok (.ret v)) { s with heap := h', toks := tk })
    (none' : n = 0 → ∀ h' tk, (∀ b o, b ∉ wr → b ≠ B → s.heap.get? b = some o → h'.get? b = some o) → R (.ok (.ret d)) { s with heap := h', toks := tk }) :
    codeAny (model prog w) A (.builtin "min.loop" ⟨[.ref I, .none, .ref B], [("default", d)]⟩) R s := by
  have outw : B ∉ wr := fun h => out (W.sub _ h)
  have name : (toString "min" ++ toString ".loop" : String) = "min.loop" := by decide
  refine codeAny_builtin F.entry_min_loop ?_
  rw [Around.under_plainId F.plain_min_loop _]
  show wpAny _ A.in1 (seqItems? (.ref B) >>= _) _ _ _
  refine wpAny_bind (wpAny_seqItems there rfl ?_)
  show wpAny _ A.in1 (tryCatch (pyNext (.ref I)) _ >>= _) _ _ _
  by_cases hn : 0 < n
  · refine wpAny_bind (wpAny_tryCatch (W.item 0 s _ _ hn st fun v h' tk hP st' kept => ?_))
    have there' := kept B _ outw there
    show wpAny _ A.in1 (updateSeq B (fun _ => #[v, v]) >>= _) _ _ _
    refine wpAny_bind (wpAny_updateSeq there' rfl ?_)
    rw [name]
    refine wpAny_pure ⟨plainId_quiet F.plain_min_loop _, min_turns W bt cmp B out _ 0 _ v _ rfl hn (W.frame _ _ _ st' fun b hbf o e => ?_) hP (Heap.get?_update_self _ there' rfl) fun v' h2 tk2 hP2 kept2 => ?_⟩
    · exact (Heap.get?_update_other _ _ (fun h : B = b => out (by rw [h]; exact hbf))).trans e
    · exact some' hn v' h2 tk2 hP2 fun b o hw hB e => kept2 b o hw hB ((Heap.get?_update_other _ _ (Ne.symm hB)).trans (kept b o hw e))
  · have n0 : n = 0 := by omega
    subst n0
    refine wpAny_bind (wpAny_tryCatch (W.done s _ _ st fun h' tk kept => ?_))
    show wpAny _ A.in1 (rule _ >>= fun _ => ret d) _ _ _
    refine wpAny_bind (wpAny_rule (wpAny_pure ?_))
    exact none' rfl h' tk fun b o hw hB e => kept b o hw e
end
theorem call_min_d {prog : Program} {w : World} {A : Around} {E : Value → Shared → Prop} {s : Shared} {x d : Value} {Q : Value → Shared → Prop}
    (h : wpAny (model prog w) A.in1 (pyIter x) (fun it s2 => ∃ I fp wr n P Stt bt, it = .ref I ∧ Walks prog w A.in1 I fp wr n P Stt ∧ Stt 0 s2.heap ∧ (∀ b ∈ fp, b < s2.heap.objs.size) ∧ CmpOf prog w A.in1 .Lt P bt ∧
      (0 < n → ∀ v h' tk, P (argBest bt (n - 1)) v → (∀ b o, b ∉ wr → s2.heap.get? b = some o → h'.get? b = some o) → Q v { s2 with heap := h', toks := tk }) ∧
      (n = 0 → ∀ h' tk, (∀ b o, b ∉ wr → s2.heap.get? b = some o → h'.get? b = some o) → Q d { s2 with heap := h', toks := tk })) E s) :
    wpAny (model prog w) A (call (.builtin "min") [x] [(Str.ofString "default", d)]) Q E s := by
  have name : (toString "min" ++ toString ".loop" : String) = "min.loop" := by decide
  refine PyProof.Rows.kmk_tree F.kind_min F.plain_min F.entry_min (args_min_d x d) ?_
  show wpAny _ A.in1 (Builtin.Builtins.bindParams "min" ["key", "default"] 0 ⟨[], [(Str.ofString "default", d)]⟩ >>= _) _ _ _
  refine wpAny_bind (wpAny_of_eq (show Builtin.Builtins.bindParams "min" ["key", "default"] 0 ⟨[], [(Str.ofString "default", d)]⟩ = pure [none, some d] from rfl) ?_)
  refine wpAny_bind (wpAny_pure ?_)
  refine wpAny_bind (wpAny_mono h (fun it s2 h2 => ?_) fun _ _ e => e)
  obtain ⟨I, fp, wr, n, P, Stt, bt, rfl, W, st, hfp, cmp, q1, q2⟩ := h2
  refine wpAny_bind (wpAny_newObj_type ?_)
  have out : s2.heap.objs.size ∉ fp := fun hm => Nat.lt_irrefl _ (hfp _ hm)
  rw [name]
  refine wpAny_pure ⟨plainId_quiet F.plain_min_loop _, min_starts W bt cmp s2.heap.objs.size out (W.frame _ _ _ st fun b _ o e => Heap.get?_push_of_some _ e) (Heap.get?_push_size _ rfl) d (fun hn v h' tk hP kept => ?_) fun hn h' tk kept => ?_⟩
  · exact q1 hn v h' tk hP fun b o hw e => kept b o hw (Nat.ne_of_lt (Heap.lt_size e)) (Heap.get?_push_of_some _ e)
  · exact q2 hn h' tk fun b o hw e => kept b o hw (Nat.ne_of_lt (Heap.lt_size e)) (Heap.get?_push_of_some _ e)
end PySem

end
section
set_option Elab.async false
set_option linter.all false
set_option maxRecDepth 100000
set_option autoImplicit false
namespace Z
open PySem PySem.Spec L2

section
variable {X : Cx} {C : Nat → Addr} {pos : Pos} {a b c e : Expr} {ma mb mc me : EM}

/-! ### a chain of two comparisons -/
theorem ch_of {K : PySem.W.Frag} {f f' : D → D → Sto → Option (D × Sto)} {σ : St} {H : Hp} {Q : VK} (h : tE K C (mCh f f' ma mb mc) σ H Q) : tChain (rD K C f) (rD K C f') (tE K C ma) (tE K C mb) (tE K C mc) σ H Q := by
  obtain ⟨g, σd, st, d, st', rl, rs, e, k⟩ := h
  obtain ⟨⟨x, st1⟩, e1, e⟩ := bind_some e
  obtain ⟨⟨y, st2⟩, e2, e⟩ := bind_some e
  obtain ⟨⟨z, st3⟩, e3, e⟩ := bind_some e
  refine ⟨g, σd, st, x, st1, rl, rs, e1, fun g1 H1 v1 x1 rl1 r1 => ?_⟩
  refine ⟨g1, σd, st1, y, st2, rl1, rs.mono x1, e2, fun g2 H2 v2 x2 rl2 r2 => ?_⟩
  refine ⟨g2, x, y, st2, z, st3, rl2, r1.up x2, r2, e3, fun g3 H3 v3 x3 rl3 r3 => ?_⟩
  cases z with
  | bl q =>
    refine ⟨q, r3, ?_⟩
    cases q with
    | true =>
      obtain ⟨⟨w, st4⟩, e4, e⟩ := bind_some (show (mc σd st3).bind _ = some (d, st') from e)
      rw [if_pos rfl]
      refine ⟨g3, σd, st3, w, st4, rl3, rs.mono (x1.trans (x2.trans x3)), e4, fun g4 H4 v4 x4 rl4 r4 => ?_⟩
      exact ⟨g4, y, w, st4, d, st', rl4, r2.up (x3.trans x4), r4, e, fun g5 H5 v5 x5 rl5 r5 => k g5 H5 v5 (x1.trans (x2.trans (x3.trans (x4.trans x5)))) rl5 r5⟩
    | false =>
      rw [if_neg Bool.false_ne_true]
      cases e
      exact k g3 H3 _ (x1.trans (x2.trans x3)) rl3 rfl
  | _ => cases e
theorem s_ch {op op' : CmpOp} {f f' : D → D → Sto → Option (D × Sto)} (ho : SOp X C (compareOp op) f) (ho' : SOp X C (compareOp op') f') (ha : SE X C a ma) (hb : SE X C b mb) (hc : SE X C c mc) (hm : lastMarks [op, op'] [b, c] = false := by rfl) : SE X C (.Compare a [op, op'] [b, c] pos) (mCh f f' ma mb mc) :=
  PE.weak (pe_chain ho ho' ha hb hc hm) fun _ _ _ h => ch_of h
theorem t_ch {op op' : CmpOp} {f f' : D → D → Sto → Option (D × Sto)} (ho : SOp X C (compareOp op) f) (ho' : SOp X C (compareOp op') f') (ha : SE X C a ma) (hb : SE X C b mb) (hc : SE X C c mc) (hm : lastMarks [op, op'] [b, c] = false := by rfl) : ST X C (.Compare a [op, op'] [b, c] pos) (toB (mCh f f' ma mb mc)) :=
  PT.weak (pt_chain ho ho' ha hb hc hm) fun _ _ _ h => ch_of (of_test h)

/-! ### in, not in -/
def inL (a : D) (ds : List D) : Option Bool := (pyD a).bind fun p => (pyDs ds).bind fun qs => if (SeqAt.shaped p && PyData.canLayAll0 qs) = true then some (qs.any fun z => PyData.eqv z p) else none
def inD (a b : D) (st : Sto) : Option Bool := match b with
  | .tup ds => inL a ds
  | .dic ks _ => (keyD a).bind fun k => some (ks.any fun q => decide (q = k))
  | .ref i => match st[i]? with
    | some (.dic ks _) => (keyD a).bind fun k => some (ks.any fun q => decide (q = k))
    | some (.lst ds) => inL a ds
    | _ => none
  | .lst ds => inL a ds
  | .sq ds => inL a ds
  | _ => none
def oIn (a b : D) (st : Sto) : Option (D × Sto) := (inD a b st).bind fun q => some (.bl q, st)
def oNotIn (a b : D) (st : Sto) : Option (D × Sto) := (inD a b st).bind fun q => some (.bl (!q), st)
theorem any_key : ∀ {kvs : List (Key × V)} {k : Key}, (valV kvs k).isSome = ((kvs.map (·.1)).any fun q => decide (q = k))
  | [], _ => rfl
  | p :: r, k => by
    by_cases h : p.1 = k
    · rw [valV_pos h]; simp [h]
    · rw [valV_neg h, any_key]; simp [h]
theorem in_run {nt : Bool} {op : CmpOp} (hop : op = if nt then .NotIn else .In) (hu : X.A.units + 65 < cLine) : SOp X C (compareOp op) (fun a b st => (inD a b st).bind fun q => some (.bl (if nt then !q else q), st)) := by
  intro pins s σ H x y v u Q I rx ry hh
  obtain ⟨g, dx, dy, st, d, st', rl, r1, r2, e, k⟩ := hh
  obtain ⟨q, e1, e⟩ := bind_some e
  cases e
  have fin : ∀ {s' : Shared}, Inv X pins σ H s' → EP X pins σ Q (.bool (if nt then !q else q)) s' := fun {s'} I' => ⟨.bl _, H, I', rfl, k g H _ (GExt.refl g) rl rfl⟩
  have tups : ∀ {ds : List D} {p : Addr} {xs : List V}, y = .ref p → SqT X.K H p xs → Reps X.K C g ds xs → inL dx ds = some q → wpAny (model X.prog X.w) X.A (compareOp op v u) (EP X pins σ Q) X.xe s := fun {ds p xs} ey hs hr hi => by
    obtain ⟨dp, e2, hi⟩ := bind_some hi
    obtain ⟨qs, e3, hi⟩ := bind_some hi
    split at hi
    · rename_i hz
      rw [Bool.and_eq_true] at hz
      cases hi
      obtain ⟨as, ra⟩ := Dp.reads I dp x v (Rep.dp rl.sub _ _ _ r1 e2) rx
      obtain ⟨bs, rb⟩ := Dp.reads I (.tuple qs) y u (by rw [ey]; exact .tup hs (Reps.dp rl.sub _ _ _ hr e3)) ry
      subst hop
      cases nt with
      | false => exact SeqAt.in_tuple_reads rb ra hz.2 (SeqAt.canLay_of_shaped hz.1) (PyProof.Rows.room_in_shaped hz.1 hu) (fin I)
      | true => exact SeqAt.notIn_tuple_reads rb ra hz.2 (SeqAt.canLay_of_shaped hz.1) (PyProof.Rows.room_in_shaped hz.1 hu) (fin I)
    · cases hi
  have lists : ∀ {ds : List D} {p : Addr} {xs : List V}, y = .ref p → SqL X.K H p xs → Reps X.K C g ds xs → inL dx ds = some q → wpAny (model X.prog X.w) X.A (compareOp op v u) (EP X pins σ Q) X.xe s := fun {ds p xs} ey hs hr hi => by
    obtain ⟨dp, e2, hi⟩ := bind_some hi
    obtain ⟨qs, e3, hi⟩ := bind_some hi
    split at hi
    · rename_i hz
      rw [Bool.and_eq_true] at hz
      cases hi
      obtain ⟨as, ra⟩ := Dp.reads I dp x v (Rep.dp rl.sub _ _ _ r1 e2) rx
      obtain ⟨bs, rb⟩ := Dp.reads I (.list qs) y u (by rw [ey]; exact .lst hs (Reps.dp rl.sub _ _ _ hr e3)) ry
      subst hop
      cases nt with
      | false => exact SeqAt.in_list_reads rb ra hz.2 (SeqAt.canLay_of_shaped hz.1) (PyProof.Rows.room_in_shaped hz.1 hu) (fin I)
      | true => exact SeqAt.notIn_list_reads rb ra hz.2 (SeqAt.canLay_of_shaped hz.1) (PyProof.Rows.room_in_shaped hz.1 hu) (fin I)
    · cases hi
  have dics : ∀ {ks : List Key} {p : Addr} {kvs : List (Key × V)}, y = .ref p → H p = some (.dK kvs) → kvs.map (·.1) = ks → ((keyD dx).bind fun k => some (ks.any fun q => decide (q = k))) = some q → wpAny (model X.prog X.w) X.A (compareOp op v u) (EP X pins σ Q) X.xe s := fun {ks p kvs} ey hd hk hi => by
    obtain ⟨key, e2, hi⟩ := bind_some hi
    cases hi
    subst hk
    rw [← any_key] at fin
    subst ey
    cases (show u = Value.ref p from ry)
    have ex := keyD_of r1 e2
    subst ex
    subst hop
    cases nt with
    | false => exact d_in (by omega) I (DGet.k hd) rx fun s' I' => fin I'
    | true => exact d_notIn (by omega) I (DGet.k hd) rx fun s' I' => fin I'
  cases dy with
  | tup ds => obtain ⟨p, xs, ey, h1, h2⟩ := r2; exact tups ey (sqTMono rl.sub h1) h2 e1
  | lst ds => obtain ⟨p, xs, ey, h1, h2⟩ := r2; exact lists ey (.inl (.inl (rl.sub _ _ h1))) h2 e1
  | sq ds => obtain ⟨p, xs, ey, h1, h2⟩ := r2; exact lists ey (sqLMono rl.sub h1) h2 e1
  | dic ks vs => obtain ⟨p, kvs, ey, h1, h2, h3⟩ := r2; exact dics ey (rl.sub _ _ h1) h2 e1
  | ref i =>
    obtain ⟨p, h1, ey⟩ := r2
    simp only [inD] at e1
    split at e1
    · rename_i ks vs e2
      obtain ⟨_, kvs, k2, k3, k4⟩ := rl.obj i _ p e2 h1
      exact dics ey k2 k3 e1
    · rename_i ds e2
      obtain ⟨_, xs, k2, k3⟩ := rl.obj i _ p e2 h1
      exact lists ey (.inl (.inl k2)) k3 e1
    · cases e1
  | _ => cases e1
theorem sIn (hu : X.A.units + 65 < cLine) : SOp X C (compareOp .In) oIn := in_run (nt := false) rfl hu
theorem sNotIn (hu : X.A.units + 65 < cLine) : SOp X C (compareOp .NotIn) oNotIn := in_run (nt := true) rfl hu

/-! ### repr -/
def keyP : Key → PyData
  | .inl i => .int i
  | .inr x => .str x
mutual
/-- as data, with dicts -/
def px : D → Option PyData
  | .non => some .none
  | .bl b => some (.bool b)
  | .int i => some (.int i)
  | .str x => some (.str x)
  | .tup ds => (pxs ds).bind fun xs => some (.tuple xs)
  | .lst ds => (pxs ds).bind fun xs => some (.list xs)
  | .dic ks vs => if ks.length = vs.length then (pxs vs).bind fun ps => some (.dict ((ks.map keyP).zip ps)) else none
  | _ => none
def pxs : List D → Option (List PyData)
  | [] => some []
  | d :: ds => (px d).bind fun x => (pxs ds).bind fun xs => some (x :: xs)
end
section
variable {pins : List (Addr × Obj)} {σ : St} {H : Hp} {s : Shared} {g : Gh}
theorem not_sys (I : Inv X pins σ H s) (hb : ∃ o, X.base.get? sysModules = some o) {a : Addr} {o : HO} (h : H a = some o) : sysModules ≠ a := by
  intro e
  subst e
  obtain ⟨ob, hb⟩ := hb
  rw [(I.bs _ _ hb).2] at h
  cases h
theorem pxs_len : ∀ {ds : List D} {ps : List PyData}, pxs ds = some ps → ps.length = ds.length
  | [], ps, e => by simp only [pxs] at e; cases e; rfl
  | d :: ds, ps, e => by
    simp only [pxs] at e
    obtain ⟨x, e1, e⟩ := bind_some e
    obtain ⟨xs, e2, e⟩ := bind_some e
    cases e
    simp [pxs_len e2]
theorem key_reads1 {h : Heap} {k : Key} {v : Value} (e : keyIs k v = true) : Reads h v (keyP k) [] := by
  cases k with
  | inl i =>
    cases v <;> simp [keyIs, Value.isInt] at e
    subst e
    exact Reads.int _ _
  | inr x =>
    cases v <;> simp [keyIs, Value.isStrOf] at e
    subst e
    exact Reads.str _ _
theorem pairs_keys {P : Program} {w : World} {h : Heap} : ∀ {l : List DictEntry} {vs : List (Key × Value)}, Pairs (mixKind P w) l vs → ReadsAll h (l.map (·.key)) (vs.map fun kv => keyP kv.1) [] ∧ l.map (·.val) = vs.map (·.2)
  | _, _, .nil => ⟨.nil, rfl⟩
  | _, _, .cons e1 e2 r => by
    obtain ⟨q1, q2⟩ := pairs_keys (h := h) r
    exact ⟨ReadsAll.cons (key_reads1 e1) q1, by simp [e2, q2]⟩
theorem kv_vals : ∀ {kvs : List (Key × V)} {vs : List (Key × Value)}, KV kvs vs → kvs.map (·.1) = vs.map (·.1) ∧ Vals (kvs.map (·.2)) (vs.map (·.2))
  | _, _, .nil => ⟨rfl, .nil⟩
  | _, _, .cons e r => by
    obtain ⟨q1, q2⟩ := kv_vals r
    exact ⟨by simp [e.1, q1], .cons e.2 q2⟩
mutual
theorem Rep.reads (I : Inv X pins σ H s) (hb : ∃ o, X.base.get? sysModules = some o) (hs : ∀ a o, g.F a = some o → H a = some o) : ∀ (d : D) (v : V) (u : Value) (p : PyData), Rep X.K C g d v → RelV v u → px d = some p → ∃ as, Reads s.heap u p as ∧ sysModules ∉ as
  | .non, v, u, p, h, r, e => by
    cases (show v = .non from h)
    simp only [px] at e
    cases e
    cases r
    exact ⟨_, Reads.none, List.not_mem_nil⟩
  | .bl b, v, u, p, h, r, e => by
    cases (show v = .bl b from h)
    simp only [px] at e
    cases e
    cases r
    exact ⟨_, Reads.bool b, List.not_mem_nil⟩
  | .int i, v, u, p, h, r, e => by
    cases (show v = .int i from h)
    simp only [px] at e
    cases e
    obtain ⟨t, rfl⟩ := r
    exact ⟨_, Reads.int i t, List.not_mem_nil⟩
  | .str x, v, u, p, h, r, e => by
    cases (show v = .str x from h)
    simp only [px] at e
    cases e
    obtain ⟨t, rfl⟩ := r
    exact ⟨_, Reads.str x t, List.not_mem_nil⟩
  | .tup ds, v, u, p, h, r, e => by
    simp only [px] at e
    obtain ⟨ps, e1, e⟩ := bind_some e
    cases e
    obtain ⟨a, xs, rfl, h1, h2⟩ := h
    cases r
    obtain ⟨its, rv, ⟨o, ho, hc, n, hd⟩, _⟩ := I.tuple (sqTMono hs h1)
    obtain ⟨as, hr, hn⟩ := Reps.reads I hb hs ds xs its ps h2 rv e1
    exact ⟨_, Reads.tuple ho hc hd hr, hn⟩
  | .lst ds, v, u, p, h, r, e => by
    simp only [px] at e
    obtain ⟨ps, e1, e⟩ := bind_some e
    cases e
    obtain ⟨a, xs, rfl, h1, h2⟩ := h
    cases r
    obtain ⟨its, rv, ⟨o, n, ho, hc, _, hd⟩, _⟩ := I.list (.inl (.inl (hs _ _ h1)))
    obtain ⟨as, hr, hn⟩ := Reps.reads I hb hs ds xs its ps h2 rv e1
    refine ⟨_, Reads.list ho hc hd hr, fun hm => ?_⟩
    rcases List.mem_cons.mp hm with hm | hm
    · exact not_sys I hb (hs _ _ h1) hm
    · exact hn hm
  | .dic ks ds, v, u, p, h, r, e => by
    simp only [px] at e
    split at e
    case isFalse => cases e
    rename_i hl
    obtain ⟨ps, e1, e⟩ := bind_some e
    cases e
    obtain ⟨a, kvs, rfl, h1, h2, h3⟩ := h
    cases r
    obtain ⟨_, _, vs, rel, o, es, ep, ho, hx, hd, _, hp, _⟩ := dk_of I.hok (hs _ _ h1)
    obtain ⟨k1, k2⟩ := kv_vals rel
    obtain ⟨p1, p2⟩ := pairs_keys (h := s.heap) hp
    obtain ⟨as, hr, hn⟩ := Reps.reads I hb hs ds _ _ ps h3 k2 e1
    have hlp := pxs_len e1
    have m1 : ((ks.map keyP).zip ps).map (fun x => x.1) = vs.map fun kv => keyP kv.1 := by
      rw [List.map_fst_zip (by rw [List.length_map]; omega), ← h2, k1, List.map_map]; rfl
    have m2 : ((ks.map keyP).zip ps).map (fun x => x.2) = ps := List.map_snd_zip (by rw [List.length_map]; omega)
    refine ⟨_, Reads.dict (kvs := (ks.map keyP).zip ps) ho hx.1 hd (by rw [m1]; exact p1) (by rw [m2, p2]; exact hr), fun hm => ?_⟩
    rcases List.mem_append.mp hm with hm | hm
    · rcases List.mem_cons.mp hm with hm | hm
      · exact not_sys I hb (hs _ _ h1) hm
      · cases hm
    · exact hn hm
  | .sq _, v, u, p, h, r, e => by simp [px] at e
  | .obj _ _ _, v, u, p, h, r, e => by simp [px] at e
  | .ref _, v, u, p, h, r, e => by simp [px] at e
theorem Reps.reads (I : Inv X pins σ H s) (hb : ∃ o, X.base.get? sysModules = some o) (hs : ∀ a o, g.F a = some o → H a = some o) : ∀ (ds : List D) (vs : List V) (us : List Value) (ps : List PyData), Reps X.K C g ds vs → Vals vs us → pxs ds = some ps → ∃ as, ReadsAll s.heap us ps as ∧ sysModules ∉ as
  | [], vs, us, ps, h, r, e => by
    cases (show vs = [] from h)
    simp only [pxs] at e
    cases e
    cases r
    exact ⟨_, ReadsAll.nil, List.not_mem_nil⟩
  | d :: ds, vs, us, ps, h, r, e => by
    simp only [pxs] at e
    obtain ⟨x, e1, e⟩ := bind_some e
    obtain ⟨xs, e2, e⟩ := bind_some e
    cases e
    obtain ⟨v, ws, rfl, h1, h2⟩ := h
    cases r with
    | cons r1 r2 =>
      obtain ⟨as, q1, n1⟩ := Rep.reads I hb hs d v _ x h1 r1 e1
      obtain ⟨bs, q2, n2⟩ := Reps.reads I hb hs ds ws _ xs h2 r2 e2
      refine ⟨_, ReadsAll.cons q1 q2, fun hm => ?_⟩
      rcases List.mem_append.mp hm with hm | hm
      · exact n1 hm
      · exact n2 hm
end
end
def bRepr (ds : List D) (st : Sto) : Option (D × Sto) := match ds with
  | [d] => (px d).bind fun p => if (p.showable && decide (p.depth ≤ 60) && decide (p.shown.length ≤ sizeLine)) = true then some (.str p.shown, st) else none
  | _ => none
theorem cRepr {k : Nat} (hr : RoomG k X.A) (hb : ∃ o, X.base.get? sysModules = some o) : SC X C (.builtin "repr") bRepr := by
  intro pins s σ H vs us Q I r hh
  obtain ⟨g, ds, st, d, st', rl, r1, e, kk⟩ := hh
  match ds, e with
  | [y], e =>
    obtain ⟨v, rfl, r2⟩ := r1.one
    obtain ⟨p, e1, e⟩ := bind_some e
    split at e
    · rename_i hz
      simp only [Bool.and_eq_true, decide_eq_true_eq] at hz
      obtain ⟨⟨h2, h4⟩, h5⟩ := hz
      cases e
      obtain ⟨u, rfl, ru⟩ := vals1 r
      obtain ⟨as, rd, hn⟩ := Rep.reads I hb rl.sub y v u p r2 ru e1
      have hu := hr.room.units
      have fin : ∀ {s' : Shared}, Inv X pins σ H s' → ∀ t, EP X pins σ Q (.str p.shown t) s' := fun {s'} I' t => ⟨.str _, H, I', ⟨_, rfl⟩, kk g H _ (GExt.refl g) rl rfl⟩
      cases y with
      | non =>
        cases e1
        cases (show v = .non from r2)
        cases ru
        exact PySem.P.repr_of_none (fin (I.tok _) _)
      | bl b =>
        cases e1
        cases (show v = .bl b from r2)
        cases ru
        exact PySem.P.repr_of_bool (fin (I.tok _) _)
      | int i =>
        cases e1
        cases (show v = .int i from r2)
        obtain ⟨t, rfl⟩ := ru
        exact PySem.P.repr_of_int (by simpa [PyData.showable] using h2) (fin (I.tok _) _)
      | str x =>
        cases e1
        cases (show v = .str x from r2)
        obtain ⟨t, rfl⟩ := ru
        exact PySem.P.repr_of_str (fin (I.tok _) _) h5
      | tup ds =>
        obtain ⟨a, xs, rfl, _, _⟩ := r2
        cases ru
        exact repr_of_reads' rd h2 (fun _ => hn) hr.guards (by omega) (fun _ _ q => q) (fun h' u tk hk => fin (I.kept hk) u) h5
      | lst ds =>
        obtain ⟨a, xs, rfl, _, _⟩ := r2
        cases ru
        exact repr_of_reads' rd h2 (fun _ => hn) hr.guards (by omega) (fun _ _ q => q) (fun h' u tk hk => fin (I.kept hk) u) h5
      | dic ks vs =>
        obtain ⟨a, xs, rfl, _, _⟩ := r2
        cases ru
        exact repr_of_reads' rd h2 (fun _ => hn) hr.guards (by omega) (fun _ _ q => q) (fun h' u tk hk => fin (I.kept hk) u) h5
      | _ => simp [px] at e1
    · cases e

/-! ### more that is walked -/
def iEnD (a : Ev (List D)) : Ev (List D) := fun σ st => (a σ st).bind fun p => match p.1 with
  | [d] => match d with
    | .lst ds => some (enumD 0 ds, p.2)
    | .sq ds => some (enumD 0 ds, p.2)
    | _ => none
  | _ => none
theorem it_enum {K : PySem.W.Frag} {g : Gh} {a : Addr} {xs : List V} {ds : List D} (h1 : SqL K g.F a xs) (h2 : Reps K C g ds xs) : ItOk K C (Ite K a) (enumD 0 ds) g := fun i g' H' st' x' rl' => by
  have hs := sqLMono rl'.sub (sqLMono x'.F h1)
  refine ⟨fun d hd => ?_, fun hl => ⟨xs, hs, by rw [← h2.length]; rw [enumD_len] at hl; exact hl⟩⟩
  rw [enumD_get] at hd
  cases hy : ds[i]? with
  | none => rw [hy] at hd; cases hd
  | some y =>
    rw [hy] at hd
    cases hd
    obtain ⟨v, hv, rv⟩ := (h2.upL x').get hy
    refine ⟨⟨xs, v, hs, hv⟩, fun z H2 ⟨T, w, ez, nT, eH, hw⟩ => ?_⟩
    subst ez eH
    have := hw xs hs
    rw [hv] at this
    cases this
    obtain ⟨x2, rl2⟩ := rl'.freeze1 (o := .tup [.int (i : Nat), v]) nT
    exact ⟨_, x2, rl2, T, _, rfl, .inl (.inl upd_same), .cons (by show V.int _ = V.int _; simp) (.cons (rv.up x2) rfl)⟩
theorem si_enum {es : List Expr} {kk : Nat} {tpos p : Pos} {mas : Ev (List D)} (hg : Gl X "enumerate") (hm : X.mg "enumerate" = none) (ha : SA X C [e] mas) (hs : starEach [e] X.env = [(false, eval e X.env)] := by rfl) :
    SI X C (.Tuple es kk tpos) (.Call (.Name "enumerate" p) [e] [] pos) (iEnD mas) := PI.weak (pi_enum hg hm ha hs) fun σ H R q => by
  obtain ⟨g, σd, st, ds, st', rl, rs, e, k⟩ := q
  obtain ⟨⟨es, st1⟩, e1, e⟩ := bind_some e
  refine ⟨g, σd, st, es, st1, rl, rs, e1, fun g1 H1 vs x1 rl1 r1 => ?_⟩
  match es, e with
  | [y], e =>
    obtain ⟨v, rfl, r2⟩ := r1.one
    cases y with
    | lst ys =>
      cases e
      obtain ⟨a, xs, rfl, h1, h2⟩ := r2
      have h1 : SqL X.K g1.F a xs := .inl (.inl h1)
      exact ⟨a, xs, rfl, sqLMono rl1.sub h1, k g1 H1 _ x1 rl1 (it_enum h1 h2)⟩
    | sq ys =>
      cases e
      obtain ⟨a, xs, rfl, h1, h2⟩ := r2
      exact ⟨a, xs, rfl, sqLMono rl1.sub h1, k g1 H1 _ x1 rl1 (it_enum h1 h2)⟩
    | _ => cases e
def strD (x : Str) : List D := x.cps.toList.map fun c => D.str ⟨#[c]⟩
def iStD (a : EM) : Ev (List D) := fun σ st => (a σ st).bind fun p => match p.1 with
  | .str x => some (strD x, p.2)
  | _ => none
theorem si_str {tg : Expr} (h : SE X C e me) : SI X C tg e (iStD me) := PI.weak (pi_str h) fun σ H R q => by
  obtain ⟨g, σd, st, ds, st', rl, rs, e, k⟩ := q
  obtain ⟨⟨x, st1⟩, e1, e⟩ := bind_some e
  refine ⟨g, σd, st, x, st1, rl, rs, e1, fun g1 H1 v x1 rl1 r1 => ?_⟩
  cases x with
  | str z =>
    cases e
    refine ⟨z, r1, k g1 H1 _ x1 rl1 fun i g' H' st' x' rl' => ⟨fun d hd => ?_, fun hl => ?_⟩⟩
    · unfold strD at hd
      rw [List.getElem?_map] at hd
      cases hc : z.cps.toList[i]? with
      | none => rw [hc] at hd; cases hd
      | some c =>
        rw [hc] at hd
        cases hd
        have hc' : z.cps[i]? = some c := by simpa using hc
        refine ⟨(Array.getElem?_eq_some_iff.mp hc').1, fun y H2 ⟨eH, c2, q1, q2⟩ => ?_⟩
        subst eH
        rw [hc'] at q1
        cases q1
        exact ⟨g', GExt.refl g', rl', q2⟩
    · show z.cps.size ≤ i
      unfold strD at hl
      simpa using hl
  | _ => cases e
/-- range by a step -/
def rgN (i j c : Int) : Nat := (Builtin.Range.rangeSize i j c).toNat
def iRg3 (a : Ev (List D)) : Ev (List D) := fun σ st => (a σ st).bind fun p => match p.1 with
  | [.int i, .int j, .int c] => if (decide (c ≠ 0) && decide (c.natAbs < 1073741824) && Builtin.Range.small i j c && decide (Builtin.Range.rangeSize i j c = (rgN i j c : Int))) = true then some (stepD i c (rgN i j c), p.2) else none
  | _ => none
theorem it_step (K : PySem.W.Frag) (lo c : Int) (n : Nat) (g : Gh) : ItOk K C (Itc lo c n) (stepD lo c n) g := fun i g' H' st' x' rl' => by
  refine ⟨fun d hd => ?_, fun hl => ?_⟩
  · unfold stepD at hd
    rw [List.getElem?_map] at hd
    have hi : i < n := by
      by_cases hi : i < n
      · exact hi
      · rw [List.getElem?_eq_none (by simpa using hi)] at hd; cases hd
    rw [List.getElem?_range hi] at hd
    cases hd
    exact ⟨hi, fun y H2 ⟨e1, e2⟩ => by subst e1; exact ⟨g', GExt.refl g', rl', e2⟩⟩
  · show n ≤ i
    unfold stepD at hl
    simpa using hl
theorem si_range3 {tg : Expr} {p : Pos} {mas : Ev (List D)} (hg : Gl X "range") (hm : X.mg "range" = none) (ha : SA X C [a, b, c] mas)
    (hs : starEach [a, b, c] X.env = (false, eval a X.env) :: starEach [b, c] X.env := by rfl) (hpl : (backTo pos (starEach [b, c] X.env)).any (·.1) = false := by rfl) : SI X C tg (.Call (.Name "range" p) [a, b, c] [] pos) (iRg3 mas) :=
  PI.weak (pi_range3 hg hm ha hs hpl) fun σ H R q => by
  obtain ⟨g, σd, st, ds, st', rl, rs, e, k⟩ := q
  obtain ⟨⟨es, st1⟩, e1, e⟩ := bind_some e
  refine ⟨g, σd, st, es, st1, rl, rs, e1, fun g1 H1 vs x1 rl1 r1 => ?_⟩
  match es, e with
  | [.int i, .int j, .int z], e =>
    have e : (if (decide (z ≠ 0) && decide (z.natAbs < 1073741824) && Builtin.Range.small i j z && decide (Builtin.Range.rangeSize i j z = (rgN i j z : Int))) = true then some (stepD i z (rgN i j z), st1) else none) = some (ds, st') := e
    split at e
    · rename_i hz
      simp only [Bool.and_eq_true, decide_eq_true_eq] at hz
      cases e
      obtain ⟨v, ws, rfl, q1, q2⟩ := r1
      obtain ⟨w, u, rfl, q3, q4⟩ := Reps.two q2
      cases (show v = .int i from q1)
      cases (show w = .int j from q3)
      cases (show u = .int z from q4)
      exact ⟨i, j, z, _, rfl, ⟨hz.1.1.1, hz.1.1.2, hz.1.2, hz.2⟩, k g1 H1 _ x1 rl1 (it_step _ i z _ _)⟩
    · cases e
end
end Z

end
section
set_option Elab.async false
set_option linter.all false
set_option maxRecDepth 100000
set_option autoImplicit false
namespace Z
open PySem PySem.Spec L2

/-! ### classes -/
def fldD : List Str → List D → Str → Option D
  | n :: ns, d :: ds, f => match f == n with
    | true => some d
    | false => fldD ns ds f
  | _, _, _ => none
def putFN (f : Str) : List Str → List Str
  | [] => [f]
  | g :: r => if g = f then g :: r else g :: putFN f r
def putFD (f : Str) (d : D) : List Str → List D → List D
  | g :: r, x :: xs => if g = f then d :: xs else x :: putFD f d r xs
  | _, _ => [d]
section
variable {K : PySem.W.Frag} {C : Nat → Addr} {g : Gh}
theorem fldD_of : ∀ {fs : List (Str × V)} {vs : List D} {f : Str} {d : D}, Reps K C g vs (fs.map (·.2)) → fldD (fs.map (·.1)) vs f = some d → ∃ v, fs.lookup f = some v ∧ Rep K C g d v
  | [], [], _, _, _, e => by cases e
  | [], _ :: _, _, _, _, e => by cases e
  | (n, x) :: r, [], _, _, h, _ => by cases h
  | (n, x) :: r, y :: ys, f, d, h, e => by
    obtain ⟨v, w, h0, h1, h2⟩ := h
    cases h0
    rw [List.lookup_cons]
    simp only [List.map_cons, fldD] at e
    cases hf : f == n with
    | true => rw [hf] at e; cases e; exact ⟨_, rfl, h1⟩
    | false => rw [hf] at e; exact fldD_of h2 e
theorem putFN_of (f : Str) (v : V) : ∀ fs : List (Str × V), (putF f v fs).map (·.1) = putFN f (fs.map (·.1))
  | [] => rfl
  | (g, x) :: r => by
    by_cases h : g = f
    · simp [putF, putFN, h]
    · simp [putF, putFN, h, putFN_of f v r]
theorem putFD_of {f : Str} {v : V} {d : D} (q : Rep K C g d v) : ∀ {fs : List (Str × V)} {vs : List D}, Reps K C g vs (fs.map (·.2)) → Reps K C g (putFD f d (fs.map (·.1)) vs) ((putF f v fs).map (·.2))
  | [], [], _ => .cons q rfl
  | [], _ :: _, h => by obtain ⟨_, _, h0, _⟩ := h; cases h0
  | _ :: _, [], h => by cases h
  | (n, x) :: r, y :: ys, h => by
    obtain ⟨z, w, h0, h1, h2⟩ := h
    cases h0
    by_cases e : n = f
    · simp only [putF, List.map_cons, putFD, e, if_true]
      exact .cons q h2
    · simp only [putF, List.map_cons, putFD, e, if_false]
      exact .cons h1 (putFD_of q h2)
end
/-- e.f -/
def oFld (cs : List Nat) (f : Str) (a : D) (st : Sto) : Option (D × Sto) := match a with
  | .obj c ns vs => if cs.contains c = true then (fldD ns vs f).bind fun d => some (d, st) else none
  | .ref i => match st[i]? with
    | some (.obj c ns vs) => if cs.contains c = true then (fldD ns vs f).bind fun d => some (d, st) else none
    | _ => none
  | _ => none
def mFld (cs : List Nat) (f : Str) (a : EM) : EM := fun σ st => (a σ st).bind fun p => oFld cs f p.1 p.2
/-- o.f = value -/
def oFldS (cs : List Nat) (f : Str) (x o : D) (st : Sto) : Option Sto := match o with
  | .ref i => match st[i]? with
    | some (.obj c ns vs) => if (cs.contains c && decide (ns.length < 1000)) = true then some (st.set i (.obj c (putFN f ns) (putFD f x ns vs))) else none
    | _ => none
  | _ => none
def mFldS (cs : List Nat) (f : Str) (mo mv : EM) : SM := fun σ st => (mv σ st).bind fun p => (mo σ p.2).bind fun q => (oFldS cs f p.1 q.1 q.2).bind fun r => some (.nx, σ, r)
/-- C(..) -/
def mMake (c : Nat) (m : FM) (a : Ev (List D)) : EM := fun σ st => (a σ st).bind fun p => (m (.ref p.2.length :: p.1) (p.2 ++ [.obj c [] []])).bind fun r => match r.1 with
  | .non => some (.ref p.2.length, r.2)
  | _ => none
def mIceO (a : EM) : EM := fun σ st => (a σ st).bind fun p => match p.1 with
  | .ref i => match p.2[i]? with
    | some (.obj c ns vs) => some (.obj c ns vs, p.2.set i .dead)
    | _ => none
  | _ => none
section
variable {X : Cx} {C : Nat → Addr} {CX : CXT} {k : Nat} {f : Addr} {fd : FuncData} {ps : List Str} {m : FM} {x nm : Str} {p pos pos' apos : Pos} {e o value : Expr} {es : List Expr} {ma : Ev (List D)} {me mo mv : EM} {cs : List Nat}
theorem s_fld (hc : ∀ c ∈ cs, Cls X.K (C c) ∧ NoAttr X.K (C c) nm) (h : SE X C e me) (hb : attributeBase e nm X.env (eval e X.env) = eval e X.env := by rfl) : SE X C (.Attribute e nm pos) (mFld cs nm me) := by
  refine PE.weak (pe_fld h hb) fun σ H Q h => ?_
  obtain ⟨g, σd, st, d, st', rl, rs, e, k⟩ := h
  obtain ⟨⟨y, st1⟩, e1, e⟩ := bind_some e
  refine ⟨g, σd, st, y, st1, rl, rs, e1, fun g1 H1 v x1 rl1 r1 => ?_⟩
  cases y with
  | obj c ns vs =>
    simp only [oFld] at e
    split at e
    · rename_i hz
      obtain ⟨z, e2, e⟩ := bind_some e
      cases e
      obtain ⟨a, dx, fs, rfl, k1, k2, k3, k4⟩ := r1
      subst k3
      obtain ⟨w, w1, w2⟩ := fldD_of k4 e2
      obtain ⟨c1, c2⟩ := hc c (by simpa using hz)
      exact ⟨a, C c, dx, fs, w, rfl, rl1.sub _ _ k1, c1, c2, w1, k g1 H1 w x1 rl1 w2⟩
    · cases e
  | ref i =>
    obtain ⟨a, h1, rfl⟩ := r1
    simp only [oFld] at e
    split at e
    · rename_i c ns vs e3
      split at e
      · rename_i hz
        obtain ⟨z, e2, e⟩ := bind_some e
        cases e
        obtain ⟨_, dx, fs, k1, _, _, k3, k4⟩ := rl1.obj i _ a e3 h1
        subst k3
        obtain ⟨w, w1, w2⟩ := fldD_of k4 e2
        obtain ⟨c1, c2⟩ := hc c (by simpa using hz)
        exact ⟨a, C c, dx, fs, w, rfl, k1, c1, c2, w1, k g1 H1 w x1 rl1 w2⟩
      · cases e
    · cases e
  | _ => cases e
theorem st_fld (hc : ∀ c ∈ cs, Cls X.K (C c) ∧ NoAttr X.K (C c) nm) (ho : SE X C o mo) (hv : SE X C value mv) (hs : swapsWith value (some (.Attribute o nm pos')) pos.line X.env = pure false := by rfl) : SS X C (.Assign [.Attribute o nm pos'] value pos) (mFldS cs nm mo mv) :=
  PS.weak (ps_fld ho hv hs) fun E σ H h => by
    obtain ⟨g, σd, st, fl, σd', st', rl, rs, e, k⟩ := h
    obtain ⟨⟨x, st1⟩, e1, e⟩ := bind_some e
    obtain ⟨⟨y, st2⟩, e2, e⟩ := bind_some e
    obtain ⟨st3, e3, e⟩ := bind_some e
    cases e
    refine ⟨g, σd, st, x, st1, rl, rs, e1, fun g1 H1 v x1 rl1 r1 => ?_⟩
    refine ⟨g1, σd, st1, y, st2, rl1, rs.mono x1, e2, fun g2 H2 w x2 rl2 r2 => ?_⟩
    cases y with
    | ref i =>
      obtain ⟨a, h1, rfl⟩ := r2
      simp only [oFldS] at e3
      split at e3
      · rename_i c ns vs e4
        split at e3
        · rename_i hz
          rw [Bool.and_eq_true, decide_eq_true_eq] at hz
          cases e3
          obtain ⟨kf, dx, fs, k1, kd, k2, k3, k4⟩ := rl2.obj i _ a e4 h1
          obtain ⟨c1, c2⟩ := hc c (by simpa using hz.1)
          have hl : fs.length < 1000 := by rw [← k3, List.length_map] at hz; exact hz.2
          refine ⟨a, C c, dx, fs, rfl, k1, c1, c2, hl, ?_⟩
          have ne : dx ≠ a := ne_of k2 k1 nofun
          have rl3 : Rl X.K C g2 (upd H2 a (.ins (C c) dx (putF nm v fs))) (st2.set i (.obj c (putFN nm ns) (putFD nm x ns vs))) := by
            refine rl2.put e4 nofun h1 ⟨kf, dx, putF nm v fs, upd_same, kd, by rw [upd_ne ne]; exact k2, ?_, ?_⟩
            · rw [putFN_of, k3]
            · rw [← k3]; exact putFD_of (r1.up x2) k4
          exact k g2 _ (x1.trans x2) rl3 _ (rs.mono (x1.trans x2))
        · cases e3
      · cases e3
    | _ => cases e3
theorem s_iceO (h : SE X C e me) : SE X C e (mIceO me) := by
  refine PE.weak h fun σ H Q h => ?_
  obtain ⟨g, σd, st, d, st', rl, rs, e, k⟩ := h
  obtain ⟨⟨x, st1⟩, e1, e⟩ := bind_some e
  refine ⟨g, σd, st, x, st1, rl, rs, e1, fun g1 H1 v x1 rl1 r1 => ?_⟩
  cases x with
  | ref i =>
    simp only at e
    split at e
    · rename_i c ns vs e2
      cases e
      obtain ⟨a, h1, rfl⟩ := r1
      obtain ⟨g2, x2, rl2, r2⟩ := rl1.iceO e2 h1
      exact k g2 H1 _ (x1.trans x2) rl2 r2
    · cases e
  | _ => cases e
theorem runMakeG {pins : List (Addr × Obj)} {σ : St} {H : Hp} {s : Shared} {Q : VK} {us : List Value} {vs : List V} {c : Addr} {sp : Sp} (M : Mk X.K c f) (F : FnG X.prog X.w X.K X.mg X.base CX k f fd ps sp) (hr : RoomG (k + 1) X.A) (hb : Binds X.K fd ps [])
    (hx : Passes CX X E0) (I : Inv X pins σ H s) (r : Vals vs us)
    (h : ∀ x dx, H x = none → H dx = none → dx ≠ x → sp (.ref x :: vs) (upd (upd H dx (.own x)) x (.ins c dx [])) (fun v H2 => v = .non ∧ Q (.ref x) H2) E0) :
    wpAny (model X.prog X.w) X.A (call (.ref c) us) (EP X pins σ Q) X.xe s := by
  have hq := h (s.heap.objs.size + 1) s.heap.objs.size (I.hok.fresh (Nat.le_succ _)) (I.hok.fresh (Nat.le_refl _)) (Nat.ne_of_lt (Nat.lt_succ_self _))
  have I2 := Inv.made (C := c) I
  have r2 : Vals (V.ref (s.heap.objs.size + 1) :: vs) (Value.ref (s.heap.objs.size + 1) :: us) := .cons rfl r
  have hl : ((Value.ref (s.heap.objs.size + 1) :: us) ++ ([] : List Value)).length = ps.length := by
    rw [List.append_nil, ← r2.length]
    exact F.len _ _ _ _ hq
  have bd := hb _ (Value.ref (s.heap.objs.size + 1) :: us) I2.kIn hl
  rw [List.append_nil] at bd
  refine wpAny_call (make_map (f := f) I.kIn M.makes M.init (beq_iff_eq.mp M.fn) (codeAny_mono (F.run _ X.stack _ _ ⟨Value.ref (s.heap.objs.size + 1) :: us, []⟩ (Value.ref (s.heap.objs.size + 1) :: us) _ _ E0 ⟨hr.room.make c us [], hr.guards⟩
    (I2.env0.make c us []) bd r2 hq) fun r s' hq' => ?_))
  cases r with
  | error e => exact hx pins σ _ _ e s' I2 hq'
  | ok fl =>
    cases fl with
    | ret u =>
      obtain ⟨v, H', I3, rv, ev, q3⟩ := I2.after hq'
      subst ev
      exact ⟨rv, ⟨V.ref (s.heap.objs.size + 1), H', I3, rfl, q3⟩⟩
    | next => exact False.elim hq'
    | brk => exact False.elim hq'
    | cont => exact False.elim hq'
theorem make_of {c : Nat} {H : Hp} {Q : VK} {vs : List V} {ds : List D} {st : Sto} {st' : Sto} {g : Gh} (rl : Rl X.K C g H st) (rr : Reps X.K C g ds vs) (e : m (.ref st.length :: ds) (st ++ [.obj c [] []]) = some (.non, st'))
    (fin : ∀ g' H' v, GExt g g' → Rl X.K C g' H' st' → Rep X.K C g' (.ref st.length) v → Q v H') :
    ∀ x dx, H x = none → H dx = none → dx ≠ x → spF X.K C m (.ref x :: vs) (upd (upd H dx (.own x)) x (.ins (C c) dx [])) (fun v H2 => v = .non ∧ Q (.ref x) H2) E0 := fun x dx hx hdx ne => by
  have rlA : Rl X.K C g (upd H dx (.own x)) st := rl.more hdx
  have hx2 : upd H dx (.own x) x = none := by rw [upd_ne (Ne.symm ne)]; exact hx
  obtain ⟨x1, rl1⟩ := rlA.alloc (o := .obj c [] []) (u := .ins (C c) dx []) hx2 ⟨rl.nothere hx, dx, [], upd_same, rl.nothere hdx, by rw [upd_ne ne]; exact upd_same, rfl, rfl⟩
  have hm : (g.m ++ [x])[st.length]? = some x := by
    rw [List.getElem?_append_right (by rw [rl.len]; exact Nat.le_refl _), rl.len, Nat.sub_self]; rfl
  refine ⟨_, _, _, _, _, rl1, Reps.cons (show Rep X.K C _ (.ref st.length) (V.ref x) from ⟨x, hm, rfl⟩) (rr.up x1), e, fun g' H' v x2 rl2 r2 => ⟨r2, fin g' H' _ (x1.trans x2) rl2 ⟨x, x2.m _ _ hm, rfl⟩⟩⟩
theorem s_make (c : Nat) (M : Mk X.K (C c) f) (F : FnG X.prog X.w X.K X.mg X.base CX k f fd ps (spF X.K C m)) (hr : RoomG (k + 1) X.A) (hm : X.mg x = some (.ref (C c))) (hb : Binds X.K fd ps []) (hx : Passes CX X E0)
    (ha : SA X C (e :: es) ma) (hg : Gl X x := by rfl) (hdb : (x == ("__debug__" : Str)) = false := by decide) (he : starEach (e :: es) X.env = (false, eval e X.env) :: starEach es X.env := by rfl) (hpl : (backTo pos (starEach es X.env)).any (·.1) = false := by rfl) :
    SE X C (.Call (.Name x p) (e :: es) [] pos) (mMake c m ma) := by
  refine ⟨fun pins s σ H Q I h => ?_⟩
  refine wpAny_Call_Name_kw (ld_glob I hg hm ?_ hdb)
  obtain ⟨g, σd, st, d, st', rl, rs, e1, fin⟩ := h
  obtain ⟨⟨ds, st1⟩, e2, e3⟩ := bind_some e1
  obtain ⟨⟨y, st2⟩, e4, e5⟩ := bind_some e3
  cases y with
  | non =>
    cases e5
    have reading : tA X.K C ma σ H fun vs H1 => ∀ x dx, H1 x = none → H1 dx = none → dx ≠ x → spF X.K C m (.ref x :: vs) (upd (upd H1 dx (.own x)) x (.ins (C c) dx [])) (fun v H2 => v = .non ∧ Q (.ref x) H2) E0 :=
      ⟨g, σd, st, ds, st1, rl, rs, e2, fun g1 H1 vs x1 rl1 r1 => make_of rl1 r1 e4 fun g2 H2 v x2 rl2 r2 => fin g2 H2 v (x1.trans x2) rl2 r2⟩
    exact PySem.W.callWith_K (h₀ := X.base) I.ok.mod.kin M.kp (thn (ha.run pos pins s σ H _ I reading) fun us s1 ⟨vs, H1, I1, r1, q1⟩ => ⟨I1.kIn, runMakeG M F hr hb hx I1 r1 q1⟩) he hpl
  | _ => cases e5
/-- C.m(..), C a class, m its def -/
theorem s_ccall {c : Addr} {mc : Value} {pl : Sem Bool} (r : ClX.CRead X.K c mc) (cv : ClX.CVal X.K c mc nm (.ref f) (.ref f)) (F : FnG X.prog X.w X.K X.mg X.base CX k f fd ps (spF X.K C m)) (hr : RoomG k X.A) (hm : X.mg x = some (.ref c)) (hk : PySem.W.keepIn X.K (.ref f) = true) (hb : Binds X.K fd ps []) (hx : Passes CX X E0)
    (ha : SA X C (e :: es) ma) (hg : Gl X x := by rfl) (hdb : (x == ("__debug__" : Str)) = false := by decide) (he : starEach (e :: es) X.env = (false, eval e X.env) :: starEach es X.env := by rfl) (hpl : (backTo pos (starEach es X.env)).any (·.1) = false := by rfl)
    (ht : eval (.Call (.Attribute (.Name x p) nm apos) (e :: es) [] pos) X.env = (do
      let ov ← eval (.Name x p) X.env
      standAt apos.atName
      let (f, first) ← holding [ov] (getMethod ov nm pl)
      callWith pos f first (backTo pos (starEach (e :: es) X.env)) (backToKw pos (keywordEach [] X.env))) := by rfl) :
    SE X C (.Call (.Attribute (.Name x p) nm apos) (e :: es) [] pos) (mC m ma) := by
  refine ⟨fun pins s σ H Q I h => ?_⟩
  refine PySem.W.methodCall_KW (pl := pl) ?_ ht
  refine ld_glob I hg hm ?_ hdb
  refine PySem.W.method_cls I.kIn r.ga (ClX.getcval_ok I r cv fun s1 I1 => ?_)
  obtain ⟨g, σd, st, d, st', rl, rs, e1, fin⟩ := h
  obtain ⟨⟨ds, st1⟩, e2, e3⟩ := bind_some e1
  have reading : tA X.K C ma σ H fun vs H1 => spF X.K C m vs H1 Q E0 := ⟨g, σd, st, ds, st1, rl, rs, e2, fun g1 H1 vs x1 rl1 r1 =>
    ⟨g1, ds, st1, d, st', rl1, r1, e3, fun g2 H2 v x2 rl2 r2 => fin g2 H2 v (x1.trans x2) rl2 r2⟩⟩
  exact PySem.W.callWith_K (h₀ := X.base) I1.ok.mod.kin hk (thn (ha.run pos pins s1 σ H _ I1 reading) fun us s2 ⟨vs, H1, I2, r1, q1⟩ => ⟨I2.kIn, runG F hr hb hx I2 r1 q1⟩) he hpl
end
end Z

end
section
set_option Elab.async false
set_option linter.all false
set_option maxRecDepth 100000
set_option autoImplicit false
namespace Z
open PySem PySem.Spec L2

/-! ### isinstance, by built-in types -/
inductive Ty where
  | non | bl | int | str | tup | lst | dic
deriving DecidableEq
def Ty.nm : Ty → String
  | .non => "NoneType"
  | .bl => "bool"
  | .int => "int"
  | .str => "str"
  | .tup => "tuple"
  | .lst => "list"
  | .dic => "dict"
def isTy (a b : Ty) : Bool := decide (a = b) || (decide (a = .bl) && decide (b = .int))
theorem isTy_kit {K : PySem.W.Frag} (a b : Ty) : PySem.W.kitOne K (.type a.nm) (.type b.nm) = some (isTy a b) := by
  refine kit_ty ?_
  cases a <;> cases b <;> decide +kernel
def tyD (d : D) (st : Sto) : Option Ty := match d with
  | .non => some .non
  | .bl _ => some .bl
  | .int _ => some .int
  | .str _ => some .str
  | .tup _ => some .tup
  | .lst _ => some .lst
  | .sq _ => some .lst
  | .dic _ _ => some .dic
  | .obj _ _ _ => none
  | .ref i => match st[i]? with
    | some (.lst _) => some .lst
    | some (.dic _ _) => some .dic
    | _ => none
def mIsi (t : Ty) (a : EM) : EM := fun σ st => (a σ st).bind fun p => (tyD p.1 p.2).bind fun b => some (.bl (isTy b t), p.2)
section
variable {K : PySem.W.Frag} {C : Nat → Addr} {g : Gh} {H : Hp} {st : Sto}
theorem tyX_lst {a : Addr} {xs : List V} (h : SqL K H a xs) : TyX K H (.ref a) (.type "list") := by
  rcases h with h | ⟨o, _, _, hk, hc, _⟩
  · rcases h with h | ⟨o, h⟩
    · exact .base (.lst h)
    · exact .base (.frz h)
  · exact .kList hk hc
theorem tyX_tup {a : Addr} {xs : List V} (h : SqT K H a xs) : TyX K H (.ref a) (.type "tuple") := by
  rcases h with h | ⟨o, _, _, hk, hc, _⟩
  · rcases h with h | ⟨o, h⟩
    · exact .base (.tup h)
    · exact .fTuple h
  · exact .kTuple hk hc
theorem tyD_of {d : D} {v : V} {t : Ty} (rl : Rl K C g H st) (r : Rep K C g d v) (e : tyD d st = some t) : TyX K H v (.type t.nm) := by
  cases d with
  | non => cases (show v = .non from r); cases e; exact .base .non
  | bl b => cases (show v = .bl b from r); cases e; exact .base (.bl b)
  | int i => cases (show v = .int i from r); cases e; exact .base (.int i)
  | str x => cases (show v = .str x from r); cases e; exact .base (.str x)
  | tup ds => obtain ⟨a, xs, rfl, h1, _⟩ := r; cases e; exact tyX_tup (sqTMono rl.sub h1)
  | lst ds => obtain ⟨a, xs, rfl, h1, _⟩ := r; cases e; exact .base (.lst (rl.sub _ _ h1))
  | sq ds => obtain ⟨a, xs, rfl, h1, _⟩ := r; cases e; exact tyX_lst (sqLMono rl.sub h1)
  | dic ks vs => obtain ⟨a, xs, rfl, h1, _⟩ := r; cases e; exact .base (.dK (rl.sub _ _ h1))
  | obj c ns vs => cases e
  | ref i =>
    obtain ⟨a, h1, rfl⟩ := r
    simp only [tyD] at e
    split at e
    · rename_i ds e2
      cases e
      obtain ⟨_, xs, k2, _⟩ := rl.obj i _ a e2 h1
      exact .base (.lst k2)
    · rename_i ks vs e2
      cases e
      obtain ⟨_, xs, k2, _⟩ := rl.obj i _ a e2 h1
      exact .base (.dK k2)
    · cases e
end
section
variable {X : Cx} {C : Nat → Addr} {x : Str} {p p2 pos : Pos} {e o : Expr} {es : List Expr} {ma : Ev (List D)} {me mo : EM}
theorem s_isi (t : Ty) (hg : Gl X "isinstance") (hm : X.mg "isinstance" = none) (hg2 : Gl X x) (hm2 : X.mg x = none) (hb2 : bootBuiltins x = some (.type t.nm)) (he : SE X C e me)
    (hn2 : x ≠ "__name__" := by decide) (hdb2 : (x == ("__debug__" : Str)) = false := by decide)
    (hs : starEach [e, .Name x p2] X.env = (false, eval e X.env) :: starEach [.Name x p2] X.env := by rfl) (hs2 : starEach [.Name x p2] X.env = (false, eval (.Name x p2) X.env) :: starEach [] X.env := by rfl)
    (hpl : (backTo pos (starEach [.Name x p2] X.env)).any (·.1) = false := by rfl) :
    SE X C (.Call (.Name "isinstance" p) [e, .Name x p2] [] pos) (mIsi t me) := by
  have hty : PE X (.Name x p2) (tC (.ty t.nm)) := pe_bltn hg2 hm2 hb2 (show Value.type t.nm = Value.type t.nm from rfl) hn2 hdb2
  refine PE.weak (pe_callB call_isi hg hm (by first | rfl | decide +kernel) (pa_cons he (pa_cons hty pa_nil hs2) hs) (by decide) (by decide) hs hpl) fun σ H Q h => ?_
  obtain ⟨g, σd, st, d, st', rl, rs, e, k⟩ := h
  obtain ⟨⟨y, st1⟩, e1, e⟩ := bind_some e
  obtain ⟨ty, e2, e⟩ := bind_some e
  cases e
  refine ⟨g, σd, st, y, st1, rl, rs, e1, fun g1 H1 v x1 rl1 r1 => ?_⟩
  exact ⟨v, .ty t.nm, .type ty.nm, .type t.nm, isTy ty t, rfl, .ty _, tyD_of rl1 r1 e2, isTy_kit ty t, k g1 H1 _ x1 rl1 rfl⟩

/-! ### keywords of built-in functions: max, min with a default -/
def rKW (K : PySem.W.Frag) (C : Nat → Addr) (m : List D → List D → Sto → Option (D × Sto)) : List V → List V → Hp → VK → Prop := fun vs zs H Q => ∃ g ds es st d st', Rl K C g H st ∧ Reps K C g ds vs ∧ Reps K C g es zs ∧ m ds es st = some (d, st') ∧
  ∀ g' H' v, GExt g g' → Rl K C g' H' st' → Rep K C g' d v → Q v H'
def mCK (m : List D → List D → Sto → Option (D × Sto)) (a b : Ev (List D)) : EM := fun σ st => (a σ st).bind fun p => (b σ p.2).bind fun q => m p.1 q.1 q.2
abbrev SK (X : Cx) (C : Nat → Addr) (kws : List Keyword) (m : Ev (List D)) : Prop := PK X kws (tA X.K C m)
theorem sk_nil : SK X C [] aNil := ⟨fun pos pins s σ H Q I h => by
  obtain ⟨g, σd, st, ds, st', rl, rs, e, k⟩ := h
  cases e
  exact pk_nil.run pos pins s σ H Q I (k g H [] (GExt.refl g) rl rfl)⟩
theorem sk_cons {nm : Option Str} {kpos : Pos} {kws : List Keyword} {mk : Ev (List D)} (he : SE X C e me) (hr : SK X C kws mk) : SK X C (⟨nm, e, kpos⟩ :: kws) (aCons me mk) := ⟨fun pos pins s σ H Q I h => by
  refine (pk_cons he hr).run pos pins s σ H Q I ?_
  obtain ⟨g, σd, st, ds, st', rl, rs, e, k⟩ := h
  obtain ⟨⟨y, st1⟩, e1, e⟩ := bind_some e
  obtain ⟨⟨ys, st2⟩, e2, e⟩ := bind_some e
  cases e
  refine ⟨g, σd, st, y, st1, rl, rs, e1, fun g1 H1 v x1 rl1 r1 => ?_⟩
  exact ⟨g1, σd, st1, ys, _, rl1, rs.mono x1, e2, fun g2 H2 vs x2 rl2 r2 => k g2 H2 (v :: vs) (x1.trans x2) rl2 (.cons (r1.up x2) r2)⟩⟩
theorem s_callBK {id : String} {ks : List Str} {m : List D → List D → Sto → Option (D × Sto)} {kws : List Keyword} {mk : Ev (List D)} (hc : CallRK X (.builtin id) ks (rKW X.K C m)) (hg : Gl X x) (hm : X.mg x = none) (hv : bootBuiltins x = some (.builtin id)) (ha : SA X C (e :: es) ma) (hk : SK X C kws mk)
    (hn : x ≠ "__name__" := by decide) (hdb : (x == ("__debug__" : Str)) = false := by decide)
    (he : backTo pos (starEach (e :: es) X.env) = (false, eval e X.env) :: backTo pos (starEach es X.env) := by rfl) (hpl : (backTo pos (starEach (e :: es) X.env)).any (·.1) = false := by rfl)
    (hall : (backToKw pos (keywordEach kws X.env)).all (·.1.isSome) = true := by rfl) (hnone : (backToKw pos (keywordEach kws X.env)).any (·.1.isNone) = false := by rfl) (hks : (backToKw pos (keywordEach kws X.env)).filterMap (·.1) = ks := by rfl) :
    SE X C (.Call (.Name x p) (e :: es) kws pos) (mCK m ma mk) := PE.weak (pe_callBK hc hg hm hv ha hk hn hdb he hpl hall hnone hks) fun σ H Q h => by
  obtain ⟨g, σd, st, d, st', rl, rs, e, k⟩ := h
  obtain ⟨⟨ys, st1⟩, e1, e⟩ := bind_some e
  obtain ⟨⟨zs, st2⟩, e2, e⟩ := bind_some e
  refine ⟨g, σd, st, ys, st1, rl, rs, e1, fun g1 H1 vs x1 rl1 r1 => ?_⟩
  refine ⟨g1, σd, st1, zs, st2, rl1, rs.mono x1, e2, fun g2 H2 ws x2 rl2 r2 => ?_⟩
  exact ⟨g2, ys, zs, st2, d, st', rl2, r1.up x2, r2, e, fun g3 H3 v x3 rl3 r3 => k g3 H3 v (x1.trans (x2.trans x3)) rl3 r3⟩
end
end Z
namespace PySem
section
open PyProof.Rows
variable {prog : Program} {w : World} {A : Around} {E : Value → Shared → Prop} {s : Shared} {l : Addr} {its : List Value} {ns : List Int} {d : Value} {Q : Value → Shared → Prop}
theorem max_d_raw (hh : A.handled = none) (hl : s.heap.IsList l its.toArray) (hi : PyProof.Rows.IntsAre its ns)
    (h0 : ns = [] → ∀ h' tk, (∀ b o, s.heap.get? b = some o → h'.get? b = some o) → Q d { s with heap := h', toks := tk })
    (h : ∀ h' tk M t', (∀ b o, s.heap.get? b = some o → h'.get? b = some o) → M ∈ ns → (∀ a, a ∈ ns → a ≤ M) → Q (.int M t') { s with heap := h', toks := tk }) :
    wpAny (model prog w) A (call (.builtin "max") [.ref l] [(Str.ofString "default", d)]) Q E s := by
  obtain ⟨xs, e⟩ := hi.allInts.items
  have hn : numsOf (intItems xs).toList = ns := by rw [← e]; exact hi.numsOf
  rw [nums_intItems] at hn
  subst hn
  rw [e] at hl
  refine call_max_d (iter_intList hl fun s₂ e st hfp hlI => ?_)
  subst e
  refine ⟨_, _, _, _, _, _, _, rfl, Walks.list (A := A.in1) hh _ l hlI (intItems xs), st, hfp, CmpOf.ints_gt (numAt xs) (fun _ _ => intItems_at), fun hn v h' tk hP hk => ?_, fun hn h' tk hk => ?_⟩
  · have hsz : 0 < xs.size := by simpa [intItems] using hn
    have hv : (intItems xs)[argBest (fun i j => decide (numAt xs i > numAt xs j)) (xs.size - 1)]? = some v := by simpa [intItems] using hP
    obtain ⟨t, rfl⟩ := intItems_at hv
    obtain ⟨h1, h2⟩ := argBest_gt (numAt xs) (xs.size - 1)
    refine h h' tk _ t (old_kept hk) ?_ fun a ha => ?_
    · rw [numAt_eq]; exact PySem.getD_mem (by rw [List.length_map, Array.length_toList]; omega)
    · obtain ⟨j, hj, rfl⟩ := mem_getD ha
      rw [List.length_map, Array.length_toList] at hj
      rw [← numAt_eq]; exact h2 j (by omega)
  · have hsz : xs.size = 0 := by simpa [intItems] using hn
    have hx : xs = #[] := Array.eq_empty_of_size_eq_zero hsz
    exact h0 (by rw [hx]; rfl) h' tk (old_kept hk)
theorem min_d_raw (hh : A.handled = none) (hl : s.heap.IsList l its.toArray) (hi : PyProof.Rows.IntsAre its ns)
    (h0 : ns = [] → ∀ h' tk, (∀ b o, s.heap.get? b = some o → h'.get? b = some o) → Q d { s with heap := h', toks := tk })
    (h : ∀ h' tk M t', (∀ b o, s.heap.get? b = some o → h'.get? b = some o) → M ∈ ns → (∀ a, a ∈ ns → M ≤ a) → Q (.int M t') { s with heap := h', toks := tk }) :
    wpAny (model prog w) A (call (.builtin "min") [.ref l] [(Str.ofString "default", d)]) Q E s := by
  obtain ⟨xs, e⟩ := hi.allInts.items
  have hn : numsOf (intItems xs).toList = ns := by rw [← e]; exact hi.numsOf
  rw [nums_intItems] at hn
  subst hn
  rw [e] at hl
  refine call_min_d (iter_intList hl fun s₂ e st hfp hlI => ?_)
  subst e
  refine ⟨_, _, _, _, _, _, _, rfl, Walks.list (A := A.in1) hh _ l hlI (intItems xs), st, hfp, CmpOf.ints_lt (numAt xs) (fun _ _ => intItems_at), fun hn v h' tk hP hk => ?_, fun hn h' tk hk => ?_⟩
  · have hsz : 0 < xs.size := by simpa [intItems] using hn
    have hv : (intItems xs)[argBest (fun i j => decide (numAt xs i < numAt xs j)) (xs.size - 1)]? = some v := by simpa [intItems] using hP
    obtain ⟨t, rfl⟩ := intItems_at hv
    obtain ⟨h1, h2⟩ := argBest_lt (numAt xs) (xs.size - 1)
    refine h h' tk _ t (old_kept hk) ?_ fun a ha => ?_
    · rw [numAt_eq]; exact PySem.getD_mem (by rw [List.length_map, Array.length_toList]; omega)
    · obtain ⟨j, hj, rfl⟩ := mem_getD ha
      rw [List.length_map, Array.length_toList] at hj
      rw [← numAt_eq]; exact h2 j (by omega)
  · have hsz : xs.size = 0 := by simpa [intItems] using hn
    have hx : xs = #[] := Array.eq_empty_of_size_eq_zero hsz
    exact h0 (by rw [hx]; rfl) h' tk (old_kept hk)
end
end PySem
namespace Z
open PySem PySem.Spec L2
def maxN : List Int → Int
  | [] => 0
  | n :: r => r.foldl max n
def minN : List Int → Int
  | [] => 0
  | n :: r => r.foldl min n
theorem foldl_max : ∀ (r : List Int) (n : Int), n ≤ r.foldl max n ∧ (∀ a ∈ r, a ≤ r.foldl max n) ∧ (r.foldl max n = n ∨ r.foldl max n ∈ r)
  | [], n => ⟨Int.le_refl n, fun _ h => (nomatch h), .inl rfl⟩
  | m :: r, n => by
    obtain ⟨h1, h2, h3⟩ := foldl_max r (max n m)
    simp only [List.foldl_cons]
    refine ⟨by omega, fun a ha => ?_, ?_⟩
    · rcases List.mem_cons.mp ha with rfl | ha
      · omega
      · exact h2 a ha
    · rcases h3 with h3 | h3
      · rw [h3]
        by_cases hm : m ≤ n
        · left; omega
        · right; rw [show max n m = m by omega]; exact List.mem_cons_self
      · right; exact List.mem_cons_of_mem _ h3
theorem foldl_min : ∀ (r : List Int) (n : Int), r.foldl min n ≤ n ∧ (∀ a ∈ r, r.foldl min n ≤ a) ∧ (r.foldl min n = n ∨ r.foldl min n ∈ r)
  | [], n => ⟨Int.le_refl n, fun _ h => (nomatch h), .inl rfl⟩
  | m :: r, n => by
    obtain ⟨h1, h2, h3⟩ := foldl_min r (min n m)
    simp only [List.foldl_cons]
    refine ⟨by omega, fun a ha => ?_, ?_⟩
    · rcases List.mem_cons.mp ha with rfl | ha
      · omega
      · exact h2 a ha
    · rcases h3 with h3 | h3
      · rw [h3]
        by_cases hm : n ≤ m
        · left; omega
        · right; rw [show min n m = m by omega]; exact List.mem_cons_self
      · right; exact List.mem_cons_of_mem _ h3
theorem maxN_eq {ns : List Int} {M : Int} (h : M ∈ ns) (u : ∀ a, a ∈ ns → a ≤ M) : M = maxN ns := by
  cases ns with
  | nil => cases h
  | cons n r =>
    obtain ⟨h1, h2, h3⟩ := foldl_max r n
    show M = r.foldl max n
    have b1 : M ≤ r.foldl max n := by
      rcases List.mem_cons.mp h with rfl | h
      · exact h1
      · exact h2 _ h
    have b2 : r.foldl max n ≤ M := by
      rcases h3 with h3 | h3
      · rw [h3]; exact u _ List.mem_cons_self
      · exact u _ (List.mem_cons_of_mem _ h3)
    omega
theorem minN_eq {ns : List Int} {M : Int} (h : M ∈ ns) (u : ∀ a, a ∈ ns → M ≤ a) : M = minN ns := by
  cases ns with
  | nil => cases h
  | cons n r =>
    obtain ⟨h1, h2, h3⟩ := foldl_min r n
    show M = r.foldl min n
    have b1 : r.foldl min n ≤ M := by
      rcases List.mem_cons.mp h with rfl | h
      · exact h1
      · exact h2 _ h
    have b2 : M ≤ r.foldl min n := by
      rcases h3 with h3 | h3
      · rw [h3]; exact u _ List.mem_cons_self
      · exact u _ (List.mem_cons_of_mem _ h3)
    omega
def bBestD (f : List Int → Int) (ds es : List D) (st : Sto) : Option (D × Sto) := match ds, es with
  | [y], [z] => (vL y st).bind fun xs => (intsD xs).bind fun ns => if ns.isEmpty = true then some (z, st) else some (.int (f ns), st)
  | _, _ => none
def bBest (f : List Int → Int) (ds : List D) (st : Sto) : Option (D × Sto) := match ds with
  | [y] => (vL y st).bind fun xs => (intsD xs).bind fun ns => if ns.isEmpty = true then none else some (.int (f ns), st)
  | _ => none
section
variable {X : Cx} {C : Nat → Addr}
theorem cMaxD (hc : X.calm = true) : CallRK X (.builtin "max") ["default"] (rKW X.K C (bBestD maxN)) := by
  intro pins s σ H xs zs us ws Q I r rz h
  obtain ⟨g, ds, es, st, d, st', rl, r1, r2, e, k⟩ := h
  match ds, es, e with
  | [y], [z], e =>
    obtain ⟨v, rfl, q1⟩ := r1.one
    obtain ⟨w, rfl, q2⟩ := r2.one
    obtain ⟨ys, e1, e⟩ := bind_some e
    obtain ⟨ns, e2, e⟩ := bind_some e
    obtain ⟨a, xs, rfl, h1, h2⟩ := vL_of rl q1 e1
    cases h2.ints e2
    obtain ⟨its, rv, hl, _⟩ := I.list h1
    obtain ⟨u, rfl, ru⟩ := vals1 rz
    rw [Vals.ref1 r]
    refine max_d_raw (I.ok.hd hc) hl.isList rv.ints (fun hn h' tk hk => ?_) fun h' tk M t' hk hm hu => ?_
    · rw [hn] at e
      cases e
      exact ⟨w, H, I.kept hk, ru, k g H w (GExt.refl g) rl q2⟩
    · have hne : ns.isEmpty = false := by cases ns with
        | nil => cases hm
        | cons _ _ => rfl
      rw [hne] at e
      cases e
      exact ⟨.int _, H, I.kept hk, ⟨_, rfl⟩, k g H _ (GExt.refl g) rl (by rw [maxN_eq hm hu]; rfl)⟩
theorem cMinD (hc : X.calm = true) : CallRK X (.builtin "min") ["default"] (rKW X.K C (bBestD minN)) := by
  intro pins s σ H xs zs us ws Q I r rz h
  obtain ⟨g, ds, es, st, d, st', rl, r1, r2, e, k⟩ := h
  match ds, es, e with
  | [y], [z], e =>
    obtain ⟨v, rfl, q1⟩ := r1.one
    obtain ⟨w, rfl, q2⟩ := r2.one
    obtain ⟨ys, e1, e⟩ := bind_some e
    obtain ⟨ns, e2, e⟩ := bind_some e
    obtain ⟨a, xs, rfl, h1, h2⟩ := vL_of rl q1 e1
    cases h2.ints e2
    obtain ⟨its, rv, hl, _⟩ := I.list h1
    obtain ⟨u, rfl, ru⟩ := vals1 rz
    rw [Vals.ref1 r]
    refine min_d_raw (I.ok.hd hc) hl.isList rv.ints (fun hn h' tk hk => ?_) fun h' tk M t' hk hm hu => ?_
    · rw [hn] at e
      cases e
      exact ⟨w, H, I.kept hk, ru, k g H w (GExt.refl g) rl q2⟩
    · have hne : ns.isEmpty = false := by cases ns with
        | nil => cases hm
        | cons _ _ => rfl
      rw [hne] at e
      cases e
      exact ⟨.int _, H, I.kept hk, ⟨_, rfl⟩, k g H _ (GExt.refl g) rl (by rw [minN_eq hm hu]; rfl)⟩
theorem cMaxL (hc : X.calm = true) : SC X C (.builtin "max") (bBest maxN) := by
  refine sc_intro fun g H st ds vs d st' rl r e => ⟨_, cr_max hc, fun Q k => ?_⟩
  match ds, e with
  | [y], e =>
    obtain ⟨v, rfl, r1⟩ := r.one
    obtain ⟨ys, e1, e⟩ := bind_some e
    obtain ⟨ns, e2, e⟩ := bind_some e
    obtain ⟨a, xs, rfl, h1, h2⟩ := vL_of rl r1 e1
    cases h2.ints e2
    split at e
    · cases e
    · rename_i hz
      cases e
      refine ⟨a, ns, rfl, h1, ?_, fun m hm hu => ?_⟩
      · cases ns with
        | nil => exact absurd rfl hz
        | cons _ _ => exact Nat.succ_pos _
      · exact k g H _ (GExt.refl g) rl (by rw [maxN_eq hm hu]; rfl)
theorem cMinL (hc : X.calm = true) : SC X C (.builtin "min") (bBest minN) := by
  refine sc_intro fun g H st ds vs d st' rl r e => ⟨_, cr_min hc, fun Q k => ?_⟩
  match ds, e with
  | [y], e =>
    obtain ⟨v, rfl, r1⟩ := r.one
    obtain ⟨ys, e1, e⟩ := bind_some e
    obtain ⟨ns, e2, e⟩ := bind_some e
    obtain ⟨a, xs, rfl, h1, h2⟩ := vL_of rl r1 e1
    cases h2.ints e2
    split at e
    · cases e
    · rename_i hz
      cases e
      refine ⟨a, ns, rfl, h1, ?_, fun m hm hu => ?_⟩
      · cases ns with
        | nil => exact absurd rfl hz
        | cons _ _ => exact Nat.succ_pos _
      · exact k g H _ (GExt.refl g) rl (by rw [minN_eq hm hu]; rfl)

/-! ### texts -/
def oStripC (x : D) (ds : List D) (st : Sto) : Option (D × Sto) := match x, ds with
  | .str a, [.str b] => if a.length ≤ sizeLine then some (.str (Txt.stripChars a b), st) else none
  | _, _ => none
theorem mStripC : MtR X "str.strip" (rM X.K C oStripC) := by
  intro pins s σ H x vs v us Q I rx rv h
  obtain ⟨g, dx, ds, st, d, st', rl, r1, r2, e, k⟩ := h
  match dx, ds, e with
  | .str a, [.str b], e =>
    obtain ⟨z, rfl, q⟩ := r2.one
    have e : (if a.length ≤ sizeLine then some (D.str (Txt.stripChars a b), st) else none) = some (d, st') := e
    split at e
    · rename_i hz
      cases e
      cases (show x = .str a from r1)
      cases (show z = .str b from q)
      exact mt_stripChars pins s σ H _ _ v us Q I rx rv ⟨a, b, rfl, rfl, hz, k g H _ (GExt.refl g) rl rfl⟩
    · cases e
def oUpper (x : D) (ds : List D) (st : Sto) : Option (D × Sto) := match x, ds with
  | .str a, [] => if a.length ≤ 5592405 then some (.str (Txt.upper a), st) else none
  | _, _ => none
theorem mUpper : MtR X "str.upper" (rM X.K C oUpper) := by
  intro pins s σ H x vs v us Q I rx rv h
  obtain ⟨g, dx, ds, st, d, st', rl, r1, r2, e, k⟩ := h
  match dx, ds, e with
  | .str a, [], e =>
    cases (show vs = [] from r2)
    have e : (if a.length ≤ 5592405 then some (D.str (Txt.upper a), st) else none) = some (d, st') := e
    split at e
    · rename_i hz
      cases e
      cases (show x = .str a from r1)
      exact mt_upper pins s σ H _ _ v us Q I rx rv ⟨a, rfl, rfl, hz, k g H _ (GExt.refl g) rl rfl⟩
    · cases e
def bStrI (ds : List D) (st : Sto) : Option (D × Sto) := match ds with
  | [.int i] => if i.natAbs.log2 < 1920 then some (.str (toString i), st) else none
  | _ => none
theorem cStrI : SC X C (.type "str") bStrI := by
  refine sc_intro fun g H st ds vs d st' rl r e => ⟨_, call_str_int, fun Q k => ?_⟩
  match ds, e with
  | [.int i], e =>
    obtain ⟨v, rfl, r1⟩ := r.one
    have e : (if i.natAbs.log2 < 1920 then some (D.str (toString i), st) else none) = some (d, st') := e
    split at e
    · rename_i hz
      cases e
      cases (show v = .int i from r1)
      exact ⟨i, rfl, hz, k g H _ (GExt.refl g) rl rfl⟩
    · cases e

/-! ### a dict without entries -/
def mDic0 : EM := fun _ st => some (.dic [] [], st)
def mDicN : EM := fun _ st => some (.ref st.length, st ++ [.dic [] []])
theorem s_dic0 {pos : Pos} : SE X C (.Dict [] [] pos) mDic0 := PE.weak pe_dnewK fun σ H Q h => by
  obtain ⟨g, σd, st, d, st', rl, rs, e, k⟩ := h
  cases e
  intro p hp
  obtain ⟨x1, rl1⟩ := rl.freeze1 (o := .dK []) hp
  exact k _ _ _ x1 rl1 ⟨p, [], rfl, upd_same, rfl, rfl⟩
theorem s_dicN {pos : Pos} : SE X C (.Dict [] [] pos) mDicN := PE.weak pe_dnewK fun σ H Q h => by
  obtain ⟨g, σd, st, d, st', rl, rs, e, k⟩ := h
  cases e
  intro p hp
  obtain ⟨x1, rl1⟩ := rl.alloc (o := .dic [] []) (u := .dK []) hp ⟨rl.nothere hp, [], upd_same, rfl, rfl⟩
  refine k _ _ _ x1 rl1 ⟨p, ?_, rfl⟩
  show (g.m ++ [p])[st.length]? = some p
  rw [List.getElem?_append_right (by rw [rl.len]; exact Nat.le_refl _), rl.len, Nat.sub_self]; rfl
end
end Z

end
section
set_option Elab.async false
set_option linter.all false
set_option maxRecDepth 100000
set_option autoImplicit false
namespace Z
open PySem PySem.Spec L2

/-! ### comprehensions with two clauses -/
def mComp2 (g : GM) (c : Ev Bool) (it1 : Ev (List D)) (g1 : GM) (c1 : Ev Bool) (e : EM) (vs1 : List Nat) (σ : Slo) : List D → Sto → Option (List D × Sto)
  | [], st => some ([], st)
  | d :: ds, st => (g d σ st).bind fun q => (c q.1 q.2).bind fun b => if b.1 = true then (it1 q.1 b.2).bind fun p => (mComp g1 c1 e (wipeD q.1 vs1) p.1 p.2).bind fun y => (mComp2 g c it1 g1 c1 e vs1 σ ds y.2).bind fun r => some (y.1 ++ r.1, r.2)
    else mComp2 g c it1 g1 c1 e vs1 σ ds b.2
def mLc2 (it : Ev (List D)) (g : GM) (c : Ev Bool) (it1 : Ev (List D)) (g1 : GM) (c1 : Ev Bool) (e : EM) (vs vs1 : List Nat) : EM := fun σ st => (it σ st).bind fun p => (mComp2 g c it1 g1 c1 e vs1 (wipeD σ vs) p.1 p.2).bind fun q => if q.1.length ≤ sizeLine then some (.lst q.1, q.2) else none
section
variable {K : PySem.W.Frag} {C : Nat → Addr} {H : Hp}
theorem lc2_turns {J : It} {ds ys : List D} {st1 st2 : Sto} {mi1 : Ev (List D)} {is is1 : List Nat} {gm gm1 : GM} {mc mc1 : Ev Bool} {me : EM} {vs vs1 : List Nat} {g1 : Gh} {H1 : Hp} {σ : St} {σd : Slo} {Q : VK} (hv : ∀ i ∈ is, i ∈ vs) (hv1 : ∀ i ∈ is1, i ∈ vs1)
    (rl1 : Rl K C g1 H1 st1) (ok : ItOk K C J ds g1) (rs : RlS K C g1 σ σd) (e2 : mComp2 gm mc mi1 gm1 mc1 me vs1 (wipeD σd vs) ds st1 = some (ys, st2)) (hz : ys.length ≤ sizeLine) (k : ∀ g' H' v, GExt g1 g' → Rl K C g' H' st2 → Rep K C g' (.lst ys) v → Q v H') :
    tLc2 (fun _ H R => R J H) (tG K C is gm) (tT K C mc) (tI K C mi1) (tG K C is1 gm1) (tT K C mc1) (tE K C me) vs vs1 σ H1 Q := fun p hD => by
  have rw1 := rs.wipe vs
  refine ⟨fun i m H => m = ds.length - i ∧ ∃ g2 st3 acc accV zs, AccAt K C g1 p H g2 st3 acc accV ∧ mComp2 gm mc mi1 gm1 mc1 me vs1 (wipeD σd vs) (ds.drop i) st3 = some (zs, st2) ∧ acc ++ zs = ys,
    ⟨ds.length, rfl, g1, st1, [], [], ys, AccAt.start rl1 hD, e2, rfl⟩, ?_⟩
  rintro i m H3 ⟨rfl, g2, st3, acc, accV, zs, A, e3, hys⟩
  obtain ⟨xf, rlf⟩ := A.frame
  obtain ⟨go, stop⟩ := ok i (frG g2 p accV) H3 st3 (A.x.le.trans xf) rlf
  cases hd : ds[i]? with
  | none =>
    have hl : ds.length ≤ i := List.getElem?_eq_none_iff.mp hd
    rw [List.drop_eq_nil_of_le hl] at e3
    cases e3
    rw [List.append_nil] at hys
    subst hys
    obtain ⟨x6, rl6⟩ := A.rl.freezeH (u0 := .lst accV) trivial A.hD A.hF A.hX A.hL
    exact .inl ⟨stop hl, k _ _ _ (A.x.trans x6) rl6 ⟨p, accV, rfl, upd_same, A.ra.up x6⟩⟩
  | some d =>
    obtain ⟨hi, hd'⟩ := List.getElem?_eq_some_iff.mp hd
    rw [List.drop_eq_getElem_cons hi, hd'] at e3
    obtain ⟨go1, go2⟩ := go d hd
    obtain ⟨⟨σ4, st4⟩, e4, e3⟩ := bind_some e3
    obtain ⟨⟨b, st5⟩, e5, e3⟩ := bind_some e3
    refine .inr ⟨go1, fun H' => ∃ g2 st3 acc accV zs, AccAt K C g1 p H' g2 st3 acc accV ∧ mComp2 gm mc mi1 gm1 mc1 me vs1 (wipeD σd vs) (ds.drop (i + 1)) st3 = some (zs, st2) ∧ acc ++ zs = ys, fun H' q => ⟨ds.length - (i + 1), by omega, rfl, q⟩, fun x H4 hy => ?_⟩
    obtain ⟨g4, x4, rl4, r4⟩ := go2 x H4 hy
    refine ⟨g4, d, _, st3, σ4, st4, rl4, (rw1.monoL (A.x.le.trans xf)).mono x4, r4, e4, fun g5 σ6 H5 x5 rl5 rs5 hw => ⟨?_, ?_⟩⟩
    · rw [hw vs hv, wipe_wipe]
    refine ⟨g5, σ4, st4, b, st5, rl5, rs5, e5, fun g6 H6 x6 rl6 => ?_⟩
    cases b with
    | false =>
      simp only [Bool.false_eq_true, if_false] at e3 ⊢
      exact ⟨_, _, _, _, _, (A.keep (x4.trans (x5.trans x6)) rl6).2, e3, hys⟩
    | true =>
      simp only [if_true] at e3 ⊢
      obtain ⟨⟨ds1, st6⟩, e6, e3⟩ := bind_some e3
      obtain ⟨⟨z1, st7⟩, e7, e3⟩ := bind_some e3
      obtain ⟨⟨z2, st8⟩, e8, e3⟩ := bind_some e3
      obtain ⟨ez, es⟩ : z1 ++ z2 = zs ∧ st8 = st2 := by cases e3; exact ⟨rfl, rfl⟩
      subst ez es
      refine ⟨g6, σ4, st5, ds1, st6, rl6, rs5.mono x6, e6, fun g7 H7 J1 x7 rl7 ok1 => ?_⟩
      obtain ⟨l7, A7⟩ := A.keep (x4.trans (x5.trans (x6.trans x7))) rl7
      have rs7 := ((rs5.mono x6).mono x7).wipe vs1
      refine ⟨fun j k H => k = ds1.length - j ∧ ∃ g9 st9 acc9 accV9 w1 sM w2, GLe g7 g9 ∧ AccAt K C g1 p H g9 st9 acc9 accV9 ∧ mComp gm1 mc1 me (wipeD σ4 vs1) (ds1.drop j) st9 = some (w1, sM) ∧
        mComp2 gm mc mi1 gm1 mc1 me vs1 (wipeD σd vs) (ds.drop (i + 1)) sM = some (w2, st8) ∧ acc9 ++ (w1 ++ w2) = ys, ⟨ds1.length, rfl, _, _, _, _, _, _, _, l7, A7, e7, e8, hys⟩, ?_⟩
      rintro j k9 H9 ⟨rfl, g9, st9, acc9, accV9, w1, sM, w2, l9, A9, f1, f2, hy9⟩
      obtain ⟨xf9, rlf9⟩ := A9.frame
      obtain ⟨goI, stopI⟩ := ok1 j (frG g9 p accV9) H9 st9 (l9.trans xf9) rlf9
      cases hd1 : ds1[j]? with
      | none =>
        have hl : ds1.length ≤ j := List.getElem?_eq_none_iff.mp hd1
        rw [List.drop_eq_nil_of_le hl] at f1
        cases f1
        exact .inl ⟨stopI hl, g9, _, acc9, accV9, w2, A9, f2, hy9⟩
      | some d1 =>
        obtain ⟨hi1, hd1'⟩ := List.getElem?_eq_some_iff.mp hd1
        rw [List.drop_eq_getElem_cons hi1, hd1'] at f1
        obtain ⟨goI1, goI2⟩ := goI d1 hd1
        obtain ⟨⟨σ10, st10⟩, f4, f1⟩ := bind_some f1
        obtain ⟨⟨b1, st11⟩, f5, f1⟩ := bind_some f1
        refine .inr ⟨goI1, fun H' => ∃ g9 st9 acc9 accV9 w1 sM w2, GLe g7 g9 ∧ AccAt K C g1 p H' g9 st9 acc9 accV9 ∧ mComp gm1 mc1 me (wipeD σ4 vs1) (ds1.drop (j + 1)) st9 = some (w1, sM) ∧
          mComp2 gm mc mi1 gm1 mc1 me vs1 (wipeD σd vs) (ds.drop (i + 1)) sM = some (w2, st8) ∧ acc9 ++ (w1 ++ w2) = ys, fun H' q => ⟨ds1.length - (j + 1), by omega, rfl, q⟩, fun x1' H10 hy10 => ?_⟩
        obtain ⟨g10, x10, rl10, r10⟩ := goI2 x1' H10 hy10
        refine ⟨g10, d1, _, st9, σ10, st10, rl10, (rs7.monoL (l9.trans xf9)).mono x10, r10, f4, fun g11 σ12 H11 x11 rl11 rs11 hw1 => ⟨?_, ?_⟩⟩
        · rw [hw1 vs1 hv1, wipe_wipe]
        refine ⟨g11, σ10, st10, b1, st11, rl11, rs11, f5, fun g12 H12 x12 rl12 => ?_⟩
        cases b1 with
        | false =>
          simp only [Bool.false_eq_true, if_false] at f1 ⊢
          obtain ⟨q1, q2⟩ := A9.keep (x10.trans (x11.trans x12)) rl12
          exact ⟨_, _, _, _, _, _, _, ((l9.trans xf9).trans (x10.trans (x11.trans x12)).le).trans q1, q2, f1, f2, hy9⟩
        | true =>
          simp only [if_true] at f1 ⊢
          obtain ⟨⟨y, st13⟩, f7, f1⟩ := bind_some f1
          obtain ⟨⟨ws, st14⟩, f8, f1⟩ := bind_some f1
          obtain ⟨ew, em⟩ : y :: ws = w1 ∧ st14 = sM := by cases f1; exact ⟨rfl, rfl⟩
          subst ew em
          refine ⟨g12, σ10, st11, y, st13, rl12, rs11.mono x12, f7, fun g13 H13 v x13 rl13 r13 => ?_⟩
          obtain ⟨q0, q1, q2⟩ := A9.push (x10.trans (x11.trans (x12.trans x13))) rl13 r13
          refine ⟨accV9, q0, ?_, _, _, _, _, ws, st14, w2, ((l9.trans xf9).trans (x10.trans (x11.trans (x12.trans x13))).le).trans q1, q2, f8, f2, by rw [← hy9]; simp⟩
          have hl := A9.ra.length
          rw [← hy9, List.length_append, List.length_append, List.length_cons] at hz
          omega
theorem lc2_of {mi mi1 : Ev (List D)} {is is1 : List Nat} {gm gm1 : GM} {mc mc1 : Ev Bool} {me : EM} {vs vs1 : List Nat} (hv : ∀ i ∈ is, i ∈ vs) (hv1 : ∀ i ∈ is1, i ∈ vs1) {σ : St} {Q : VK} (h : tE K C (mLc2 mi gm mc mi1 gm1 mc1 me vs vs1) σ H Q) :
    tLc2 (tI K C mi) (tG K C is gm) (tT K C mc) (tI K C mi1) (tG K C is1 gm1) (tT K C mc1) (tE K C me) vs vs1 σ H Q := by
  obtain ⟨g, σd, st, d, st', rl, rs, e, k⟩ := h
  obtain ⟨⟨ds, st1⟩, e1, e⟩ := bind_some e
  obtain ⟨⟨ys, st2⟩, e2, e⟩ := bind_some e
  split at e
  case isFalse => cases e
  rename_i hz
  cases e
  exact ⟨g, σd, st, ds, st1, rl, rs, e1, fun g1 H1 J x1 rl1 ok => lc2_turns hv hv1 rl1 ok (rs.mono x1) e2 hz fun g' H' v x => k g' H' v (x1.trans x)⟩
end
section
variable {X : Cx} {C : Nat → Addr} {pos : Pos}
theorem s_lc2 {elt tg iter tg1 iter1 : Expr} {ifs ifs1 : List Expr} {scope : Scope} {own : List (Str × Nat)} {mi mi1 : Ev (List D)} {is is1 vs1 : List Nat} {gm gm1 : GM} {mc mc1 : Ev Bool} {me : EM} (hc : X.calm = true) (hN : X.N.Nodup) (hi : SI X C tg iter mi) (ok : BlkOk X.N X.env.scope scope own)
    (hg : ∀ (s : Shared) (H : Hp) (A : Addr) (cl : List (Str × Addr)) (fp : List Addr), SG (X.blk s H scope (compEnvC scope cl A X.env) fp) C tg is gm) (ht : ∀ (s : Shared) (H : Hp) (A : Addr) (cl : List (Str × Addr)) (fp : List Addr), SIf (X.blk s H scope (compEnvC scope cl A X.env) fp) C ifs mc)
    (hi1 : ∀ (s : Shared) (H : Hp) (A : Addr) (cl : List (Str × Addr)) (fp : List Addr), SI (X.blk s H scope (compEnvC scope cl A X.env) fp) C tg1 iter1 mi1)
    (hg1 : ∀ (s : Shared) (H : Hp) (A : Addr) (cl : List (Str × Addr)) (fp : List Addr), SG (X.blk s H scope (compEnvC scope cl A X.env) fp) C tg1 is1 gm1) (ht1 : ∀ (s : Shared) (H : Hp) (A : Addr) (cl : List (Str × Addr)) (fp : List Addr), SIf (X.blk s H scope (compEnvC scope cl A X.env) fp) C ifs1 mc1)
    (he : ∀ (s : Shared) (H : Hp) (A : Addr) (cl : List (Str × Addr)) (fp : List Addr), SE (X.blk s H scope (compEnvC scope cl A X.env) fp) C elt me) (hs : ∀ x, foldedSetIterable iter X.env x = pure x := by intro _; rfl) (hs1 : ∀ env x, foldedSetIterable iter1 env x = pure x := by intro _ _; rfl)
    (hv : ∀ i ∈ is, i ∈ own.map (·.2) := by decide) (hv1 : ∀ i ∈ is1, i ∈ vs1 := by decide) (hvo : ∀ i ∈ vs1, i ∈ own.map (·.2) := by decide) :
    SE X C (.ListComp elt [⟨tg, iter, ifs, 0⟩, ⟨tg1, iter1, ifs1, 0⟩] scope pos) (mLc2 mi gm mc mi1 gm1 mc1 me (own.map (·.2)) vs1) :=
  PE.weak (pe_lc2 hc hN hi ok hvo hg ht hi1 hg1 ht1 he hs hs1) fun _ _ _ h => lc2_of hv hv1 h
end
end Z

end
section
set_option Elab.async false
set_option linter.all false
set_option maxRecDepth 100000
set_option autoImplicit false
namespace Z
open PySem PySem.Spec L2

/-! ### a list of the store, lent to a loop -/
abbrev Back := Sto → Option Sto
abbrev EvL := Slo → Sto → Option ((List D × Back) × Sto)
structure Lent (K : PySem.W.Frag) (C : Nat → Addr) (g0 g1 : Gh) (back : Back) : Prop where
  le : GLe g0 g1
  ret : ∀ g2 H2 st2 st3, GExt g1 g2 → Rl K C g2 H2 st2 → back st2 = some st3 → ∃ g3, GExt g0 g3 ∧ Rl K C g3 H2 st3 ∧ GLw g2 g3
theorem Lent.none {K : PySem.W.Frag} {C : Nat → Addr} (g : Gh) : Lent K C g g some := ⟨GLe.refl g, fun g2 H2 st2 st3 x rl e => by cases e; exact ⟨g2, x, rl, GLw.refl g2⟩⟩
def lend (d : D) (st : Sto) : Option ((List D × Back) × Sto) := match d with
  | .lst ds => some ((ds, some), st)
  | .sq ds => some ((ds, some), st)
  | .ref i => match st[i]? with
    | some (.lst ds) => some ((ds, fun s => match s[i]? with
      | some .dead => some (s.set i (.lst ds))
      | _ => none), st.set i .dead)
    | _ => none
  | _ => none
section
variable {K : PySem.W.Frag} {C : Nat → Addr} {g : Gh} {H : Hp} {st st1 : Sto}
theorem Rl.lend (h : Rl K C g H st) {i : Nat} {a : Addr} {xs : List V} {ds : List D} (e : st[i]? = some (.lst ds)) (ha : g.m[i]? = some a) (hx : H a = some (.lst xs)) (hr : Reps K C g ds xs) (hF : g.F a = none) :
    let g1 : Gh := ⟨g.F, g.m, upd g.X a (.lst xs), fun b => g.Y b ∨ b = a⟩
    GLe g g1 ∧ Rl K C g1 H (st.set i .dead) ∧ ∀ g2 H2 st2, GExt g1 g2 → Rl K C g2 H2 st2 → st2[i]? = some .dead → GExt g ⟨g2.F, g2.m, g.X, g.Y⟩ ∧ Rl K C ⟨g2.F, g2.m, g.X, g.Y⟩ H2 (st2.set i (.lst ds)) := by
  intro g1
  have xa := h.frS i a ha ⟨_, e, fun z => nomatch z⟩
  have lv : ∀ j, Live (st.set i .dead) j → Live st j ∧ j ≠ i := fun j ⟨z, q1, q2⟩ => by
    by_cases hj : j = i
    · subst hj
      rw [List.getElem?_set_self (List.getElem?_eq_some_iff.mp e).1] at q1
      cases q1; exact (q2 rfl).elim
    · rw [List.getElem?_set_ne (Ne.symm hj)] at q1
      exact ⟨⟨z, q1, q2⟩, hj⟩
  have le : GLe g g1 := ⟨fun _ _ q => q, fun _ _ q => q, fun b o y q => ⟨.inl y, by
    show upd g.X a (.lst xs) b = some o
    rw [upd_ne (ne_of_none q xa)]; exact q⟩⟩
  refine ⟨le, ⟨h.sub, by simpa using h.len, fun j z b q1 q2 => ?_, fun j l b q1 q2 l1 l2 => ?_, fun b u q => ?_, fun b u q => ?_, fun j b q l => ?_, fun b u q => ?_, fun b y z => ?_, h.tb⟩, fun g2 H2 st2 x2 rl2 hd => ?_⟩
  · by_cases hz : z = .dead
    · subst hz; trivial
    · obtain ⟨_, hj⟩ := lv j ⟨z, q1, hz⟩
      rw [List.getElem?_set_ne (Ne.symm hj)] at q1
      exact (h.obj j z b q1 q2).up le.w rfl rfl fun dx q => ⟨rfl, rfl⟩
  · exact h.inj j l b q1 q2 (lv j l1).1 (lv l l2).1
  · have q : upd g.X a (.lst xs) b = some u := q
    by_cases hb : b = a
    · subst hb; rw [upd_same] at q; cases q; exact hx
    · rw [upd_ne hb] at q; exact h.fr b u q
  · have q : upd g.X a (.lst xs) b = some u := q
    by_cases hb : b = a
    · subst hb; exact hF
    · rw [upd_ne hb] at q; exact h.frF b u q
  · obtain ⟨l1, hj⟩ := lv j l
    have ne : b ≠ a := fun z => by
      subst z
      exact hj (h.inj j i b q ha l1 ⟨_, e, fun z => nomatch z⟩)
    show upd g.X a (.lst xs) b = none
    rw [upd_ne ne]; exact h.frS j b q l1
  · have q : upd g.X a (.lst xs) b = some u := q
    by_cases hb : b = a
    · subst hb; rw [upd_same] at q; cases q; trivial
    · rw [upd_ne hb] at q; exact h.frM b u q
  · have z : upd g.X a (.lst xs) b = none := z
    have ne : b ≠ a := fun w => by subst w; rw [upd_same] at z; cases z
    rw [upd_ne ne] at z
    rcases y with y | y
    · exact h.frY b y z
    · exact ne y
  · have hXe : g2.X = upd g.X a (.lst xs) := x2.X
    have hm2 : g2.m[i]? = some a := x2.m i a ha
    have hl2 : i < st2.length := (List.getElem?_eq_some_iff.mp hd).1
    have hX2 : g2.X a = some (.lst xs) := by rw [hXe]; exact upd_same
    have hH2 : H2 a = some (.lst xs) := rl2.fr _ _ hX2
    have hF2 : g2.F a = none := rl2.frF _ _ hX2
    have noA : ∀ j, g2.m[j]? = some a → ¬ Live st2 j := fun j q l => by
      have := rl2.frS j a q l
      rw [hX2] at this; cases this
    have lv2 : ∀ j, j ≠ i → Live (st2.set i (.lst ds)) j → Live st2 j := fun j hj ⟨z, q1, q2⟩ => by
      rw [List.getElem?_set_ne (Ne.symm hj)] at q1
      exact ⟨z, q1, q2⟩
    have ex : GExt g ⟨g2.F, g2.m, g.X, g.Y⟩ := ⟨x2.F, x2.m, rfl, rfl⟩
    have lw : GLw g2 ⟨g2.F, g2.m, g.X, g.Y⟩ := ⟨fun _ _ q => q, fun _ _ q => q⟩
    have back : ∀ b u, g.X b = some u → g2.X b = some u := fun b u q => by rw [hXe, upd_ne (ne_of_none q xa)]; exact q
    refine ⟨ex, rl2.sub, by simpa using rl2.len, fun j z b q1 q2 => ?_, fun j l b q1 q2 l1 l2 => ?_, fun b u q => rl2.fr b u (back b u q), fun b u q => rl2.frF b u (back b u q), fun j b q l => ?_, fun b u q => rl2.frM b u (back b u q), h.frY, rl2.tb⟩
    · by_cases hj : j = i
      · subst hj
        rw [List.getElem?_set_self hl2] at q1
        cases q1
        have q2 : g2.m[j]? = some b := q2
        rw [hm2] at q2
        cases q2
        exact ⟨hF2, xs, hH2, hr.up ex⟩
      · rw [List.getElem?_set_ne (Ne.symm hj)] at q1
        exact (rl2.obj j z b q1 q2).up lw rfl rfl fun dx q => ⟨rfl, rfl⟩
    · have q1 : g2.m[j]? = some b := q1
      have q2 : g2.m[l]? = some b := q2
      by_cases hj : j = i
      · by_cases hl : l = i
        · rw [hj, hl]
        · subst hj
          rw [hm2] at q1
          cases q1
          exact absurd (lv2 l hl l2) (noA l q2)
      · by_cases hl : l = i
        · subst hl
          rw [hm2] at q2
          cases q2
          exact absurd (lv2 j hj l1) (noA j q1)
        · exact rl2.inj j l b q1 q2 (lv2 j hj l1) (lv2 l hl l2)
    · have q : g2.m[j]? = some b := q
      show g.X b = none
      by_cases hj : j = i
      · subst hj
        rw [hm2] at q
        cases q
        exact xa
      · have := rl2.frS j b q (lv2 j hj l)
        rw [hXe] at this
        by_cases hb : b = a
        · subst hb; rw [upd_same] at this; cases this
        · rw [upd_ne hb] at this; exact this
/-- what a loop over a list needs -/
theorem lend_of {d : D} {v : V} {ds : List D} {back : Back} (rl : Rl K C g H st) (r : Rep K C g d v) (e : lend d st = some ((ds, back), st1)) :
    ∃ a xs g1, v = .ref a ∧ SqL K H a xs ∧ ds.length = xs.length ∧ Lent K C g g1 back ∧ Rl K C g1 H st1 ∧ Reps K C g1 ds xs ∧ ∀ g' H' st', GLe g1 g' → Rl K C g' H' st' → SqL K H' a xs := by
  cases d with
  | lst es =>
    cases e
    obtain ⟨a, xs, rfl, h1, h2⟩ := r
    have h1 : SqL K g.F a xs := .inl (.inl h1)
    exact ⟨a, xs, g, rfl, sqLMono rl.sub h1, h2.length, Lent.none g, rl, h2, fun g' H' st' x rl' => sqLMono rl'.sub (sqLMono x.F h1)⟩
  | sq es =>
    cases e
    obtain ⟨a, xs, rfl, h1, h2⟩ := r
    exact ⟨a, xs, g, rfl, sqLMono rl.sub h1, h2.length, Lent.none g, rl, h2, fun g' H' st' x rl' => sqLMono rl'.sub (sqLMono x.F h1)⟩
  | ref i =>
    obtain ⟨a, h1, rfl⟩ := r
    simp only [lend] at e
    split at e
    · rename_i es e2
      cases e
      obtain ⟨k1, xs, k2, k3⟩ := rl.obj i _ a e2 h1
      obtain ⟨l1, l2, l3⟩ := rl.lend e2 h1 k2 k3 k1
      refine ⟨a, xs, _, rfl, .inl (.inl k2), k3.length, ⟨l1, fun g2 H2 st2 st3 x rl2 e3 => ?_⟩, l2, k3.upL l1, fun g' H' st' x rl' => .inl (.inl (rl'.fr a _ (x.Y a (.lst xs) (.inr rfl) upd_same).2))⟩
      split at e3
      · rename_i e4
        cases e3
        obtain ⟨z1, z2⟩ := l3 g2 H2 st2 x rl2 e4
        exact ⟨_, z1, z2, ⟨fun _ _ q => q, fun _ _ q => q⟩⟩
      · cases e3
    · cases e
  | _ => cases e
def tIL (K : PySem.W.Frag) (C : Nat → Addr) (m : EvL) : TI := fun σ H R => ∃ g σd st ds back st', Rl K C g H st ∧ RlS K C g σ σd ∧ m σd st = some ((ds, back), st') ∧
  ∀ g0 g1 H1 J, GExt g g0 → Lent K C g0 g1 back → Rl K C g1 H1 st' → ItOk K C J ds g1 → R J H1
end
abbrev SIL (X : Cx) (C : Nat → Addr) (tg it : Expr) (m : EvL) : Prop := PI X tg it (tIL X.K C m)
def ilOf (m : Ev (List D)) : EvL := fun σ st => (m σ st).bind fun p => some ((p.1, some), p.2)
def ilLst (a : EM) : EvL := fun σ st => (a σ st).bind fun p => lend p.1 p.2
def ilEn (a : EM) : EvL := fun σ st => (a σ st).bind fun p => (lend p.1 p.2).bind fun q => some ((enumD 0 q.1.1, q.1.2), q.2)
section
variable {X : Cx} {C : Nat → Addr} {tg it e : Expr} {me : EM} {p pos : Pos}
theorem sil_of {m : Ev (List D)} (h : SI X C tg it m) : SIL X C tg it (ilOf m) := PI.weak h fun σ H R q => by
  obtain ⟨g, σd, st, ds, back, st', rl, rs, e, k⟩ := q
  obtain ⟨⟨ys, st1⟩, e1, e⟩ := bind_some e
  cases e
  exact ⟨g, σd, st, _, _, rl, rs, e1, fun g1 H1 J x1 rl1 ok => k g1 g1 H1 J x1 (Lent.none g1) rl1 ok⟩
theorem sil_lst (h : SE X C it me) : SIL X C tg it (ilLst me) := PI.weak (pi_list h) fun σ H R q => by
  obtain ⟨g, σd, st, ds, back, st', rl, rs, e, k⟩ := q
  obtain ⟨⟨x, st1⟩, e1, e⟩ := bind_some e
  refine ⟨g, σd, st, x, st1, rl, rs, e1, fun g1 H1 v x1 rl1 r1 => ?_⟩
  obtain ⟨a, xs, g2, rfl, h1, h2, h3, h4, h5, h6⟩ := lend_of rl1 r1 e
  refine ⟨a, rfl, ⟨xs, h1⟩, k g1 g2 H1 _ x1 h3 h4 fun i g' H' st' x' rl' => ?_⟩
  have hs := h6 g' H' st' x' rl'
  refine ⟨fun d hd => ?_, fun hl => ⟨xs, hs, by rw [← h2]; exact hl⟩⟩
  obtain ⟨v, hv, rv⟩ := (h5.upL x').get hd
  exact ⟨⟨xs, v, hs, hv⟩, fun y H2 ⟨e, hy⟩ => by
    subst e
    have := hy xs hs
    rw [hv] at this
    cases this
    exact ⟨g', GExt.refl g', rl', rv⟩⟩
theorem sil_enum {es : List Expr} {kk : Nat} {tpos : Pos} (hg : Gl X "enumerate") (hm : X.mg "enumerate" = none) (ha : SE X C e me) (hs : starEach [e] X.env = [(false, eval e X.env)] := by rfl) :
    SIL X C (.Tuple es kk tpos) (.Call (.Name "enumerate" p) [e] [] pos) (ilEn me) := PI.weak (pi_enum hg hm (pa_cons ha pa_nil hs) hs) fun σ H R q => by
  obtain ⟨g, σd, st, ds, back, st', rl, rs, e, k⟩ := q
  obtain ⟨⟨y, st1⟩, e1, e⟩ := bind_some e
  obtain ⟨⟨⟨ys, bk⟩, st2⟩, e2, e⟩ := bind_some e
  cases e
  refine ⟨g, σd, st, y, st1, rl, rs, e1, fun g1 H1 v x1 rl1 r1 => ?_⟩
  obtain ⟨a, xs, g2, rfl, h1, h2, h3, h4, h5, h6⟩ := lend_of rl1 r1 e2
  refine ⟨a, xs, rfl, h1, k g1 g2 H1 _ x1 h3 h4 fun i g' H' st' x' rl' => ?_⟩
  have hs := h6 g' H' st' x' rl'
  refine ⟨fun d hd => ?_, fun hl => ⟨xs, hs, by rw [← h2]; rw [enumD_len] at hl; exact hl⟩⟩
  rw [enumD_get] at hd
  cases hy : ys[i]? with
  | none => rw [hy] at hd; cases hd
  | some y =>
    rw [hy] at hd
    cases hd
    obtain ⟨v, hv, rv⟩ := (h5.upL x').get hy
    refine ⟨⟨xs, v, hs, hv⟩, fun z H2 ⟨T, w, ez, nT, eH, hw⟩ => ?_⟩
    subst ez eH
    have := hw xs hs
    rw [hv] at this
    cases this
    obtain ⟨x2, rl2⟩ := rl'.freeze1 (o := .tup [.int (i : Nat), v]) nT
    exact ⟨_, x2, rl2, T, _, rfl, .inl (.inl upd_same), .cons (by show V.int _ = V.int _; simp) (.cons (rv.up x2) rfl)⟩
end

/-! ### loops over what may be lent -/
def mLcL (it : EvL) (g : GM) (c : Ev Bool) (e : EM) (vs : List Nat) : EM := fun σ st => (it σ st).bind fun p => (mComp g c e (wipeD σ vs) p.1.1 p.2).bind fun q => if q.1.length ≤ sizeLine then (p.1.2 q.2).bind fun s => some (.lst q.1, s) else none
def mLc2L (it : EvL) (g : GM) (c : Ev Bool) (it1 : Ev (List D)) (g1 : GM) (c1 : Ev Bool) (e : EM) (vs vs1 : List Nat) : EM := fun σ st => (it σ st).bind fun p => (mComp2 g c it1 g1 c1 e vs1 (wipeD σ vs) p.1.1 p.2).bind fun q => if q.1.length ≤ sizeLine then (p.1.2 q.2).bind fun s => some (.lst q.1, s) else none
def mForL (it : EvL) (g : GM) (b : SM) : SM := fun σ st => (it σ st).bind fun p => (mFor g b p.1.1 σ p.2).bind fun r => (p.1.2 r.2.2).bind fun s => some (r.1, r.2.1, s)
section
variable {K : PySem.W.Frag} {C : Nat → Addr} {H : Hp}
theorem lcL_of {mi : EvL} {is : List Nat} {gm : GM} {mc : Ev Bool} {me : EM} {vs : List Nat} (hv : ∀ i ∈ is, i ∈ vs) {σ : St} {Q : VK} (h : tE K C (mLcL mi gm mc me vs) σ H Q) :
    tLc (tIL K C mi) (tG K C is gm) (tT K C mc) (tE K C me) vs σ H Q := by
  obtain ⟨g, σd, st, d, st', rl, rs, e, k⟩ := h
  obtain ⟨⟨⟨ds, bk⟩, st1⟩, e1, e⟩ := bind_some e
  obtain ⟨⟨ys, st2⟩, e2, e⟩ := bind_some e
  split at e
  case isFalse => cases e
  rename_i hz
  obtain ⟨st3, e3, e⟩ := bind_some e
  cases e
  refine ⟨g, σd, st, ds, bk, st1, rl, rs, e1, fun g0 g1 H1 J x0 lt rl1 ok => lc_turns hv rl1 ok ((rs.mono x0).monoL lt.le) e2 hz fun g' H' v x rl' r' => ?_⟩
  obtain ⟨g3, x3, rl3, lw⟩ := lt.ret g' H' st2 _ x rl' e3
  exact k g3 H' v (x0.trans x3) rl3 (Rep.mono lw _ _ r')
theorem lc2L_of {mi : EvL} {mi1 : Ev (List D)} {is is1 : List Nat} {gm gm1 : GM} {mc mc1 : Ev Bool} {me : EM} {vs vs1 : List Nat} (hv : ∀ i ∈ is, i ∈ vs) (hv1 : ∀ i ∈ is1, i ∈ vs1) {σ : St} {Q : VK} (h : tE K C (mLc2L mi gm mc mi1 gm1 mc1 me vs vs1) σ H Q) :
    tLc2 (tIL K C mi) (tG K C is gm) (tT K C mc) (tI K C mi1) (tG K C is1 gm1) (tT K C mc1) (tE K C me) vs vs1 σ H Q := by
  obtain ⟨g, σd, st, d, st', rl, rs, e, k⟩ := h
  obtain ⟨⟨⟨ds, bk⟩, st1⟩, e1, e⟩ := bind_some e
  obtain ⟨⟨ys, st2⟩, e2, e⟩ := bind_some e
  split at e
  case isFalse => cases e
  rename_i hz
  obtain ⟨st3, e3, e⟩ := bind_some e
  cases e
  refine ⟨g, σd, st, ds, bk, st1, rl, rs, e1, fun g0 g1 H1 J x0 lt rl1 ok => lc2_turns hv hv1 rl1 ok ((rs.mono x0).monoL lt.le) e2 hz fun g' H' v x rl' r' => ?_⟩
  obtain ⟨g3, x3, rl3, lw⟩ := lt.ret g' H' st2 _ x rl' e3
  exact k g3 H' v (x0.trans x3) rl3 (Rep.mono lw _ _ r')
end
section
variable {X : Cx} {C : Nat → Addr} {pos : Pos}
theorem s_lcL {elt tg iter : Expr} {ifs : List Expr} {scope : Scope} {own : List (Str × Nat)} {mi : EvL} {is : List Nat} {gm : GM} {mc : Ev Bool} {me : EM} (hc : X.calm = true) (hN : X.N.Nodup) (hi : SIL X C tg iter mi) (ok : BlkOk X.N X.env.scope scope own)
    (hg : ∀ (s : Shared) (H : Hp) (A : Addr) (cl : List (Str × Addr)) (fp : List Addr), SG (X.blk s H scope (compEnvC scope cl A X.env) fp) C tg is gm) (ht : ∀ (s : Shared) (H : Hp) (A : Addr) (cl : List (Str × Addr)) (fp : List Addr), SIf (X.blk s H scope (compEnvC scope cl A X.env) fp) C ifs mc)
    (he : ∀ (s : Shared) (H : Hp) (A : Addr) (cl : List (Str × Addr)) (fp : List Addr), SE (X.blk s H scope (compEnvC scope cl A X.env) fp) C elt me) (hs : ∀ x, foldedSetIterable iter X.env x = pure x := by intro _; rfl) (hv : ∀ i ∈ is, i ∈ own.map (·.2) := by decide) :
    SE X C (.ListComp elt [⟨tg, iter, ifs, 0⟩] scope pos) (mLcL mi gm mc me (own.map (·.2))) :=
  PE.weak (pe_lc hc hN hi ok hg ht he hs) fun _ _ _ h => lcL_of hv h
theorem st_setLcL (i : Nat) {y : Str} {py spos : Pos} {elt tg iter : Expr} {ifs : List Expr} {scope : Scope} {own : List (Str × Nat)} {mi : EvL} {is : List Nat} {gm : GM} {mc : Ev Bool} {me : EM} (hc : X.calm = true) (hN : X.N.Nodup) (hi : SIL X C tg iter mi) (ok : BlkOk X.N X.env.scope scope own)
    (hg : ∀ (s : Shared) (H : Hp) (A : Addr) (cl : List (Str × Addr)) (fp : List Addr), SG (X.blk s H scope (compEnvC scope cl A X.env) fp) C tg is gm) (ht : ∀ (s : Shared) (H : Hp) (A : Addr) (cl : List (Str × Addr)) (fp : List Addr), SIf (X.blk s H scope (compEnvC scope cl A X.env) fp) C ifs mc)
    (he : ∀ (s : Shared) (H : Hp) (A : Addr) (cl : List (Str × Addr)) (fp : List Addr), SE (X.blk s H scope (compEnvC scope cl A X.env) fp) C elt me)
    (hsw : swapsWith (.ListComp elt [⟨tg, iter, ifs, 0⟩] scope pos) (some (.Name y py)) spos.line X.env = pure true) (hy : X.N[i]? = some y := by rfl) (hyl : X.env.scope.names.lookup y = some .local := by rfl) (hs : ∀ x, foldedSetIterable iter X.env x = pure x := by intro _; rfl) (hv : ∀ i ∈ is, i ∈ own.map (·.2) := by decide) :
    SS X C (.Assign [.Name y py] (.ListComp elt [⟨tg, iter, ifs, 0⟩] scope pos) spos) (mSet i (mLcL mi gm mc me (own.map (·.2)))) :=
  PS.weak (ps_setLc hc hN hy hyl hsw hi ok hg ht he hs) fun E σ H h => by
    obtain ⟨g, σd, st, fl, σd', st', rl, rs, e, k⟩ := h
    obtain ⟨⟨x, st1⟩, e1, e⟩ := bind_some e
    cases e
    exact lcL_of hv ⟨g, σd, st, x, _, rl, rs, e1, fun g1 H1 v x1 rl1 r1 => k g1 H1 x1 rl1 _ ((rs.mono x1).set r1)⟩
theorem s_lc2L {elt tg iter tg1 iter1 : Expr} {ifs ifs1 : List Expr} {scope : Scope} {own : List (Str × Nat)} {mi : EvL} {mi1 : Ev (List D)} {is is1 vs1 : List Nat} {gm gm1 : GM} {mc mc1 : Ev Bool} {me : EM} (hc : X.calm = true) (hN : X.N.Nodup) (hi : SIL X C tg iter mi) (ok : BlkOk X.N X.env.scope scope own)
    (hg : ∀ (s : Shared) (H : Hp) (A : Addr) (cl : List (Str × Addr)) (fp : List Addr), SG (X.blk s H scope (compEnvC scope cl A X.env) fp) C tg is gm) (ht : ∀ (s : Shared) (H : Hp) (A : Addr) (cl : List (Str × Addr)) (fp : List Addr), SIf (X.blk s H scope (compEnvC scope cl A X.env) fp) C ifs mc)
    (hi1 : ∀ (s : Shared) (H : Hp) (A : Addr) (cl : List (Str × Addr)) (fp : List Addr), SI (X.blk s H scope (compEnvC scope cl A X.env) fp) C tg1 iter1 mi1)
    (hg1 : ∀ (s : Shared) (H : Hp) (A : Addr) (cl : List (Str × Addr)) (fp : List Addr), SG (X.blk s H scope (compEnvC scope cl A X.env) fp) C tg1 is1 gm1) (ht1 : ∀ (s : Shared) (H : Hp) (A : Addr) (cl : List (Str × Addr)) (fp : List Addr), SIf (X.blk s H scope (compEnvC scope cl A X.env) fp) C ifs1 mc1)
    (he : ∀ (s : Shared) (H : Hp) (A : Addr) (cl : List (Str × Addr)) (fp : List Addr), SE (X.blk s H scope (compEnvC scope cl A X.env) fp) C elt me) (hs : ∀ x, foldedSetIterable iter X.env x = pure x := by intro _; rfl) (hs1 : ∀ env x, foldedSetIterable iter1 env x = pure x := by intro _ _; rfl)
    (hv : ∀ i ∈ is, i ∈ own.map (·.2) := by decide) (hv1 : ∀ i ∈ is1, i ∈ vs1 := by decide) (hvo : ∀ i ∈ vs1, i ∈ own.map (·.2) := by decide) :
    SE X C (.ListComp elt [⟨tg, iter, ifs, 0⟩, ⟨tg1, iter1, ifs1, 0⟩] scope pos) (mLc2L mi gm mc mi1 gm1 mc1 me (own.map (·.2)) vs1) :=
  PE.weak (pe_lc2 hc hN hi ok hvo hg ht hi1 hg1 ht1 he hs hs1) fun _ _ _ h => lc2L_of hv hv1 h
theorem st_setLc2L (i : Nat) {y : Str} {py spos : Pos} {elt tg iter tg1 iter1 : Expr} {ifs ifs1 : List Expr} {scope : Scope} {own : List (Str × Nat)} {mi : EvL} {mi1 : Ev (List D)} {is is1 vs1 : List Nat} {gm gm1 : GM} {mc mc1 : Ev Bool} {me : EM} (hc : X.calm = true) (hN : X.N.Nodup) (hi : SIL X C tg iter mi) (ok : BlkOk X.N X.env.scope scope own)
    (hg : ∀ (s : Shared) (H : Hp) (A : Addr) (cl : List (Str × Addr)) (fp : List Addr), SG (X.blk s H scope (compEnvC scope cl A X.env) fp) C tg is gm) (ht : ∀ (s : Shared) (H : Hp) (A : Addr) (cl : List (Str × Addr)) (fp : List Addr), SIf (X.blk s H scope (compEnvC scope cl A X.env) fp) C ifs mc)
    (hi1 : ∀ (s : Shared) (H : Hp) (A : Addr) (cl : List (Str × Addr)) (fp : List Addr), SI (X.blk s H scope (compEnvC scope cl A X.env) fp) C tg1 iter1 mi1)
    (hg1 : ∀ (s : Shared) (H : Hp) (A : Addr) (cl : List (Str × Addr)) (fp : List Addr), SG (X.blk s H scope (compEnvC scope cl A X.env) fp) C tg1 is1 gm1) (ht1 : ∀ (s : Shared) (H : Hp) (A : Addr) (cl : List (Str × Addr)) (fp : List Addr), SIf (X.blk s H scope (compEnvC scope cl A X.env) fp) C ifs1 mc1)
    (he : ∀ (s : Shared) (H : Hp) (A : Addr) (cl : List (Str × Addr)) (fp : List Addr), SE (X.blk s H scope (compEnvC scope cl A X.env) fp) C elt me)
    (hsw : swapsWith (.ListComp elt [⟨tg, iter, ifs, 0⟩, ⟨tg1, iter1, ifs1, 0⟩] scope pos) (some (.Name y py)) spos.line X.env = pure true) (hy : X.N[i]? = some y := by rfl) (hyl : X.env.scope.names.lookup y = some .local := by rfl) (hs : ∀ x, foldedSetIterable iter X.env x = pure x := by intro _; rfl) (hs1 : ∀ env x, foldedSetIterable iter1 env x = pure x := by intro _ _; rfl)
    (hv : ∀ i ∈ is, i ∈ own.map (·.2) := by decide) (hv1 : ∀ i ∈ is1, i ∈ vs1 := by decide) (hvo : ∀ i ∈ vs1, i ∈ own.map (·.2) := by decide) :
    SS X C (.Assign [.Name y py] (.ListComp elt [⟨tg, iter, ifs, 0⟩, ⟨tg1, iter1, ifs1, 0⟩] scope pos) spos) (mSet i (mLc2L mi gm mc mi1 gm1 mc1 me (own.map (·.2)) vs1)) :=
  PS.weak (ps_setLc2 hc hN hy hyl hsw hi ok hvo hg ht hi1 hg1 ht1 he hs hs1) fun E σ H h => by
    obtain ⟨g, σd, st, fl, σd', st', rl, rs, e, k⟩ := h
    obtain ⟨⟨x, st1⟩, e1, e⟩ := bind_some e
    cases e
    exact lc2L_of hv hv1 ⟨g, σd, st, x, _, rl, rs, e1, fun g1 H1 v x1 rl1 r1 => k g1 H1 x1 rl1 _ ((rs.mono x1).set r1)⟩
theorem st_forL {tg it : Expr} {body : List Stmt} {mi : EvL} {is : List Nat} {gm : GM} {mb : SM} (hp : PassesOwn (model X.prog X.w) X.A X.env X.xe) (hc : X.calm = true) (hi : SIL X C tg it mi) (hg : SG X C tg is gm) (hb : SB X C body mb)
    (hs : ∀ x, foldedSetIterable it X.env x = pure x := by intro _; rfl) : SS X C (.For tg it body [] pos) (mForL mi gm mb) := PS.weak (ps_for hp hc hi hg hb hs) fun E σ H h => by
  obtain ⟨g, σd, st, fl, σd', st', rl, rs, e, k0⟩ := h
  obtain ⟨⟨⟨ds, bk⟩, st1⟩, e1, e⟩ := bind_some e
  obtain ⟨⟨fl1, σ1, st9⟩, ew, eb⟩ := bind_some e
  obtain ⟨st8, e8, eb⟩ := bind_some eb
  cases eb
  refine ⟨g, σd, st, ds, bk, st1, rl, rs, e1, fun g0 g1 H1 J x0 lt rl1 ok => ?_⟩
  -- the end: what was lent goes back
  have fin : ∀ g2 H2 st2, GExt g1 g2 → Rl X.K C g2 H2 st2 → bk st2 = some st' → ∃ g3, GExt g g3 ∧ Rl X.K C g3 H2 st' ∧ GLw g2 g3 := fun g2 H2 st2 x rl2 e2 => by
    obtain ⟨g3, x3, rl3, lw⟩ := lt.ret g2 H2 st2 _ x rl2 e2
    exact ⟨g3, x0.trans x3, rl3, lw⟩
  refine ⟨fun i m σ H => m = ds.length - i ∧ ∃ g2 σ2 st2, GExt g1 g2 ∧ Rl X.K C g2 H st2 ∧ RlS X.K C g2 σ σ2 ∧ mFor gm mb (ds.drop i) σ2 st2 = some (fl1, σ1, st9), ⟨ds.length, rfl, g1, σd, st1, GExt.refl g1, rl1, (rs.mono x0).monoL lt.le, ew⟩, ?_⟩
  rintro i m σ3 H3 ⟨rfl, g2, σ2, st2, x2, rl2, rs2, e2⟩
  obtain ⟨go, stop⟩ := ok i g2 H3 st2 x2.le rl2
  cases hd : ds[i]? with
  | none =>
    have hl : ds.length ≤ i := List.getElem?_eq_none_iff.mp hd
    rw [List.drop_eq_nil_of_le hl] at e2
    cases e2
    obtain ⟨g3, y3, rl3, lw⟩ := fin g2 H3 _ x2 rl2 e8
    exact .inl ⟨stop hl, k0 g3 H3 y3 rl3 σ3 (rs2.monoW lw)⟩
  | some d =>
    obtain ⟨hi, hd'⟩ := List.getElem?_eq_some_iff.mp hd
    rw [List.drop_eq_getElem_cons hi, hd'] at e2
    obtain ⟨go1, go2⟩ := go d hd
    obtain ⟨⟨σ4, st4⟩, e4, e2⟩ := bind_some e2
    obtain ⟨⟨f5, σ5, st5⟩, e5, e2⟩ := bind_some e2
    refine .inr ⟨go1, fun σ' H' => ∃ g2 σ2 st2, GExt g1 g2 ∧ Rl X.K C g2 H' st2 ∧ RlS X.K C g2 σ' σ2 ∧ mFor gm mb (ds.drop (i + 1)) σ2 st2 = some (fl1, σ1, st9),
      fun σ' H' q => ⟨ds.length - (i + 1), by omega, rfl, q⟩, fun x H4 hy => ?_⟩
    obtain ⟨g4, x4, rl4, r4⟩ := go2 x H4 hy
    refine ⟨g4, d, σ2, st2, σ4, st4, rl4, rs2.mono x4, r4, e4, fun g5 σ6 H5 x5 rl5 rs5 _ => ?_⟩
    refine ⟨g5, σ4, st4, f5, σ5, st5, rl5, rs5, e5, fun g6 H6 x6 rl6 => ?_⟩
    cases f5 with
    | nx => exact fun σ' rs' => ⟨g6, σ5, st5, x2.trans (x4.trans (x5.trans x6)), rl6, rs', e2⟩
    | ct => exact fun σ' rs' => ⟨g6, σ5, st5, x2.trans (x4.trans (x5.trans x6)), rl6, rs', e2⟩
    | bk =>
      cases e2
      obtain ⟨g7, y7, rl7, lw⟩ := fin g6 H6 _ (x2.trans (x4.trans (x5.trans x6))) rl6 e8
      exact fun σ' rs' => k0 g7 H6 y7 rl7 σ' (rs'.monoW lw)
    | rt d =>
      cases e2
      obtain ⟨g7, y7, rl7, lw⟩ := fin g6 H6 _ (x2.trans (x4.trans (x5.trans x6))) rl6 e8
      exact fun v rv => k0 g7 H6 y7 rl7 v (Rep.mono lw _ _ rv)
end
end Z

end
section
set_option Elab.async false
set_option linter.all false
set_option maxRecDepth 100000
set_option autoImplicit false
namespace PySem
open Sem (wp)
open AutoSeq1 (wpAny_loadPart')
set_option maxHeartbeats 1000000 in
theorem meets_enumerate_tup (l : Addr) (items : Array Value) (n : Nat) (dct : Option Addr) (sl : Array (Option Value)) :
    Meets (Builtin.«enumerate.__new__» ⟨[.type "enumerate", .ref l], []⟩) (fun _ R s => s.heap.get? l = some { cls := .type "tuple", dict := dct, data := .seq items n, slots := sl } ∧
      R (.ok (.ret (.ref (s.heap.push { cls := .type "tuple_iterator", data := .fields #[.ref l, .int 0 0] }).objs.size)))
        { s with heap := (s.heap.push { cls := .type "tuple_iterator", data := .fields #[.ref l, .int 0 0] }).push { cls := .type "enumerate", data := .fields #[.none, .bool false, .ref s.heap.objs.size, rawInt 0, .none, .none] } }) :=
  .of_wp fun prog w A R s h => by
    obtain ⟨hp, g, d, tk, os⟩ := s; obtain ⟨hl, h⟩ := h
    have hsub := sub_enumerate
    have hL : Heap.IsTuple (Shared.heap ⟨hp, g, d, tk, os⟩) l items := ⟨_, hl, rfl, n, rfl⟩
    wp_walk using wpAny_loadPart' hl
    refine wpAny_stack_any fun st => wpAny_pure ?_
    split
    · rename_i c _ _ _ _ _
      cases (c == Value.type "enumerate")
      · wp_walk using wpAny_loadPart' hl, wpAny_pyIter_tuple hL
        exact ⟨_, rfl, h⟩
      · wp_walk using wpAny_loadPart' hl, wpAny_pyIter_tuple hL
        exact ⟨_, rfl, h⟩
    · wp_walk using wpAny_loadPart' hl, wpAny_pyIter_tuple hL
      exact ⟨_, rfl, h⟩
section
variable {prog : Program} {w : World} {A : Around} {E : Value → Shared → Prop} {s : Shared}
theorem call_enumerate_tup {l : Addr} {items : Array Value} {Q : Value → Shared → Prop} (hL : s.heap.IsTuple l items)
    (h : ∀ h', IsEnum h' (s.heap.objs.size + 1) s.heap.objs.size 0 .none → h'.IsTupleIter s.heap.objs.size l 0 → h'.objs.size = s.heap.objs.size + 2 →
      (∀ b o, s.heap.get? b = some o → h'.get? b = some o) → Q (.ref (s.heap.objs.size + 1)) { s with heap := h' }) :
    wpAny (model prog w) A (call (.type "enumerate") [.ref l]) Q E s := by
  obtain ⟨⟨c, dct, dt, sl⟩, hl, hc, n, hd⟩ := hL
  replace hc : c = .type "tuple" := hc
  replace hd : dt = .seq items n := hd
  subst hc hd
  refine callType_new F.called_enumerate (by decide) (F.typeCall_enumerate_1 _) (F.newCall_enumerate_1 _) (fun obj => F.args_object_init_2 obj _) F.entry_enumerate_new
    (meets_enumerate_tup l items n dct sl) ⟨hl, ?_⟩
  have hz : (s.heap.push { cls := .type "tuple_iterator", data := .fields #[.ref l, .int 0 0] }).objs.size = s.heap.objs.size + 1 := Heap.size_push ..
  show _ ∧ _
  rw [hz]
  have he : IsEnum ((s.heap.push { cls := .type "tuple_iterator", data := .fields #[.ref l, .int 0 0] }).push
      { cls := .type "enumerate", data := .fields #[.none, .bool false, .ref s.heap.objs.size, rawInt 0, .none, .none] }) (s.heap.objs.size + 1) s.heap.objs.size 0 .none := by
    have := Heap.get?_push_size (s.heap.push { cls := .type "tuple_iterator", data := .fields #[.ref l, .int 0 0] })
      (o := { cls := .type "enumerate", data := .fields #[.none, .bool false, .ref s.heap.objs.size, rawInt 0, .none, .none] }) rfl
    rw [hz] at this; exact this
  refine ⟨⟨_, he, rfl⟩, h _ he ⟨_, Heap.get?_push_of_some _ (Heap.get?_push_size _ rfl), rfl, rfl⟩ (by rw [Heap.size_push, hz]) fun b o x => Heap.get?_push_of_some _ (Heap.get?_push_of_some _ x)⟩
theorem wpAny_pyNext_enum_tupEnd {e it l : Addr} {i : Nat} {items : Array Value} {old : Value} {Q : Option Value → Shared → Prop} (hh : A.handled = none)
    (he : IsEnum s.heap e it i old) (hit : s.heap.IsTupleIter it l i) (hl : s.heap.IsTuple l items) (hx : items[i]? = none)
    (hQ : ∀ h', Heap.ExtBut it s.heap h' → Q none { s with heap := h' }) : wpAny (model prog w) A (pyNext (.ref e)) Q E s := by
  have hT : s.TypeIs (.ref e) "enumerate" := ⟨_, he, rfl⟩
  unfold pyNext
  refine wpAny_bind (wpAny_attempt (wpAny_callSpecial?_slot (name := Str.ofString "__next__") hT F.slot_enumerate_next
    (wpAny_call_entry F.slot_enumerate_next hT F.entry_enumerate_next ?_ (F.args_enumerate_next_1 _))))
  show wpAny _ _ (field (.ref e) 2 >>= _) _ _ _
  refine wpAny_bind (wpAny_field he rfl (x := .ref it) rfl ?_)
  refine wpAny_bind (wpAny_nextOf_tuple_end hh hit hl hx fun h' x he' hx' => ?_)
  obtain ⟨o, ho, hc⟩ := hx'
  refine wpAny_bind (wpAny_isInstance (T := "StopIteration") (b := true) ⟨o, ho, hc⟩ isSubtype_stop ?_)
  exact wpAny_pure (hQ _ he')
end
end PySem
namespace Z
open PySem PySem.Spec L2
def IteT (K : PySem.W.Frag) (a : Addr) : It :=
  ⟨fun i H => ∃ (xs : List V) (x : V), SqT K H a xs ∧ xs[i]? = some x, fun i H v H' => ∃ T x, v = .ref T ∧ H T = none ∧ H' = upd H T (.tup [.int (i : Nat), x]) ∧ ∀ xs, SqT K H a xs → xs[i]? = some x, fun i H => ∃ xs : List V, SqT K H a xs ∧ xs.length ≤ i⟩
theorem turn_enumT {P : Program} {w : World} {K : PySem.W.Frag} {elts : List Expr} {kk : Nat} {tpos : Pos} (a e it : Addr) (hae : a ≠ e) (hai : a ≠ it) :
    Turn P w K (.Tuple elts kk tpos) (IteT K a) [e, it] e (fun i h => (∃ old, IsEnum h e it ((i : Nat) : Int) old) ∧ h.IsTupleIter it a i ∧ e ≠ it) where
  mem := by simp
  obj := fun i h st b hb => by
    obtain ⟨⟨old, he⟩, ⟨o, ho, hc, hd⟩, _⟩ := st
    have e' : b = e ∨ b = it := by simpa using hb
    rcases e' with z | z
    · rw [z]; exact ⟨_, he, fun v q => nomatch q⟩
    · rw [z]; exact ⟨o, ho, fun v q => by rw [hd] at q; cases q⟩
  keep := fun i h h' st k => let ⟨⟨old, he⟩, hi, hne⟩ := st; ⟨⟨old, k e (by simp) _ he⟩, (let ⟨o, ho, r⟩ := hi; ⟨o, k it (by simp) o ho, r⟩), hne⟩
  item := by
    intro X hP hw hK hc i pins s σ H E I hf st hg
    subst hP hw hK
    obtain ⟨⟨old, he⟩, hit, hne⟩ := st
    obtain ⟨xs, x, hq, hx⟩ := hg
    obtain ⟨its, rv, p, hz⟩ := I.tuple hq
    obtain ⟨u, hu, ru⟩ := rv.get hx
    have hel : e < s.heap.objs.size := Heap.lt_size he
    have hil : it < s.heap.objs.size := by obtain ⟨_, q, _⟩ := hit; exact Heap.lt_size q
    have hll : i < its.toArray.size := by
      rw [List.size_toArray]
      exact (List.getElem?_eq_some_iff.mp hu).1
    have hT : Heap.IsTuple s.heap a its.toArray := p
    refine wpAny_pyNext_enum_itemD (PySem.Draws.tuple (A := X.A.in1) (I.ok.hd hc) it a hai its.toArray) he ⟨hit, hT⟩ hll hne (by simp; exact ⟨hne, fun z => hae z.symm⟩) fun x' h' tk hp ho st' hT' hsz hk => ?_
    obtain ⟨hit', _⟩ := st'
    have ex : x' = u := by
      have : its.toArray[i]? = some u := by simpa using hu
      have hp : its.toArray[i]? = some x' := hp
      rw [this] at hp
      exact (Option.some.inj hp).symm
    subst ex
    refine ⟨_, rfl, wpAny_letOwnedTupleGo_enum (s := { s with heap := h', toks := tk + 1 }) ho fun h'' he' sb => ?_⟩
    have hT2 : h''.get? s.heap.objs.size = some { cls := .type "tuple", data := .seq #[.int i tk, x'] } := (sb.2 _ (Nat.ne_of_gt hel)).trans hT'
    have new : ObjOk X.prog X.w (upd H s.heap.objs.size (.tup [.int (i : Nat), x])) h'' s.heap.objs.size (.tup [.int (i : Nat), x]) :=
      ⟨by show 2 ≤ sizeLine; decide, [.int i tk, x'], .cons ⟨_, rfl⟩ (.cons ru .nil), ⟨_, hT2, rfl, _, rfl⟩⟩
    have I1 : Inv X pins σ (upd H s.heap.objs.size (.tup [.int (i : Nat), x])) { s with heap := h'', toks := tk + 1 } :=
      I.turnedNew (ch := [e, it]) (fun b ob hb q => (sb.2 b (fun z => hb (by simp [z]))).trans (hk b ob (fun z => hb (by simp [z])) (fun z => hb (by simp [z])) q)) hf (Nat.le_refl _) new
    refine ⟨.ref s.heap.objs.size, _, I1, rfl, ⟨_, x, rfl, I.hok.fresh (Nat.le_refl _), rfl, fun ys hy => by rw [I.tuple_inj hy hq]; exact hx⟩, ⟨⟨x', ?_⟩, ?_, hne⟩, fun b hb => ?_⟩
    · have e1 : ((i + 1 : Nat) : Int) = (i : Int) + 1 := by omega
      rw [e1]; exact he'
    · obtain ⟨o, q, r⟩ := hit'
      exact ⟨o, (sb.2 it (Ne.symm hne)).trans q, r⟩
    · have hb' : b < s.heap.objs.size := by
        have e' : b = e ∨ b = it := by simpa using hb
        rcases e' with z | z
        · rw [z]; exact hel
        · rw [z]; exact hil
      rw [upd_ne (Nat.ne_of_lt hb')]
      exact (hf b hb).1
  done := by
    intro X hP hw hK hc i pins s σ H E I hf st hg
    subst hP hw hK
    obtain ⟨⟨old, he⟩, hit, hne⟩ := st
    obtain ⟨xs, hq, hx⟩ := hg
    obtain ⟨its, rv, p, hz⟩ := I.tuple hq
    obtain ⟨f0, f1, f2, f3, f4, f5⟩ := hf it (by simp)
    have hl := rv.length
    have hT : Heap.IsTuple s.heap a its.toArray := p
    have hni : its.toArray.size ≤ i := by rw [List.size_toArray]; omega
    exact wpAny_pyNext_enum_tupEnd (I.ok.hd hc) he hit hT (by simp; omega) fun h' eb => ⟨rfl, I.turned (t' := s.toks) (fun b o hb q => eb b o hb q) f0 f1 f3 f4 f5⟩
  self := fun A i s Q E st h => let ⟨⟨_, he⟩, _⟩ := st; wpAny_pyIter_enum he h
def iEnumT (K : PySem.W.Frag) (ta : TA) : TI := fun σ H R => ta σ H fun vs H1 => ∃ a xs, vs = [.ref a] ∧ SqT K H1 a xs ∧ R (IteT K a) H1
theorem pi_enumT {X : Cx} {e : Expr} {ta : TA} {p pos tpos : Pos} {elts : List Expr} {kk : Nat} (hg : Gl X "enumerate") (hm : X.mg "enumerate" = none) (ha : PA X [e] ta) (hs : starEach [e] X.env = [(false, eval e X.env)] := by rfl) :
    PI X (.Tuple elts kk tpos) (.Call (.Name "enumerate" p) [e] [] pos) (iEnumT X.K ta) := by
  refine ⟨fun pins s σ H R I h => ?_⟩
  refine PyProof.Rows.Call_ (ld_blt I hg hm PyProof.Rows.boot_enumerate (PyProof.Rows.callWith_type1 (thn (ha.run pos pins s σ H _ I h) fun us s1 ⟨vs, H1, I1, r1, q1⟩ => ?_) hs rfl))
  obtain ⟨a, xs, ex, hq, q⟩ := q1
  subst ex
  cases r1 with
  | cons r rr =>
    cases rr
    cases r
    obtain ⟨its, rv, p', hz⟩ := I1.tuple hq
    have hT : Heap.IsTuple s1.heap a its.toArray := p'
    have hal : a < s1.heap.objs.size := by obtain ⟨o, ho, _⟩ := hT; exact Heap.lt_size ho
    refine call_enumerate_tup hT fun h' he hit hsz hk => wpAny_pyIter_enum he ?_
    have I2 : Inv X pins σ H1 { s1 with heap := h' } := I1.kept (t' := s1.toks) hk
    refine ⟨s1.heap.objs.size + 1, [s1.heap.objs.size + 1, s1.heap.objs.size], _, _, H1, rfl, I2, turn_enumT a (s1.heap.objs.size + 1) s1.heap.objs.size (Nat.ne_of_lt (Nat.lt_succ_of_lt hal)) (Nat.ne_of_lt hal), ⟨⟨.none, he⟩, hit, Nat.succ_ne_self _⟩, fun b hb => ?_, q⟩
    have e' : b = s1.heap.objs.size + 1 ∨ b = s1.heap.objs.size := by simpa using hb
    have hle : s1.heap.objs.size ≤ b := by
      rcases e' with z | z
      · rw [z]; exact Nat.le_add_right _ _
      · rw [z]; exact Nat.le_refl _
    exact I1.fpOk hle (I1.hok.fresh hle)
theorem it_enumT {K : PySem.W.Frag} {C : Nat → Addr} {g : Gh} {a : Addr} {xs : List V} {ds : List D} (h1 : SqT K g.F a xs) (h2 : Reps K C g ds xs) : ItOk K C (IteT K a) (enumD 0 ds) g := fun i g' H' st' x' rl' => by
  have hs := sqTMono rl'.sub (sqTMono x'.F h1)
  refine ⟨fun d hd => ?_, fun hl => ⟨xs, hs, by rw [← h2.length]; rw [enumD_len] at hl; exact hl⟩⟩
  rw [enumD_get] at hd
  cases hy : ds[i]? with
  | none => rw [hy] at hd; cases hd
  | some y =>
    rw [hy] at hd
    cases hd
    obtain ⟨v, hv, rv⟩ := (h2.upL x').get hy
    refine ⟨⟨xs, v, hs, hv⟩, fun z H2 ⟨T, w, ez, nT, eH, hw⟩ => ?_⟩
    subst ez eH
    have := hw xs hs
    rw [hv] at this
    cases this
    obtain ⟨x2, rl2⟩ := rl'.freeze1 (o := .tup [.int (i : Nat), v]) nT
    exact ⟨_, x2, rl2, T, _, rfl, .inl (.inl upd_same), .cons (by show V.int _ = V.int _; simp) (.cons (rv.up x2) rfl)⟩
def iEnT (a : EM) : Ev (List D) := fun σ st => (a σ st).bind fun p => match p.1 with
  | .tup ds => some (enumD 0 ds, p.2)
  | _ => none
section
variable {X : Cx} {C : Nat → Addr} {e : Expr} {me : EM} {p pos : Pos}
theorem si_enumT {es : List Expr} {kk : Nat} {tpos : Pos} (hg : Gl X "enumerate") (hm : X.mg "enumerate" = none) (ha : SE X C e me) (hs : starEach [e] X.env = [(false, eval e X.env)] := by rfl) :
    SI X C (.Tuple es kk tpos) (.Call (.Name "enumerate" p) [e] [] pos) (iEnT me) := PI.weak (pi_enumT hg hm (pa_cons ha pa_nil hs) hs) fun σ H R q => by
  obtain ⟨g, σd, st, ds, st', rl, rs, e, k⟩ := q
  obtain ⟨⟨y, st1⟩, e1, e⟩ := bind_some e
  refine ⟨g, σd, st, y, st1, rl, rs, e1, fun g1 H1 v x1 rl1 r1 => ?_⟩
  cases y with
  | tup ys =>
    cases e
    obtain ⟨a, xs, rfl, h1, h2⟩ := r1
    exact ⟨a, xs, rfl, sqTMono rl1.sub h1, k g1 H1 _ x1 rl1 (it_enumT h1 h2)⟩
  | _ => cases e
end
end Z

end
section
set_option Elab.async false
set_option linter.all false
set_option maxRecDepth 100000
set_option autoImplicit false
namespace HT
open PySem PyProof.Rows
section
variable {prog : Program} {w : World} {A : Around} {E : Value → Shared → Prop} {s : Shared}
theorem adjust_rev (n : Nat) : Builtin.Slice.sliceAdjust none none (-1) (n : Int) = ((n : Int) - 1, -1) := by
  unfold Builtin.Slice.sliceAdjust
  simp
theorem places_rev (n : Nat) : Builtin.Slice.slicePlaces ((n : Int) - 1) (-1) (-1) = n := by
  unfold Builtin.Slice.slicePlaces
  have h1 : ¬ ((-1 : Int) > 0) := by omega
  simp only [h1, if_false]
  split
  · simp
  · omega
theorem pick_rev (xs : Array Value) : ((List.range xs.size).filterMap fun (m : Nat) => xs[(((xs.size : Int) - 1) + (m : Int) * (-1)).toNat]?).toArray = xs.toList.reverse.toArray := by
  congr 1
  have h := PySem.W.krv_all xs
  have e : (fun (m : Nat) => xs[(((xs.size : Int) - 1) + (m : Int) * (-1)).toNat]?) = fun m => xs[xs.size - 1 - m]? := by
    funext m
    have : (((xs.size : Int) - 1) + (m : Int) * (-1)).toNat = xs.size - 1 - m := by omega
    rw [this]
  rw [e, ← h, ← List.filterMap_reverse, ← PySem.W.krv_range, List.filterMap_map]
  rfl
theorem sliceApplied_rev {sl : Addr} {n : Nat} {t : Tok} {Q : Int × Int × Nat → Shared → Prop} (hs : s.heap.IsSliceOf sl .none .none (.int (-1) t))
    (h : Q ((n : Int) - 1, -1, n) s) : wpAny (model prog w) A (Builtin.Slice.sliceApplied (.ref sl) (pure (n : Int))) Q E s := by
  obtain ⟨os, hos, hcs, hds⟩ := id hs
  unfold Builtin.Slice.sliceApplied Builtin.Slice.sliceFields
  refine wpAny_bind (wpAny_bind (wpAny_field hos hds (x := .none) rfl (wpAny_bind (wpAny_field hos hds (x := .none) rfl (wpAny_bind (wpAny_field hos hds (x := .int (-1) t) rfl (wpAny_pure ?_)))))))
  refine wpAny_bind (slicePart_int ?_)
  show wpAny _ _ (if ((-1 : Int) == 0) = true then _ else _) _ _ s
  rw [if_neg (by decide)]
  refine wpAny_bind (slicePart_none (wpAny_bind (slicePart_none (wpAny_bind (wpAny_pure ?_)))))
  show wpAny _ _ (match Builtin.Slice.sliceAdjust none none (-1) (n : Int) with | (lo, hi) => pure (lo, (-1 : Int), Builtin.Slice.slicePlaces lo hi (-1))) _ _ s
  rw [adjust_rev n]
  show wpAny _ _ (pure ((n : Int) - 1, (-1 : Int), Builtin.Slice.slicePlaces ((n : Int) - 1) (-1) (-1))) _ _ s
  rw [places_rev]
  exact wpAny_pure h
theorem getItem_tuple_rev {t sl : Addr} {tk : Tok} {items : Array Value} {Q : Value → Shared → Prop} (ht : IsTup s.heap t items) (hs : s.heap.IsSliceOf sl .none .none (.int (-1) tk))
    (h : Q (.ref s.heap.objs.size) { s with heap := s.heap.push { cls := .type "tuple", data := .seq items.toList.reverse.toArray } })
    (hsz : items.size ≤ sizeLine) : wpAny (model prog w) A (getItem (.ref t) (.ref sl)) Q E s := by
  have htake : sizeOk (.seq items.toList.reverse.toArray) := by
    show items.toList.reverse.toArray.size ≤ sizeLine
    rw [List.size_toArray, List.length_reverse, Array.length_toList]
    exact hsz
  obtain ⟨os, hos, hcs, hds⟩ := id hs
  have hTs : s.TypeIs (.ref sl) "slice" := ⟨os, hos, hcs⟩
  unfold getItem
  try with_reducible refine wpAny_holding ?_
  first | refine wpAny_bind (wpAny_pure ?_) | skip
  refine wpAny_bind (wpAny_sequenceKey ht.typeIs (by decide) ?_)
  refine wpAny_bind (wpAny_callSpecial?_slot (name := Str.ofString "__getitem__") ht.typeIs PyProof.Rows.slot_tuple_getitem
    (wpAny_call_entry PyProof.Rows.slot_tuple_getitem ht.typeIs entry_tuple_getitem ?_ (args_tuple_getitem _ _)))
  show wpAny _ _ (Builtin.Tuple.tupleItemsOf (.ref t) >>= _) _ _ s
  refine wpAny_bind (tupleItemsOf_ ht ?_)
  refine wpAny_bind (wpAny_typeOf hTs ?_)
  rw [if_pos (by decide)]
  refine wpAny_bind (sliceApplied_rev hs ?_)
  have hno : ¬ ((((items.size : Int) - 1) == 0 && (-1 : Int) == 1 && items.size == items.size) = true) := by
    intro q
    rw [Bool.and_eq_true, Bool.and_eq_true] at q
    exact absurd q.1.2 (by decide)
  show wpAny _ _ (if (((items.size : Int) - 1) == 0 && (-1 : Int) == 1 && items.size == items.size) = true then _ else _) _ _ s
  rw [if_neg hno, pick_rev]
  first
    | exact wpAny_bind (m := Builtin.Tuple.tupleExact _) (wpAny_newObj_type (wpAny_pure ⟨_, rfl, wpAny_pure h⟩) htake)
    | exact wpAny_bind (m := Builtin.Tuple.tupleExact _) (wpAny_newObj_type (wpAny_bind (wpAny_pure (wpAny_pure ⟨_, rfl, wpAny_pure h⟩))) htake)
    | exact wpAny_bind (wpAny_bind (m := Builtin.Tuple.tupleExact _) (wpAny_newObj_type (wpAny_pure (wpAny_pure ⟨_, rfl, wpAny_pure h⟩)) htake))
    | exact wpAny_bind (wpAny_bind (m := Builtin.Tuple.tupleExact _) (wpAny_newObj_type (wpAny_pure ⟨_, rfl, wpAny_pure h⟩) htake))
end
end HT
namespace Z
open PySem PySem.Spec L2
open PyProof.Rows hiding St
/-! ### t[::-1] -/
def tRevT (K : PySem.W.Frag) (te : TE) : TE := fun σ H Q => te σ H fun x H1 => ∃ a xs, x = .ref a ∧ SqT K H1 a xs ∧ ∀ p, H1 p = none → Q (.ref p) (upd H1 p (.tup xs.reverse))
theorem pe_revT {X : Cx} {e : Expr} {te : TE} {k : Nat} {p1 p2 p3 pos : Pos} (he : PE X e te) : PE X (.Subscript e (.Slice none none (some (.UnaryOp .USub (.Constant (.int 1) k p1) p2)) p3) pos) (tRevT X.K te) := by
  refine ⟨fun pins s σ H Q I h => ?_⟩
  refine PyProof.Rows.Subscript_ (thn (he.run pins s σ H _ I h) fun v s1 ⟨x, H1, I1, r1, q1⟩ => ?_)
  obtain ⟨a, xs, ex, hx, q⟩ := q1
  subst ex
  cases r1
  have hst : PO X (some (.UnaryOp .USub (.Constant (.int 1) k p1) p2)) (tPart (tUn (rU fun i => .int (-i)) (tC (.int 1)))) := po_some (pe_un un_neg pe_int)
  refine wpAny_Slice (thn (po_none.run pins s1 σ H1 (fun o H2 => o = none ∧ H2 = H1) I1 ⟨rfl, rfl⟩) fun vl s2 ⟨l, H2, I2, pl, el, e2⟩ => ?_)
  subst el e2
  refine thn (po_none.run pins s2 σ H2 (fun o H3 => o = none ∧ H3 = H2) I2 ⟨rfl, rfl⟩) fun vu s3 ⟨u, H3, I3, pu, eu, e3⟩ => ?_
  subst eu e3
  refine thn (hst.run pins s3 σ H3 (fun o H4 => o = some (-1) ∧ H4 = H3) I3 ⟨1, rfl, -1, rfl, rfl, rfl⟩) fun vs s4 ⟨o, H4, I4, ps, eo, e4⟩ => ?_
  subst eo e4
  cases pl
  cases pu
  obtain ⟨tk, rfl⟩ : ∃ t, vs = .int (-1) t := by cases ps; exact ⟨_, rfl⟩
  have I5 : Inv X pins σ H4 { s4 with heap := s4.heap.push { cls := .type "slice", data := .fields #[.none, .none, .int (-1) tk] } } := I4.kept (t' := s4.toks) fun b ob q => Heap.get?_push_of_some _ q
  obtain ⟨its, r, ht, hz⟩ := I5.tuple hx
  have hlen := r.length
  show wpAny (model X.prog X.w) X.A (subscriptTail e (.Slice none none (some (.UnaryOp .USub (.Constant (.int 1) k p1) p2)) p3) (.ref a) (.ref s4.heap.objs.size)) (EP X pins σ Q) X.xe { s4 with heap := s4.heap.push { cls := .type "slice", data := .fields #[.none, .none, .int (-1) tk] } }
  refine tail_any (ops := [.ref a, .ref s4.heap.objs.size]) ht.typeIs (PyProof.Rows.slot_tuple_getitem.lookup) ?_ (by with_unfolding_all rfl)
  refine HT.getItem_tuple_rev ht (Heap.IsSliceOf.new _ .none .none (.int (-1) tk)) ?_ (by rw [List.size_toArray]; omega)
  refine ⟨.ref _, _, I5.laid (t' := s4.toks) (o := .tup xs.reverse) (fun b ob q => Heap.get?_push_of_some _ q) (Nat.le_refl _) ?_, rfl, q _ (I5.hok.fresh (Nat.le_refl _))⟩
  exact ⟨by rw [List.length_reverse]; exact hz, _, r.reverse, IsTup.new _ _⟩
def mRevT (a : EM) : EM := fun σ st => (a σ st).bind fun p => match p.1 with
  | .tup ds => some (.tup ds.reverse, p.2)
  | _ => none
def mRevL (a : EM) : EM := fun σ st => (a σ st).bind fun p => (vL p.1 p.2).bind fun ds => some (.lst ds.reverse, p.2)
section
variable {X : Cx} {C : Nat → Addr} {e : Expr} {me : EM} {k : Nat} {p1 p2 p3 pos : Pos}
theorem s_revT (h : SE X C e me) : SE X C (.Subscript e (.Slice none none (some (.UnaryOp .USub (.Constant (.int 1) k p1) p2)) p3) pos) (mRevT me) := PE.weak (pe_revT h) fun σ H Q h => by
  obtain ⟨g, σd, st, d, st', rl, rs, e, k⟩ := h
  obtain ⟨⟨x, st1⟩, e1, e⟩ := bind_some e
  refine ⟨g, σd, st, x, st1, rl, rs, e1, fun g1 H1 v x1 rl1 r1 => ?_⟩
  cases x with
  | tup ds =>
    cases e
    obtain ⟨a, xs, rfl, h1, h2⟩ := r1
    refine ⟨a, xs, rfl, sqTMono rl1.sub h1, fun p hp => ?_⟩
    obtain ⟨x2, rl2⟩ := rl1.freeze1 (o := .tup xs.reverse) hp
    exact k _ _ _ (x1.trans x2) rl2 ⟨p, _, rfl, .inl (.inl upd_same), h2.reverse.up x2⟩
  | _ => cases e
theorem s_revL (h : SE X C e me) : SE X C (.Subscript e (.Slice none none (some (.UnaryOp .USub (.Constant (.int 1) k p1) p2)) p3) pos) (mRevL me) := PE.weak (pe_revL h) fun σ H Q h => by
  obtain ⟨g, σd, st, d, st', rl, rs, e, k⟩ := h
  obtain ⟨⟨x, st1⟩, e1, e⟩ := bind_some e
  obtain ⟨ds, e2, e⟩ := bind_some e
  cases e
  refine ⟨g, σd, st, x, st1, rl, rs, e1, fun g1 H1 v x1 rl1 r1 => ?_⟩
  obtain ⟨a, xs, rfl, h1, h2⟩ := vL_of rl1 r1 e2
  refine ⟨a, xs, rfl, h1, fun p hp => ?_⟩
  obtain ⟨x2, rl2⟩ := rl1.freeze1 (o := .lst xs.reverse) hp
  exact k _ _ _ (x1.trans x2) rl2 ⟨p, _, rfl, upd_same, h2.reverse.up x2⟩
end

/-! ### defs called with keywords alone -/
def pick {α : Type} (is : List Nat) (l : List α) : List α := is.filterMap (l[·]?)
theorem Vals.pick {xs : List V} {us : List Value} (r : Vals xs us) : ∀ is : List Nat, Vals (pick is xs) (pick is us)
  | [] => .nil
  | i :: is => by
    have ih := Vals.pick r is
    unfold Z.pick at ih ⊢
    simp only [List.filterMap_cons]
    cases hx : xs[i]? with
    | none =>
      rw [r.none_of hx]
      exact ih
    | some x =>
      obtain ⟨u, hu, ru⟩ := r.get hx
      rw [hu]
      exact .cons ru ih
theorem Reps.pick {K : PySem.W.Frag} {C : Nat → Addr} {g : Gh} {ds : List D} {xs : List V} (r : Reps K C g ds xs) : ∀ is : List Nat, Reps K C g (pick is ds) (pick is xs)
  | [] => rfl
  | i :: is => by
    have ih := Reps.pick r is
    unfold Z.pick at ih ⊢
    simp only [List.filterMap_cons]
    cases hx : ds[i]? with
    | none =>
      have : xs[i]? = none := by rw [List.getElem?_eq_none_iff] at hx ⊢; rw [← r.length]; exact hx
      rw [this]
      exact ih
    | some x =>
      obtain ⟨u, hu, ru⟩ := r.get hx
      rw [hu]
      exact .cons ru ih
/-- how a call with keywords alone binds: is says which keyword each parameter takes -/
def KwB (K : PySem.W.Frag) (fd : FuncData) (ps ks : List Str) (is : List Nat) : Prop :=
  ∀ (s : Shared) (ws : List Value), K.In s.heap → ws.length = ks.length → BindsTo s fd ⟨[], ks.zip ws⟩ (ps.zip (pick is ws))
section
variable {X : Cx} {C : Nat → Addr} {CX : CXT} {k : Nat} {f : Addr} {fd : FuncData} {ps ks : List Str} {m : FM} {x : Str} {p pos : Pos} {kws : List Keyword} {mk : Ev (List D)}
def mCKw (m : FM) (is : List Nat) (n : Nat) (a : Ev (List D)) : EM := fun σ st => (a σ st).bind fun p => if p.1.length = n then m (pick is p.1) p.2 else none
theorem s_callK0 (is : List Nat) {n : Nat} (F : FnG X.prog X.w X.K X.mg X.base CX k f fd ps (spF X.K C m)) (hr : RoomG k X.A) (hm : X.mg x = some (.ref f)) (hkp : PySem.W.keepIn X.K (.ref f) = true) (hb : KwB X.K fd ps ks is) (hx : Passes CX X E0)
    (ha : SK X C kws mk) (hn : ks.length = n := by rfl) (hg : Gl X x := by rfl) (hdb : (x == ("__debug__" : Str)) = false := by decide)
    (hall : (backToKw pos (keywordEach kws X.env)).all (·.1.isSome) = true := by rfl) (hks : (backToKw pos (keywordEach kws X.env)).filterMap (·.1) = ks := by rfl)
    (hpl : ((backTo pos (starEach [] X.env)).any (·.1) || (backToKw pos (keywordEach kws X.env)).any (·.1.isNone)) = false := by rfl) :
    SE X C (.Call (.Name x p) [] kws pos) (mCKw m is n mk) := by
  subst hn
  refine ⟨fun pins s σ H Q I h => ?_⟩
  refine wpAny_Call_Name_kw (ld_glob I hg hm ?_ hdb)
  obtain ⟨g, σd, st, d, st', rl, rs, e1, fin⟩ := h
  obtain ⟨⟨ds, st1⟩, e2, e3⟩ := bind_some e1
  split at e3
  case isFalse => cases e3
  rename_i hl
  have hl : ds.length = ks.length := hl
  have reading : tA X.K C mk σ H fun vs H1 => vs.length = ks.length ∧ spF X.K C m (pick is vs) H1 Q E0 := ⟨g, σd, st, ds, st1, rl, rs, e2, fun g1 H1 vs x1 rl1 r1 =>
    ⟨by rw [← r1.length]; exact hl, g1, pick is ds, st1, d, st', rl1, r1.pick is, e3, fun g2 H2 v x2 rl2 r2 => fin g2 H2 v (x1.trans x2) rl2 r2⟩⟩
  refine PySem.W.callWith_KW0 (h₀ := X.base) I.ok.mod.kin hkp hall ?_ hpl
  refine thn (ha.run pos pins s σ H _ I reading) fun ws s1 ⟨zs, H1, I1, rz, hlz, q1⟩ => ⟨I1.kIn, ?_⟩
  rw [hks]
  have hw : ws.length = ks.length := by rw [← rz.length]; exact hlz
  have bd := hb s1 ws I1.kIn hw
  refine wpAny_call (codeAny_mono (F.run X.A X.stack s1 H1 ⟨[], ks.zip ws⟩ (pick is ws) (pick is zs) Q E0 hr I1.env0 bd (Vals.pick rz is) q1) fun res s' hq => ?_)
  cases res with
  | error err => exact hx pins σ H1 s1 err s' I1 hq
  | ok fl =>
    cases fl with
    | ret u => exact I1.after hq
    | _ => exact hq.elim
end
end Z

end
section
set_option Elab.async false
set_option linter.all false
set_option maxRecDepth 100000
set_option autoImplicit false
namespace Z
open PySem PySem.Spec L2

/-! ### one rule or another, by what is there -/
theorem PE.or {X : Cx} {e : Expr} {t u : TE} (h : PE X e t) (h' : PE X e u) : PE X e fun σ H Q => t σ H Q ∨ u σ H Q :=
  ⟨fun pins s σ H Q I q => q.elim (h.run pins s σ H Q I) (h'.run pins s σ H Q I)⟩
theorem PI.or {X : Cx} {tg e : Expr} {t u : TI} (h : PI X tg e t) (h' : PI X tg e u) : PI X tg e fun σ H R => t σ H R ∨ u σ H R :=
  ⟨fun pins s σ H R I q => q.elim (h.run pins s σ H R I) (h'.run pins s σ H R I)⟩
theorem RoomG.mono {j k : Nat} {A : Around} (r : RoomG k A) (h : j ≤ k) : RoomG j A := ⟨r.room.mono h, r.guards⟩
theorem FnG.mono {P : Program} {w : World} {K : PySem.W.Frag} {mg : Str → Option Value} {base : Heap} {CX : CXT} {j k : Nat} {f : Addr} {fd : FuncData} {ps : List Str} {sp : Sp} (F : FnG P w K mg base CX j f fd ps sp) (h : j ≤ k) :
    FnG P w K mg base CX k f fd ps sp := ⟨F.len, fun A outer s H args us vs Q E hr => F.run A outer s H args us vs Q E (hr.mono h)⟩
/-- what any loop walks: lists, tuples, texts -/
def walkD (d : D) (st : Sto) : Option ((List D × Back) × Sto) := match d with
  | .tup ds => some ((ds, some), st)
  | .str x => some ((strD x, some), st)
  | d => lend d st
def ilAny (a : EM) : EvL := fun σ st => (a σ st).bind fun p => walkD p.1 p.2
def enD (d : D) (st : Sto) : Option ((List D × Back) × Sto) := match d with
  | .tup ds => some ((enumD 0 ds, some), st)
  | d => (lend d st).bind fun q => some ((enumD 0 q.1.1, q.1.2), q.2)
def ilEnA (a : EM) : EvL := fun σ st => (a σ st).bind fun p => enD p.1 p.2
def iAny (a : EM) : Ev (List D) := fun σ st => (a σ st).bind fun p => match p.1 with
  | .tup ds => some (ds, p.2)
  | .str x => some (strD x, p.2)
  | .lst ds => some (ds, p.2)
  | .sq ds => some (ds, p.2)
  | _ => none
def mRev (a : EM) : EM := fun σ st => (a σ st).bind fun p => match p.1 with
  | .tup ds => some (.tup ds.reverse, p.2)
  | d => (vL d p.2).bind fun ds => some (.lst ds.reverse, p.2)
section
variable {X : Cx} {C : Nat → Addr} {tg it e : Expr} {me : EM} {p pos : Pos}
theorem sil_any (h : SE X C it me) : SIL X C tg it (ilAny me) := PI.weak (PI.or (sil_lst h) (PI.or (sil_of (si_tup h)) (sil_of (si_str h)))) fun σ H R q => by
  obtain ⟨g, σd, st, ds, back, st', rl, rs, e, k⟩ := q
  obtain ⟨⟨x, st1⟩, e1, e⟩ := bind_some e
  have low : ∀ {m : EvL}, m σd st = some ((ds, back), st') → tIL X.K C m σ H R := fun em => ⟨g, σd, st, ds, back, st', rl, rs, em, k⟩
  cases x with
  | tup ys =>
    refine .inr (.inl (low ?_))
    cases e
    simp only [ilOf, iTp, e1, Option.bind_some]
  | str y =>
    refine .inr (.inr (low ?_))
    cases e
    simp only [ilOf, iStD, e1, Option.bind_some]
  | _ =>
    refine .inl (low ?_)
    simp only [ilLst, e1, Option.bind_some]
    exact e
theorem sil_enumA {es : List Expr} {kk : Nat} {tpos : Pos} (hg : Gl X "enumerate") (hm : X.mg "enumerate" = none) (ha : SE X C e me) (hs : starEach [e] X.env = [(false, eval e X.env)] := by rfl) :
    SIL X C (.Tuple es kk tpos) (.Call (.Name "enumerate" p) [e] [] pos) (ilEnA me) := PI.weak (PI.or (sil_enum hg hm ha hs) (sil_of (si_enumT hg hm ha hs))) fun σ H R q => by
  obtain ⟨g, σd, st, ds, back, st', rl, rs, e, k⟩ := q
  obtain ⟨⟨x, st1⟩, e1, e⟩ := bind_some e
  have low : ∀ {m : EvL}, m σd st = some ((ds, back), st') → tIL X.K C m σ H R := fun em => ⟨g, σd, st, ds, back, st', rl, rs, em, k⟩
  cases x with
  | tup ys =>
    refine .inr (low ?_)
    cases e
    simp only [ilOf, iEnT, e1, Option.bind_some]
  | _ =>
    refine .inl (low ?_)
    simp only [ilEn, e1, Option.bind_some]
    exact e
theorem si_any (h : SE X C it me) : SI X C tg it (iAny me) := PI.weak (PI.or (si_lst h) (PI.or (si_tup h) (si_str h))) fun σ H R q => by
  obtain ⟨g, σd, st, ds, st', rl, rs, e, k⟩ := q
  obtain ⟨⟨x, st1⟩, e1, e⟩ := bind_some e
  have low : ∀ {m : Ev (List D)}, m σd st = some (ds, st') → tI X.K C m σ H R := fun em => ⟨g, σd, st, ds, st', rl, rs, em, k⟩
  cases x with
  | tup ys =>
    refine .inr (.inl (low ?_))
    cases e
    simp only [iTp, e1, Option.bind_some]
  | str y =>
    refine .inr (.inr (low ?_))
    cases e
    simp only [iStD, e1, Option.bind_some]
  | lst ys =>
    refine .inl (low ?_)
    cases e
    simp only [iLst, e1, Option.bind_some]
  | sq ys =>
    refine .inl (low ?_)
    cases e
    simp only [iLst, e1, Option.bind_some]
  | _ => cases e
theorem s_rev {kk : Nat} {p1 p2 p3 : Pos} (h : SE X C e me) : SE X C (.Subscript e (.Slice none none (some (.UnaryOp .USub (.Constant (.int 1) kk p1) p2)) p3) pos) (mRev me) := PE.weak (PE.or (s_revT h) (s_revL h)) fun σ H Q q => by
  obtain ⟨g, σd, st, d, st', rl, rs, e, k⟩ := q
  obtain ⟨⟨x, st1⟩, e1, e⟩ := bind_some e
  have low : ∀ {m : EM}, m σd st = some (d, st') → tE X.K C m σ H Q := fun em => ⟨g, σd, st, d, st', rl, rs, em, k⟩
  cases x with
  | tup ys =>
    refine .inl (low ?_)
    cases e
    simp only [mRevT, e1, Option.bind_some]
  | _ =>
    refine .inr (low ?_)
    simp only [mRevL, e1, Option.bind_some]
    exact e
/-- xs + ys, a new list of the store -/
def oAddN (a b : D) (st : Sto) : Option (D × Sto) := (pL a st).bind fun xs => (pL b st).bind fun ys => if xs.length + ys.length ≤ sizeLine then some (.ref st.length, st ++ [.lst (xs ++ ys)]) else none
theorem sAddN : SOp X C (binaryOp .Add) oAddN := by
  refine op_intro fun g H st dx dy x y d st' rl r1 r2 e => ?_
  obtain ⟨xs, e1, e⟩ := bind_some e
  obtain ⟨ys, e2, e⟩ := bind_some e
  split at e
  · rename_i hz
    cases e
    obtain ⟨a, vs, rfl, h1, h2⟩ := pL_of rl r1 e1
    obtain ⟨b, ws, rfl, h3, h4⟩ := pL_of rl r2 e2
    refine ⟨_, op_cat, fun Q k => ⟨a, b, vs, ws, rfl, rfl, h1, h3, by rw [← h2.length, ← h4.length]; exact hz, fun p hp => ?_⟩⟩
    obtain ⟨g2, x2, rl2, r2⟩ := new_of (g := g) rl (h2.append h4) hp
    exact k _ _ _ x2 rl2 r2
  · cases e

/-! ### == (), whatever the other tuple holds -/
def rEqE (K : PySem.W.Frag) : R2 := fun x y H Q => ∃ a b xs, x = .ref a ∧ y = .ref b ∧ SqT K H a xs ∧ SqT K H b [] ∧ Q (.bl xs.isEmpty) H
theorem op_eqE (hu : X.A.units < cLine) : OpR X (compareOp .Eq) (rEqE X.K) := by
  intro pins s σ H x y v u Q I rx ry h
  obtain ⟨a, b, xs, rfl, rfl, h1, h2, q⟩ := h
  cases rx
  cases ry
  obtain ⟨its, rv, p, _⟩ := I.tuple h1
  obtain ⟨its2, rv2, p2, _⟩ := I.tuple h2
  cases rv2
  refine SeqAt.eq_tupleAt (e := fun _ => true) (show s.heap.IsTuple a its.toArray from p) (show s.heap.IsTuple b #[] from p2) hu (fun j h1 h2 => absurd h2 (Nat.not_lt_zero _)) ?_
  refine ⟨.bl xs.isEmpty, H, I, ?_, q⟩
  have hl := rv.length
  show Value.bool _ = Value.bool _
  cases its with
  | nil => cases xs with
    | nil => rfl
    | cons _ _ => cases hl
  | cons _ _ => cases xs with
    | nil => cases hl
    | cons _ _ => simp
def oEqE0 (a b : D) (st : Sto) : Option (D × Sto) := match a, b with
  | .tup xs, .tup [] => some (.bl xs.isEmpty, st)
  | a, b => oEq a b st
theorem sEqE0 (hu : X.A.units + 64 < cLine) : SOp X C (compareOp .Eq) oEqE0 := by
  refine op_intro fun g H st dx dy x y d st' rl r1 r2 e => ?_
  have old : oEq dx dy st = some (d, st') → ∃ r : R2, OpR X (compareOp .Eq) r ∧ ∀ Q : VK, (∀ g' H' v, GExt g g' → Rl X.K C g' H' st' → Rep X.K C g' d v → Q v H') → r x y H Q :=
    fun e => ⟨_, sEq (C := C) hu, fun Q k => ⟨g, dx, dy, st, d, st', rl, r1, r2, e, k⟩⟩
  cases dx with
  | tup xs =>
    cases dy with
    | tup ys =>
      cases ys with
      | nil =>
        cases e
        obtain ⟨a, vs, rfl, h1, h2⟩ := r1
        obtain ⟨b, ws, rfl, h3, h4⟩ := r2
        cases (show ws = [] from h4)
        refine ⟨_, op_eqE (by omega), fun Q k => ⟨a, b, vs, rfl, rfl, sqTMono rl.sub h1, sqTMono rl.sub h3, ?_⟩⟩
        have hl := h2.length
        have : vs.isEmpty = xs.isEmpty := by cases xs <;> cases vs <;> simp_all
        rw [this]
        exact k g H _ (GExt.refl g) rl rfl
      | cons _ _ => exact old e
    | _ => exact old e
  | _ => exact old e

/-! ### lists of texts -/
def strsD : List D → Option (List Str)
  | [] => some []
  | .str x :: r => (strsD r).bind fun xs => some (x :: xs)
  | _ :: _ => none
theorem Reps.strs {K : PySem.W.Frag} {C : Nat → Addr} {g : Gh} : ∀ {ds : List D} {xs : List V} {ss : List Str}, Reps K C g ds xs → strsD ds = some ss → xs = ss.map V.str
  | [], xs, ss, r, e => by
    cases (show xs = [] from r)
    cases e
    rfl
  | d :: ds, xs, ss, r, e => by
    obtain ⟨x, ys, rfl, r1, r2⟩ := r
    cases d with
    | str y =>
      simp only [strsD] at e
      obtain ⟨ts, e1, e⟩ := bind_some e
      cases e
      cases (show x = .str y from r1)
      rw [Reps.strs r2 e1]; rfl
    | _ => cases e
theorem vals_strs : ∀ {ss : List Str} {us : List Value}, Vals (ss.map V.str) us → us.length = ss.length ∧ ∀ (j : Nat) (h : j < us.length), ∃ x t, ss[j]? = some x ∧ us[j] = .str x t
  | [], us, r => by
    rw [List.map_nil] at r
    cases r
    exact ⟨rfl, fun j h => absurd h (Nat.not_lt_zero _)⟩
  | s :: ss, us, r => by
    rw [List.map_cons] at r
    cases r with
    | cons r1 r2 =>
      obtain ⟨t, rfl⟩ := r1
      obtain ⟨h1, h2⟩ := vals_strs r2
      refine ⟨by simp [h1], fun j h => ?_⟩
      cases j with
      | zero => exact ⟨s, t, rfl, rfl⟩
      | succ j => exact h2 j (by simpa using h)
def rEqS (K : PySem.W.Frag) : R2 := fun x y H Q => ∃ (a b : Addr) (ss ts : List Str), x = .ref a ∧ y = .ref b ∧ SqL K H a (ss.map V.str) ∧ SqL K H b (ts.map V.str) ∧ Q (.bl (decide (ss = ts))) H
theorem op_eqS (hu : X.A.units < cLine) : OpR X (compareOp .Eq) (rEqS X.K) := by
  intro pins s σ H x y v u Q I rx ry h
  obtain ⟨a, b, ss, ts, rfl, rfl, h1, h2, q⟩ := h
  cases rx
  cases ry
  obtain ⟨its, rv, p, _⟩ := I.list h1
  obtain ⟨its2, rv2, p2, _⟩ := I.list h2
  obtain ⟨l1, g1⟩ := vals_strs rv
  obtain ⟨l2, g2⟩ := vals_strs rv2
  by_cases hl : ss.length = ts.length
  · refine SeqAt.eq_listAt (e := fun j => decide (ss[j]? = ts[j]?)) p.isList p2.isList (by simp; omega) hu (fun j h1 h2 => ?_) ?_
    · have h1' : j < its.length := by simpa using h1
      have h2' : j < its2.length := by simpa using h2
      obtain ⟨x, t, e1, e2⟩ := g1 j h1'
      obtain ⟨y, t', e3, e4⟩ := g2 j h2'
      have e5 : its.toArray[j] = .str x t := by simpa using e2
      have e6 : its2.toArray[j] = .str y t' := by simpa using e4
      rw [e5, e6, e1, e3]
      have hb : decide (some x = some y) = (x == y) := by rw [Bool.eq_iff_iff]; simp
      rw [hb]
      exact SeqAt.EqAt.str_str x t y t'
    · refine ⟨.bl (decide (ss = ts)), H, I, ?_, q⟩
      show Value.bool _ = Value.bool _
      congr 1
      rw [Bool.eq_iff_iff, List.all_eq_true, decide_eq_true_eq]
      constructor
      · intro h
        apply List.ext_getElem?
        intro j
        by_cases hj : j < ss.length
        · exact of_decide_eq_true (h j (List.mem_range.mpr (by simp; omega)))
        · rw [List.getElem?_eq_none (by omega), List.getElem?_eq_none (by omega)]
      · rintro rfl j _
        exact decide_eq_true rfl
  · refine SeqAt.eq_list_lengthsAt p.isList p2.isList (by simp; omega) hu ⟨.bl (decide (ss = ts)), H, I, ?_, q⟩
    rw [decide_eq_false (fun e => hl (by rw [e]))]; rfl
def oEqE (a b : D) (st : Sto) : Option (D × Sto) := match a, b with
  | .lst xs, .lst ys => match strsD xs, strsD ys with
    | some ss, some ts => some (.bl (decide (ss = ts)), st)
    | _, _ => oEqE0 (.lst xs) (.lst ys) st
  | a, b => oEqE0 a b st
theorem sEqE (hu : X.A.units + 64 < cLine) : SOp X C (compareOp .Eq) oEqE := by
  refine op_intro fun g H st dx dy x y d st' rl r1 r2 e => ?_
  have old : oEqE0 dx dy st = some (d, st') → ∃ r : R2, OpR X (compareOp .Eq) r ∧ ∀ Q : VK, (∀ g' H' v, GExt g g' → Rl X.K C g' H' st' → Rep X.K C g' d v → Q v H') → r x y H Q :=
    fun e => ⟨_, sEqE0 (C := C) hu, fun Q k => ⟨g, dx, dy, st, d, st', rl, r1, r2, e, k⟩⟩
  cases dx with
  | lst xs =>
    cases dy with
    | lst ys =>
      simp only [oEqE] at e
      split at e
      · rename_i ss ts h1 h2
        cases e
        obtain ⟨a, vs, rfl, k1, k2⟩ := r1
        obtain ⟨b, ws, rfl, k3, k4⟩ := r2
        cases k2.strs h1
        cases k4.strs h2
        exact ⟨_, op_eqS (by omega), fun Q k => ⟨a, b, ss, ts, rfl, rfl, .inl (.inl (rl.sub _ _ k1)), .inl (.inl (rl.sub _ _ k3)), k g H _ (GExt.refl g) rl rfl⟩⟩
      · exact old e
    | _ => exact old e
  | _ => exact old e
end
section
variable {X : Cx} {C : Nat → Addr} {tg it e : Expr} {me : EM} {p pos : Pos}

/-! ### chains of three -/
def tChain3 (r r' r'' : R2) (ta tb tc td : TE) : TE := fun σ H Q => ta σ H fun x H1 => tb σ H1 fun y H2 => r x y H2 fun z H3 => ∃ k, z = .bl k ∧
  (if k = true then tc σ H3 fun w' H4 => r' y w' H4 fun z' H5 => ∃ k', z' = .bl k' ∧ (if k' = true then td σ H5 fun v' H6 => r'' w' v' H6 Q else Q (.bl false) H5) else Q (.bl false) H3)
section
variable {a b c d : Expr} {ta tb tc td : TE} {r r' r'' : R2}
open PyProof.Rows in
theorem pe_chain3 {op op' op'' : CmpOp} (ho : OpR X (compareOp op) r) (ho' : OpR X (compareOp op') r') (ho'' : OpR X (compareOp op'') r'') (ha : PE X a ta) (hb : PE X b tb) (hc : PE X c tc) (hd : PE X d td)
    (hm : lastMarks [op, op', op''] [b, c, d] = false := by with_unfolding_all rfl) : PE X (.Compare a [op, op', op''] [b, c, d] pos) (tChain3 r r' r'' ta tb tc td) := by
  refine ⟨fun pins s σ H Q I h => ?_⟩
  refine Compare_chain (thn (ha.run pins s σ H _ I h) fun v s1 ⟨x, H1, I1, r1, q1⟩ => chain_link (thn (hb.run pins s1 σ H1 _ I1 q1) fun u s2 ⟨y, H2, I2, r2, q2⟩ =>
    thn (ho pins s2 σ H2 x y v u _ I2 r1 r2 q2) fun d s3 ⟨z, H3, I3, r3, k, e, q3⟩ => ?_)) hm
  subst e
  cases r3
  refine wpAny_truthy_bool ?_
  cases k with
  | false => exact ite_ff ⟨.bl false, H3, I3, rfl, q3⟩
  | true =>
    refine ite_tt (chain_link (thn (hc.run pins s3 σ H3 _ I3 q3) fun w' s4 ⟨z', H4, I4, r4, q4⟩ => thn (ho' pins s4 σ H4 y z' u w' _ I4 r2 r4 q4) fun d' s5 ⟨z5, H5, I5, r5, k5, e5, q5⟩ => ?_))
    subst e5
    cases r5
    refine wpAny_truthy_bool ?_
    cases k5 with
    | false => exact ite_ff ⟨.bl false, H5, I5, rfl, q5⟩
    | true => exact ite_tt (chain_last (thn (hd.run pins s5 σ H5 _ I5 q5) fun w6 s6 ⟨z6, H6, I6, r6, q6⟩ => ho'' pins s6 σ H6 z' z6 w' w6 Q I6 r4 r6 q6))
open PyProof.Rows in
theorem pt_chain3 {op op' op'' : CmpOp} (ho : OpR X (compareOp op) r) (ho' : OpR X (compareOp op') r') (ho'' : OpR X (compareOp op'') r'') (ha : PE X a ta) (hb : PE X b tb) (hc : PE X c tc) (hd : PE X d td)
    (hm : lastMarks [op, op', op''] [b, c, d] = false := by with_unfolding_all rfl) : PT X (.Compare a [op, op', op''] [b, c, d] pos) (tTest (tChain3 r r' r'' ta tb tc td)) := by
  refine ⟨fun pins s σ H Q I h => ?_⟩
  refine isTrue_chain (thn (ha.run pins s σ H _ I h) fun v s1 ⟨x, H1, I1, r1, q1⟩ => test_link (thn (hb.run pins s1 σ H1 _ I1 q1) fun u s2 ⟨y, H2, I2, r2, q2⟩ =>
    thn (ho pins s2 σ H2 x y v u _ I2 r1 r2 q2) fun d s3 ⟨z, H3, I3, r3, k, e, q3⟩ => ?_)) hm
  subst e
  cases r3
  refine wpAny_truthy_bool ?_
  cases k with
  | false =>
    obtain ⟨k', e', q'⟩ := q3
    cases e'
    exact ite_ff ⟨H3, I3, q'⟩
  | true =>
    refine ite_tt (test_link (thn (hc.run pins s3 σ H3 _ I3 q3) fun w' s4 ⟨z', H4, I4, r4, q4⟩ => thn (ho' pins s4 σ H4 y z' u w' _ I4 r2 r4 q4) fun d' s5 ⟨z5, H5, I5, r5, k5, e5, q5⟩ => ?_))
    subst e5
    cases r5
    refine wpAny_truthy_bool ?_
    cases k5 with
    | false =>
      obtain ⟨k', e', q'⟩ := q5
      cases e'
      exact ite_ff ⟨H5, I5, q'⟩
    | true =>
      refine ite_tt (test_last (thn (hd.run pins s5 σ H5 _ I5 q5) fun w6 s6 ⟨z6, H6, I6, r6, q6⟩ => thn (ho'' pins s6 σ H6 z' z6 w' w6 _ I6 r4 r6 q6) fun d7 s7 ⟨z7, H7, I7, r7, k7, e7, q7⟩ => ?_))
      subst e7
      cases r7
      exact wpAny_truthy_bool ⟨H7, I7, q7⟩
end
def mCh3 (f f' f'' : D → D → Sto → Option (D × Sto)) (a b c d : EM) : EM := fun σ st => (a σ st).bind fun p => (b σ p.2).bind fun q => (f p.1 q.1 q.2).bind fun r => match r.1 with
  | .bl true => (c σ r.2).bind fun z => (f' q.1 z.1 z.2).bind fun w => match w.1 with
    | .bl true => (d σ w.2).bind fun y => f'' z.1 y.1 y.2
    | .bl false => some (.bl false, w.2)
    | _ => none
  | .bl false => some (.bl false, r.2)
  | _ => none
theorem ch3_of {K : PySem.W.Frag} {f f' f'' : D → D → Sto → Option (D × Sto)} {ma mb mc md : EM} {σ : St} {H : Hp} {Q : VK} (h : tE K C (mCh3 f f' f'' ma mb mc md) σ H Q) : tChain3 (rD K C f) (rD K C f') (rD K C f'') (tE K C ma) (tE K C mb) (tE K C mc) (tE K C md) σ H Q := by
  obtain ⟨g, σd, st, d, st', rl, rs, e, k⟩ := h
  obtain ⟨⟨x, st1⟩, e1, e⟩ := bind_some e
  obtain ⟨⟨y, st2⟩, e2, e⟩ := bind_some e
  obtain ⟨⟨z, st3⟩, e3, e⟩ := bind_some e
  refine ⟨g, σd, st, x, st1, rl, rs, e1, fun g1 H1 v1 x1 rl1 r1 => ?_⟩
  refine ⟨g1, σd, st1, y, st2, rl1, rs.mono x1, e2, fun g2 H2 v2 x2 rl2 r2 => ?_⟩
  refine ⟨g2, x, y, st2, z, st3, rl2, r1.up x2, r2, e3, fun g3 H3 v3 x3 rl3 r3 => ?_⟩
  cases z with
  | bl q =>
    refine ⟨q, r3, ?_⟩
    cases q with
    | true =>
      obtain ⟨⟨w, st4⟩, e4, e⟩ := bind_some (show (mc σd st3).bind _ = some (d, st') from e)
      obtain ⟨⟨z5, st5⟩, e5, e⟩ := bind_some e
      rw [if_pos rfl]
      refine ⟨g3, σd, st3, w, st4, rl3, rs.mono (x1.trans (x2.trans x3)), e4, fun g4 H4 v4 x4 rl4 r4 => ?_⟩
      refine ⟨g4, y, w, st4, z5, st5, rl4, r2.up (x3.trans x4), r4, e5, fun g5 H5 v5 x5 rl5 r5 => ?_⟩
      cases z5 with
      | bl q5 =>
        refine ⟨q5, r5, ?_⟩
        cases q5 with
        | true =>
          obtain ⟨⟨w6, st6⟩, e6, e⟩ := bind_some (show (md σd st5).bind _ = some (d, st') from e)
          rw [if_pos rfl]
          refine ⟨g5, σd, st5, w6, st6, rl5, rs.mono (x1.trans (x2.trans (x3.trans (x4.trans x5)))), e6, fun g6 H6 v6 x6 rl6 r6 => ?_⟩
          exact ⟨g6, w, w6, st6, d, st', rl6, r4.up (x5.trans x6), r6, e, fun g7 H7 v7 x7 rl7 r7 => k g7 H7 v7 (x1.trans (x2.trans (x3.trans (x4.trans (x5.trans (x6.trans x7)))))) rl7 r7⟩
        | false =>
          rw [if_neg Bool.false_ne_true]
          cases e
          exact k g5 H5 _ (x1.trans (x2.trans (x3.trans (x4.trans x5)))) rl5 rfl
      | _ => cases e
    | false =>
      rw [if_neg Bool.false_ne_true]
      cases e
      exact k g3 H3 _ (x1.trans (x2.trans x3)) rl3 rfl
  | _ => cases e
section
variable {a b c d : Expr} {ma mb mc md : EM} {op op' op'' : CmpOp} {f f' f'' : D → D → Sto → Option (D × Sto)}
theorem s_ch3 (ho : SOp X C (compareOp op) f) (ho' : SOp X C (compareOp op') f') (ho'' : SOp X C (compareOp op'') f'') (ha : SE X C a ma) (hb : SE X C b mb) (hc : SE X C c mc) (hd : SE X C d md) (hm : lastMarks [op, op', op''] [b, c, d] = false := by rfl) : SE X C (.Compare a [op, op', op''] [b, c, d] pos) (mCh3 f f' f'' ma mb mc md) :=
  PE.weak (pe_chain3 ho ho' ho'' ha hb hc hd hm) fun _ _ _ h => ch3_of h
theorem t_ch3 (ho : SOp X C (compareOp op) f) (ho' : SOp X C (compareOp op') f') (ho'' : SOp X C (compareOp op'') f'') (ha : SE X C a ma) (hb : SE X C b mb) (hc : SE X C c mc) (hd : SE X C d md) (hm : lastMarks [op, op', op''] [b, c, d] = false := by rfl) : ST X C (.Compare a [op, op', op''] [b, c, d] pos) (toB (mCh3 f f' f'' ma mb mc md)) :=
  PT.weak (pt_chain3 ho ho' ho'' ha hb hc hd hm) fun _ _ _ h => ch3_of (of_test h)
end
theorem RoomG.u64 {k : Nat} {A : Around} (r : RoomG k A) : A.units + 64 < cLine := r.room.units
theorem RoomG.u65 {k : Nat} {A : Around} (r : RoomG k A) : A.units + 65 < cLine := by have := r.room.un; omega
theorem RoomG.u1 {k : Nat} {A : Around} (r : RoomG k A) : A.units + 1 < cLine := by have := r.room.un; omega
/-- what a comprehension's scope must be, as a check -/
def blkB (N : List Str) (sc scope : Scope) (own : List (Str × Nat)) : Bool :=
  decide (scope.kind = .function) && scope.names.all (fun y => decide (scope.names.lookup y.1 = some y.2)) && own.all (fun p => decide (N[p.2]? = some p.1)) &&
    scope.names.all (fun y => !decide (y.2 = .free) || (decide (sc.names.lookup y.1 = some .cell) || decide (sc.names.lookup y.1 = some .free))) &&
    scope.names.all (fun y => !(decide (y.2 = .local) || decide (y.2 = .cell)) || ((own.map (·.1)).contains y.1 || !N.contains y.1))
theorem blk_ok {N : List Str} {sc scope : Scope} {own : List (Str × Nat)} (h : blkB N sc scope own = true) : BlkOk N sc scope own := by
  simp only [blkB, Bool.and_eq_true, List.all_eq_true, decide_eq_true_eq, Bool.or_eq_true, Bool.not_eq_true', decide_eq_false_iff_not, Bool.or_eq_false_iff] at h
  obtain ⟨⟨⟨⟨h1, h2⟩, h3⟩, h4⟩, h5⟩ := h
  refine ⟨h1, h2, h3, fun y hy e => ?_, fun y hy e => ?_⟩
  · rcases h4 y hy with q | q
    · exact absurd e q
    · exact q
  · rcases h5 y hy with q | q | q
    · rcases e with e | e
      · exact absurd e q.1
      · exact absurd e q.2
    · exact .inl (by simpa using q)
    · exact .inr (by simpa using q)
end
end Z

end
section
set_option Elab.async false
set_option linter.all false
set_option maxRecDepth 100000
set_option autoImplicit false
namespace Z
open PySem PySem.Spec L2
/-! ### booleans as numbers -/
def b2 (b : Bool) : Int := if b = true then 1 else 0
def oAddB (a b : D) (st : Sto) : Option (D × Sto) := match a, b with
  | .bl p, .int j => some (.int (b2 p + j), st)
  | .int i, .bl q => some (.int (i + b2 q), st)
  | a, b => oAdd a b st
def oSubB (a b : D) (st : Sto) : Option (D × Sto) := match a, b with
  | .bl p, .int j => some (.int (b2 p - j), st)
  | .int i, .bl q => some (.int (i - b2 q), st)
  | a, b => oSub a b st
def bStrB (ds : List D) (st : Sto) : Option (D × Sto) := match ds with
  | [.bl b] => some (.str (if b then "True" else "False"), st)
  | ds => bStrI ds st
section
variable {X : Cx} {C : Nat → Addr}
def rB1 (f : Bool → Int → V) : R2 := fun x y H Q => ∃ p j, x = .bl p ∧ y = .int j ∧ Q (f p j) H
def rB2 (f : Int → Bool → V) : R2 := fun x y H Q => ∃ i q, x = .int i ∧ y = .bl q ∧ Q (f i q) H
theorem op_addB1 : OpR X (binaryOp .Add) (rB1 fun p j => .int (b2 p + j)) := by
  intro pins s σ H x y v u Q I rx ry h
  obtain ⟨p, j, rfl, rfl, q⟩ := h
  cases rx
  obtain ⟨t, rfl⟩ := ry
  exact PySem.IntBool.add_bool_int ⟨.int _, H, I.tok _, ⟨_, rfl⟩, q⟩
theorem op_addB2 : OpR X (binaryOp .Add) (rB2 fun i q => .int (i + b2 q)) := by
  intro pins s σ H x y v u Q I rx ry h
  obtain ⟨p, j, rfl, rfl, q⟩ := h
  obtain ⟨t, rfl⟩ := rx
  cases ry
  exact add_int_bool ⟨.int _, H, I.tok _, ⟨_, rfl⟩, q⟩
theorem op_subB1 : OpR X (binaryOp .Sub) (rB1 fun p j => .int (b2 p - j)) := by
  intro pins s σ H x y v u Q I rx ry h
  obtain ⟨p, j, rfl, rfl, q⟩ := h
  cases rx
  obtain ⟨t, rfl⟩ := ry
  exact PySem.IntBool.sub_bool_int ⟨.int _, H, I.tok _, ⟨_, rfl⟩, q⟩
theorem op_subB2 : OpR X (binaryOp .Sub) (rB2 fun i q => .int (i - b2 q)) := by
  intro pins s σ H x y v u Q I rx ry h
  obtain ⟨p, j, rfl, rfl, q⟩ := h
  obtain ⟨t, rfl⟩ := rx
  cases ry
  exact PySem.IntBool.sub_int_bool ⟨.int _, H, I.tok _, ⟨_, rfl⟩, q⟩
theorem sAddB : SOp X C (binaryOp .Add) oAddB := by
  refine op_intro fun g H st dx dy x y d st' rl r1 r2 e => ?_
  have old : oAdd dx dy st = some (d, st') → ∃ r : R2, OpR X (binaryOp .Add) r ∧ ∀ Q : VK, (∀ g' H' v, GExt g g' → Rl X.K C g' H' st' → Rep X.K C g' d v → Q v H') → r x y H Q :=
    fun e => ⟨_, sAdd (C := C), fun Q k => ⟨g, dx, dy, st, d, st', rl, r1, r2, e, k⟩⟩
  cases dx with
  | bl p =>
    cases dy with
    | int j => cases e; exact ⟨_, op_addB1, fun Q k => ⟨p, j, r1, r2, k g H _ (GExt.refl g) rl rfl⟩⟩
    | _ => exact old e
  | int i =>
    cases dy with
    | bl q => cases e; exact ⟨_, op_addB2, fun Q k => ⟨i, q, r1, r2, k g H _ (GExt.refl g) rl rfl⟩⟩
    | _ => exact old e
  | _ => exact old e
theorem sSubB : SOp X C (binaryOp .Sub) oSubB := by
  refine op_intro fun g H st dx dy x y d st' rl r1 r2 e => ?_
  have old : oSub dx dy st = some (d, st') → ∃ r : R2, OpR X (binaryOp .Sub) r ∧ ∀ Q : VK, (∀ g' H' v, GExt g g' → Rl X.K C g' H' st' → Rep X.K C g' d v → Q v H') → r x y H Q :=
    fun e => ⟨_, sSub (C := C), fun Q k => ⟨g, dx, dy, st, d, st', rl, r1, r2, e, k⟩⟩
  cases dx with
  | bl p =>
    cases dy with
    | int j => cases e; exact ⟨_, op_subB1, fun Q k => ⟨p, j, r1, r2, k g H _ (GExt.refl g) rl rfl⟩⟩
    | _ => exact old e
  | int i =>
    cases dy with
    | bl q => cases e; exact ⟨_, op_subB2, fun Q k => ⟨i, q, r1, r2, k g H _ (GExt.refl g) rl rfl⟩⟩
    | _ => exact old e
  | _ => exact old e
theorem call_str_bool : CallR X (.type "str") (fun xs H Q => ∃ b, xs = [.bl b] ∧ Q (.str (if b then "True" else "False")) H) := by
  intro pins s σ H xs us Q I r h
  obtain ⟨b, rfl, q⟩ := h
  obtain ⟨u, rfl, rx⟩ := vals1 r
  cases rx
  exact PySem.P.str_of_bool ⟨.str _, H, I.tok _, ⟨_, rfl⟩, q⟩
theorem cStrB : SC X C (.type "str") bStrB := by
  refine sc_intro fun g H st ds vs d st' rl r e => ?_
  have old : bStrI ds st = some (d, st') → ∃ r, CallR X (.type "str") r ∧ ∀ Q : VK, (∀ g' H' v, GExt g g' → Rl X.K C g' H' st' → Rep X.K C g' d v → Q v H') → r vs H Q :=
    fun e => ⟨_, cStrI (C := C), fun Q k => ⟨g, ds, st, d, st', rl, r, e, k⟩⟩
  match ds, e with
  | [.bl b], e =>
    cases e
    obtain ⟨v, rfl, r1⟩ := r.one
    cases (show v = .bl b from r1)
    exact ⟨_, call_str_bool, fun Q k => ⟨b, rfl, k g H _ (GExt.refl g) rl rfl⟩⟩
  | [], e => exact old e
  | [.int i], e => exact old e
  | [.non], e => exact old e
  | [.str _], e => exact old e
  | [.tup _], e => exact old e
  | [.lst _], e => exact old e
  | [.sq _], e => exact old e
  | [.dic _ _], e => exact old e
  | [.obj _ _ _], e => exact old e
  | [.ref _], e => exact old e
  | a :: b :: c, e => exact old (by cases a <;> exact e)
end
end Z

end
section
set_option Elab.async false
set_option linter.all false
set_option maxRecDepth 100000
set_option autoImplicit false
namespace Z
open PySem PySem.Spec L2

/-! ### what has no mirror -/
def eNone : EM := fun _ _ => none
def sNone : SM := fun _ _ => none
section
variable {X : Cx} {C : Nat → Addr}
theorem s_none {e : Expr} : SE X C e eNone := ⟨fun pins s σ H Q I h => by obtain ⟨_, _, _, _, _, _, _, e, _⟩ := h; cases e⟩
theorem st_none {st : Stmt} : SS X C st sNone := ⟨fun pins s σ H Q I h => by obtain ⟨_, _, _, _, _, _, _, _, e, _⟩ := h; cases e⟩
end

/-! ### *e in a display -/
def aStar (a : EM) (r : Ev (List D)) : Ev (List D) := fun σ st => (a σ st).bind fun p => (vS p.1 p.2).bind fun ds => (r σ p.2).bind fun q => some (ds ++ q.1, q.2)
section
variable {X : Cx} {C : Nat → Addr} {e : Expr} {es : List Expr} {me : EM} {mes : Ev (List D)} {p : Pos}
theorem sa_star (ha : SE X C e me) (hr : SA X C es mes) (hs : starEach (.Starred e p :: es) X.env = (true, eval e X.env) :: starEach es X.env := by rfl) : SA X C (.Starred e p :: es) (aStar me mes) := by
  refine PA.weak (StX.pa_star ha hr hs) fun σ H Q h => ?_
  obtain ⟨g, σd, st, ds, st', rl, rs, e, k⟩ := h
  obtain ⟨⟨x, st1⟩, e1, e⟩ := bind_some e
  obtain ⟨xs, e2, e⟩ := bind_some e
  obtain ⟨⟨y, st2⟩, e3, e⟩ := bind_some e
  cases e
  refine ⟨g, σd, st, x, st1, rl, rs, e1, fun g1 H1 v1 x1 rl1 r1 => ?_⟩
  obtain ⟨a, ws, rfl, hq, hr⟩ := vS_of rl1 r1 e2
  refine ⟨a, ws, rfl, hq.symm, g1, σd, st1, y, _, rl1, rs.mono x1, e3, fun g2 H2 v2 x2 rl2 r2 => ?_⟩
  exact k g2 H2 _ (x1.trans x2) rl2 ((hr.up x2).append r2)
end

/-! ### methods of own classes -/
def clsD (d : D) (st : Sto) : Option (Nat × List Str) := match d with
  | .obj c ns _ => some (c, ns)
  | .ref i => match st[i]? with
    | some (.obj c ns _) => some (c, ns)
    | _ => none
  | _ => none
def mMeth (nm : Str) (tbl : List (Nat × FM)) (o : EM) (a : Ev (List D)) : EM := fun σ st => (o σ st).bind fun p => (clsD p.1 p.2).bind fun q => if (q.2.all fun n => !(nm == n)) = true then (tbl.lookup q.1).bind fun F => (a σ p.2).bind fun r => F (p.1 :: r.1) r.2 else none
structure MtOk (X : Cx) (C : Nat → Addr) (k : Nat) (nm : Str) (c : Nat) (m : FM) : Prop where
  ex : ∃ (f : Addr) (fd : FuncData) (ps : List Str), Cls X.K (C c) ∧ Meth X.K (C c) nm f ∧ FnG X.prog X.w X.K X.mg X.base CX0 k f fd ps (spF X.K C m) ∧ Binds X.K fd ps []
def MtAll (X : Cx) (C : Nat → Addr) (k : Nat) (nm : Str) (tbl : List (Nat × FM)) : Prop := ∀ c m, tbl.lookup c = some m → MtOk X C k nm c m
section
variable {X : Cx} {C : Nat → Addr} {k : Nat} {nm : Str} {tbl : List (Nat × FM)}
theorem mt_nil : MtAll X C k nm [] := fun c m e => by cases e
theorem mt_cons {c : Nat} {m : FM} {f : Addr} {fd : FuncData} {ps : List Str} (hc : Cls X.K (C c)) (hm : Meth X.K (C c) nm f) (F : FnG X.prog X.w X.K X.mg X.base CX0 k f fd ps (spF X.K C m)) (hb : Binds X.K fd ps []) (h : MtAll X C k nm tbl) : MtAll X C k nm ((c, m) :: tbl) := fun c' m' e => by
  rw [List.lookup_cons] at e
  cases hq : c' == c with
  | true => rw [hq] at e; cases e; cases (beq_iff_eq.mp hq); exact ⟨f, fd, ps, hc, hm, F, hb⟩
  | false => rw [hq] at e; exact h c' m' e
theorem lookup_all {fs : List (Str × V)} {nm : Str} : (fs.map (·.1)).all (fun n => !(nm == n)) = true → fs.lookup nm = none := by
  induction fs with
  | nil => intro _; rfl
  | cons p r ih =>
    obtain ⟨n, v⟩ := p
    intro h
    rw [List.map_cons, List.all_cons, Bool.and_eq_true, Bool.not_eq_true'] at h
    rw [List.lookup_cons, h.1]
    exact ih h.2
theorem clsD_of {g : Gh} {H : Hp} {st : Sto} {d : D} {v : V} {c : Nat} {ns : List Str} {K : PySem.W.Frag} (rl : Rl K C g H st) (r : Rep K C g d v) (e : clsD d st = some (c, ns)) : ∃ a dx fs, v = .ref a ∧ H a = some (.ins (C c) dx fs) ∧ fs.map (·.1) = ns := by
  cases d with
  | obj c' ns' vs =>
    cases e
    obtain ⟨a, dx, fs, rfl, k1, k2, k3, k4⟩ := r
    exact ⟨a, dx, fs, rfl, rl.sub _ _ k1, k3⟩
  | ref i =>
    obtain ⟨a, h1, rfl⟩ := r
    simp only [clsD] at e
    split at e
    · rename_i c' ns' vs e3
      cases e
      obtain ⟨_, dx, fs, k1, _, _, k3, k4⟩ := rl.obj i _ a e3 h1
      exact ⟨a, dx, fs, rfl, k1, k3⟩
    · cases e
  | _ => cases e
variable {o e : Expr} {es : List Expr} {mo : EM} {ma : Ev (List D)} {apos pos : Pos}
theorem s_meth {pl : Sem Bool} (T : MtAll X C k nm tbl) (hr : RoomG k X.A) (ho : SE X C o mo) (ha : SA X C (e :: es) ma)
    (hst : starEach (e :: es) X.env = (false, eval e X.env) :: starEach es X.env := by rfl) (hpl : (backTo pos (starEach es X.env)).any (·.1) = false := by rfl)
    (ht : eval (.Call (.Attribute o nm apos) (e :: es) [] pos) X.env = (do
      let ov ← eval o X.env
      standAt apos.atName
      let (f, first) ← holding [ov] (getMethod ov nm pl)
      callWith pos f first (backTo pos (starEach (e :: es) X.env)) (backToKw pos (keywordEach [] X.env))) := by rfl) :
    SE X C (.Call (.Attribute o nm apos) (e :: es) [] pos) (mMeth nm tbl mo ma) := by
  refine ⟨fun pins s σ H Q I h => ?_⟩
  obtain ⟨g, σd, st, d, st', rl, rs, e1, fin⟩ := h
  obtain ⟨⟨x, st1⟩, e2, e1⟩ := bind_some e1
  obtain ⟨⟨c, ns⟩, e3, e1⟩ := bind_some e1
  split at e1
  case isFalse => cases e1
  rename_i hn
  obtain ⟨m, e4, e1⟩ := bind_some e1
  obtain ⟨⟨ds, st2⟩, e5, e6⟩ := bind_some e1
  obtain ⟨f, fd, ps, hc, hm, F, hb⟩ := T c m e4
  have reading : tE X.K C mo σ H fun v H1 => ∃ a dx fs, v = .ref a ∧ H1 a = some (.ins (C c) dx fs) ∧ fs.lookup nm = none ∧ tA X.K C ma σ H1 fun vs H2 => spF X.K C m (.ref a :: vs) H2 Q E0 :=
    ⟨g, σd, st, x, st1, rl, rs, e2, fun g1 H1 v x1 rl1 r1 => by
      obtain ⟨a, dx, fs, rfl, ha, hf⟩ := clsD_of rl1 r1 e3
      refine ⟨a, dx, fs, rfl, ha, lookup_all (by rw [hf]; exact hn), g1, σd, st1, ds, st2, rl1, rs.mono x1, e5, fun g2 H2 vs x2 rl2 r2 => ?_⟩
      exact ⟨g2, x :: ds, st2, d, st', rl2, .cons (r1.up x2) r2, e6, fun g3 H3 v3 x3 rl3 r3 => fin g3 H3 v3 (x1.trans (x2.trans x3)) rl3 r3⟩⟩
  refine PySem.W.methodCall_KW (pl := pl) (thn (ho.run pins s σ H _ I reading) fun u s1 ⟨v, H1, I1, rx, a, dx, fs, ex, hx, hl, q⟩ => ?_) ht
  subst ex
  obtain rfl : u = Value.ref a := rx
  refine getmeth_ok I1 hx hc hm hl ?_
  refine PySem.W.callWith_K (first := [.ref a]) (h₀ := X.base) I.ok.mod.kin hm.kp (thn (ha.run pos pins s1 σ H1 _ I1 q) fun us s2 ⟨vs, H2, I2, r, q2⟩ => ⟨I2.kIn, ?_⟩) hst hpl
  exact runG (us := .ref a :: us) (vs := .ref a :: vs) F hr hb pass0 I2 (.cons rfl r) q2
theorem s_meth0 {pl : Sem Bool} (T : MtAll X C k nm tbl) (hr : RoomG k X.A) (ho : SE X C o mo)
    (ht : eval (.Call (.Attribute o nm apos) [] [] pos) X.env = (do
      let ov ← eval o X.env
      standAt apos.atName
      let (f, first) ← holding [ov] (getMethod ov nm pl)
      callWith pos f first (backTo pos (starEach [] X.env)) (backToKw pos (keywordEach [] X.env))) := by rfl) :
    SE X C (.Call (.Attribute o nm apos) [] [] pos) (mMeth nm tbl mo aNil) := by
  refine ⟨fun pins s σ H Q I h => ?_⟩
  obtain ⟨g, σd, st, d, st', rl, rs, e1, fin⟩ := h
  obtain ⟨⟨x, st1⟩, e2, e1⟩ := bind_some e1
  obtain ⟨⟨c, ns⟩, e3, e1⟩ := bind_some e1
  split at e1
  case isFalse => cases e1
  rename_i hn
  obtain ⟨m, e4, e1⟩ := bind_some e1
  obtain ⟨⟨ds, st2⟩, e5, e6⟩ := bind_some e1
  cases e5
  obtain ⟨f, fd, ps, hc, hm, F, hb⟩ := T c m e4
  have reading : tE X.K C mo σ H fun v H1 => ∃ a dx fs, v = .ref a ∧ H1 a = some (.ins (C c) dx fs) ∧ fs.lookup nm = none ∧ spF X.K C m [.ref a] H1 Q E0 :=
    ⟨g, σd, st, x, _, rl, rs, e2, fun g1 H1 v x1 rl1 r1 => by
      obtain ⟨a, dx, fs, rfl, ha, hf⟩ := clsD_of rl1 r1 e3
      refine ⟨a, dx, fs, rfl, ha, lookup_all (by rw [hf]; exact hn), ?_⟩
      exact ⟨g1, [x], _, d, st', rl1, .cons r1 rfl, e6, fun g3 H3 v3 x3 rl3 r3 => fin g3 H3 v3 (x1.trans x3) rl3 r3⟩⟩
  refine PySem.W.methodCall_KW (pl := pl) (thn (ho.run pins s σ H _ I reading) fun u s1 ⟨v, H1, I1, rx, a, dx, fs, ex, hx, hl, q⟩ => ?_) ht
  subst ex
  obtain rfl : u = Value.ref a := rx
  refine getmeth_ok I1 hx hc hm hl ?_
  exact PySem.W.callWith_K0 (first := [.ref a]) I1.kIn hm.kp (runG (us := [.ref a]) (vs := [.ref a]) F hr hb pass0 I1 (.cons rfl .nil) q)
end

/-! ### objects of the store, frozen with all that they hold -/
def iceL (f : D → Sto → Option (D × Sto)) : List D → Sto → Option (List D × Sto)
  | [], st => some ([], st)
  | d :: ds, st => (f d st).bind fun r => (iceL f ds r.2).bind fun q => some (r.1 :: q.1, q.2)
def iceD : Nat → D → Sto → Option (D × Sto)
  | 0, _, _ => none
  | n + 1, d, st => match d with
    | .ref i => match st[i]? with
      | some (.lst ds) => (iceL (iceD n) ds (st.set i .dead)).bind fun r => some (.lst r.1, r.2)
      | some (.obj c ns vs) => (iceL (iceD n) vs (st.set i .dead)).bind fun r => some (.obj c ns r.1, r.2)
      | _ => none
    | d => some (d, st)
def mIceD (n : Nat) (a : EM) : EM := fun σ st => (a σ st).bind fun p => iceD n p.1 p.2
section
variable {K : PySem.W.Frag} {C : Nat → Addr}
def IceOk (K : PySem.W.Frag) (C : Nat → Addr) (f : D → Sto → Option (D × Sto)) : Prop :=
  ∀ (d : D) (st : Sto) (g : Gh) (H : Hp) (v : V) (d' : D) (st' : Sto), Rl K C g H st → Rep K C g d v → f d st = some (d', st') → ∃ g', GExt g g' ∧ Rl K C g' H st' ∧ Rep K C g' d' v
theorem iceL_of {f : D → Sto → Option (D × Sto)} (hf : IceOk K C f) : ∀ (ds : List D) (st : Sto) (g : Gh) (H : Hp) (vs : List V) (ds' : List D) (st' : Sto), Rl K C g H st → Reps K C g ds vs → iceL f ds st = some (ds', st') → ∃ g', GExt g g' ∧ Rl K C g' H st' ∧ Reps K C g' ds' vs
  | [], st, g, H, vs, ds', st', rl, r, e => by cases e; exact ⟨g, GExt.refl g, rl, r⟩
  | d :: ds, st, g, H, vs, ds', st', rl, r, e => by
    obtain ⟨x, xs, rfl, r1, r2⟩ := r
    obtain ⟨⟨y, st1⟩, e1, e⟩ := bind_some e
    obtain ⟨⟨ys, st2⟩, e2, e⟩ := bind_some e
    cases e
    obtain ⟨g1, x1, rl1, q1⟩ := hf d st g H x y st1 rl r1 e1
    obtain ⟨g2, x2, rl2, q2⟩ := iceL_of hf ds st1 g1 H xs ys _ rl1 (r2.up x1) e2
    exact ⟨g2, x1.trans x2, rl2, .cons (q1.up x2) q2⟩
theorem iceD_of : ∀ n : Nat, IceOk K C (iceD n)
  | 0, d, st, g, H, v, d', st', rl, r, e => by cases e
  | n + 1, d, st, g, H, v, d', st', rl, r, e => by
    cases d with
    | ref i =>
      obtain ⟨a, h1, rfl⟩ := r
      simp only [iceD] at e
      split at e
      · rename_i ds e3
        obtain ⟨⟨es, st2⟩, e4, e⟩ := bind_some e
        cases e
        obtain ⟨g1, x1, rl1, b, xs, hb, hF, hR⟩ := rl.ice e3 h1
        cases hb
        obtain ⟨g2, x2, rl2, r2⟩ := iceL_of (iceD_of n) ds _ g1 H xs es _ rl1 hR e4
        exact ⟨g2, x1.trans x2, rl2, a, xs, rfl, x2.F _ _ hF, r2⟩
      · rename_i c ns vs e3
        obtain ⟨⟨es, st2⟩, e4, e⟩ := bind_some e
        cases e
        obtain ⟨g1, x1, rl1, b, dx, fs, hb, hF, hD, hN, hR⟩ := rl.iceO e3 h1
        cases hb
        obtain ⟨g2, x2, rl2, r2⟩ := iceL_of (iceD_of n) vs _ g1 H _ es _ rl1 hR e4
        exact ⟨g2, x1.trans x2, rl2, a, dx, fs, rfl, x2.F _ _ hF, x2.F _ _ hD, hN, r2⟩
      · cases e
    | _ => cases e; exact ⟨g, GExt.refl g, rl, r⟩
end
theorem s_iceD {X : Cx} {C : Nat → Addr} {e : Expr} {me : EM} (n : Nat) (h : SE X C e me) : SE X C e (mIceD n me) := by
  refine PE.weak h fun σ H Q h => ?_
  obtain ⟨g, σd, st, d, st', rl, rs, e, k⟩ := h
  obtain ⟨⟨x, st1⟩, e1, e⟩ := bind_some e
  refine ⟨g, σd, st, x, st1, rl, rs, e1, fun g1 H1 v x1 rl1 r1 => ?_⟩
  obtain ⟨g2, x2, rl2, r2⟩ := iceD_of n x st1 g1 H1 v d st' rl1 r1 e
  exact k g2 H1 v (x1.trans x2) rl2 r2

/-! ### data that is no list, and back -/
mutual
def pd : D → Option PyData
  | .non => some .none
  | .bl b => some (.bool b)
  | .int i => some (.int i)
  | .str x => some (.str x)
  | .tup ds => (pds ds).bind fun ps => some (.tuple ps)
  | _ => none
def pds : List D → Option (List PyData)
  | [] => some []
  | d :: ds => (pd d).bind fun p => (pds ds).bind fun ps => some (p :: ps)
end
mutual
def dX : PyData → D
  | .bool b => .bl b
  | .int i => .int i
  | .str x => .str x
  | .tuple ps => .tup (dXs ps)
  | _ => .non
def dXs : List PyData → List D
  | [] => []
  | p :: ps => dX p :: dXs ps
end
mutual
theorem dX_pd : ∀ (d : D) (p : PyData), pd d = some p → dX p = d
  | .non, p, e => by cases e; rfl
  | .bl _, p, e => by cases e; rfl
  | .int _, p, e => by cases e; rfl
  | .str _, p, e => by cases e; rfl
  | .tup ds, p, e => by
    obtain ⟨ps, e1, e⟩ := bind_some (show (pds ds).bind (fun ps => some (PyData.tuple ps)) = some p from e)
    cases e
    show D.tup (dXs ps) = _
    rw [dXs_pds ds ps e1]
  | .lst _, p, e => by cases e
  | .sq _, p, e => by cases e
  | .dic _ _, p, e => by cases e
  | .obj _ _ _, p, e => by cases e
  | .ref _, p, e => by cases e
theorem dXs_pds : ∀ (ds : List D) (ps : List PyData), pds ds = some ps → dXs ps = ds
  | [], ps, e => by cases e; rfl
  | d :: ds, ps, e => by
    obtain ⟨p, e1, e⟩ := bind_some (show (pd d).bind (fun p => (pds ds).bind fun ps => some (p :: ps)) = some ps from e)
    obtain ⟨qs, e2, e⟩ := bind_some e
    cases e
    show dX p :: dXs qs = _
    rw [dX_pd d p e1, dXs_pds ds qs e2]
end
mutual
theorem pd_px : ∀ (d : D) (p : PyData), pd d = some p → px d = some p
  | .non, p, e => e
  | .bl _, p, e => e
  | .int _, p, e => e
  | .str _, p, e => e
  | .tup ds, p, e => by
    obtain ⟨ps, e1, e⟩ := bind_some (show (pds ds).bind (fun ps => some (PyData.tuple ps)) = some p from e)
    cases e
    show (pxs ds).bind _ = _
    rw [pds_pxs ds ps e1]; rfl
  | .lst _, p, e => by cases e
  | .sq _, p, e => by cases e
  | .dic _ _, p, e => by cases e
  | .obj _ _ _, p, e => by cases e
  | .ref _, p, e => by cases e
theorem pds_pxs : ∀ (ds : List D) (ps : List PyData), pds ds = some ps → pxs ds = some ps
  | [], ps, e => e
  | d :: ds, ps, e => by
    obtain ⟨p, e1, e⟩ := bind_some (show (pd d).bind (fun p => (pds ds).bind fun ps => some (p :: ps)) = some ps from e)
    obtain ⟨qs, e2, e⟩ := bind_some e
    cases e
    show (px d).bind _ = _
    rw [pd_px d p e1, Option.bind_some, pds_pxs ds qs e2]; rfl
end
end Z

end
section
set_option Elab.async false
set_option linter.all false
set_option maxRecDepth 100000
set_option autoImplicit false
namespace Z
open PySem PySem.Spec L2

/-! ### max, min of data -/
def noneOf : PyData → Bool
  | .none => true
  | _ => false
def okBest (ps : List PyData) : Bool := (ps.all fun x => ps.all fun y => PySem.W.alike x y) && (ps.all fun x => !noneOf x) && PyData.canLayAll0 ps && decide (PyData.depthAll ps ≤ 60)
theorem okBest_alike {ps : List PyData} (h : okBest ps = true) : PySem.W.AlikeAll ps := by
  simp only [okBest, Bool.and_eq_true, List.all_eq_true, Bool.not_eq_true'] at h
  exact ⟨fun x hx y hy => h.1.1.1 x hx y hy, fun x hx e => by subst e; exact absurd (h.1.1.2 _ hx) (by decide)⟩
theorem okBest_lay {ps : List PyData} (h : okBest ps = true) : PyData.canLayAll0 ps = true ∧ PyData.depthAll ps ≤ 60 := by
  simp only [okBest, Bool.and_eq_true, decide_eq_true_eq] at h
  exact ⟨h.1.2, h.2⟩
def bBestX (f : PyData → List PyData → PyData) (ds es : List D) (st : Sto) : Option (D × Sto) := match ds, es with
  | [y], [z] => (vL y st).bind fun xs => (pds xs).bind fun ps => if okBest ps = true then (match ps with | [] => some (z, st) | p :: ps => some (dX (f p ps), st)) else none
  | _, _ => none
def bBest1 (f : PyData → List PyData → PyData) (ds : List D) (st : Sto) : Option (D × Sto) := match ds with
  | [y] => (vL y st).bind fun xs => (pds xs).bind fun ps => if okBest ps = true then (match ps with | [] => none | p :: ps => some (dX (f p ps), st)) else none
  | _ => none
theorem lay_mem : ∀ {ps : List PyData} {p : PyData}, PyData.canLayAll0 ps = true → p ∈ ps → p.canLay0 = true
  | [], _, _, h => by cases h
  | x :: xs, p, e, h => by
    have e : (PyData.canLay0 x && PyData.canLayAll0 xs) = true := by simpa [PyData.canLayAll0] using e
    rw [Bool.and_eq_true] at e
    rcases List.mem_cons.mp h with rfl | h
    · exact e.1
    · exact lay_mem e.2 h
theorem pds_get : ∀ {ds : List D} {ps : List PyData} {i : Nat} {d : D}, pds ds = some ps → ds[i]? = some d → ∃ p, ps[i]? = some p ∧ pd d = some p
  | [], _, _, _, _, e => by simp at e
  | d :: ds, ps, i, d', h, e => by
    obtain ⟨p, e1, h⟩ := bind_some (show (pd d).bind (fun p => (pds ds).bind fun ps => some (p :: ps)) = some ps from h)
    obtain ⟨qs, e2, h⟩ := bind_some h
    cases h
    cases i with
    | zero => cases (show some d = some d' from e); exact ⟨p, rfl, e1⟩
    | succ i => exact pds_get (i := i) e2 e
theorem pds_len : ∀ {ds : List D} {ps : List PyData}, pds ds = some ps → ds.length = ps.length
  | [], _, e => by cases e; rfl
  | d :: ds, ps, h => by
    obtain ⟨p, e1, h⟩ := bind_some (show (pd d).bind (fun p => (pds ds).bind fun ps => some (p :: ps)) = some ps from h)
    obtain ⟨qs, e2, h⟩ := bind_some h
    cases h
    simp [pds_len e2]
theorem minD_mem (p : PyData) : ∀ ps : List PyData, PySem.W.minD p ps ∈ p :: ps := by
  intro ps
  unfold PySem.W.minD
  induction ps generalizing p with
  | nil => exact List.mem_cons_self
  | cons y r ih =>
    rw [List.foldl_cons]
    by_cases h : PySem.W.dataLt y p = true
    · rw [if_pos h]; exact List.mem_cons_of_mem _ (ih y)
    · rw [if_neg h]
      rcases List.mem_cons.mp (ih p) with h | h
      · rw [h]; exact List.mem_cons_self
      · exact List.mem_cons_of_mem _ (List.mem_cons_of_mem _ h)
theorem maxD_mem (p : PyData) : ∀ ps : List PyData, PySem.W.maxD p ps ∈ p :: ps := by
  intro ps
  unfold PySem.W.maxD
  induction ps generalizing p with
  | nil => exact List.mem_cons_self
  | cons y r ih =>
    rw [List.foldl_cons]
    by_cases h : PySem.W.dataLt p y = true
    · rw [if_pos h]; exact List.mem_cons_of_mem _ (ih y)
    · rw [if_neg h]
      rcases List.mem_cons.mp (ih p) with h | h
      · rw [h]; exact List.mem_cons_self
      · exact List.mem_cons_of_mem _ (List.mem_cons_of_mem _ h)
section
variable {X : Cx} {C : Nat → Addr}
/-- the item that is told by its data -/
theorem best_at {g : Gh} {H : Hp} {st : Sto} {s s' : Shared} {pins : List (Addr × Obj)} {σ : St} {xs : List D} {ws : List V} {its : List Value} {ps bs : List _} {i : Nat} {v : Value} {q : PyData} {as : List Addr}
    (hp : pds xs = some ps) (rr : Reps X.K C g xs ws) (rv : Vals ws its) (hr : ReadsAll s.heap its ps bs) (hl : PyData.canLayAll0 ps = true) (hi : its.toArray[i]? = some v) (hq : q ∈ ps) (hk : ∀ b o, s.heap.get? b = some o → s'.heap.get? b = some o) (r : Reads s'.heap v q as) :
    ∃ w, RelV w v ∧ Rep X.K C g (dX q) w := by
  have hi : its[i]? = some v := by simpa using hi
  have hlen := rv.length
  have hlt : i < ws.length := by rw [hlen]; exact (List.getElem?_eq_some_iff.mp hi).1
  have hx : i < xs.length := by rw [rr.length]; exact hlt
  obtain ⟨w, hw, rw'⟩ := rr.get (List.getElem?_eq_getElem hx)
  obtain ⟨v', hv', rl⟩ := rv.get hw
  rw [hi] at hv'
  cases hv'
  obtain ⟨p, hp1, hp2⟩ := pds_get hp (List.getElem?_eq_getElem hx)
  obtain ⟨cs, r1, _, _⟩ := PySem.W.readsAll_at hr i v hi
  have e1 : ps.getD i .none = p := by rw [List.getD_eq_getElem?_getD, hp1]; rfl
  rw [e1] at r1
  have hpm : p ∈ ps := List.mem_of_getElem? hp1
  have u1 := SeqAt.readOf_eq (lay_mem hl hpm) (PyProof.Rows.Reads.keeps (fun b o q => hk b o q) r1)
  have u2 := SeqAt.readOf_eq (lay_mem hl hq) r
  have : p = q := u1.symm.trans u2
  subst this
  rw [dX_pd _ _ hp2]
  exact ⟨w, rl, rw'⟩
theorem cMaxX {k : Nat} (hr : RoomG k X.A) (hb : ∃ o, X.base.get? sysModules = some o) (hc : X.calm = true) : CallRK X (.builtin "max") ["default"] (rKW X.K C (bBestX PySem.W.maxD)) := by
  intro pins s σ H xs zs us ws Q I r rz h
  obtain ⟨g, ds, es, st, d, st', rl, r1, r2, e, kk⟩ := h
  match ds, es, e with
  | [y], [z], e =>
    obtain ⟨v, rfl, q1⟩ := r1.one
    obtain ⟨w, rfl, q2⟩ := r2.one
    obtain ⟨ys, e1, e⟩ := bind_some e
    obtain ⟨ps, e2, e⟩ := bind_some e
    split at e
    case isFalse => cases e
    rename_i hz
    obtain ⟨a, xs, rfl, h1, h2⟩ := vL_of rl q1 e1
    obtain ⟨its, rv, hl, _⟩ := I.list h1
    obtain ⟨u, rfl, ru⟩ := vals1 rz
    rw [Vals.ref1 r]
    obtain ⟨bs, rd, _⟩ := Reps.reads I hb rl.sub ys xs its ps h2 rv (pds_pxs _ _ e2)
    obtain ⟨lay, dep⟩ := okBest_lay hz
    have hun := hr.u64
    refine PySem.W.max_list_default (I.ok.hd hc) hl.isList rd (okBest_alike hz) (by omega) (fun hn h' tk hk => ?_) fun y ys i v h' tk bs hn hi hrd hk => ?_
    · subst hn
      cases e
      exact ⟨w, H, I.kept hk, ru, kk g H w (GExt.refl g) rl q2⟩
    · subst hn
      cases e
      obtain ⟨w', rw1, rw2⟩ := best_at (s' := { s with heap := h' }) (H := H) (st := st) (pins := pins) (σ := σ) e2 h2 rv rd lay hi (maxD_mem _ _) hk hrd
      exact ⟨w', H, I.kept hk, rw1, kk g H w' (GExt.refl g) rl rw2⟩
theorem cMinX {k : Nat} (hr : RoomG k X.A) (hb : ∃ o, X.base.get? sysModules = some o) (hc : X.calm = true) : CallRK X (.builtin "min") ["default"] (rKW X.K C (bBestX PySem.W.minD)) := by
  intro pins s σ H xs zs us ws Q I r rz h
  obtain ⟨g, ds, es, st, d, st', rl, r1, r2, e, kk⟩ := h
  match ds, es, e with
  | [y], [z], e =>
    obtain ⟨v, rfl, q1⟩ := r1.one
    obtain ⟨w, rfl, q2⟩ := r2.one
    obtain ⟨ys, e1, e⟩ := bind_some e
    obtain ⟨ps, e2, e⟩ := bind_some e
    split at e
    case isFalse => cases e
    rename_i hz
    obtain ⟨a, xs, rfl, h1, h2⟩ := vL_of rl q1 e1
    obtain ⟨its, rv, hl, _⟩ := I.list h1
    obtain ⟨u, rfl, ru⟩ := vals1 rz
    rw [Vals.ref1 r]
    obtain ⟨bs, rd, _⟩ := Reps.reads I hb rl.sub ys xs its ps h2 rv (pds_pxs _ _ e2)
    obtain ⟨lay, dep⟩ := okBest_lay hz
    have hun := hr.u64
    refine PySem.W.min_list_default (I.ok.hd hc) hl.isList rd (okBest_alike hz) (by omega) (fun hn h' tk hk => ?_) fun y ys i v h' tk bs hn hi hrd hk => ?_
    · subst hn
      cases e
      exact ⟨w, H, I.kept hk, ru, kk g H w (GExt.refl g) rl q2⟩
    · subst hn
      cases e
      obtain ⟨w', rw1, rw2⟩ := best_at (s' := { s with heap := h' }) (H := H) (st := st) (pins := pins) (σ := σ) e2 h2 rv rd lay hi (minD_mem _ _) hk hrd
      exact ⟨w', H, I.kept hk, rw1, kk g H w' (GExt.refl g) rl rw2⟩

/-! ### sorted, of data -/
def okSort (ps : List PyData) : Bool := okBest ps && ((ps.all fun p => match p with | .tuple (_ :: _) => true | _ => false) || (ps.all fun p => match p with | .tuple _ => false | .none => false | _ => true)) && decide (ps.length ≤ sizeLine)
theorem okSort_sort {ps : List PyData} (h : okSort ps = true) : PySem.W.Sortable ps := by
  simp only [okSort, Bool.and_eq_true, Bool.or_eq_true, List.all_eq_true] at h
  rcases h.1.2 with h | h
  · refine .inl fun d hd => ?_
    have := h d hd
    split at this
    · exact ⟨_, _, rfl⟩
    · cases this
  · refine .inr fun d hd => ?_
    have := h d hd
    split at this
    · cases this
    · cases this
    · rename_i h1 h2; exact ⟨h2, h1⟩
def bSortedX (ds : List D) (st : Sto) : Option (D × Sto) := match ds with
  | [y] => (vL y st).bind fun xs => (pds xs).bind fun ps => if okSort ps = true then some (.lst (dXs (ps.mergeSort (PySem.W.dataLe false id))), st) else none
  | _ => none
theorem each_of {h : Heap} : ∀ {ws : List V} {its : List Value} {ps : List PyData} {bs : List Addr}, Vals ws its → ReadsAll h its ps bs →
    PySem.W.EachIs (fun (u : Value) (b : V × PyData) => RelV b.1 u) its (ws.zip ps) ∧ PySem.W.EachIs (fun (u : Value) (b : V × PyData) => ∃ as, Reads h u b.2 as) its (ws.zip ps)
  | _, _, _, _, .nil, .nil => ⟨.nil, .nil⟩
  | _, _, _, _, .cons r rs, .cons q qs => let ⟨a, b⟩ := each_of rs qs; ⟨.cons r a, .cons ⟨_, q⟩ b⟩
theorem vals_of_each : ∀ {out : List Value} {bs : List (V × PyData)}, PySem.W.EachIs (fun (u : Value) (b : V × PyData) => RelV b.1 u) out bs → Vals (bs.map (·.1)) out
  | _, _, .nil => .nil
  | _, _, .cons r rs => .cons r (vals_of_each rs)
theorem reps_zip {g : Gh} : ∀ {xs : List D} {ws : List V} {ps : List PyData}, Reps X.K C g xs ws → pds xs = some ps → ∀ b ∈ ws.zip ps, Rep X.K C g (dX b.2) b.1
  | [], ws, ps, r, e, b, hb => by cases (show ws = [] from r); cases hb
  | x :: xs, ws, ps, r, e, b, hb => by
    obtain ⟨w, ws', rfl, r1, r2⟩ := r
    obtain ⟨p, e1, e⟩ := bind_some (show (pd x).bind (fun p => (pds xs).bind fun ps => some (p :: ps)) = some ps from e)
    obtain ⟨qs, e2, e⟩ := bind_some e
    cases e
    rcases List.mem_cons.mp hb with rfl | hb
    · rw [dX_pd _ _ e1]; exact r1
    · exact reps_zip r2 e2 b hb
theorem reps_of {g : Gh} : ∀ {bs : List (V × PyData)}, (∀ b ∈ bs, Rep X.K C g (dX b.2) b.1) → Reps X.K C g (dXs (bs.map (·.2))) (bs.map (·.1))
  | [], _ => rfl
  | b :: bs, h => .cons (h b List.mem_cons_self) (reps_of fun c hc => h c (List.mem_cons_of_mem _ hc))
theorem dXs_len : ∀ ps : List PyData, (dXs ps).length = ps.length
  | [] => rfl
  | p :: ps => by show (dXs ps).length + 1 = _; rw [dXs_len ps]; rfl
theorem depth_mem : ∀ {ps : List PyData} {p : PyData}, p ∈ ps → p.depth ≤ PyData.depthAll ps
  | [], _, h => by cases h
  | x :: xs, p, h => by
    have e : PyData.depthAll (x :: xs) = max x.depth (PyData.depthAll xs) := by simp [PyData.depthAll]
    rw [e]
    rcases List.mem_cons.mp h with rfl | h
    · exact Nat.le_max_left _ _
    · exact Nat.le_trans (depth_mem h) (Nat.le_max_right _ _)
theorem cSortedX {k : Nat} (hr : RoomG k X.A) (hb : ∃ o, X.base.get? sysModules = some o) : SC X C (.builtin "sorted") bSortedX := by
  intro pins s σ H vs us Q I r h
  obtain ⟨g, ds, st, d, st', rl, r1, e, kk⟩ := h
  match ds, e with
  | [y], e =>
    obtain ⟨v, rfl, q1⟩ := r1.one
    obtain ⟨ys, e1, e⟩ := bind_some e
    obtain ⟨ps, e2, e⟩ := bind_some e
    split at e
    case isFalse => cases e
    rename_i hz
    cases e
    obtain ⟨a, xs, rfl, h1, h2⟩ := vL_of rl q1 e1
    obtain ⟨its, rv, hl, _⟩ := I.list h1
    rw [Vals.ref1 r]
    obtain ⟨bs, rd, _⟩ := Reps.reads I hb rl.sub ys xs its ps h2 rv (pds_pxs _ _ e2)
    have hz' := hz
    simp only [okSort, Bool.and_eq_true, decide_eq_true_eq] at hz'
    obtain ⟨lay, dep⟩ := okBest_lay hz'.1.1
    have al := okBest_alike hz'.1.1
    have hun := hr.u64
    obtain ⟨ea, eb⟩ := each_of rv rd
    have hls : xs.length = ps.length := by rw [← h2.length, pds_len e2]
    have hm : (xs.zip ps).map (fun b => b.2) = ps := by rw [List.map_snd_zip]; omega
    have hll : (xs.zip ps).length = ps.length := by rw [List.length_zip]; omega
    refine PySem.W.sorted_data (enc := fun b : V × PyData => b.2) hl.isList ea eb (by rw [hm]; exact fun d hd d' hd' => al.1 d hd d' hd') (by rw [hm]; exact okSort_sort hz) (by rw [hll]; exact hz'.2) (fun b hb => ?_) fun out hlo ho => ?_
    · have hbm : b.2 ∈ ps := by rw [← hm]; exact List.mem_map.mpr ⟨b, hb, rfl⟩
      have := depth_mem hbm
      omega
    · obtain ⟨ep, he'⟩ := PyProof.Rows.sortedAll_at s.heap its out.toArray
      generalize hB : (xs.zip ps).mergeSort (PySem.W.dataLe false fun b => b.2) = B at ho
      have perm : B.Perm (xs.zip ps) := by rw [← hB]; exact List.mergeSort_perm _ _
      have hsnd : B.map (·.2) = ps.mergeSort (PySem.W.dataLe false id) := by
        have := List.map_mergeSort (f := fun b : V × PyData => b.2) (r := PySem.W.dataLe false fun b : V × PyData => b.2) (s := PySem.W.dataLe false id) (l := xs.zip ps) (fun a _ b _ => rfl)
        rw [← hB, this, hm]
      have hv := vals_of_each ho
      have hlen : (B.map (·.1)).length ≤ sizeLine := by rw [List.length_map, perm.length_eq, hll]; exact hz'.2
      have hfresh : H (s.heap.objs.size + 1) = none := I.hok.fresh (Nat.le_succ _)
      obtain ⟨x2, rl2⟩ := rl.freeze1 (o := .lst (B.map (·.1))) hfresh
      refine ⟨.ref _, upd H (s.heap.objs.size + 1) (.lst (B.map (·.1))), I.laid (t' := s.toks) (fun _ _ => PyProof.Rows.sortedAll_old) (Nat.le_succ _) ⟨hlen, out, ep, hv, he'⟩, rfl, kk _ _ _ x2 rl2 ⟨_, _, rfl, upd_same, ?_⟩⟩
      rw [← hsnd]
      exact reps_of fun b hb => (reps_zip h2 e2 b (perm.mem_iff.mp hb)).up x2
end

/-! ### range(a, b) -/
def iRg2 (a : Ev (List D)) : Ev (List D) := fun σ st => (a σ st).bind fun p => match p.1 with
  | [.int i, .int j] => if (decide (-(2 ^ 62) ≤ i) && decide (i < 2 ^ 62) && decide (-(2 ^ 62) ≤ j) && decide (j < 2 ^ 62)) = true then some (rngD i (j - i).toNat, p.2) else none
  | _ => none
section
variable {X : Cx} {C : Nat → Addr}
theorem si_range2 {tg a b : Expr} {p pos : Pos} {mas : Ev (List D)} (hg : Gl X "range") (hm : X.mg "range" = none) (ha : SA X C [a, b] mas) (hs : starEach [a, b] X.env = [(false, eval a X.env), (false, eval b X.env)] := by rfl) (hs2 : starEach [b] X.env = [(false, eval b X.env)] := by rfl) :
    SI X C tg (.Call (.Name "range" p) [a, b] [] pos) (iRg2 mas) :=
  PI.weak (pi_range2 hg hm ha hs hs2) fun σ H R q => by
  obtain ⟨g, σd, st, ds, st', rl, rs, e, k⟩ := q
  obtain ⟨⟨es, st1⟩, e1, e⟩ := bind_some e
  refine ⟨g, σd, st, es, st1, rl, rs, e1, fun g1 H1 vs x1 rl1 r1 => ?_⟩
  match es, e with
  | [.int i, .int j], e =>
    have e : (if (decide (-(2 ^ 62) ≤ i) && decide (i < 2 ^ 62) && decide (-(2 ^ 62) ≤ j) && decide (j < 2 ^ 62)) = true then some (rngD i (j - i).toNat, st1) else none) = some (ds, st') := e
    split at e
    · rename_i hz
      simp only [Bool.and_eq_true, decide_eq_true_eq] at hz
      cases e
      obtain ⟨v, w, rfl, r2, r3⟩ := r1.two
      exact ⟨i, j, by cases (show v = .int i from r2); cases (show w = .int j from r3); rfl, ⟨hz.1.1.1, hz.1.1.2, hz.1.2, hz.2⟩, k g1 H1 _ x1 rl1 (it_range _ i _ _)⟩
    · cases e
end
end Z

end
section
set_option Elab.async false
set_option linter.all false
set_option maxRecDepth 100000
set_option autoImplicit false
namespace L2
open PySem PySem.Spec PyProof.Rows
/-! ### t * 0, t * 1 -/
theorem tupMul_one (l : Addr) (its : Array Value) (n : Nat) (dct : Option Addr) (sl : Array (Option Value)) (u : Tok) :
    Meets (Builtin.«tuple.__mul__» ⟨[.ref l, .int 1 u], []⟩) (fun _ R s => s.heap.get? l = some ⟨.type "tuple", dct, .seq its n, sl⟩ ∧ R (.ok (.ret (.ref l))) s) :=
  .of_wp fun prog w A R s hyp => by
    obtain ⟨hp, g, d, tk, os⟩ := s
    obtain ⟨hl, hyp⟩ := hyp
    have f1 := AutoSeq1.idx_int
    wp_walk using wpAny_loadPart' hl
    exact ⟨_, rfl, hyp⟩
theorem tupMul_zero (l : Addr) (its : Array Value) (n : Nat) (dct : Option Addr) (sl : Array (Option Value)) (u : Tok) (hne : its.isEmpty = false) :
    Meets (Builtin.«tuple.__mul__» ⟨[.ref l, .int 0 u], []⟩) (fun _ R s => s.heap.get? l = some ⟨.type "tuple", dct, .seq its n, sl⟩ ∧ (R (.ok (.ret (.ref s.heap.objs.size))) { s with heap := s.heap.push ⟨.type "tuple", none, .seq #[] 0, #[]⟩, toks := s.toks })) :=
  .of_wp fun prog w A R s hyp => by
    obtain ⟨hp, g, d, tk, os⟩ := s
    obtain ⟨hl, hyp⟩ := hyp
    have f1 := AutoSeq1.idx_int
    wp_walk using wpAny_loadPart' hl
    exact ⟨_, rfl, hyp⟩
def rMulT01 (K : PySem.W.Frag) : R2 := fun x y H Q => ∃ l xs, x = .ref l ∧ SqT K H l xs ∧ xs ≠ [] ∧ ((y = .int 1 ∧ Q (.ref l) H) ∨ (y = .int 0 ∧ ∀ p, H p = none → Q (.ref p) (upd H p (.tup []))))
theorem op_mulT01 {X : Cx} : OpR X (binaryOp .Mult) (rMulT01 X.K) := by
  intro pins s σ H x y v u Q I rx ry h
  obtain ⟨l, xs, rfl, hT, hne, h⟩ := h
  cases rx
  obtain ⟨its, r, ⟨⟨c0, dct, dt, sl⟩, ho, hc, n, hd⟩, hz⟩ := I.tuple hT
  simp only at hc hd
  subst hc hd
  have hi : its.toArray.isEmpty = false := by
    cases its with
    | nil => cases r; exact absurd rfl hne
    | cons a b => rfl
  rcases h with ⟨rfl, q⟩ | ⟨rfl, q⟩
  · obtain ⟨t, rfl⟩ := ry
    have m1 := tupMul_one l its.toArray n dct sl t
    refine wpAny_binaryOp_repeat_ref (U := "int") (T := "tuple") (by decide) ⟨_, ho, rfl⟩ (fun s2 => typeIs_int s2 _ t) noFill_tuple_mul F.fills_int_mul F.slot_int_rmul repeat_tuple F.slot_int_index.lookup ?_
    refine call_meets F.slot_int_rmul (typeIs_int s _ t) F.entry_int_rmul (F.args_int_rmul_2 _ _) (int_rmul_tuple _ t l its.toArray n dct sl) ?_
    refine ⟨ho, rfl, ⟨_, ho, rfl⟩, call_meets F.slot_tuple_mul ⟨_, ho, rfl⟩ F.entry_tuple_mul (F.args_tuple_mul_2 _ _) m1 ⟨ho, ?_⟩⟩
    exact ⟨.ref l, H, I, rfl, q⟩
  · obtain ⟨t, rfl⟩ := ry
    have m1 := tupMul_zero l its.toArray n dct sl t hi
    refine wpAny_binaryOp_repeat_ref (U := "int") (T := "tuple") (by decide) ⟨_, ho, rfl⟩ (fun s2 => typeIs_int s2 _ t) noFill_tuple_mul F.fills_int_mul F.slot_int_rmul repeat_tuple F.slot_int_index.lookup ?_
    refine call_meets F.slot_int_rmul (typeIs_int s _ t) F.entry_int_rmul (F.args_int_rmul_2 _ _) (int_rmul_tuple _ t l its.toArray n dct sl) ?_
    refine ⟨ho, rfl, ⟨_, ho, rfl⟩, call_meets F.slot_tuple_mul ⟨_, ho, rfl⟩ F.entry_tuple_mul (F.args_tuple_mul_2 _ _) m1 ⟨ho, ?_⟩⟩
    refine ⟨.ref s.heap.objs.size, _, I.laid (t' := s.toks) (o := .tup []) (fun b ob e => Heap.get?_push_of_some _ e) (Nat.le_refl _) ?_, rfl, q _ (I.hok.fresh (Nat.le_refl _))⟩
    exact ⟨Nat.zero_le _, [], .nil, _, Heap.get?_push_size _ rfl, rfl, 0, rfl⟩
end L2
namespace Z
open PySem PySem.Spec L2
/-- a * b, a tuple 0 or 1 times too -/
def oMul2 (a b : D) (st : Sto) : Option (D × Sto) := match a, b with
  | .tup (x :: xs), .int 0 => some (.tup [], st)
  | .tup (x :: xs), .int 1 => some (.tup (x :: xs), st)
  | a, b => oMul a b st
section
variable {X : Cx} {C : Nat → Addr}
theorem sMul2 : SOp X C (binaryOp .Mult) oMul2 := by
  intro pins s σ H x y v u Q I rx ry h
  obtain ⟨g, dx, dy, st, d, st', rl, r1, r2, e, k⟩ := h
  have other : oMul dx dy st = some (d, st') → wpAny (model X.prog X.w) X.A (binaryOp .Mult v u) (EP X pins σ Q) X.xe s := fun e => sMul (X := X) (C := C) pins s σ H x y v u Q I rx ry ⟨g, dx, dy, st, d, st', rl, r1, r2, e, k⟩
  unfold oMul2 at e
  split at e
  · rename_i z zs
    cases e
    obtain ⟨a, ws, rfl, h1, h2⟩ := r1
    have hne : ws ≠ [] := fun e => by subst e; obtain ⟨_, _, h0, _⟩ := h2; cases h0
    cases (show y = .int 0 from r2)
    refine op_mulT01 pins s σ H _ _ v u Q I rx ry ⟨a, ws, rfl, sqTMono rl.sub h1, hne, .inr ⟨rfl, fun p hp => ?_⟩⟩
    obtain ⟨x2, rl2⟩ := rl.freeze1 (o := .tup []) hp
    exact k _ _ _ x2 rl2 ⟨p, [], rfl, .inl (.inl upd_same), rfl⟩
  · rename_i z zs
    cases e
    have r1' := r1
    obtain ⟨a, ws, rfl, h1, h2⟩ := r1
    have hne : ws ≠ [] := fun e => by subst e; obtain ⟨_, _, h0, _⟩ := h2; cases h0
    cases (show y = .int 1 from r2)
    exact op_mulT01 pins s σ H _ _ v u Q I rx ry ⟨a, ws, rfl, sqTMono rl.sub h1, hne, .inl ⟨rfl, k g H _ (GExt.refl g) rl r1'⟩⟩
  · exact other e
end
end Z

end
section
set_option Elab.async false
set_option linter.all false
set_option maxRecDepth 100000
set_option autoImplicit false
namespace Z
open PySem PySem.Spec L2
/-! ### module constants by expression: the head tells them apart from the heap that was written out -/
theorem loose_int {p : Program} {lv : List (Str × PySem.W.WData)} {mg : Str → Option Value} {h : Heap} {n : Str} {k : Int} (X : PySem.W.XL p lv mg h) (hm : (n, PySem.W.WData.int k) ∈ lv) : ∃ t, mg n = some (.int k t) := by
  obtain ⟨v, h1, h2⟩ := X.2.val _ hm
  cases h2
  exact ⟨_, h1⟩
end Z

end
section
set_option Elab.async false
set_option linter.all false
set_option maxRecDepth 100000
set_option autoImplicit false
namespace Z
open PySem PySem.Spec L2
/-! ### a dict written with keys that are texts -/
def mDict (ks : List Str) (a : Ev (List D)) : EM := fun σ st => (a σ st).bind fun p => if (decide ks.Nodup && decide (p.1.length = ks.length) && decide (ks.length ≤ 15)) = true then some (.dic (ks.map Sum.inr) p.1, p.2) else none
section
variable {X : Cx} {C : Nat → Addr} {pos : Pos} {g : Gh} {st : Sto} {H : Hp}
def tPr (K : PySem.W.Frag) (C : Nat → Addr) (ks : List Str) (m : Ev (List D)) (σ : St) (H : Hp) (R : List (V × V) → Hp → Prop) : Prop :=
  ∃ g σd st ds st', Rl K C g H st ∧ RlS K C g σ σd ∧ m σd st = some (ds, st') ∧ ∀ g' H' vs, GExt g g' → Rl K C g' H' st' → Reps K C g' ds vs → R ((ks.map V.str).zip vs) H'
structure SPs (X : Cx) (C : Nat → Addr) (pos : Pos) (keys : List (Option Expr)) (values : List Expr) (ks : List Str) (m : Ev (List D)) : Prop where
  ex : ∃ trs, PPs X pos keys values trs ∧ ∀ σ H R, tPr X.K C ks m σ H R → tPairs trs σ H R
theorem sp_nil : SPs X C pos [] [] [] aNil := ⟨[], pps_nil, fun σ H R h => by
  obtain ⟨g, σd, st, ds, st', rl, rs, e, k⟩ := h
  cases e
  exact k g H [] (GExt.refl g) rl rfl⟩
theorem sp_cons {x : Str} {j : Nat} {p1 : Pos} {v : Expr} {mv : EM} {keys : List (Option Expr)} {values : List Expr} {ks : List Str} {m : Ev (List D)} (hv : SE X C v mv) (hr : SPs X C pos keys values ks m) :
    SPs X C pos (some (.Constant (.str x) j p1) :: keys) (v :: values) (x :: ks) (aCons mv m) := by
  obtain ⟨trs, h1, h2⟩ := hr.ex
  refine ⟨_, pps_cons pe_str hv h1, fun σ H R h => ?_⟩
  obtain ⟨g, σd, st, ds, st', rl, rs, e, k⟩ := h
  obtain ⟨⟨y, st1⟩, e1, e⟩ := bind_some e
  obtain ⟨⟨ys, st2⟩, e2, e⟩ := bind_some e
  cases e
  refine ⟨g, σd, st, y, st1, rl, rs, e1, fun g1 H1 v1 x1 rl1 r1 => ?_⟩
  refine h2 _ _ _ ⟨g1, σd, st1, ys, _, rl1, rs.mono x1, e2, fun g2 H2 vs x2 rl2 r2 => ?_⟩
  exact k g2 H2 (v1 :: vs) (x1.trans x2) rl2 (.cons (r1.up x2) r2)
theorem zip_keys : ∀ (ks : List Str) (vs : List V), (ks.map V.str).zip vs = ((ks.map (Sum.inr : Str → Key)).zip vs).map fun kv => (kV kv.1, kv.2)
  | [], vs => by simp
  | k :: ks, [] => by simp
  | k :: ks, v :: vs => by
    simp only [List.map_cons, List.zip_cons_cons, zip_keys ks vs]
    rfl
theorem put_new : ∀ (kvs : List (Key × V)) (k : Key) (v : V), k ∉ kvs.map (·.1) → putK kvs k v = kvs ++ [(k, v)] := fun kvs k v h => by
  unfold putK
  rw [if_neg]
  intro ha
  obtain ⟨kv, h1, h2⟩ := List.any_eq_true.mp ha
  exact h (List.mem_map.mpr ⟨kv, h1, of_decide_eq_true h2⟩)
theorem merge_new : ∀ (more kvs : List (Key × V)), ((kvs ++ more).map (·.1)).Nodup → mergeK kvs more = kvs ++ more
  | [], kvs, _ => by simp [mergeK]
  | (k, v) :: more, kvs, h => by
    have h1 : k ∉ kvs.map (·.1) := fun hm => by
      rw [List.map_append, List.nodup_append] at h
      exact h.2.2 k hm k (by simp) rfl
    show mergeK (putK kvs k v) more = _
    rw [put_new kvs k v h1, merge_new more (kvs ++ [(k, v)]) (by simpa using h)]
    simp
theorem s_disp {keys : List (Option Expr)} {values : List Expr} {ks : List Str} {m : Ev (List D)} (h : SPs X C pos keys values ks m) (hall : (keys.all fun x => x.isSome) = true := by rfl) (hl : keys.length = values.length := by rfl)
    (h0 : keys ≠ [] := by exact List.cons_ne_nil _ _) (h15 : keys.length ≤ 15 := by decide) : SE X C (.Dict keys values pos) (mDict ks m) := by
  obtain ⟨trs, h1, h2⟩ := h.ex
  refine PE.weak (pe_disp h1 hall hl h0 h15) fun σ H Q hq p hD => ?_
  obtain ⟨g, σd, st, d, st', rl, rs, e, k⟩ := hq
  obtain ⟨⟨ds, st1⟩, e1, e⟩ := bind_some e
  split at e
  case isFalse => cases e
  rename_i hz
  cases e
  simp only [Bool.and_eq_true, decide_eq_true_eq] at hz
  have hX : g.X p = none := by
    cases z : g.X p with
    | none => rfl
    | some o => rw [rl.fr _ _ z] at hD; cases hD
  have hF := rl.nothere hD
  have hY : ¬ g.Y p := fun y => rl.frY p y hX
  have hL : ∀ j : Nat, g.m[j]? = some p → ¬ Live st j := fun j q l => by
    obtain ⟨o, q1, q2⟩ := l
    obtain ⟨z, z1, _⟩ := (rl.obj j o p q1 q).some q2
    rw [hD] at z1; cases z1
  have rl0 : Rl X.K C g (upd H p (.dK [])) st := rl.more hD
  obtain ⟨xf, rlf⟩ := rl0.frame (u0 := .dK []) trivial upd_same hF hL
  refine h2 _ _ _ ⟨⟨g.F, g.m, upd g.X p (.dK []), g.Y⟩, σd, st, ds, _, rlf, rs.monoL xf, e1, fun g4 H4 vs x4 rl4 r4 => ?_⟩
  have hx : g4 = ⟨g4.F, g4.m, upd g.X p (.dK []), g.Y⟩ := by
    obtain ⟨F, m, X, Y⟩ := g4
    have h1 : X = upd g.X p (.dK []) := x4.X
    have h2 : Y = g.Y := x4.Y
    rw [h1, h2]
  have l4 : GLe g4 ⟨g4.F, g4.m, g.X, g.Y⟩ := ⟨fun _ _ q => q, fun _ _ q => q, fun a o y q => by
    have y1 : g.Y a := by have := x4.Y; rw [this] at y; exact y
    have q1 : upd g.X p (.dK []) a = some o := by have := x4.X; rw [this] at q; exact q
    have ne : a ≠ p := fun e => by subst e; exact hY y1
    rw [upd_ne ne] at q1
    exact ⟨y1, q1⟩⟩
  rw [hx] at rl4
  have hvl : vs.length = ks.length := by rw [← hz.1.2]; exact r4.length.symm
  have hm1 : (((ks.map (Sum.inr : Str → Key)).zip vs).map (·.1)) = ks.map Sum.inr := List.map_fst_zip (by rw [List.length_map]; omega)
  have hm2 : (((ks.map (Sum.inr : Str → Key)).zip vs).map (·.2)) = vs := List.map_snd_zip (by rw [List.length_map]; omega)
  have hn : (ks.map (Sum.inr : Str → Key)).Nodup := List.Pairwise.map Sum.inr (fun a b h e => h (Sum.inr.inj e)) hz.1.1
  obtain ⟨rl5, f1, f2, f3⟩ := Rl.unframe (u0 := .dK []) (u1 := .dK ((ks.map Sum.inr).zip vs)) trivial rl4 hX hY
  refine ⟨f2, (ks.map Sum.inr).zip vs, zip_keys ks vs, by rw [List.length_zip, List.length_map]; omega, ?_⟩
  rw [merge_new _ [] (by rw [List.nil_append, hm1]; exact hn), List.nil_append]
  have x5 : GExt g ⟨g4.F, g4.m, g.X, g.Y⟩ := ⟨fun a o q => x4.F a o q, fun i a q => x4.m i a q, rfl, rfl⟩
  obtain ⟨x6, rl6⟩ := rl5.freezeH (u0 := .dK ((ks.map Sum.inr).zip vs)) trivial upd_same f1 hX f3
  exact k _ _ _ (x5.trans x6) rl6 ⟨p, _, rfl, upd_same, hm1, by rw [hm2]; exact (r4.upL l4).up x6⟩
end
end Z

end
section
set_option Elab.async false
set_option linter.all false
set_option maxRecDepth 100000
set_option autoImplicit false
namespace Z
open PySem PySem.Spec L2
theorem qLam_eq : ((("repeated_course" : Str) ++ (".<locals>." : Str)) ++ ("<lambda>" : Str)) = qLam := by decide +kernel
/-! ### a new list, turned about -/
def mRevN (a : EM) : EM := fun σ st => (a σ st).bind fun p => (vL p.1 p.2).bind fun ds => some (.ref p.2.length, p.2 ++ [.lst ds.reverse])
section
variable {X : Cx} {C : Nat → Addr} {e : Expr} {me : EM} {k : Nat} {p1 p2 p3 pos : Pos}
theorem s_revN (h : SE X C e me) : SE X C (.Subscript e (.Slice none none (some (.UnaryOp .USub (.Constant (.int 1) k p1) p2)) p3) pos) (mRevN me) := PE.weak (pe_revL h) fun σ H Q h => by
  obtain ⟨g, σd, st, d, st', rl, rs, e, k⟩ := h
  obtain ⟨⟨x, st1⟩, e1, e⟩ := bind_some e
  refine ⟨g, σd, st, x, st1, rl, rs, e1, fun g1 H1 v x1 rl1 r1 => ?_⟩
  obtain ⟨ds, e2, e⟩ := bind_some e
  cases e
  obtain ⟨a, xs, rfl, h1, h2⟩ := vL_of rl1 r1 e2
  refine ⟨a, xs, rfl, h1, fun p hp => ?_⟩
  obtain ⟨g2, x2, rl2, r2⟩ := new_of (g := g1) rl1 h2.reverse hp
  exact k _ _ _ (x1.trans x2) rl2 r2
end
/-! ### the key of a sort: lambda x: x.first, lambda x: -x.first -/
def lamArgs (x : Str) (p : Pos) : Arguments := { posonlyargs := [], args := [{ arg := x, annotation := none, pos := p }], vararg := none, kwonlyargs := [], kw_defaults := [], kwarg := none, defaults := [] }
def lamScope (x : Str) : Scope := { kind := .function, names := [(x, .local)], isGenerator := false, isCoroutine := false, more := [] }
def lamBody (neg : Bool) (x nm : Str) (p1 p2 p3 : Pos) : Expr := if neg = true then .UnaryOp .USub (.Attribute (.Name x p1) nm p2) p3 else .Attribute (.Name x p1) nm p2
def sgn (neg : Bool) (i : Int) : Int := if neg = true then -i else i
section
variable {P : Program} {w : World} {A : Around} {K : PySem.W.Frag} {s : Shared} {f a dx Ca c' : Addr} {q x nm : Str} {p p1 p2 p3 : Pos} {pm ctv : Value} {i : Int} {t : Tok} {neg : Bool} {mA : Str → Option Value}
theorem lam_key (KX : K.In s.heap) (lim : s.heap.NoLimit) (hr : A.depth < recursionLimit)
    (hf : s.heap.get? f = some (PySem.W.kla_obj "<lambda>" q (lamArgs x p) (lamBody neg x nm p1 p2 p3) (lamScope x) [] pm c' ctv)) (hc : s.heap.CodeRec (.ref c') q)
    (O : ObjM s.heap a dx Ca mA) (cl : Cls K Ca) (na : NoAttr K Ca nm) (hv : mA nm = some (.int i t)) (hd : (x == ("__debug__" : Str)) = false)
    (hbind : ∀ (c : Value), bindArgs (PySem.W.kla_fn "<lambda>" q (lamArgs x p) (lamBody neg x nm p1 p2 p3) (lamScope x) [] pm c ctv) ⟨[.ref a], []⟩ = pure [(x, .ref a)])
    (hb : ∀ env : Env, attributeBase (.Name x p1) nm env (eval (.Name x p1) env) = eval (.Name x p1) env) :
    wpAny (model P w) A (call (.ref f) [.ref a]) (PySem.W.KeyPure (.int (sgn neg i)) s) (fun _ _ => False) s := by
  refine wpAny_call (PySem.W.kla_callFunE hr hf rfl rfl rfl rfl hc ?_)
  rw [hbind]
  refine wpAny_pure (wpAny_newFunctionEnv (fun y hy => ?_) (fun y hy => ?_) (fun h1 hns hsb => ⟨lim.fresh _ hsb, ?_⟩) rfl)
  · simp [lamScope] at hy; subst hy; simp
  · simp at hy; subst hy; simp [lamScope, List.lookup]
  · have kp : ∀ b o, s.heap.get? b = some o → h1.get? b = some o := fun b o e => hsb.extBut b o (Nat.ne_of_lt (Heap.lt_size e)) (Heap.get?_push_of_some _ e)
    refine PySem.W.kla_codeExpr ?_
    -- the attribute
    have att : ∀ (s2 : Shared) (Q : Value → Shared → Prop) (E : Value → Shared → Prop) (A2 : Around), s2.heap = h1 → (∀ t', Q (.int i t) { s2 with toks := t' }) →
        wpAny (model P w) A2 (eval (.Attribute (.Name x p1) nm p2) (newEnv (lamScope x) s.heap.objs.size mainGlobals [] (q ++ ".<locals>.") (some f) (.ref c') none builtinsNs)) Q E s2 := fun s2 Q E A2 e2 hq => by
      refine attr_of (hb _) (wpAny_Name (wpAny_loadName_local rfl (by simp [Env.kindOf, newEnv, lamScope, List.lookup]) (by rw [e2]; exact hns) (v := .ref a) (by simp [List.lookup]) ?_) hd)
      have O2 : ObjM s2.heap a dx Ca mA := by rw [e2]; exact ⟨kp _ _ O.obj, O.ns.at fun o q => kp _ _ q, O.ne⟩
      exact get_map (K := K) (by rw [e2]; exact KX.keeps kp) O2 (cl.get nm) cl.hd na hv rfl (hq _)
    cases neg with
    | false =>
      refine att _ _ _ _ rfl fun t' => ⟨h1, t', rfl, kp, .int _ _⟩
    | true =>
      refine PyProof.Rows.UnaryOp_ (att _ _ _ _ rfl fun t' => PyProof.Rows.neg_int ?_)
      exact ⟨h1, _, rfl, kp, .int _ _⟩
end
/-! ### sorted by a key -/
def keyF (cs : List Nat) (nm : Str) : D → Option Int
  | .obj c ns vs => if cs.contains c = true then (fldD ns vs nm).bind fun d => match d with
    | .int i => some i
    | _ => none
    else none
  | _ => none
def keysF (cs : List Nat) (nm : Str) : List D → Option (List Int)
  | [] => some []
  | d :: ds => (keyF cs nm d).bind fun i => (keysF cs nm ds).bind fun is_ => some (i :: is_)
def sortBy (l : List (D × Int)) : List D := (l.mergeSort fun p q => decide (p.2 ≤ q.2)).map (·.1)
def mSortK (neg : Bool) (cs : List Nat) (nm : Str) (a : EM) : EM := fun σ st => (a σ st).bind fun p => (vL p.1 p.2).bind fun ds => (keysF cs nm ds).bind fun ks => if ds.length ≤ sizeLine then some (.lst (sortBy (ds.zip (ks.map (sgn neg)))), p.2) else none
theorem keysF_len {cs : List Nat} {nm : Str} : ∀ {ds : List D} {ks : List Int}, keysF cs nm ds = some ks → ks.length = ds.length
  | [], ks, h => by cases h; rfl
  | d :: ds, ks, h => by
    obtain ⟨i, _, h⟩ := bind_some h
    obtain ⟨is_, h2, h⟩ := bind_some h
    cases h
    simp [keysF_len h2]
theorem keysF_mem {cs : List Nat} {nm : Str} : ∀ {ds : List D} {ks : List Int} {d : D} {i : Int}, keysF cs nm ds = some ks → (d, i) ∈ ds.zip ks → keyF cs nm d = some i
  | [], ks, d, i, h, hm => by simp at hm
  | e :: ds, ks, d, i, h, hm => by
    obtain ⟨j, h1, h⟩ := bind_some h
    obtain ⟨is_, h2, h⟩ := bind_some h
    cases h
    rcases List.mem_cons.mp hm with q | q
    · cases q; exact h1
    · exact keysF_mem h2 q
theorem each_k : ∀ {xs : List V} {us : List Value} {zs : List (D × Int)}, Vals xs us → zs.length = xs.length → PySem.W.EachIs (fun (v : Value) (b : V × D × Int) => RelV b.1 v) us (xs.zip zs)
  | [], us, zs, r, h => by
    cases r
    exact .nil
  | x :: xs, us, z :: zs, r, h => by
    cases r with
    | cons r1 r2 => exact .cons r1 (each_k r2 (by simpa using h))
  | x :: xs, us, [], r, h => by simp at h
theorem vals_each : ∀ {out : List Value} {bs : List (V × D × Int)}, PySem.W.EachIs (fun (v : Value) (b : V × D × Int) => RelV b.1 v) out bs → Vals (bs.map (·.1)) out
  | _, _, .nil => .nil
  | _, _, .cons r e => .cons r (vals_each e)
theorem reps_k {K : PySem.W.Frag} {C : Nat → Addr} {g : Gh} : ∀ {ds : List D} {xs : List V} {ks : List Int}, Reps K C g ds xs → ∀ b ∈ xs.zip (ds.zip ks), Rep K C g b.2.1 b.1
  | [], xs, ks, r, b, hb => by
    cases (show xs = [] from r)
    simp at hb
  | d :: ds, xs, [], r, b, hb => by simp at hb
  | d :: ds, xs, k :: ks, r, b, hb => by
    obtain ⟨x, rr, rfl, h1, h2⟩ := r
    rcases List.mem_cons.mp hb with q | q
    · cases q; exact h1
    · exact reps_k h2 b q
theorem reps_map {K : PySem.W.Frag} {C : Nat → Addr} {g : Gh} : ∀ {bs : List (V × D × Int)}, (∀ b ∈ bs, Rep K C g b.2.1 b.1) → Reps K C g (bs.map (·.2.1)) (bs.map (·.1))
  | [], _ => rfl
  | b :: bs, h => .cons (h b (by simp)) (reps_map fun c hc => h c (by simp [hc]))
theorem zip_snd : ∀ {xs : List V} {zs : List (D × Int)}, zs.length = xs.length → (xs.zip zs).map (·.2) = zs
  | [], [], _ => rfl
  | x :: xs, z :: zs, h => by simp [zip_snd (xs := xs) (zs := zs) (by simpa using h)]
  | [], _ :: _, h => by simp at h
  | _ :: _, [], h => by simp at h
theorem zip_sgn (f : Int → Int) : ∀ (ds : List D) (ks : List Int), ds.zip (ks.map f) = (ds.zip ks).map fun q => (q.1, f q.2)
  | [], _ => rfl
  | _ :: _, [] => rfl
  | d :: ds, k :: ks => by simp [zip_sgn f ds ks]
section
variable {X : Cx} {C : Nat → Addr} {cc : Addr} {e : Expr} {me : EM} {x nm : Str} {pa p1 p2 p3 lpos kpos p pos : Pos} {neg : Bool} {cs : List Nat} {k : Nat}
theorem s_sortK (hcl : ∀ c ∈ cs, Cls X.K (C c) ∧ NoAttr X.K (C c) nm) (hT : C 1000 ≠ C 1001) (TB : LamX.TabB X.base X.mg cc (C 1000)) (hcode : X.env.code = .ref cc) (hqu : X.env.qual ++ "<lambda>" = qLam) (hr : Room k X.A) (hg : Gl X "sorted") (hm : X.mg "sorted" = none) (ha : SE X C e me)
    (hd : (x == ("__debug__" : Str)) = false) (hbind : ∀ (f : Addr) (q : Str) (pm c ctv : Value), bindArgs (PySem.W.kla_fn "<lambda>" q (lamArgs x pa) (lamBody neg x nm p1 p2 p3) (lamScope x) [] pm c ctv) ⟨[.ref f], []⟩ = pure [(x, .ref f)])
    (hb : ∀ env : Env, attributeBase (.Name x p1) nm env (eval (.Name x p1) env) = eval (.Name x p1) env) (hs : starEach [e] X.env = [(false, eval e X.env)] := by rfl) :
    SE X C (.Call (.Name "sorted" p) [e] [⟨some "key", .Lambda (lamArgs x pa) (lamBody neg x nm p1 p2 p3) (lamScope x) lpos, kpos⟩] pos) (mSortK neg cs nm me) := by
  refine ⟨fun pins s σ H Q I h => ?_⟩
  obtain ⟨g, σd, st, d, st', rl, rs, e1, fin⟩ := h
  obtain ⟨⟨y, st1⟩, e2, e1⟩ := bind_some e1
  obtain ⟨ds, e3, e1⟩ := bind_some e1
  obtain ⟨ks, e4, e1⟩ := bind_some e1
  split at e1
  case isFalse => cases e1
  rename_i hz
  cases e1
  refine wpAny_Call_Name_kw (ld_blt I hg hm (u := .builtin "sorted") rfl ?_ (by decide) (by decide))
  have arg : SA X C [e] (aCons me aNil) := sa_cons ha sa_nil hs
  have reading : tA X.K C (aCons me aNil) σ H fun vs H1 => ∃ g1 x1, vs = [x1] ∧ GExt g g1 ∧ Rl X.K C g1 H1 st1 ∧ Rep X.K C g1 y x1 :=
    ⟨g, σd, st, [y], st1, rl, rs, by simp only [aCons, aNil, e2, Option.bind_some], fun g1 H1 vs x1 rl1 r1 => by
      obtain ⟨v, rfl, r2⟩ := r1.one
      exact ⟨g1, v, rfl, x1, rl1, r2⟩⟩
  refine PyProof.Rows.callWith_kw (thn (arg.run pos pins s σ H _ I reading) fun us s1 ⟨vs, H1, I1, r1, q1⟩ => ?_) ?he ?hpl
  case he => simp only [hs]; rfl
  case hpl => simp only [hs]; rfl
  obtain ⟨g1, x1, rfl, xg1, rl1, ry⟩ := q1
  obtain ⟨u1, rfl, ru1⟩ := vals1 r1
  obtain ⟨a, xs, rfl, hsq, hrp⟩ := vL_of rl1 ry e3
  obtain rfl : u1 = Value.ref a := ru1
  obtain ⟨tF, tS, tN⟩ := rl1.tb hT
  show wpAny _ _ (evalAll [(do let v ← eval (.Lambda (lamArgs x pa) (lamBody neg x nm p1 p2 p3) (lamScope x) lpos) X.env; standAt pos; pure v)]) _ _ s1
  refine wpAny_evalAll_cons (wpAny_bind (LamX.lam_make2 (T := [(C 1000, qLam)]) I1 TB hcode (by rw [hqu]; exact List.mem_singleton.mpr rfl) (fun q hq _ => by rw [hqu]; cases List.mem_singleton.mp hq; rfl) (fun q hq => by cases List.mem_singleton.mp hq; exact tS) rfl (fun z hz => by simp [lamScope] at hz; subst hz; intro h; cases h) fun f c' pm ctv H2 s2 I2 eN T2 hf hfn hfr hco => ?_))
  refine wpAny_bind (wpAny_standAt (wpAny_pure (wpAny_evalAll_nil ?_)))
  have tS2 : LamX.TabS H2 (C 1000) qLam := T2 _ (List.mem_singleton.mpr rfl)
  have rl2 : Rl X.K C g1 H2 st1 := rl1.extN hT eN tS2
  have hsq2 : SqL X.K H2 a xs := by
    rcases hsq with (q | ⟨o, q⟩) | q
    · exact .inl (.inl (eN _ _ q nofun))
    · exact .inl (.inr ⟨o, eN _ _ q nofun⟩)
    · exact .inr q
  obtain ⟨its, rv, hl, hzz⟩ := I2.list hsq2
  have lenK := keysF_len e4
  have lenX : xs.length = ds.length := hrp.length.symm
  let bs : List (V × D × Int) := xs.zip (ds.zip ks)
  have lz : (ds.zip ks).length = xs.length := by rw [List.length_zip, lenK, lenX, Nat.min_self]
  have lbs : bs.length = ds.length := by simp only [bs, List.length_zip, lenK, lenX, Nat.min_self]
  have clo : cloFrom X.env.cells (lamScope x).names [] = [] := rfl
  rw [clo] at hf
  have each : PySem.W.EachIs (fun (v : Value) (b : V × D × Int) => RelV b.1 v) its bs := each_k rv lz
  show wpAny _ _ (call (.builtin "sorted") [.ref a] [(Str.ofString "key", .ref f)]) _ _ s2
  refine PySem.W.sorted_key_data (β := V × D × Int) (b := false) (fun b => .int (sgn neg b.2.2)) hl.isList each (PySem.W.AllAlike.of fun _ _ => rfl) (PySem.W.Sortable.others fun b => ⟨by simp, fun q => by simp⟩) (by rw [lbs]; exact hz) (fun b _ => ?_)
    (PyProof.Rows.ksk_s1 _ _) (fun _ => PyProof.Rows.ksk_l1 _ _) (fun _ => PyProof.Rows.ksk_t1 _ _) (fun v b hR hb2 h tk kp => ?_) fun out c h' tk kp fresh hD len eo => ?_
  · have := hr.un
    show X.A.units + 2 + 0 < cLine
    omega
  · -- a key
    have rb := reps_k hrp b hb2
    have mz : (b.2.1, b.2.2) ∈ ds.zip ks := (List.of_mem_zip (show (b.1, b.2) ∈ xs.zip (ds.zip ks) from hb2)).2
    have kb := keysF_mem e4 mz
    obtain ⟨x0, d0, i0⟩ := b
    simp only at rb kb hR ⊢
    cases d0 with
    | obj c ns vs =>
      simp only [keyF] at kb
      split at kb
      case isFalse => cases kb
      rename_i hcs
      obtain ⟨dd, f1, f2⟩ := bind_some kb
      obtain ⟨oa, dx, fs, rfl, k1, k2, k3, k4⟩ := rb
      subst k3
      obtain ⟨w0, w1, w2⟩ := fldD_of k4 f1
      cases dd with
      | int j =>
        cases f2
        cases (show w0 = .int i0 from w2)
        obtain ⟨c1, c2⟩ := hcl c (by simpa using hcs)
        obtain ⟨mA, O, r, _⟩ := ins_get I2.hok (rl2.sub _ _ k1)
        obtain ⟨u0, hu, ru⟩ := RelO.some_of (v := .int i0) (o := mA nm) (by rw [← w1]; exact r nm)
        obtain ⟨t0, rfl⟩ := ru
        obtain rfl : v = Value.ref oa := hR
        obtain ⟨⟨oc, vs2, t2, q1, q2, q3⟩, _, _⟩ := I2.hok c' _ hco
        have O2 : ObjM h oa dx (C c) mA := ⟨kp _ _ O.obj, O.ns.at fun o q => kp _ _ q, O.ne⟩
        exact lam_key (s := { s2 with heap := h, toks := tk }) (A := X.A.in1.in1) (I2.kIn.keeps kp) (I2.nolimit.keeps kp) hr.depth (kp _ _ hf) ⟨c', oc, vs2, t2, rfl, kp _ _ q1, q2, q3⟩ O2 c1 c2 hu hd (fun c => hbind _ _ _ _ _) hb
      | _ => cases f2
    | _ => cases kb
  · -- the new list
    have fresh2 : H2 (s2.heap.objs.size + 1) = none := I2.hok.fresh (Nat.le_succ _)
    let bs' := bs.mergeSort (PySem.W.dataLe false fun b : V × D × Int => .int (sgn neg b.2.2))
    have I3 : Inv X pins σ (upd H2 (s2.heap.objs.size + 1) (.lst (bs'.map (·.1)))) { s2 with heap := h', toks := tk } := I2.laid kp (Nat.le_succ _) ⟨by rw [List.length_map, List.length_mergeSort, lbs]; exact hz, out, c, vals_each eo, hD⟩
    obtain ⟨x3, rl3⟩ := rl2.freeze1 (o := .lst (bs'.map (·.1))) fresh2
    have rb' : ∀ b ∈ bs', Rep X.K C g1 b.2.1 b.1 := fun b hb => reps_k hrp b (List.mem_mergeSort.mp hb)
    have out_eq : sortBy (ds.zip (ks.map (sgn neg))) = bs'.map (·.2.1) := by
      simp only [sortBy, bs', PySem.W.dataLe_int]
      rw [zip_sgn, ← zip_snd (xs := xs) (zs := ds.zip ks) lz, List.map_map]
      rw [show (xs.zip (ds.zip ks)).map (((fun q : D × Int => (q.1, sgn neg q.2)) ∘ fun b : V × D × Int => b.2)) = bs.map fun b => (b.2.1, sgn neg b.2.2) from rfl]
      rw [← List.map_mergeSort (r := fun a b : V × D × Int => decide (sgn neg a.2.2 ≤ sgn neg b.2.2)) (f := fun b : V × D × Int => (b.2.1, sgn neg b.2.2)) (s := fun p q : D × Int => decide (p.2 ≤ q.2)) (fun a _ b _ => rfl), List.map_map]
      rfl
    refine ⟨.ref (s2.heap.objs.size + 1), _, I3, rfl, fin _ _ _ (xg1.trans x3) rl3 ?_⟩
    rw [out_eq]
    exact ⟨_, _, rfl, upd_same, (reps_map rb').up x3⟩
end
end Z

end
section
set_option Elab.async false
set_option linter.all false
set_option maxRecDepth 100000
set_option autoImplicit false
namespace Z
open PySem PySem.Spec L2
/-! ### xs != [], whatever the list holds -/
def rNe0 (K : PySem.W.Frag) : R2 := fun x y H Q => ∃ a b xs, x = .ref a ∧ y = .ref b ∧ SqL K H a xs ∧ SqL K H b [] ∧ Q (.bl (!xs.isEmpty)) H
section
variable {X : Cx} {C : Nat → Addr}
theorem op_ne0 (hu : X.A.units < cLine) : OpR X (compareOp .NotEq) (rNe0 X.K) := by
  intro pins s σ H x y v u Q I rx ry h
  obtain ⟨a, b, xs, rfl, rfl, h1, h2, q⟩ := h
  cases rx
  cases ry
  obtain ⟨its, rv, p, _⟩ := I.list h1
  obtain ⟨its2, rv2, p2, _⟩ := I.list h2
  cases rv2
  have hl := rv.length
  cases its with
  | nil =>
    cases xs with
    | nil => exact SeqAt.RcNeAt.lists (e := fun _ => true) p.isList p2.isList rfl hu (fun j h1 h2 => absurd h2 (Nat.not_lt_zero _)) X.prog X.w _ _ ⟨.bl false, H, I, rfl, q⟩
    | cons _ _ => cases hl
  | cons w ws =>
    cases xs with
    | nil => cases hl
    | cons _ _ => exact SeqAt.RcNeAt.lists_lengths p.isList p2.isList rfl hu X.prog X.w _ _ ⟨.bl true, H, I, rfl, q⟩
def oNeE (a b : D) (st : Sto) : Option (D × Sto) := match b, vL a st with
  | .lst [], some xs => some (.bl (!xs.isEmpty), st)
  | _, _ => oNe a b st
theorem sNeE (hu : X.A.units + 64 < cLine) : SOp X C (compareOp .NotEq) oNeE := by
  refine op_intro fun g H st dx dy x y d st' rl r1 r2 e => ?_
  unfold oNeE at e
  split at e
  · rename_i xs hv
    cases e
    obtain ⟨a, vs, rfl, h1, h2⟩ := vL_of rl r1 hv
    obtain ⟨b, ws, rfl, h3, h4⟩ := vL_of rl r2 (show vL (.lst []) st = some [] from rfl)
    cases (show ws = [] from h4)
    refine ⟨_, op_ne0 (by omega), fun Q k => ⟨a, b, vs, rfl, rfl, h1, h3, ?_⟩⟩
    have hl := h2.length
    have : vs.isEmpty = xs.isEmpty := by cases xs <;> cases vs <;> simp_all
    rw [this]
    exact k g H _ (GExt.refl g) rl rfl
  · exact ⟨_, sNe (C := C) hu, fun Q k => ⟨g, dx, _, st, d, st', rl, r1, r2, e, k⟩⟩
/-! ### len of a dict of the store -/
def rLenD : List V → Hp → VK → Prop := fun vs H Q => ∃ a kvs, vs = [.ref a] ∧ H a = some (.dK kvs) ∧ Q (.int kvs.length) H
theorem call_lenD : CallR X (.builtin "len") rLenD := by
  intro pins s σ H xs us Q I r h
  obtain ⟨a, kvs, rfl, e, q⟩ := h
  obtain ⟨u, rfl, ru⟩ := vals1 r
  obtain rfl : u = Value.ref a := ru
  exact d_len I (.inl e) fun t s' I' => ⟨.int kvs.length, H, I', ⟨t, rfl⟩, q⟩
def bLenE (ds : List D) (st : Sto) : Option (D × Sto) := match ds with
  | [.ref i] => match st[i]? with
    | some (.dic ks _) => some (.int ks.length, st)
    | _ => bLen [.ref i] st
  | ds => bLen ds st
theorem cLenE : SC X C (.builtin "len") bLenE := by
  refine sc_intro fun g H st ds vs d st' rl r e => ?_
  have old : bLen ds st = some (d, st') → ∃ rr, CallR X (.builtin "len") rr ∧ ∀ Q : VK, (∀ g' H' v, GExt g g' → Rl X.K C g' H' st' → Rep X.K C g' d v → Q v H') → rr vs H Q :=
    fun e => ⟨_, cLen (C := C), fun Q k => ⟨g, ds, st, d, st', rl, r, e, k⟩⟩
  unfold bLenE at e
  split at e
  · rename_i i
    split at e
    · rename_i ks ws hs
      cases e
      obtain ⟨v, rfl, r1⟩ := r.one
      obtain ⟨a, h1, rfl⟩ := r1
      obtain ⟨k1, kvs, k2, k3, k4⟩ := rl.obj i _ a hs h1
      refine ⟨_, call_lenD, fun Q k => ⟨a, kvs, rfl, k2, ?_⟩⟩
      subst k3
      rw [show (kvs.length : Int) = ((kvs.map (·.1)).length : Int) by simp]
      exact k g H _ (GExt.refl g) rl rfl
    · exact old e
  · exact old e
end
end Z

end
section
set_option Elab.async false
set_option linter.all false
set_option maxRecDepth 100000
set_option autoImplicit false
set_option exponentiation.threshold 5000
namespace Z
open PySem PySem.Spec L2
/-! ### the mirrors, unfolded -/
section
variable {f f' : D → D → Sto → Option (D × Sto)} {f1 : D → Sto → Option (D × Sto)} {a b c : EM} {l m : Ev (List D)} {t u : Ev Bool} {x y : SM} {g : GM} {σ : Slo} {st : Sto} {i n k : Nat} {d : D} {fm : FM} {oa ob : EO} {bm : List D → Sto → Option (D × Sto)} {gr : List D → Slo → Sto → Option (Slo × Sto)}
@[simp] theorem e_mB : mB f a b σ st = (a σ st).bind fun p => (b σ p.2).bind fun q => f p.1 q.1 q.2 := rfl
@[simp] theorem e_mU : mU f1 a σ st = (a σ st).bind fun p => f1 p.1 p.2 := rfl
@[simp] theorem e_ck : ck d σ st = some (d, st) := rfl
@[simp] theorem e_gv (h : σ[i]? = some (some d)) : gv i σ st = some (d, st) := by unfold gv; rw [h]
@[simp] theorem e_aNil : aNil σ st = some ([], st) := rfl
@[simp] theorem e_aCons : aCons a l σ st = (a σ st).bind fun p => (l σ p.2).bind fun q => some (p.1 :: q.1, q.2) := rfl
@[simp] theorem e_mTup : mTup l σ st = (l σ st).bind fun p => if p.1.length ≤ sizeLine then some (.tup p.1, p.2) else none := rfl
@[simp] theorem e_mLst : mLst l σ st = (l σ st).bind fun p => if p.1.length ≤ sizeLine then some (.lst p.1, p.2) else none := rfl
@[simp] theorem e_mNew : mNew l σ st = (l σ st).bind fun p => if p.1.length ≤ sizeLine then some (.ref p.2.length, p.2 ++ [.lst p.1]) else none := rfl
@[simp] theorem e_toB : toB a σ st = (a σ st).bind fun p => match p.1 with | .bl b => some (b, p.2) | _ => none := rfl
@[simp] theorem e_mIf : mIf t a b σ st = (t σ st).bind fun p => if p.1 = true then a σ p.2 else b σ p.2 := rfl
@[simp] theorem e_bAnd : bAnd t u σ st = (t σ st).bind fun p => if p.1 = true then u σ p.2 else some (false, p.2) := rfl
@[simp] theorem e_bOr : bOr t u σ st = (t σ st).bind fun p => if p.1 = true then some (true, p.2) else u σ p.2 := rfl
@[simp] theorem e_bNot : bNot t σ st = (t σ st).bind fun p => some (!p.1, p.2) := rfl
@[simp] theorem e_bTru : bTru a σ st = (a σ st).bind fun p => (truD p.1 p.2).bind fun b => some (b, p.2) := rfl
@[simp] theorem e_mNil : mNil σ st = some (.nx, σ, st) := rfl
@[simp] theorem e_mSeq : mSeq x y σ st = (x σ st).bind fun r => match r.1 with | .nx => y r.2.1 r.2.2 | fl => some (fl, r.2) := rfl
@[simp] theorem e_mRet : mRet a σ st = (a σ st).bind fun p => some (.rt p.1, σ, p.2) := rfl
@[simp] theorem e_mRetN : mRetN σ st = some (.rt .non, σ, st) := rfl
@[simp] theorem e_mIfS : mIfS t x y σ st = (t σ st).bind fun p => if p.1 = true then x σ p.2 else y σ p.2 := rfl
@[simp] theorem e_mSet : mSet i a σ st = (a σ st).bind fun p => some (.nx, σ.set i (some p.1), p.2) := rfl
@[simp] theorem e_mEx : mEx a σ st = (a σ st).bind fun p => some (.nx, σ, p.2) := rfl
@[simp] theorem e_mAsg : mAsg a g σ st = (a σ st).bind fun p => (g p.1 σ p.2).bind fun q => some (.nx, q.1, q.2) := rfl
@[simp] theorem e_gPut : gPut a b d σ st = (a σ st).bind fun p => (b σ p.2).bind fun q => (oPut p.1 q.1 d q.2).bind fun s => some (σ, s) := rfl
@[simp] theorem e_gN : gN i d σ st = some (σ.set i (some d), st) := rfl
@[simp] theorem e_mC : mC bm l σ st = (l σ st).bind fun p => bm p.1 p.2 := rfl
@[simp] theorem e_vAnd : vAnd a b σ st = (a σ st).bind fun p => match p.1 with | .bl true => b σ p.2 | .bl false => some (.bl false, p.2) | _ => none := rfl
@[simp] theorem e_vOr : vOr a b σ st = (a σ st).bind fun p => match p.1 with | .bl true => some (.bl true, p.2) | .bl false => b σ p.2 | _ => none := rfl
@[simp] theorem e_vNot : vNot a σ st = (a σ st).bind fun p => match p.1 with | .bl b => some (.bl !b, p.2) | _ => none := rfl
@[simp] theorem e_mCh : mCh f f' a b c σ st = (a σ st).bind fun p => (b σ p.2).bind fun q => (f p.1 q.1 q.2).bind fun r => match r.1 with
  | .bl true => (c σ r.2).bind fun z => f' q.1 z.1 z.2
  | .bl false => some (.bl false, r.2)
  | _ => none := rfl
@[simp] theorem e_mIsi {ty : Ty} : mIsi ty a σ st = (a σ st).bind fun p => (tyD p.1 p.2).bind fun b => some (.bl (isTy b ty), p.2) := rfl
@[simp] theorem e_mSl {h : D → Option Int → Option Int → Sto → Option (D × Sto)} : mSl h a oa ob σ st = (a σ st).bind fun p => (oa σ p.2).bind fun q => (ob σ q.2).bind fun r => h p.1 q.1 r.1 r.2 := rfl
@[simp] theorem e_oNo : oNo σ st = some (none, st) := rfl
end
section
variable {i j : Int} {st : Sto}
@[simp] theorem e_vL {ds : List D} : vL (.lst ds) st = some ds := rfl
@[simp] theorem e_vLq {ds : List D} : vL (.sq ds) st = some ds := rfl
@[simp] theorem e_oAdd : oAdd (.int i) (.int j) st = some (.int (i + j), st) := rfl
@[simp] theorem e_oSub : oSub (.int i) (.int j) st = some (.int (i - j), st) := rfl
@[simp] theorem e_oNeg : oNeg (.int i) st = some (.int (-i), st) := rfl
theorem e_oMul (h : cMul i j = true) : oMul (.int i) (.int j) st = some (.int (i * j), st) := by
  show (if cMul i j = true then some (D.int (i * j), st) else none) = _
  rw [if_pos h]
theorem e_oDiv (h : cDiv i j = true) : oDiv (.int i) (.int j) st = some (.int (i / j), st) := by
  show (if cDiv i j = true then some (D.int (i / j), st) else none) = _
  rw [if_pos h]
theorem e_oMod (h : 0 < j) : oMod (.int i) (.int j) st = some (.int (i % j), st) := by
  show (if decide (0 < j) = true then some (D.int (i % j), st) else none) = _
  rw [if_pos (decide_eq_true h)]
theorem e_oPow (h : cPow i j = true) : oPow (.int i) (.int j) st = some (.int (i ^ j.toNat), st) := by
  show (if cPow i j = true then some (D.int (i ^ j.toNat), st) else none) = _
  rw [if_pos h]
@[simp] theorem e_oLt : oLt (.int i) (.int j) st = some (.bl (decide (i < j)), st) := rfl
@[simp] theorem e_oGt : oGt (.int i) (.int j) st = some (.bl (decide (j < i)), st) := rfl
@[simp] theorem e_oGe : oGe (.int i) (.int j) st = some (.bl (decide (j ≤ i)), st) := rfl
@[simp] theorem e_oLe : oLe (.int i) (.int j) st = some (.bl (decide (i ≤ j)), st) := rfl
end
/-! ### sizes -/
theorem log2_lt {n k : Nat} (h : n < 2 ^ k) : n.log2 < k + 1 := by
  by_cases h0 : n = 0
  · subst h0; simp
  · have := (Nat.log2_lt h0).mpr h
    omega
theorem cMul_ok {i j : Int} (hi : i.natAbs < 2 ^ 4000) (hj : j.natAbs < 2 ^ 4000) : cMul i j = true := by
  have h1 := log2_lt hi
  have h2 := log2_lt hj
  exact decide_eq_true (by omega)
theorem cDiv_ok {i j : Int} (h0 : 0 < j) (hj : j.natAbs < 2 ^ 4000) : cDiv i j = true := by
  have h2 := log2_lt hj
  simp only [cDiv, Bool.and_eq_true, decide_eq_true_eq]
  exact ⟨h0, by omega⟩
theorem cPow3_ok {i : Int} (hi : i.natAbs < 2 ^ 4000) : cPow i 3 = true := by
  have h1 := log2_lt hi
  simp only [cPow, Bool.and_eq_true, decide_eq_true_eq]
  refine ⟨by decide, ?_⟩
  unfold Builtin.Int.intBits
  split <;> omega
theorem small_of {i : Int} (h0 : 0 ≤ i) (h1 : i < 2 ^ 4000) : i.natAbs < 2 ^ 4000 := by
  have : ((2 : Int) ^ 4000) = ((2 ^ 4000 : Nat) : Int) := by norm_cast
  rw [this] at h1
  omega
/-! ### stores -/
def WfS (st : Sto) : Prop := ∀ o ∈ st, belowO st.length o = true
theorem cut_ok {d : D} {st : Sto} {n : Nat} (hn : st.length = n) (hd : below n d = true) (hs : WfS st) : cutSt n d st = some (d, st) := by
  subst hn
  unfold cutSt
  rw [List.take_length]
  rw [if_pos]
  rw [Bool.and_eq_true, List.all_eq_true]
  exact ⟨hd, hs⟩
theorem WfS.set {st : Sto} {i : Nat} {o : O} (h : WfS st) (ho : belowO st.length o = true) : WfS (st.set i o) := by
  intro p hp
  rw [List.length_set]
  rcases List.mem_or_eq_of_mem_set hp with hp | rfl
  · exact h p hp
  · exact ho
/-- a pot at i, drawn from at most T times without own digits -/
def Pot (i : Nat) (T : Int) (st : Sto) : Prop := ∃ a b t : Int, st[i]? = some (.lst [.int a, .int b, .int t]) ∧ 0 ≤ a ∧ 0 ≤ b ∧ b < 2 ^ 64 ∧ 0 ≤ t ∧ t ≤ T
def takeF : FM := mkF 5 2 0 (mSeq (mIfS (toB (mB oGt (mB oIx (gv 0) (ck (.int 0))) (ck (.int 0)))) (mSeq (mSet 2 (mB oMod (mB oIx (gv 0) (ck (.int 0))) (gv 1))) (mSeq (mAsg (mB oDiv (mB oIx (gv 0) (ck (.int 0))) (gv 1)) (gPut (gv 0) (ck (.int 0)))) (mRet (gv 2)))) mNil) (mSeq (mAsg (mB oAdd (mB oIx (gv 0) (ck (.int 2))) (ck (.int 1))) (gPut (gv 0) (ck (.int 2)))) (mSeq (mSet 3 (mB oIx (mLst (aCons (ck (.int 2147483647)) (aCons (ck (.int 2147483629)) (aCons (ck (.int 2147483587)) (aCons (ck (.int 2147483579)) (aCons (ck (.int 2147483563)) aNil)))))) (mB oMod (mB oIx (gv 0) (ck (.int 2))) (ck (.int 5))))) (mSeq (mSet 4 (mB oMod (mB oPow (mB oAdd (mB oAdd (mB oIx (gv 0) (ck (.int 1))) (mB oMul (mB oMul (ck (.int 99991)) (mB oIx (gv 0) (ck (.int 2)))) (mB oIx (gv 0) (ck (.int 2))))) (ck (.int 23))) (ck (.int 3))) (gv 3))) (mRet (mB oMod (mB oDiv (mB oMod (mB oMul (gv 4) (mB oAdd (mB oMod (gv 4) (ck (.int 10007))) (mB oMul (ck (.int 71)) (mB oIx (gv 0) (ck (.int 2)))))) (ck (.int 2305843009213693907))) (ck (.int 103))) (gv 1)))))))
theorem ix0 {st : Sto} {i : Nat} {x y z : D} (h : st[i]? = some (.lst [x, y, z])) : oIx (.ref i) (.int 0) st = some (x, st) := by
  simp only [oIx, h, ixL]; rfl
theorem ix1 {st : Sto} {i : Nat} {x y z : D} (h : st[i]? = some (.lst [x, y, z])) : oIx (.ref i) (.int 1) st = some (y, st) := by
  simp only [oIx, h, ixL]; rfl
theorem ix2 {st : Sto} {i : Nat} {x y z : D} (h : st[i]? = some (.lst [x, y, z])) : oIx (.ref i) (.int 2) st = some (z, st) := by
  simp only [oIx, h, ixL]; rfl
theorem put0 {st : Sto} {i : Nat} {x y z d : D} (h : st[i]? = some (.lst [x, y, z])) : oPut (.ref i) (.int 0) d st = some (st.set i (.lst [d, y, z])) := by
  simp only [oPut, h]; rfl
theorem put2 {st : Sto} {i : Nat} {x y z d : D} (h : st[i]? = some (.lst [x, y, z])) : oPut (.ref i) (.int 2) d st = some (st.set i (.lst [x, y, d])) := by
  simp only [oPut, h]; rfl
theorem prime_ok (k : Int) (st : Sto) : ∃ p : Int, oIx (.lst [.int 2147483647, .int 2147483629, .int 2147483587, .int 2147483579, .int 2147483563]) (.int (k % 5)) st = some (.int p, st) ∧ 0 < p ∧ p < 2 ^ 31 := by
  have h : k % 5 = 0 ∨ k % 5 = 1 ∨ k % 5 = 2 ∨ k % 5 = 3 ∨ k % 5 = 4 := by omega
  rcases h with h | h | h | h | h <;> rw [h]
  · exact ⟨2147483647, rfl, by decide, by decide⟩
  · exact ⟨2147483629, rfl, by decide, by decide⟩
  · exact ⟨2147483587, rfl, by decide, by decide⟩
  · exact ⟨2147483579, rfl, by decide, by decide⟩
  · exact ⟨2147483563, rfl, by decide, by decide⟩
theorem take_ok {i : Nat} {T bound : Int} {st : Sto} (hw : WfS st) (hp : Pot i T st) (hT : T < 2 ^ 60) (h0 : 0 < bound) (h1 : bound < 2 ^ 60) :
    ∃ d st', takeF [.ref i, .int bound] st = some (.int d, st') ∧ 0 ≤ d ∧ d < bound ∧ WfS st' ∧ st'.length = st.length ∧ (∀ j, j ≠ i → st'[j]? = st[j]?) ∧ Pot i (T + 1) st' := by
  obtain ⟨a, b, t, h, ha, hb, hb2, ht, ht2⟩ := hp
  have hi : i < st.length := (List.getElem?_eq_some_iff.mp h).1
  have nb : bound.natAbs < 2 ^ 4000 := small_of (by omega) (Int.lt_trans h1 (by decide +kernel))
  by_cases hpos : 0 < a
  · refine ⟨a % bound, st.set i (.lst [.int (a / bound), .int b, .int t]), ?_, Int.emod_nonneg _ (by omega), Int.emod_lt_of_pos _ h0, ?_, by simp, fun j hj => by rw [List.getElem?_set_ne (Ne.symm hj)], ⟨a / bound, b, t, by rw [List.getElem?_set_self hi], Int.ediv_nonneg ha (by omega), hb, hb2, ht, by omega⟩⟩
    · have hw' : WfS (st.set i (.lst [.int (a / bound), .int b, .int t])) := hw.set rfl
      have hc := cut_ok (d := .int (a % bound)) (n := st.length) (by simp) rfl hw'
      simp [takeF, mkF, gv, ix0 h, put0 h, hpos, e_oMod h0, e_oDiv (i := a) (cDiv_ok h0 nb), hc]
    · exact hw.set rfl
  · -- the number that is mixed
    have hset : (st.set i (.lst [.int a, .int b, .int (t + 1)]))[i]? = some (.lst [.int a, .int b, .int (t + 1)]) := List.getElem?_set_self hi
    have hw' : WfS (st.set i (.lst [.int a, .int b, .int (t + 1)])) := hw.set rfl
    obtain ⟨p, hp, hp0, hp1⟩ := prime_ok (t + 1) (st.set i (.lst [.int a, .int b, .int (t + 1)]))
    have t1 : 0 ≤ t + 1 := by omega
    have t2 : t + 1 ≤ 2 ^ 60 := by omega
    -- the base
    have u1 : 0 ≤ 99991 * (t + 1) := by omega
    have u2 : 99991 * (t + 1) ≤ 2 ^ 77 := by omega
    have m1 : 0 ≤ 99991 * (t + 1) * (t + 1) := Int.mul_nonneg u1 t1
    have m2 : 99991 * (t + 1) * (t + 1) ≤ 2 ^ 77 * 2 ^ 60 := Int.mul_le_mul u2 t2 t1 (by decide)
    have c1 : cMul 99991 (t + 1) = true := cMul_ok (by decide) (small_of t1 (Int.lt_of_le_of_lt t2 (by decide +kernel)))
    have c2 : cMul (99991 * (t + 1)) (t + 1) = true := cMul_ok (small_of u1 (Int.lt_of_le_of_lt u2 (by decide +kernel))) (small_of t1 (Int.lt_of_le_of_lt t2 (by decide +kernel)))
    have b0 : 0 ≤ b + 99991 * (t + 1) * (t + 1) + 23 := by omega
    have b1 : b + 99991 * (t + 1) * (t + 1) + 23 < 2 ^ 140 := by omega
    have c3 : cPow (b + 99991 * (t + 1) * (t + 1) + 23) 3 = true := cPow3_ok (small_of b0 (Int.lt_trans b1 (by decide +kernel)))
    generalize hX : (b + 99991 * (t + 1) * (t + 1) + 23) ^ 3 % p = X
    have x0 : 0 ≤ X := by rw [← hX]; exact Int.emod_nonneg _ (by omega)
    have x1 : X < 2 ^ 31 := by rw [← hX]; exact Int.lt_trans (Int.emod_lt_of_pos _ hp0) hp1
    have y0 : 0 ≤ X % 10007 + 71 * (t + 1) := by omega
    have y1 : X % 10007 + 71 * (t + 1) < 2 ^ 70 := by omega
    have c4 : cMul 71 (t + 1) = true := cMul_ok (by decide) (small_of t1 (Int.lt_of_le_of_lt t2 (by decide +kernel)))
    have c5 : cMul X (X % 10007 + 71 * (t + 1)) = true := cMul_ok (small_of x0 (Int.lt_trans x1 (by decide +kernel))) (small_of y0 (Int.lt_trans y1 (by decide +kernel)))
    refine ⟨X * (X % 10007 + 71 * (t + 1)) % 2305843009213693907 / 103 % bound, st.set i (.lst [.int a, .int b, .int (t + 1)]), ?_, Int.emod_nonneg _ (by omega), Int.emod_lt_of_pos _ h0, hw', by simp, fun j hj => by rw [List.getElem?_set_ne (Ne.symm hj)], ⟨a, b, t + 1, hset, ha, hb, hb2, t1, by omega⟩⟩
    have hc := cut_ok (d := .int (X * (X % 10007 + 71 * (t + 1)) % 2305843009213693907 / 103 % bound)) (n := st.length) (by simp) rfl hw'
    have cd : cDiv (X * (X % 10007 + 71 * (t + 1)) % 2305843009213693907) 103 = true := cDiv_ok (by decide) (by decide)
    have sz : (5 : Nat) ≤ sizeLine := by decide
    simp [takeF, mkF, gv, ix2 h, ix1 hset, ix2 hset, put2 h, hpos, ix0 h, e_oMod h0, e_oMod hp0, e_oMod (i := t + 1) (j := 5) (by decide), hp, e_oMul c1, e_oMul c2, e_oPow c3, hX, e_oMul c4, e_oMul c5, e_oMod (i := X) (j := 10007) (by decide), e_oMod (i := X * (X % 10007 + 71 * (t + 1))) (j := 2305843009213693907) (by decide), e_oDiv cd, sz, hc]
/-- what a draw leaves: the pot, drawn from once more, all else as it was -/
structure Drawn (i : Nat) (T : Int) (st st' : Sto) : Prop where
  wf : WfS st'
  len : st'.length = st.length
  same : ∀ j, j ≠ i → st'[j]? = st[j]?
  pot : Pot i T st'
theorem Drawn.trans {i : Nat} {T U : Int} {a b c : Sto} (h : Drawn i T a b) (h' : Drawn i U b c) : Drawn i U a c := ⟨h'.wf, h'.len.trans h.len, fun j hj => (h'.same j hj).trans (h.same j hj), h'.pot⟩
theorem take_dr {i : Nat} {T bound : Int} {st : Sto} (hw : WfS st) (hp : Pot i T st) (hT : T < 2 ^ 60) (h0 : 0 < bound) (h1 : bound < 2 ^ 60) :
    ∃ d st', takeF [.ref i, .int bound] st = some (.int d, st') ∧ 0 ≤ d ∧ d < bound ∧ Drawn i (T + 1) st st' :=
  let ⟨d, st', e, a, b, c, l, s, p⟩ := take_ok hw hp hT h0 h1
  ⟨d, st', e, a, b, ⟨c, l, s, p⟩⟩
theorem belows_get {n : Nat} : ∀ {ds : List D} {i : Nat} {d : D}, belows n ds = true → ds[i]? = some d → below n d = true
  | [], _, _, _, e => by simp at e
  | x :: xs, 0, d, h, e => by
    cases (show some x = some d from e)
    have h : (below n x && belows n xs) = true := h
    exact (Bool.and_eq_true_iff.mp h).1
  | x :: xs, i + 1, d, h, e => by
    have h : (below n x && belows n xs) = true := h
    exact belows_get (ds := xs) (i := i) (Bool.and_eq_true_iff.mp h).2 e
def ofF : FM := mkF 2 2 0 (mRet (mB oIx (gv 1) (mC takeF (aCons (gv 0) (aCons (mC bLen (aCons (gv 1) aNil)) aNil)))))
theorem of_dr {i : Nat} {T : Int} {st : Sto} {ds : List D} (hw : WfS st) (hp : Pot i T st) (hT : T < 2 ^ 60) (h0 : ds ≠ []) (h1 : ds.length < 2 ^ 60) (hb : belows st.length ds = true) :
    ∃ d st', ofF [.ref i, .lst ds] st = some (d, st') ∧ d ∈ ds ∧ Drawn i (T + 1) st st' := by
  have hl : 0 < ds.length := List.length_pos_iff.mpr h0
  obtain ⟨k, st', e, k0, k1, dr⟩ := take_dr (bound := (ds.length : Nat)) hw hp hT (by omega) (by omega)
  have hk : k.toNat < ds.length := by omega
  have hg : ds[k.toNat]? = some ds[k.toNat] := List.getElem?_eq_getElem hk
  refine ⟨ds[k.toNat], st', ?_, List.getElem_mem hk, dr⟩
  have hx : oIx (.lst ds) (.int k) st' = some (ds[k.toNat], st') := by
    have : atI ds k = some ds[k.toNat] := by
      unfold atI ixN
      rw [if_pos k0, if_pos k1]
      exact hg
    simp only [oIx, ixL, this]; rfl
  have hc := cut_ok (d := ds[k.toNat]) (n := st.length) dr.len (belows_get hb hg) dr.wf
  simp [ofF, mkF, gv, bLen, lenD, e, hx, hc]
def potF : FM := mkF 4 2 1 (mSeq (mSet 2 (mIf (toB (mB oLt (gv 1) (mC bLen (aCons (gv 0) aNil)))) (mB oIx (gv 0) (gv 1)) (mB oAdd (mB oMul (ck (.int 17)) (gv 1)) (ck (.int 9))))) (mSeq (mSet 3 (mB oMul (mB oMod (mC bAbs (aCons (gv 2) aNil)) (mB oPow (mB oPow (ck (.int 10)) (ck (.int 60))) (ck (.int 5)))) (mC bToInt (aCons (mB oGe (mC bAbs (aCons (gv 2) aNil)) (mB oPow (ck (.int 10)) (ck (.int 18)))) aNil)))) (mRet (mNew (aCons (gv 3) (aCons (mB oMod (mB oAdd (mB oAdd (mB oMul (mB oMod (gv 2) (ck (.int 2305843009213693951))) (ck (.int 69621))) (mB oMul (mB oMul (ck (.int 7919)) (gv 1)) (gv 1))) (ck (.int 31))) (ck (.int 2305843009213693921))) (aCons (ck (.int 0)) aNil)))))))
theorem WfS.snoc {st : Sto} {o : O} (h : WfS st) (mono : ∀ p ∈ st, belowO (st.length + 1) p = true) (ho : belowO (st.length + 1) o = true) : WfS (st ++ [o]) := by
  intro p hp
  rw [List.length_append, List.length_singleton]
  rcases List.mem_append.mp hp with hp | hp
  · exact mono p hp
  · rw [List.mem_singleton.mp hp]; exact ho
mutual
theorem below_mono {n k : Nat} (h : n ≤ k) : ∀ d : D, below n d = true → below k d = true
  | .non, _ => rfl
  | .bl _, _ => rfl
  | .int _, _ => rfl
  | .str _, _ => rfl
  | .tup ds, e => belows_mono h ds e
  | .lst ds, e => belows_mono h ds e
  | .sq ds, e => belows_mono h ds e
  | .dic _ vs, e => belows_mono h vs e
  | .obj _ _ vs, e => belows_mono h vs e
  | .ref i, e => decide_eq_true (Nat.lt_of_lt_of_le (of_decide_eq_true e) h)
theorem belows_mono {n k : Nat} (h : n ≤ k) : ∀ ds : List D, belows n ds = true → belows k ds = true
  | [], _ => rfl
  | d :: ds, e => by
    have e : (below n d && belows n ds) = true := e
    rw [Bool.and_eq_true] at e
    show (below k d && belows k ds) = true
    rw [Bool.and_eq_true]
    exact ⟨below_mono h d e.1, belows_mono h ds e.2⟩
end
theorem belowO_mono {n k : Nat} (h : n ≤ k) : ∀ o : O, belowO n o = true → belowO k o = true
  | .lst ds, e => belows_mono h ds e
  | .dic _ vs, e => belows_mono h vs e
  | .obj _ _ vs, e => belows_mono h vs e
  | .dead, _ => rfl
theorem WfS.add {st : Sto} {o : O} (h : WfS st) (ho : belowO (st.length + 1) o = true) : WfS (st ++ [o]) := h.snoc (fun p hp => belowO_mono (Nat.le_succ _) p (h p hp)) ho
theorem pot_ok {ns : List Int} {k : Nat} {st : Sto} (hw : WfS st) (hk : k < 1000) : ∃ st', potF [.sq (ns.map D.int), .int k] st = some (.ref st.length, st') ∧ WfS st' ∧ st'.length = st.length + 1 ∧ (∀ j, j < st.length → st'[j]? = st[j]?) ∧ Pot st.length 0 st' := by
  -- the cell
  obtain ⟨c, hc⟩ : ∃ c : Int, mIf (toB (mB oLt (gv 1) (mC bLen (aCons (gv 0) aNil)))) (mB oIx (gv 0) (gv 1)) (mB oAdd (mB oMul (ck (.int 17)) (gv 1)) (ck (.int 9))) [some (.sq (ns.map D.int)), some (.int k), none, none] st = some (.int c, st) := by
    by_cases h : k < ns.length
    · refine ⟨ns[k], ?_⟩
      have hx : oIx (.sq (ns.map D.int)) (.int k) st = some (.int ns[k], st) := by
        have : atI (ns.map D.int) k = some (.int ns[k]) := by
          unfold atI ixN
          rw [if_pos (by omega), if_pos (by simp; omega)]
          simp [List.getElem?_eq_getElem h]
        simp only [oIx, ixL, this]; rfl
      simp [gv, bLen, lenD, h, hx]
    · refine ⟨17 * k + 9, ?_⟩
      have c1 : cMul 17 k = true := cMul_ok (by decide) (small_of (by omega) (Int.lt_trans (show (k : Int) < 1000 by omega) (by decide +kernel)))
      simp [gv, bLen, lenD, h, e_oMul c1]
  obtain ⟨Q, P, o1, o2, P0, P1⟩ : ∃ Q P : Int, (∀ st, oPow (.int 10) (.int 60) st = some (.int Q, st)) ∧ (∀ st, oPow (.int Q) (.int 5) st = some (.int P, st)) ∧ 0 < P ∧ P < 2 ^ 4000 := by
    refine ⟨_, _, fun st => e_oPow (by decide +kernel), fun st => e_oPow (by decide +kernel), by decide +kernel, by decide +kernel⟩
  obtain ⟨Z, o3⟩ : ∃ Z : Int, ∀ st, oPow (.int 10) (.int 18) st = some (.int Z, st) := ⟨_, fun st => e_oPow (by decide +kernel)⟩
  generalize hA : (if c < 0 then -c else c) = A
  have hab : ∀ st : Sto, bAbs [.int c] st = some (.int A, st) := fun st => by rw [← hA]; rfl
  have A0 : 0 ≤ A := by rw [← hA]; split <;> omega
  have r0 : 0 ≤ A % P := Int.emod_nonneg _ (by omega)
  have r1 : A % P < P := Int.emod_lt_of_pos _ P0
  obtain ⟨B, hti, B0, B1⟩ : ∃ B : Int, (∀ st : Sto, bToInt [.bl (decide (Z ≤ A))] st = some (.int B, st)) ∧ 0 ≤ B ∧ B ≤ 1 := by
    by_cases h : Z ≤ A
    · exact ⟨1, fun st => by rw [decide_eq_true h]; rfl, by decide, by decide⟩
    · exact ⟨0, fun st => by rw [decide_eq_false h]; rfl, by decide, by decide⟩
  have c1 : cMul (A % P) B = true := cMul_ok (small_of r0 (Int.lt_trans r1 P1)) (small_of B0 (Int.lt_of_le_of_lt B1 (by decide +kernel)))
  have k1 : (k : Int) < 1000 := by omega
  have kS : (k : Int).natAbs < 2 ^ 4000 := small_of (by omega) (Int.lt_trans k1 (by decide +kernel))
  have k2 : 0 ≤ (7919 : Int) * k := by omega
  have k3 : (7919 : Int) * k < 10000000 := by omega
  have k4 : 0 ≤ (7919 : Int) * k * k := Int.mul_nonneg k2 (by omega)
  have c2 : cMul 7919 (k : Int) = true := cMul_ok (by decide) kS
  have c3 : cMul (7919 * (k : Int)) (k : Int) = true := cMul_ok (small_of k2 (Int.lt_trans k3 (by decide +kernel))) kS
  have m0 : 0 ≤ c % 2305843009213693951 := Int.emod_nonneg _ (by decide)
  have m1 : c % 2305843009213693951 < 2305843009213693951 := Int.emod_lt_of_pos _ (by decide)
  have c4 : cMul (c % 2305843009213693951) 69621 = true := cMul_ok (small_of m0 (Int.lt_trans m1 (by decide +kernel))) (by decide)
  obtain ⟨X, hX, x0, x1⟩ : ∃ X : Int, (∀ st, oMod (.int (c % 2305843009213693951 * 69621 + 7919 * (k : Int) * k + 31)) (.int 2305843009213693921) st = some (.int X, st)) ∧ 0 ≤ X ∧ X < 2305843009213693921 :=
    ⟨_, fun st => e_oMod (by decide), Int.emod_nonneg _ (by decide), Int.emod_lt_of_pos _ (by decide)⟩
  have hm : ∀ st, oMod (.int c) (.int 2305843009213693951) st = some (.int (c % 2305843009213693951), st) := fun st => e_oMod (by decide)
  have hw' : WfS (st ++ [.lst [.int (A % P * B), .int X, .int 0]]) := hw.add rfl
  have hcut := cut_ok (d := .ref st.length) (n := st.length + 1) (st := st ++ [.lst [.int (A % P * B), .int X, .int 0]]) (by simp) (decide_eq_true (Nat.lt_succ_self _)) hw'
  have sz : (3 : Nat) ≤ sizeLine := by decide
  refine ⟨st ++ [.lst [.int (A % P * B), .int X, .int 0]], ?_, hw', by simp, fun j hj => List.getElem?_append_left hj, ⟨A % P * B, X, 0, by rw [List.getElem?_append_right (Nat.le_refl _), Nat.sub_self]; rfl, Int.mul_nonneg r0 B0, x0, Int.lt_trans x1 (by decide +kernel), Int.le_refl _, Int.le_refl _⟩⟩
  simp [potF, mkF, -e_mIf, hc, gv, hab, o1, o2, o3, e_oMod P0, hti, e_oMul c1, e_oMul c2, e_oMul c3, e_oMul c4, hm, hX, sz, hcut]
end Z

end
section
set_option Elab.async false
set_option linter.all false
set_option maxRecDepth 100000
set_option autoImplicit false
namespace SH
open PySem PySem.Spec L2 Z
def F_BadCompany___init__ : FM := mkF 2 2 0 (mSeq (mEx eNone) (mFldS [] "value" (gv 0) (gv 1)))
def F_BadEvent___init__ : FM := mkF 2 2 0 (mSeq (mEx eNone) (mFldS [] "event" (gv 0) (gv 1)))
def F_BadLine___init__ : FM := mkF 2 2 0 (mSeq (mEx eNone) (mFldS [] "line" (gv 0) (gv 1)))
def F_BadObservation___init__ : FM := mkF 2 2 0 (mSeq (mEx eNone) (mFldS [] "value" (gv 0) (gv 1)))
def F_BadPlan___init__ : FM := mkF 2 2 0 (mSeq (mEx eNone) (mFldS [] "plan" (gv 0) (gv 1)))
def F_BadProgram___init__ : FM := mkF 2 2 0 (mSeq (mEx eNone) (mFldS [] "value" (gv 0) (gv 1)))
def F_BadText___init__ : FM := mkF 2 2 0 (mSeq (mEx eNone) (mFldS [] "position" (gv 0) (gv 1)))
def F_BadWish___init__ : FM := mkF 2 2 0 (mSeq (mEx eNone) (mFldS [] "wish" (gv 0) (gv 1)))
def F_Course___init__ : FM := mkF 4 4 0 (mSeq (mFldS [1] "finish" (gv 0) (gv 1)) (mSeq (mFldS [1] "ahead" (gv 0) (gv 2)) (mFldS [1] "behind" (gv 0) (gv 3))))
def F_Course_all_strands : FM := mkF 1 1 0 (mRet (mB oAdd (mFld [1] "ahead" (gv 0)) (mFld [1] "behind" (gv 0))))
def F_Course_changes : FM := mkF 3 1 0 (mSeq (mSet 1 (mNew (aCons (ck (.int 0)) (aCons (mFld [1] "finish" (gv 0)) aNil)))) (mSeq (mForL (ilAny (mMeth "all_strands" [(1, F_Course_all_strands)] (gv 0) aNil)) (gN 2) (mEx (mM okL oExt (gv 1) (aCons (mLst (aCons (mFld [0] "first" (gv 2)) (aCons (mB oAdd (mFld [0] "last" (gv 2)) (ck (.int 1))) aNil))) aNil)))) (mRet (mIceD 3 (gv 1)))))
def F_Course_last_round : FM := mkF 2 1 0 (mRet (mCK (bBestD maxN) (aCons (mLcL (ilAny (mMeth "all_strands" [(1, F_Course_all_strands)] (gv 0) aNil)) (gN 1) bYes (mFld [0] "last" (gv 1)) [1]) aNil) (aCons (ck .non) aNil)))
def F_Strand_speaks : FM := mkF 2 2 0 (mRet (vAnd (mCh oLe oLe (mFld [0] "first" (gv 0)) (gv 1) (mFld [0] "last" (gv 0))) (mB oEqE (mB oMod (mB oSub (gv 1) (mFld [0] "first" (gv 0))) (mFld [0] "step" (gv 0))) (ck (.int 0)))))
def F_Course_marked : FM := mkF 5 2 0 (mSeq (mSet 2 (mLcL (ilAny (mFld [1] "ahead" (gv 0))) (gN 4) (bTru (mMeth "speaks" [(0, F_Strand_speaks)] (gv 4) (aCons (gv 1) aNil))) (mFld [0] "word" (gv 4)) [4])) (mSeq (mSet 3 (mLcL (ilAny (mFld [1] "behind" (gv 0))) (gN 4) (bTru (mMeth "speaks" [(0, F_Strand_speaks)] (gv 4) (aCons (gv 1) aNil))) (mFld [0] "word" (gv 4)) [4])) (mSeq (mIfS (toB (mB oLt (gv 1) (mFld [1] "finish" (gv 0)))) (mRet (mTup (aStar (gv 2) (aStar (gv 3) aNil)))) mNil) (mRet (mTup (aStar (gv 2) (aCons (ck .non) (aStar (gv 3) aNil))))))))
def F_Course_period : FM := mkF 4 2 0 (mSeq (mSet 2 (ck (.int 1))) (mSeq (mForL (ilAny (mMeth "all_strands" [(1, F_Course_all_strands)] (gv 0) aNil)) (gN 3) (mIfS (toB (mCh oLe oLe (mFld [0] "first" (gv 3)) (gv 1) (mFld [0] "last" (gv 3)))) (mSet 2 eNone) mNil)) (mRet (gv 2))))
def F_Course_total : FM := mkF 2 1 0 (mRet (mC bSum (aCons (mLcL (ilAny (mMeth "all_strands" [(1, F_Course_all_strands)] (gv 0) aNil)) (gN 1) bYes (mFld [0] "many" (gv 1)) [1]) aNil)))
def F_Desk___init__ : FM := mkF 1 1 0 (mFldS [] "kept" (gv 0) mDic0)
def F_is_word : FM := mkF 2 1 0 (mSeq (mIfS (bOr (bNot (bTru (mIsi .str (gv 0)))) (bNot (toB (mCh oLe oLe (ck (.int 1)) (mC bLen (aCons (gv 0) aNil)) (ck (.int 8)))))) (mRet (ck (.bl false))) mNil) (mRet (mC bAll (aCons (mLcL (ilAny (gv 0)) (gN 1) bYes (mCh oLe oLe (ck (.str "a")) (gv 1) (ck (.str "z"))) [1]) aNil))))
def F_Desk_check_names : FM := mkF 3 2 0 (mForL (ilAny (gv 1)) (gN 2) (mIfS (bAnd (bTru (mC F_is_word (aCons (gv 2) aNil))) (toB (mB oNotIn (gv 2) (mFld [] "kept" (gv 0))))) sNone mNil))
def F_Desk_meaning : FM := mkF 2 2 0 (mRet (mIf (bTru (mC F_is_word (aCons (gv 1) aNil))) (mB oIx (mFld [] "kept" (gv 0)) (gv 1)) (mC bToInt (aCons (gv 1) aNil))))
def F_EmptyQueue___init__ : FM := mkF 1 1 0 (mEx eNone)
def F_Log___init__ : FM := mkF 5 2 2 (mSeq (mFldS [2] "strands" (gv 0) (mNew aNil)) (mSeq (mFldS [2] "owners" (gv 0) (mNew aNil)) (mForL (ilEnA (gv 1)) (gT 2 (gsCons (gN 2) (gsCons (gN 3) gsNil))) (mSeq (mSet 4 (mMeth "all_strands" [(1, F_Course_all_strands)] (gv 3) aNil)) (mSeq (mEx (mM okL oExt (mFld [2] "strands" (gv 0)) (aCons (gv 4) aNil))) (mEx (mM okL oExt (mFld [2] "owners" (gv 0)) (aCons (mB oMul (mLst (aCons (gv 2) aNil)) (mC bLen (aCons (gv 4) aNil))) aNil))))))))
def F_Strand_before : FM := mkF 2 2 0 (mSeq (mIfS (toB (mB oLe (gv 1) (mFld [0] "first" (gv 0)))) (mRet (ck (.int 0))) mNil) (mRet (mC bMin2 (aCons (mFld [0] "many" (gv 0)) (aCons (mB oAdd (mB oDiv (mB oSub (mB oSub (gv 1) (ck (.int 1))) (mFld [0] "first" (gv 0))) (mFld [0] "step" (gv 0))) (ck (.int 1))) aNil)))))
def F_Log_before : FM := mkF 3 2 0 (mRet (mC bSum (aCons (mLcL (ilAny (mFld [2] "strands" (gv 0))) (gN 2) bYes (mMeth "before" [(0, F_Strand_before)] (gv 2) (aCons (gv 1) aNil)) [2]) aNil)))
def F_Strand_next_round : FM := mkF 3 2 0 (mSeq (mSet 2 (mMeth "before" [(0, F_Strand_before)] (gv 0) (aCons (gv 1) aNil))) (mSeq (mIfS (toB (mB oEqE (gv 2) (mFld [0] "many" (gv 0)))) (mRet (ck .non)) mNil) (mRet (mB oAdd (mFld [0] "first" (gv 0)) (mB oMul (gv 2) (mFld [0] "step" (gv 0)))))))
def F_Log_following : FM := mkF 9 3 0 (mSeq (mSet 3 (mLcL (ilEnA (mFld [2] "strands" (gv 0))) (gT 2 (gsCons (gN 5) (gsCons (gN 7) gsNil))) bYes (mTup (aCons (mMeth "next_round" [(0, F_Strand_next_round)] (gv 7) (aCons (gv 1) aNil)) (aCons (gv 5) aNil))) [5, 7])) (mSeq (mSet 3 (mLcL (ilAny (gv 3)) (gN 8) (toB (mB oIsNot (mB oIx (gv 8) (ck (.int 0))) (ck .non))) (gv 8) [8])) (mSeq (mEx eNone) (mSeq (mSet 4 (mNew aNil)) (mSeq (mWh (toB (mB oLt (mC bLen (aCons (gv 4) aNil)) (gv 2))) (mSeq (mAsg (mB oIx (gv 3) (ck (.int 0))) (gT 2 (gsCons (gN 1) (gsCons (gN 5) gsNil)))) (mSeq (mEx (mM okL oApp (gv 4) (aCons (mTup (aCons (gv 1) (aCons (gv 5) aNil))) aNil))) (mSeq (mSet 6 (mMeth "next_round" [(0, F_Strand_next_round)] (mB oIx (mFld [2] "strands" (gv 0)) (gv 5)) (aCons (mB oAdd (gv 1) (ck (.int 1))) aNil))) (mIfS (toB (mB oIs (gv 6) (ck .non))) (mEx eNone) (mEx eNone))))) 5000) (mRet (mIceD 3 (gv 4))))))))
def F_Log_round_of : FM := mkF 6 2 0 (mSeq (mPar 2 3 (aCons (ck (.int 0)) (aCons (mC (bBest maxN) (aCons (mLcL (ilAny (mFld [2] "strands" (gv 0))) (gN 5) bYes (mFld [0] "last" (gv 5)) [5]) aNil)) aNil))) (mSeq (mWh (toB (mB oLt (gv 2) (gv 3))) (mSeq (mSet 4 (mB oDiv (mB oAdd (gv 2) (gv 3)) (ck (.int 2)))) (mIfS (toB (mB oGt (mMeth "before" [(2, F_Log_before)] (gv 0) (aCons (mB oAdd (gv 4) (ck (.int 1))) aNil)) (gv 1))) (mSet 3 (gv 4)) (mSet 2 (mB oAdd (gv 4) (ck (.int 1)))))) 200) (mRet (gv 2))))
def F_Log_total : FM := mkF 2 1 0 (mRet (mC bSum (aCons (mLcL (ilAny (mFld [2] "strands" (gv 0))) (gN 1) bYes (mFld [0] "many" (gv 1)) [1]) aNil)))
def F_Log_between : FM := mkF 5 3 0 (mSeq (mSet 2 (mC bMin2 (aCons (gv 2) (aCons (mMeth "total" [(2, F_Log_total)] (gv 0) aNil) aNil)))) (mSeq (mIfS (toB (mB oGe (gv 1) (gv 2))) (mRet (mLst aNil)) mNil) (mSeq (mSet 3 (mMeth "round_of" [(2, F_Log_round_of)] (gv 0) (aCons (gv 1) aNil))) (mSeq (mSet 4 (mB oSub (gv 1) (mMeth "before" [(2, F_Log_before)] (gv 0) (aCons (gv 3) aNil)))) (mRet (mSl oSl (mMeth "following" [(2, F_Log_following)] (gv 0) (aCons (gv 3) (aCons (mB oSub (mB oAdd (gv 4) (gv 2)) (gv 1)) aNil))) (oSo (gv 4)) oNo))))))
def F_is_integer : FM := mkF 1 1 0 (mRet (vAnd (mIsi .int (gv 0)) (vNot (mIsi .bl (gv 0)))))
def F_is_number : FM := mkF 1 1 0 (mRet (vAnd (mC F_is_integer (aCons (gv 0) aNil)) (mB oGe (gv 0) (ck (.int 0)))))
def F_is_index : FM := mkF 2 2 0 (mRet (vAnd (mC F_is_number (aCons (gv 0) aNil)) (mB oLt (gv 0) (gv 1))))
def F_Log_has : FM := mkF 2 2 0 (mRet (mC F_is_index (aCons (gv 1) (aCons (mMeth "total" [(2, F_Log_total)] (gv 0) aNil) aNil))))
def F_Log_located : FM := mkF 6 2 0 (mSeq (mSet 2 (mMeth "round_of" [(2, F_Log_round_of)] (gv 0) (aCons (gv 1) aNil))) (mSeq (mSet 3 (mLcL (ilEnA (mFld [2] "strands" (gv 0))) (gT 2 (gsCons (gN 4) (gsCons (gN 5) gsNil))) (bTru (mMeth "speaks" [(0, F_Strand_speaks)] (gv 5) (aCons (gv 2) aNil))) (gv 4) [4, 5])) (mRet (mTup (aCons (gv 2) (aCons (mB oIx (gv 3) (mB oSub (gv 1) (mMeth "before" [(2, F_Log_before)] (gv 0) (aCons (gv 2) aNil)))) aNil))))))
def F_NoEntry___init__ : FM := mkF 2 2 0 (mSeq (mEx eNone) (mFldS [] "number" (gv 0) (gv 1)))
def F_NoName___init__ : FM := mkF 2 2 0 (mSeq (mEx eNone) (mFldS [] "name" (gv 0) (gv 1)))
def F_NoPlace___init__ : FM := mkF 2 2 0 (mSeq (mEx eNone) (mFldS [] "place" (gv 0) (gv 1)))
def F_NoProgram___init__ : FM := mkF 2 2 0 (mSeq (mEx eNone) (mFldS [] "program" (gv 0) (gv 1)))
def F_NothingToUndo___init__ : FM := mkF 1 1 0 (mEx eNone)
def F_Queue___eq__ : FM := mkF 2 2 0 (mSeq (mIfS (bNot (bTru eNone)) (mRet (ck (.bl false))) mNil) (mSeq (mIfS (bOr (toB (mB oNe (mFld [3] "known" (mFld [] "tape" (gv 0))) (mFld [3] "known" (mFld [] "tape" (gv 1))))) (toB (mB oNe (mFld [] "added" (mFld [] "tape" (gv 0))) (mFld [] "added" (mFld [] "tape" (gv 1)))))) (mRet (ck (.bl false))) mNil) (mRet (mB oEqE (mFld [] "ran" (mFld [] "tape" (gv 0))) (mFld [] "ran" (mFld [] "tape" (gv 1)))))))
def F_Tape___init__ : FM := mkF 1 1 0 (mSeq (mFldS [] "callbacks" (gv 0) (mLst aNil)) (mSeq (mFldS [] "ran" (gv 0) (ck (.int 0))) (mSeq (mFldS [] "words" (gv 0) (mLst aNil)) (mSeq (mFldS [] "ended" (gv 0) (mLst aNil)) (mSeq (mFldS [3] "known" (gv 0) (mLst aNil)) (mSeq (mFldS [] "added" (gv 0) (mLst aNil)) (mFldS [] "marks" (gv 0) (mLst aNil))))))))
def F_children : FM := mkF 2 1 0 (mSeq (mSet 1 (mB oIx (gv 0) (ck (.int 0)))) (mSeq (mIfS (bOr (toB (mB oEqE (gv 1) (ck (.str "log")))) (toB (mB oEqE (gv 1) (ck (.str "await"))))) (mRet (mTup aNil)) mNil) (mSeq (mIfS (toB (mB oEqE (gv 1) (ck (.str "fork")))) (mRet (mTup (aCons (mB oIx (gv 0) (ck (.int 1))) aNil))) mNil) (mSeq (mIfS (toB (mB oEqE (gv 1) (ck (.str "loop")))) (mRet (mTup (aCons (mB oIx (gv 0) (ck (.int 2))) aNil))) mNil) (mRet (mB oIx (gv 0) (ck (.int 1))))))))
def F_detached_course : FM := mkF 1 1 0 (mRet (mIceD 3 (mMake 1 F_Course___init__ (aCons (ck (.int 0)) (aCons (mMeth "all_strands" [(1, F_Course_all_strands)] (gv 0) aNil) (aCons (mLst aNil) aNil))))))
def F_beside_course : FM := mkF 7 3 0 (mSeq (mPar 3 4 (aCons (mNew aNil) (aCons (mNew aNil) aNil))) (mSeq (mForL (ilEnA (gv 0)) (gT 2 (gsCons (gN 5) (gsCons (gN 6) gsNil))) (mIfS (toB (mB oLt (gv 5) (gv 2))) (mEx (mM okL oExt (gv 3) (aCons (mMeth "all_strands" [(1, F_Course_all_strands)] (gv 6) aNil) aNil))) (mIfS (toB (mB oEqE (gv 5) (gv 2))) (mSeq (mEx (mM okL oExt (gv 3) (aCons (mFld [1] "ahead" (gv 6)) aNil))) (mEx (mM okL oExt (gv 4) (aCons (mFld [1] "behind" (gv 6)) aNil)))) (mEx (mM okL oExt (gv 4) (aCons (mMeth "all_strands" [(1, F_Course_all_strands)] (gv 6) aNil) aNil)))))) (mRet (mIceD 3 (mMake 1 F_Course___init__ (aCons (gv 1) (aCons (gv 3) (aCons (gv 4) aNil))))))))
def F_last_to_finish : FM := mkF 3 1 0 (mRet (mCK (bBestX PySem.W.maxD) (aCons (mLcL (ilEnA (gv 0)) (gT 2 (gsCons (gN 1) (gsCons (gN 2) gsNil))) bYes (mTup (aCons (mFld [1] "finish" (gv 2)) (aCons (gv 1) aNil))) [1, 2]) aNil) (aCons (mTup (aCons (ck (.int 0)) (aCons (ck (.int 0)) aNil))) aNil)))
def F_joined_course : FM := mkF 3 1 0 (mSeq (mAsg (mC F_last_to_finish (aCons (gv 0) aNil)) (gT 2 (gsCons (gN 1) (gsCons (gN 2) gsNil)))) (mRet (mC F_beside_course (aCons (gv 0) (aCons (gv 1) (aCons (gv 2) aNil))))))
def F_first_to_finish : FM := mkF 3 1 0 (mRet (mCK (bBestX PySem.W.minD) (aCons (mLcL (ilEnA (gv 0)) (gT 2 (gsCons (gN 1) (gsCons (gN 2) gsNil))) bYes (mTup (aCons (mFld [1] "finish" (gv 2)) (aCons (gv 1) aNil))) [1, 2]) aNil) (aCons (mTup (aCons (ck (.int 0)) (aCons (ck (.int 0)) aNil))) aNil)))
def F_raced_course : FM := mkF 3 1 0 (mSeq (mAsg (mC F_first_to_finish (aCons (gv 0) aNil)) (gT 2 (gsCons (gN 1) (gsCons (gN 2) gsNil)))) (mRet (mC F_beside_course (aCons (gv 0) (aCons (gv 1) (aCons (gv 2) aNil))))))
def F_Strand___init__ : FM := mkF 5 5 0 (mSeq (mFldS [0] "word" (gv 0) (gv 1)) (mSeq (mFldS [0] "first" (gv 0) (gv 2)) (mSeq (mFldS [0] "step" (gv 0) (gv 3)) (mSeq (mFldS [0] "many" (gv 0) (gv 4)) (mFldS [0] "last" (gv 0) (mB oAdd (gv 2) (mB oMul (mB oSub (gv 4) (ck (.int 1))) (gv 3))))))))
def F_over_and_over : FM := mkF 4 3 0 (mRet (mLcL (ilAny (gv 0)) (gN 3) bYes (mIceD 3 (mMake 0 F_Strand___init__ (aCons (mFld [0] "word" (gv 3)) (aCons (mFld [0] "first" (gv 3)) (aCons (gv 1) (aCons (gv 2) aNil)))))) [3]))
def F_once : FM := mkF 2 2 0 (mRet (mIceD 3 (mMake 0 F_Strand___init__ (aCons (gv 0) (aCons (gv 1) (aCons (ck (.int 1)) (aCons (ck (.int 1)) aNil)))))))
def F_Strand_singles : FM := mkF 2 1 0 (mRet (mLcL (ilOf (iRg3 (aCons (mFld [0] "first" (gv 0)) (aCons (mB oAdd (mFld [0] "last" (gv 0)) (ck (.int 1))) (aCons (mFld [0] "step" (gv 0)) aNil))))) (gN 1) bYes (mC F_once (aCons (mFld [0] "word" (gv 0)) (aCons (gv 1) aNil))) [1]))
def F_single_strands : FM := mkF 3 1 0 (mRet (mLc2L (ilAny (gv 0)) (gN 1) bYes (iAny (mMeth "singles" [(0, F_Strand_singles)] (gv 1) aNil)) (gN 2) bYes (gv 2) [1, 2] [2]))
def F_repeated_course : FM := mkF 5 2 0 (mSeq (mSet 2 (mFld [1] "finish" (gv 0))) (mSeq (mIfS (bOr (toB (mB oEqE (gv 2) (ck (.int 0)))) (toB (mB oEqE (gv 1) (ck (.int 0))))) (mRet (mIceD 3 (mMake 1 F_Course___init__ (aCons (ck (.int 0)) (aCons (mB oMul (mFld [1] "ahead" (gv 0)) (gv 1)) (aCons (mB oMul (mFld [1] "behind" (gv 0)) (gv 1)) aNil)))))) mNil) (mSeq (mSet 3 (mSortK true [0] "first" (mC F_single_strands (aCons (mFld [1] "ahead" (gv 0)) aNil)))) (mSeq (mSet 4 (mSortK false [0] "first" (mC F_single_strands (aCons (mFld [1] "behind" (gv 0)) aNil)))) (mRet (mIceD 3 (mMake 1 F_Course___init__ (aCons (mB oMul (gv 1) (gv 2)) (aCons (mC F_over_and_over (aCons (gv 3) (aCons (gv 2) (aCons (gv 1) aNil)))) (aCons (mC F_over_and_over (aCons (gv 4) (aCons (gv 2) (aCons (gv 1) aNil)))) aNil))))))))))
def F_silent_course : FM := mkF 1 1 0 (mRet (mIceD 3 (mMake 1 F_Course___init__ (aCons (gv 0) (aCons (mLst aNil) (aCons (mLst aNil) aNil))))))
def F_Strand_moved : FM := mkF 2 2 0 (mRet (mIceD 3 (mMake 0 F_Strand___init__ (aCons (mFld [0] "word" (gv 0)) (aCons (mB oAdd (mFld [0] "first" (gv 0)) (gv 1)) (aCons (mFld [0] "step" (gv 0)) (aCons (mFld [0] "many" (gv 0)) aNil)))))))
def F_turned_course : FM := mkF 6 1 0 (mSeq (mSet 1 (ck (.int 0))) (mSeq (mPar 2 3 (aCons (mNew aNil) (aCons (mLst aNil) aNil))) (mSeq (mForL (ilAny (gv 0)) (gN 4) (mSeq (mEx (mM okL oExt (gv 2) (aCons (mLcL (ilAny (mFld [1] "ahead" (gv 4))) (gN 5) bYes (mMeth "moved" [(0, F_Strand_moved)] (gv 5) (aCons (gv 1) aNil)) [5]) aNil))) (mSeq (mSet 3 (mB oAdd (mLcL (ilAny (mFld [1] "behind" (gv 4))) (gN 5) bYes (mMeth "moved" [(0, F_Strand_moved)] (gv 5) (aCons (gv 1) aNil)) [5]) (gv 3))) (mSet 1 (mB oAdd (gv 1) (mFld [1] "finish" (gv 4))))))) (mRet (mIceD 3 (mMake 1 F_Course___init__ (aCons (gv 1) (aCons (gv 2) (aCons (gv 3) aNil)))))))))
def F_word_course : FM := mkF 1 1 0 (mRet (mIceD 3 (mMake 1 F_Course___init__ (aCons (ck (.int 0)) (aCons (mLst (aCons (mC F_once (aCons (gv 0) (aCons (ck (.int 0)) aNil))) aNil)) (aCons (mLst aNil) aNil))))))
def F_course_of : Nat → FM
  | 0 => fun _ _ => none
  | n + 1 => mkF 4 1 0 (mSeq (mSet 1 (mB oIx (gv 0) (ck (.int 0)))) (mSeq (mIfS (toB (mB oEqE (gv 1) (ck (.str "log")))) (mRet (mC F_word_course (aCons (mB oIx (gv 0) (ck (.int 1))) aNil))) mNil) (mSeq (mIfS (toB (mB oEqE (gv 1) (ck (.str "await")))) (mRet (mC F_silent_course (aCons (mB oIx (gv 0) (ck (.int 1))) aNil))) mNil) (mSeq (mIfS (toB (mB oEqE (gv 1) (ck (.str "fork")))) (mRet (mC F_detached_course (aCons (mC (F_course_of n) (aCons (mB oIx (gv 0) (ck (.int 1))) aNil)) aNil))) mNil) (mSeq (mIfS (toB (mB oEqE (gv 1) (ck (.str "loop")))) (mRet (mC F_repeated_course (aCons (mC (F_course_of n) (aCons (mB oIx (gv 0) (ck (.int 2))) aNil)) (aCons (mB oIx (gv 0) (ck (.int 1))) aNil)))) mNil) (mSeq (mSet 2 (mLcL (ilAny (mB oIx (gv 0) (ck (.int 1)))) (gN 3) bYes (mC (F_course_of n) (aCons (gv 3) aNil)) [3])) (mSeq (mIfS (toB (mB oEqE (gv 1) (ck (.str "seq")))) (mRet (mC F_turned_course (aCons (gv 2) aNil))) mNil) (mSeq (mIfS (toB (mB oEqE (gv 1) (ck (.str "join")))) (mRet (mC F_joined_course (aCons (gv 2) aNil))) mNil) (mRet (mC F_raced_course (aCons (gv 2) aNil)))))))))))
def F_with_children : FM := mkF 3 2 0 (mSeq (mSet 2 (mB oIx (gv 0) (ck (.int 0)))) (mSeq (mIfS (toB (mB oEqE (gv 1) (mTup aNil))) (mRet (gv 0)) mNil) (mSeq (mIfS (toB (mB oEqE (gv 2) (ck (.str "fork")))) (mRet (mTup (aCons (ck (.str "fork")) (aCons (mB oIx (gv 1) (ck (.int 0))) aNil)))) mNil) (mSeq (mIfS (toB (mB oEqE (gv 2) (ck (.str "loop")))) (mRet (mTup (aCons (ck (.str "loop")) (aCons (mB oIx (gv 0) (ck (.int 1))) (aCons (mB oIx (gv 1) (ck (.int 0))) aNil))))) mNil) (mRet (mTup (aCons (gv 2) (aCons (gv 1) aNil))))))))
def F_prepared : Nat → FM
  | 0 => fun _ _ => none
  | n + 1 => mkF 5 1 0 (mSeq (mSet 1 (mB oIx (gv 0) (ck (.int 0)))) (mSeq (mSet 2 (mC bTuple (aCons (mLcL (ilAny (mC F_children (aCons (gv 0) aNil))) (gN 3) bYes (mC (F_prepared n) (aCons (gv 3) aNil)) [3]) aNil))) (mSeq (mIfS (toB (mB oEqE (gv 1) (ck (.str "join")))) (mRet (mTup (aCons (ck (.str "beside")) (aCons (gv 2) (aCons (mB oIx (mC F_last_to_finish (aCons (mLcL (ilAny (mB oIx (gv 0) (ck (.int 1)))) (gN 4) bYes (mC (F_course_of 20) (aCons (gv 4) aNil)) [4]) aNil)) (ck (.int 1))) aNil))))) mNil) (mSeq (mIfS (toB (mB oEqE (gv 1) (ck (.str "race")))) (mRet (mTup (aCons (ck (.str "beside")) (aCons (gv 2) (aCons (mB oIx (mC F_first_to_finish (aCons (mLcL (ilAny (mB oIx (gv 0) (ck (.int 1)))) (gN 4) bYes (mC (F_course_of 20) (aCons (gv 4) aNil)) [4]) aNil)) (ck (.int 1))) aNil))))) mNil) (mRet (mC F_with_children (aCons (gv 0) (aCons (gv 2) aNil))))))))
def F_Tape_begin : FM := mkF 2 2 0 (mSeq (mEx (mM okL oApp (mFld [3] "known" (gv 0)) (aCons (gv 1) aNil))) (mRet (mTup (aCons (mB oSub (mC bLen (aCons (mFld [3] "known" (gv 0)) aNil)) (ck (.int 1))) (aCons (mTup (aCons (mC (F_prepared 20) (aCons (gv 1) aNil)) (aCons (mTup (aCons (mTup (aCons (ck (.str "end")) aNil)) (aCons (ck .non) aNil))) aNil))) aNil)))))
def F_Tape_begin_company : FM := mkF 3 2 0 (mEx (mM okL oApp (mFld [] "callbacks" (gv 0)) (aCons (mC bTuple (aCons (mLcL (ilAny (gv 1)) (gN 2) bYes (mMeth "begin" [(113, F_Tape_begin)] (gv 0) (aCons (gv 2) aNil)) [2]) aNil)) aNil)))
def F_is_body : FM := mkF 2 1 0 (mSeq (mSet 1 (mC (F_course_of 20) (aCons (gv 0) aNil))) (mSeq (mIfS (bOr (bNot (toB (mCh oLe oLe (ck (.int 1)) (mFld [1] "finish" (gv 1)) (ck (.int 6))))) (toB (mB oGt (mMeth "total" [(1, F_Course_total)] (gv 1) aNil) (ck (.int 12))))) (mRet (ck (.bl false))) mNil) (mRet (vOr (mB oEqE (mMeth "total" [(1, F_Course_total)] (gv 1) aNil) (ck (.int 0))) (mB oLe (mMeth "last_round" [(1, F_Course_last_round)] (gv 1) aNil) (ck (.int 30)))))))
def F_are_parts : FM := mkF 3 3 0 (mRet (vAnd (mIsi .tup (gv 0)) (mCh oLe oLe (gv 1) (mC bLen (aCons (gv 0) aNil)) (gv 2))))
def F_is_count : FM := mkF 2 2 0 (mRet (vAnd (mC F_is_integer (aCons (gv 0) aNil)) (mCh oLe oLe (gv 1) (gv 0) (ck (.int 1000000000000000000)))))
def F_is_node : FM := mkF 2 1 0 (mSeq (mIfS (bOr (bNot (bTru (mIsi .tup (gv 0)))) (toB (mB oEqE (gv 0) (mTup aNil)))) (mRet (ck (.bl false))) mNil) (mSeq (mSet 1 (mB oIx (gv 0) (ck (.int 0)))) (mSeq (mIfS (toB (mB oEqE (gv 1) (ck (.str "loop")))) (mRet (vAnd (mB oEqE (mC bLen (aCons (gv 0) aNil)) (ck (.int 3))) (mC F_is_count (aCons (mB oIx (gv 0) (ck (.int 1))) (aCons (ck (.int 0)) aNil))))) mNil) (mSeq (mIfS (toB (mB oNe (mC bLen (aCons (gv 0) aNil)) (ck (.int 2)))) (mRet (ck (.bl false))) mNil) (mSeq (mIfS (toB (mB oEqE (gv 1) (ck (.str "log")))) (mRet (mC F_is_word (aCons (mB oIx (gv 0) (ck (.int 1))) aNil))) mNil) (mSeq (mIfS (toB (mB oEqE (gv 1) (ck (.str "await")))) (mRet (mC F_is_count (aCons (mB oIx (gv 0) (ck (.int 1))) (aCons (ck (.int 1)) aNil)))) mNil) (mSeq (mIfS (toB (mB oEqE (gv 1) (ck (.str "seq")))) (mRet (mC F_are_parts (aCons (mB oIx (gv 0) (ck (.int 1))) (aCons (ck (.int 0)) (aCons (ck (.int 12)) aNil))))) mNil) (mSeq (mIfS (bOr (toB (mB oEqE (gv 1) (ck (.str "join")))) (toB (mB oEqE (gv 1) (ck (.str "race"))))) (mRet (mC F_are_parts (aCons (mB oIx (gv 0) (ck (.int 1))) (aCons (ck (.int 1)) (aCons (ck (.int 6)) aNil))))) mNil) (mRet (mB oEqE (gv 1) (ck (.str "fork"))))))))))))
def F_is_program : FM := mkF 10 1 0 (mSeq (mSet 1 (mNew (aCons (mTup (aCons (gv 0) (aCons (ck (.int 1)) (aCons (ck (.bl false)) aNil)))) aNil))) (mSeq (mSet 2 (mNew aNil)) (mSeq (mSet 3 (ck (.int 0))) (mSeq (mWh (bTru (gv 1)) (mSeq (mAsg (mM okL oPop (gv 1) aNil) (gT 3 (gsCons (gN 4) (gsCons (gN 5) (gsCons (gN 6) gsNil))))) (mSeq (mSet 3 (mB oAdd (gv 3) (ck (.int 1)))) (mSeq (mIfS (bOr (toB (mB oGt (gv 3) (ck (.int 80)))) (bOr (toB (mB oGt (gv 5) (ck (.int 12)))) (bNot (bTru (mC F_is_node (aCons (gv 4) aNil)))))) (mRet (ck (.bl false))) mNil) (mSeq (mIfS (toB (mB oEqE (mB oIx (gv 4) (ck (.int 0))) (ck (.str "loop")))) (mSeq (mIfS (bOr (bTru (gv 6)) (toB (mB oEqE (mC bLen (aCons (gv 2) aNil)) (ck (.int 8))))) (mRet (ck (.bl false))) mNil) (mEx (mM okL oApp (gv 2) (aCons (mB oIx (gv 4) (ck (.int 2))) aNil)))) mNil) (mSeq (mSet 7 (vOr (gv 6) (mB oEqE (mB oIx (gv 4) (ck (.int 0))) (ck (.str "loop"))))) (mEx (mM okL oExt (gv 1) (aCons (mLcL (ilAny (mC F_children (aCons (gv 4) aNil))) (gN 8) bYes (mTup (aCons (gv 8) (aCons (mB oAdd (gv 5) (ck (.int 1))) (aCons (gv 7) aNil)))) [8]) aNil)))))))) 200) (mRet (mC bAll (aCons (mLcL (ilAny (gv 2)) (gN 9) bYes (mC F_is_body (aCons (gv 9) aNil)) [9]) aNil)))))))
def F_is_company : FM := mkF 2 1 0 (mSeq (mIfS (bOr (bNot (bTru (mIsi .tup (gv 0)))) (bNot (toB (mCh oLe oLe (ck (.int 1)) (mC bLen (aCons (gv 0) aNil)) (ck (.int 8)))))) (mRet (ck (.bl false))) mNil) (mRet (mC bAll (aCons (mLcL (ilAny (gv 0)) (gN 1) bYes (mC F_is_program (aCons (gv 1) aNil)) [1]) aNil))))
def F_Queue___init__ : FM := mkF 2 2 0 (mSeq (mIfS (bNot (bTru (mC F_is_company (aCons (gv 1) aNil)))) sNone mNil) (mSeq (mFldS [] "company" (gv 0) (gv 1)) (mSeq (mFldS [] "tape" (gv 0) (mIceD 3 (mMake 113 F_Tape___init__ aNil))) (mEx (mMeth "begin_company" [(113, F_Tape_begin_company)] (mFld [] "tape" (gv 0)) (aCons (gv 1) aNil))))))
def F_Queue___len__ : FM := mkF 1 1 0 (mRet (mC bLen (aCons (mFld [] "marks" (mFld [] "tape" (gv 0))) aNil)))
def F_Tape_begin_one : FM := mkF 2 2 0 (mSeq (mEx (mM okL oApp (mFld [] "callbacks" (gv 0)) (aCons (mTup (aCons (mMeth "begin" [(113, F_Tape_begin)] (gv 0) (aCons (gv 1) aNil)) aNil)) aNil))) (mEx (mM okL oApp (mFld [] "added" (gv 0)) (aCons (mFld [] "ran" (gv 0)) aNil))))
def F_Tape_mark : FM := mkF 2 1 0 (mSeq (mSet 1 (mTup (aCons (mC bLen (aCons (mFld [] "callbacks" (gv 0)) aNil)) (aCons (mC bLen (aCons (mFld [] "words" (gv 0)) aNil)) (aCons (mC bLen (aCons (mFld [] "ended" (gv 0)) aNil)) (aCons (mC bLen (aCons (mFld [3] "known" (gv 0)) aNil)) (aCons (mC bLen (aCons (mFld [] "added" (gv 0)) aNil)) aNil))))))) (mEx (mM okL oApp (mFld [] "marks" (gv 0)) (aCons (mTup (aCons (mFld [] "ran" (gv 0)) (aStar (gv 1) aNil))) aNil))))
def F_Queue_add : FM := mkF 2 2 0 (mSeq (mIfS (bNot (bTru (mC F_is_program (aCons (gv 1) aNil)))) sNone mNil) (mSeq (mIfS (toB (mB oGe (mC bLen (aCons (mFld [3] "known" (mFld [] "tape" (gv 0))) aNil)) (ck (.int 40)))) sNone mNil) (mSeq (mEx (mMeth "mark" [(113, F_Tape_mark)] (mFld [] "tape" (gv 0)) aNil)) (mSeq (mEx (mMeth "begin_one" [(113, F_Tape_begin_one)] (mFld [] "tape" (gv 0)) (aCons (gv 1) aNil))) (mRet (mB oSub (mC bLen (aCons (mFld [3] "known" (mFld [] "tape" (gv 0))) aNil)) (ck (.int 1))))))))
def F_Tape_waiting : FM := mkF 1 1 0 (mRet (mB oSub (mC bLen (aCons (mFld [] "callbacks" (gv 0)) aNil)) (mFld [] "ran" (gv 0))))
def F_Queue_waiting : FM := mkF 1 1 0 (mRet (mMeth "waiting" [(113, F_Tape_waiting)] (mFld [] "tape" (gv 0)) aNil))
def F_opened : FM := mkF 5 2 0 (mSeq (mSet 2 (mB oIx (gv 0) (ck (.int 0)))) (mSeq (mIfS (toB (mB oEqE (gv 2) (ck (.str "seq")))) (mSeq (mForL (ilAny (mRev (mB oIx (gv 0) (ck (.int 1))))) (gN 3) (mSet 1 (mTup (aCons (gv 3) (aCons (gv 1) aNil))))) (mRet (mLst (aCons (gv 1) aNil)))) mNil) (mSeq (mIfS (toB (mB oEqE (gv 2) (ck (.str "fork")))) (mRet (mLst (aCons (mTup (aCons (mB oIx (gv 0) (ck (.int 1))) (aCons (ck .non) aNil))) (aCons (gv 1) aNil)))) mNil) (mSeq (mIfS (toB (mB oEqE (gv 2) (ck (.str "loop")))) (mSeq (mIfS (toB (mB oEqE (mB oIx (gv 0) (ck (.int 1))) (ck (.int 0)))) (mRet (mLst (aCons (gv 1) aNil))) mNil) (mRet (mLst (aCons (mTup (aCons (mB oIx (gv 0) (ck (.int 2))) (aCons (mTup (aCons (mTup (aCons (ck (.str "loop")) (aCons (mB oSub (mB oIx (gv 0) (ck (.int 1))) (ck (.int 1))) (aCons (mB oIx (gv 0) (ck (.int 2))) aNil)))) (aCons (gv 1) aNil))) aNil))) aNil)))) mNil) (mRet (mLcL (ilEnA (mB oIx (gv 0) (ck (.int 1)))) (gT 2 (gsCons (gN 4) (gsCons (gN 3) gsNil))) bYes (mTup (aCons (gv 3) (aCons (mIf (toB (mB oEqE (gv 4) (mB oIx (gv 0) (ck (.int 2))))) (gv 1) (ck .non)) aNil))) [4, 3]))))))
def F_Tape_run_node : FM := mkF 7 3 0 (mSeq (mAsg (gv 2) (gT 2 (gsCons (gN 3) (gsCons (gN 4) gsNil)))) (mSeq (mSet 5 (mB oIx (gv 3) (ck (.int 0)))) (mSeq (mIfS (toB (mB oEqE (gv 5) (ck (.str "log")))) (mSeq (mEx (mM okL oApp (mFld [] "words" (gv 0)) (aCons (mTup (aCons (gv 1) (aCons (mB oIx (gv 3) (ck (.int 1))) aNil))) aNil))) (mRet (mLst (aCons (gv 4) aNil)))) mNil) (mSeq (mIfS (toB (mB oEqE (gv 5) (ck (.str "await")))) (mSeq (mSet 6 (mIf (toB (mB oEqE (mB oIx (gv 3) (ck (.int 1))) (ck (.int 1)))) (gv 4) (mTup (aCons (mTup (aCons (ck (.str "await")) (aCons (mB oSub (mB oIx (gv 3) (ck (.int 1))) (ck (.int 1))) aNil))) (aCons (gv 4) aNil))))) (mSeq (mEx (mM okL oApp (mFld [] "callbacks" (gv 0)) (aCons (mTup (aCons (mTup (aCons (gv 1) (aCons (gv 6) aNil))) aNil)) aNil))) (mRet (mLst aNil)))) mNil) (mSeq (mIfS (toB (mB oEqE (gv 5) (ck (.str "end")))) (mSeq (mEx (mM okL oApp (mFld [] "ended" (gv 0)) (aCons (gv 1) aNil))) (mRet (mLst aNil))) mNil) (mRet (mC F_opened (aCons (gv 3) (aCons (gv 4) aNil)))))))))
def F_Tape_run_next : FM := mkF 6 1 0 (mSeq (mSet 1 (mC bListN (aCons (mRev (mB oIx (mFld [] "callbacks" (gv 0)) (mFld [] "ran" (gv 0)))) aNil))) (mSeq (mFldS [] "ran" (gv 0) (mB oAdd (mFld [] "ran" (gv 0)) (ck (.int 1)))) (mWh (toB (mB oNe (gv 1) (mLst aNil))) (mSeq (mAsg (mM okL oPop (gv 1) aNil) (gT 2 (gsCons (gN 2) (gsCons (gN 3) gsNil)))) (mIfS (toB (mB oIsNot (gv 3) (ck .non))) (mSeq (mSet 4 (mMeth "run_node" [(113, F_Tape_run_node)] (gv 0) (aCons (gv 2) (aCons (gv 3) aNil)))) (mEx (mM okL oExt (gv 1) (aCons (mLcL (ilAny (mRev (gv 4))) (gN 5) bYes (mTup (aCons (gv 2) (aCons (gv 5) aNil))) [5]) aNil)))) mNil)) 1000)))
def F_Queue_call_next : FM := mkF 2 1 0 (mSeq (mIfS (toB (mB oEqE (mMeth "waiting" [(113, F_Tape_waiting), (4, F_Queue_waiting)] (gv 0) aNil) (ck (.int 0)))) sNone mNil) (mSeq (mEx (mMeth "mark" [(113, F_Tape_mark)] (mFld [] "tape" (gv 0)) aNil)) (mSeq (mSet 1 (mC bLen (aCons (mFld [] "words" (mFld [] "tape" (gv 0))) aNil))) (mSeq (mEx (mMeth "run_next" [(113, F_Tape_run_next)] (mFld [] "tape" (gv 0)) aNil)) (mRet (mC bTuple (aCons (mSl oSl (mFld [] "words" (mFld [] "tape" (gv 0))) (oSo (gv 1)) oNo) aNil)))))))
def F_Queue_calls : FM := mkF 1 1 0 (mRet (mFld [] "ran" (mFld [] "tape" (gv 0))))
def F_Tape_copied : FM := mkF 2 1 0 (mSeq (mSet 1 (mIceD 3 (mMake 113 F_Tape___init__ aNil))) (mSeq (mFldS [] "callbacks" (gv 1) (mC bList (aCons (mFld [] "callbacks" (gv 0)) aNil))) (mSeq (mFldS [] "ran" (gv 1) (mFld [] "ran" (gv 0))) (mSeq (mFldS [] "words" (gv 1) (mC bList (aCons (mFld [] "words" (gv 0)) aNil))) (mSeq (mFldS [] "ended" (gv 1) (mC bList (aCons (mFld [] "ended" (gv 0)) aNil))) (mSeq (mFldS [3] "known" (gv 1) (mC bList (aCons (mFld [3] "known" (gv 0)) aNil))) (mSeq (mFldS [] "added" (gv 1) (mC bList (aCons (mFld [] "added" (gv 0)) aNil))) (mSeq (mFldS [] "marks" (gv 1) (mC bList (aCons (mFld [] "marks" (gv 0)) aNil))) (mRet (gv 1))))))))))
def F_Queue_copy : FM := mkF 2 1 0 (mSeq (mSet 1 (mIceD 3 (mMake 4 F_Queue___init__ (aCons (mFld [] "company" (gv 0)) aNil)))) (mSeq (mFldS [] "tape" (gv 1) (mMeth "copied" [(113, F_Tape_copied)] (mFld [] "tape" (gv 0)) aNil)) (mRet (gv 1))))
def F_Queue_finished : FM := mkF 1 1 0 (mRet (mC bTuple (aCons (mC bSortedX (aCons (mFld [] "ended" (mFld [] "tape" (gv 0))) aNil)) aNil)))
def F_Queue_log : FM := mkF 1 1 0 (mRet (mC bTuple (aCons (mFld [] "words" (mFld [] "tape" (gv 0))) aNil)))
def F_Queue_programs : FM := mkF 1 1 0 (mRet (mC bTuple (aCons (mFld [3] "known" (mFld [] "tape" (gv 0))) aNil)))
def F_Queue_run : FM := mkF 3 2 0 (mSeq (mEx (mMeth "mark" [(113, F_Tape_mark)] (mFld [] "tape" (gv 0)) aNil)) (mSeq (mSet 2 (mMeth "calls" [(4, F_Queue_calls)] (gv 0) aNil)) (mSeq (mWh (bAnd (toB (mB oLt (mB oSub (mMeth "calls" [(4, F_Queue_calls)] (gv 0) aNil) (gv 2)) (gv 1))) (toB (mB oGt (mMeth "waiting" [(113, F_Tape_waiting), (4, F_Queue_waiting)] (gv 0) aNil) (ck (.int 0))))) (mEx (mMeth "run_next" [(113, F_Tape_run_next)] (mFld [] "tape" (gv 0)) aNil)) 1000) (mRet (mB oSub (mMeth "calls" [(4, F_Queue_calls)] (gv 0) aNil) (gv 2))))))
def F_Tape_go_back : FM := mkF 6 1 0 (mSeq sNone (mSeq sNone (mSeq sNone (mSeq sNone (mSeq sNone sNone)))))
def F_Queue_undo : FM := mkF 1 1 0 (mSeq (mIfS (toB (mB oEqE (mC bLen (aCons (gv 0) aNil)) (ck (.int 0)))) sNone mNil) (mEx (mMeth "go_back" [(113, F_Tape_go_back)] (mFld [] "tape" (gv 0)) aNil)))
def F_Reader___init__ : FM := mkF 2 2 0 (mSeq (mFldS [] "text" (gv 0) (gv 1)) (mSeq (mFldS [] "at" (gv 0) (ck (.int 0))) (mFldS [] "begun" (gv 0) (mLst aNil))))
def F_Reader_sign : FM := mkF 1 1 0 (mRet (mSl oSl (mFld [] "text" (gv 0)) (oSo (mFld [] "at" (gv 0))) (oSo (mB oAdd (mFld [] "at" (gv 0)) (ck (.int 1))))))
def F_Reader_signs : FM := mkF 4 3 0 (mSeq (mSet 3 (mFld [] "at" (gv 0))) (mSeq (mWh (toB (mCh oLe oLe (gv 1) (mMeth "sign" [(113, F_Reader_sign)] (gv 0) aNil) (gv 2))) (mFldS [] "at" (gv 0) (mB oAdd (mFld [] "at" (gv 0)) (ck (.int 1)))) 1000) (mSeq (mIfS (toB (mB oEqE (mFld [] "at" (gv 0)) (gv 3))) sNone mNil) (mRet (mSl oSl (mFld [] "text" (gv 0)) (oSo (gv 3)) (oSo (mFld [] "at" (gv 0))))))))
def F_Reader_take : FM := mkF 2 2 0 (mSeq (mIfS (toB (mB oNe (mMeth "sign" [(113, F_Reader_sign)] (gv 0) aNil) (gv 1))) sNone mNil) (mFldS [] "at" (gv 0) (mB oAdd (mFld [] "at" (gv 0)) (ck (.int 1)))))
def F_Reader_number : FM := mkF 2 1 0 (mSeq (mIfS (toB (mB oEqE (mMeth "sign" [(113, F_Reader_sign)] (gv 0) aNil) (ck (.str "0")))) (mSeq (mEx (mMeth "take" [(113, F_Reader_take)] (gv 0) (aCons (ck (.str "0")) aNil))) (mRet (ck (.int 0)))) mNil) (mSeq (mSet 1 (mMeth "signs" [(113, F_Reader_signs)] (gv 0) (aCons (ck (.str "0")) (aCons (ck (.str "9")) aNil)))) (mRet (mIf (toB (mB oLe (mC bLen (aCons (gv 1) aNil)) (ck (.int 40)))) (mC bToInt (aCons (gv 1) aNil)) (mB oAdd (ck (.int 1000000000000000000)) (ck (.int 1)))))))
def F_Reader_opening : FM := mkF 4 1 0 (mSeq (mSet 1 (mFld [] "at" (gv 0))) (mWh (bTru (ck (.bl true))) (mSeq (mSet 2 (mSl oSl (mFld [] "text" (gv 0)) (oSo (gv 1)) (oSo (mB oAdd (mFld [] "at" (gv 0)) (ck (.int 1)))))) (mSeq (mIfS (bOr (toB (mB oEqE (mMeth "sign" [(113, F_Reader_sign)] (gv 0) aNil) (ck (.str "")))) (bNot (bTru (mC bAny (aCons (mLcL (ilAny eNone) (gN 3) bYes eNone [3]) aNil))))) sNone mNil) (mSeq (mFldS [] "at" (gv 0) (mB oAdd (mFld [] "at" (gv 0)) (ck (.int 1)))) (mIfS (toB (mB oIn (gv 2) eNone)) (mRet (mSl oSl (gv 2) oNo (oSo (mU oNeg (ck (.int 1)))))) mNil)))) 1000))
def F_Reader_begin : FM := mkF 2 1 0 (mSeq (mSet 1 (mMeth "opening" [(113, F_Reader_opening)] (gv 0) aNil)) (mSeq (mIfS (toB (mB oEqE (gv 1) (ck (.str "log")))) (mRet (mTup (aCons (ck (.str "log")) (aCons (mMeth "signs" [(113, F_Reader_signs)] (gv 0) (aCons (ck (.str "a")) (aCons (ck (.str "z")) aNil))) aNil)))) mNil) (mSeq (mIfS (toB (mB oEqE (gv 1) (ck (.str "await")))) (mRet (mTup (aCons (ck (.str "await")) (aCons (mMeth "number" [(113, F_Reader_number)] (gv 0) aNil) aNil)))) mNil) (mSeq (mIfS (toB (mB oEqE (gv 1) (ck (.str "loop")))) (mSeq (mEx (mM okL oApp (mFld [] "begun" (gv 0)) (aCons (mTup (aCons (mTup (aCons (ck (.str "loop")) (aCons (mMeth "number" [(113, F_Reader_number)] (gv 0) aNil) aNil))) (aCons (mLst aNil) aNil))) aNil))) (mEx (mMeth "take" [(113, F_Reader_take)] (gv 0) (aCons (ck (.str " ")) aNil)))) (mIfS (bAnd (toB (mB oNe (gv 1) (ck (.str "fork")))) (toB (mB oEqE (mMeth "sign" [(113, F_Reader_sign)] (gv 0) aNil) (ck (.str ")"))))) (mSeq (mEx (mMeth "take" [(113, F_Reader_take)] (gv 0) (aCons (ck (.str ")")) aNil))) (mRet (mTup (aCons (gv 1) (aCons (mTup aNil) aNil))))) (mEx (mM okL oApp (mFld [] "begun" (gv 0)) (aCons (mTup (aCons (mTup (aCons (gv 1) aNil)) (aCons (mLst aNil) aNil))) aNil))))) (mRet (ck .non))))))
def F_Reader_put : FM := mkF 5 2 0 (mSeq (mAsg (mB oIx (mFld [] "begun" (gv 0)) (mU oNeg (ck (.int 1)))) (gT 2 (gsCons (gN 2) (gsCons (gN 3) gsNil)))) (mSeq (mEx (mM okL oApp (gv 3) (aCons (gv 1) aNil))) (mSeq (mSet 4 (mB oIx (gv 2) (ck (.int 0)))) (mSeq (mIfS (bAnd (toB (mB oNe (gv 4) (ck (.str "loop")))) (bAnd (toB (mB oNe (gv 4) (ck (.str "fork")))) (toB (mB oEqE (mMeth "sign" [(113, F_Reader_sign)] (gv 0) aNil) (ck (.str ";")))))) (mSeq (mEx (mMeth "take" [(113, F_Reader_take)] (gv 0) (aCons (ck (.str ";")) aNil))) (mSeq (mEx (mMeth "take" [(113, F_Reader_take)] (gv 0) (aCons (ck (.str " ")) aNil))) (mRet (ck .non)))) mNil) (mSeq (mIfS (toB (mB oNe (gv 4) (ck (.str "loop")))) (mEx (mMeth "take" [(113, F_Reader_take)] (gv 0) (aCons (ck (.str ")")) aNil))) mNil) (mSeq (mEx (mM okL oPop (mFld [] "begun" (gv 0)) aNil)) (mSeq (mIfS (bOr (toB (mB oEqE (gv 4) (ck (.str "loop")))) (toB (mB oEqE (gv 4) (ck (.str "fork"))))) (mRet (mTup (aStar (gv 2) (aCons (gv 1) aNil)))) mNil) (mRet (mTup (aCons (gv 4) (aCons (mC bTuple (aCons (gv 3) aNil)) aNil)))))))))))
def F_Reader_whole : FM := mkF 2 1 0 (mSeq (mSet 1 (mMeth "begin" [(113, F_Reader_begin)] (gv 0) aNil)) (mSeq (mWh (toB (mB oNe (mFld [] "begun" (gv 0)) (mLst aNil))) (mSet 1 (mIf (toB (mB oIs (gv 1) (ck .non))) (mMeth "begin" [(113, F_Reader_begin)] (gv 0) aNil) (mMeth "put" [(113, F_Reader_put)] (gv 0) (aCons (gv 1) aNil)))) 1000) (mSeq (mIfS (toB (mB oLt (mFld [] "at" (gv 0)) (mC bLen (aCons (mFld [] "text" (gv 0)) aNil)))) sNone mNil) (mRet (gv 1)))))
def F_Stage___init__ : FM := mkF 6 2 0 (mSeq (mFldS [3] "courses" (gv 0) (mLcL (ilAny (gv 1)) (gN 2) bYes (mLcL (ilAny (gv 2)) (gN 3) bYes (mC (F_course_of 20) (aCons (gv 3) aNil)) [3]) [2])) (mSeq (mFldS [3] "logs" (gv 0) (mLcL (ilAny (mFld [3] "courses" (gv 0))) (gN 4) bYes (mLcL (ilAny (gv 4)) (gN 5) bYes (mIceD 3 (mMake 2 F_Log___init__ (aCons (mLst (aCons (gv 5) aNil)) aNil))) [5]) [4])) (mFldS [3] "known" (gv 0) mDic0)))
def F_Stage_placed : FM := mkF 10 4 0 (mSeq (mAsg (gv 1) (gT 3 (gsCons (gN 4) (gsCons (gN 5) (gsCons (gN 6) gsNil))))) (mSeq (mSet 7 (mB oIx (mB oIx (mFld [3] "courses" (gv 0)) (gv 4)) (gv 5))) (mSeq (mSet 8 (mC bSum (aCons (mLcL (ilAny (mSl oSl (mB oIx (mFld [3] "courses" (gv 0)) (gv 4)) oNo (oSo (gv 5)))) (gN 9) bYes (mFld [1] "finish" (gv 9)) [9]) aNil))) (mSeq (mIfS (bAnd (toB (mB oGe (gv 2) (mFld [1] "finish" (gv 7)))) (toB (mB oGe (gv 3) (mC bLen (aCons (mFld [1] "ahead" (gv 7)) aNil))))) (mRet (mTup (aCons (mB oAdd (gv 8) (gv 2)) (aCons (mTup (aCons (gv 4) (aCons (ck (.int 1)) (aCons (mU oNeg (gv 5)) (aCons (gv 6) aNil))))) aNil)))) mNil) (mRet (mTup (aCons (mB oAdd (gv 8) (gv 2)) (aCons (mTup (aCons (gv 4) (aCons (ck (.int 0)) (aCons (gv 5) (aCons (gv 6) aNil))))) aNil))))))))
def F_Stage_base_and_rank : FM := mkF 7 2 0 (mSeq (mIfS (toB (mB oNotIn (gv 1) (mFld [3] "known" (gv 0)))) (mSeq (mAsg (gv 1) (gT 3 (gsCons (gN 2) (gsCons (gN 3) (gsCons (gN 4) gsNil))))) (mSeq (mAsg (mMeth "located" [(2, F_Log_located)] (mB oIx (mB oIx (mFld [3] "logs" (gv 0)) (gv 2)) (gv 3)) (aCons (gv 4) aNil)) (gT 2 (gsCons (gN 5) (gsCons (gN 6) gsNil)))) (mAsg (mMeth "placed" [(3, F_Stage_placed)] (gv 0) (aCons (gv 1) (aCons (gv 5) (aCons (gv 6) aNil)))) (gPut (mFld [3] "known" (gv 0)) (gv 1))))) mNil) (mRet (mB oIx (mFld [3] "known" (gv 0)) (gv 1))))
def F_Stage_is_event : FM := mkF 5 2 0 (mSeq (mIfS (bOr (bNot (bTru (mIsi .tup (gv 1)))) (toB (mB oNe (mC bLen (aCons (gv 1) aNil)) (ck (.int 3))))) (mRet (ck (.bl false))) mNil) (mSeq (mAsg (gv 1) (gT 3 (gsCons (gN 2) (gsCons (gN 3) (gsCons (gN 4) gsNil))))) (mSeq (mIfS (bOr (bNot (bTru (mC F_is_index (aCons (gv 2) (aCons (mC bLen (aCons (mFld [3] "courses" (gv 0)) aNil)) aNil))))) (bNot (bTru (mC F_is_index (aCons (gv 3) (aCons (mC bLen (aCons (mB oIx (mFld [3] "courses" (gv 0)) (gv 2)) aNil)) aNil)))))) (mRet (ck (.bl false))) mNil) (mRet (mMeth "has" [(2, F_Log_has)] (mB oIx (mB oIx (mFld [3] "logs" (gv 0)) (gv 2)) (gv 3)) (aCons (gv 4) aNil))))))
def F_Stage_is_plan : FM := mkF 4 2 0 (mSeq (mIfS (bOr (bNot (bTru (mIsi .tup (gv 1)))) (toB (mB oNe (mC bLen (aCons (gv 1) aNil)) (mC bLen (aCons (mFld [3] "courses" (gv 0)) aNil))))) (mRet (ck (.bl false))) mNil) (mRet (mC bAll (aCons eNone aNil))))
def F_Stage_is_wish : FM := mkF 2 2 0 (mSeq (mIfS (bOr (bNot (bTru (mIsi .tup (gv 1)))) (toB (mB oNe (mC bLen (aCons (gv 1) aNil)) (ck (.int 2))))) (mRet (ck (.bl false))) mNil) (mRet (vAnd (mMeth "is_event" [(3, F_Stage_is_event)] (gv 0) (aCons (mB oIx (gv 1) (ck (.int 0))) aNil)) (vAnd (mMeth "is_event" [(3, F_Stage_is_event)] (gv 0) (aCons (mB oIx (gv 1) (ck (.int 1))) aNil)) (mB oNe (mB oIx (gv 1) (ck (.int 0))) (mB oIx (gv 1) (ck (.int 1))))))))
def F_Stage_lag : FM := mkF 6 2 0 (mSeq (mAsg (mMeth "base_and_rank" [(3, F_Stage_base_and_rank)] (gv 0) (aCons (mB oIx (gv 1) (ck (.int 0))) aNil)) (gT 2 (gsCons (gN 2) (gsCons (gN 3) gsNil)))) (mSeq (mAsg (mMeth "base_and_rank" [(3, F_Stage_base_and_rank)] (gv 0) (aCons (mB oIx (gv 1) (ck (.int 1))) aNil)) (gT 2 (gsCons (gN 4) (gsCons (gN 5) gsNil)))) (mRet (mB oAdd (mB oSub (gv 2) (gv 4)) (mIf (toB (mB oLt (gv 5) (gv 3))) (ck (.int 1)) (ck (.int 0)))))))
def F_Stage_look_up_all : FM := mkF 9 1 0 (mForL (ilEnA (mFld [3] "logs" (gv 0))) (gT 2 (gsCons (gN 1) (gsCons (gN 2) gsNil))) (mForL (ilEnA (gv 2)) (gT 2 (gsCons (gN 3) (gsCons (gN 4) gsNil))) (mForL (ilEnA (mMeth "between" [(2, F_Log_between)] (gv 4) (aCons (ck (.int 0)) (aCons (mMeth "total" [(2, F_Log_total)] (gv 4) aNil) aNil)))) (gT 2 (gsCons (gN 5) (gsCons (gT 2 (gsCons (gN 6) (gsCons (gN 7) gsNil))) gsNil))) (mSeq (mSet 8 (mTup (aCons (gv 1) (aCons (gv 3) (aCons (gv 5) aNil))))) (mAsg (mMeth "placed" [(3, F_Stage_placed)] (gv 0) (aCons (gv 8) (aCons (gv 6) (aCons (gv 7) aNil)))) (gPut (mFld [3] "known" (gv 0)) (gv 8)))))))
def F_Stage_total : FM := mkF 3 1 0 (mRet (mC bSum (aCons (mLc2L (ilAny (mFld [3] "logs" (gv 0))) (gN 1) bYes (iAny (gv 1)) (gN 2) bYes (mMeth "total" [(2, F_Log_total)] (gv 2) aNil) [1, 2] [2]) aNil)))
def F_TooLong___init__ : FM := mkF 2 2 0 (mSeq (mEx eNone) (mFldS [] "limit" (gv 0) (gv 1)))
def F_TooMany___init__ : FM := mkF 2 2 0 (mSeq (mEx eNone) (mFldS [] "limit" (gv 0) (gv 1)))
def F__law_acted : FM := mkF 2 2 0 (mSeq (mIfS (toB (mB oEqE (mB oIx (gv 1) (ck (.int 0))) (ck (.str "call")))) (mRet (mMeth "call_next" [(4, F_Queue_call_next)] (gv 0) aNil)) mNil) (mSeq (mIfS (toB (mB oEqE (mB oIx (gv 1) (ck (.int 0))) (ck (.str "run")))) (mRet (mMeth "run" [(4, F_Queue_run)] (gv 0) (aCons (mB oIx (gv 1) (ck (.int 1))) aNil))) mNil) (mRet (mIf (toB (mB oEqE (mB oIx (gv 1) (ck (.int 0))) (ck (.str "add")))) (mMeth "add" [(4, F_Queue_add)] (gv 0) (aCons (mB oIx (gv 1) (ck (.int 1))) aNil)) (mMeth "undo" [(4, F_Queue_undo)] (gv 0) aNil)))))
def F__law_take : FM := mkF 5 2 0 (mSeq (mIfS (toB (mB oGt (mB oIx (gv 0) (ck (.int 0))) (ck (.int 0)))) (mSeq (mSet 2 (mB oMod (mB oIx (gv 0) (ck (.int 0))) (gv 1))) (mSeq (mAsg (mB oDiv (mB oIx (gv 0) (ck (.int 0))) (gv 1)) (gPut (gv 0) (ck (.int 0)))) (mRet (gv 2)))) mNil) (mSeq (mAsg (mB oAdd (mB oIx (gv 0) (ck (.int 2))) (ck (.int 1))) (gPut (gv 0) (ck (.int 2)))) (mSeq (mSet 3 (mB oIx (mLst (aCons (ck (.int 2147483647)) (aCons (ck (.int 2147483629)) (aCons (ck (.int 2147483587)) (aCons (ck (.int 2147483579)) (aCons (ck (.int 2147483563)) aNil)))))) (mB oMod (mB oIx (gv 0) (ck (.int 2))) (ck (.int 5))))) (mSeq (mSet 4 (mB oMod (mB oPow (mB oAdd (mB oAdd (mB oIx (gv 0) (ck (.int 1))) (mB oMul (mB oMul (ck (.int 99991)) (mB oIx (gv 0) (ck (.int 2)))) (mB oIx (gv 0) (ck (.int 2))))) (ck (.int 23))) (ck (.int 3))) (gv 3))) (mRet (mB oMod (mB oDiv (mB oMod (mB oMul (gv 4) (mB oAdd (mB oMod (gv 4) (ck (.int 10007))) (mB oMul (ck (.int 71)) (mB oIx (gv 0) (ck (.int 2)))))) (ck (.int 2305843009213693907))) (ck (.int 103))) (gv 1)))))))
def F__law_of : FM := mkF 2 2 0 (mRet (mB oIx (gv 1) (mC F__law_take (aCons (gv 0) (aCons (mC bLen (aCons (gv 1) aNil)) aNil)))))
def F__law_end : Nat → FM
  | 0 => fun _ _ => none
  | n + 1 => mkF 3 1 0 (mSeq (mIfS (toB (mB oIn (mB oIx (gv 0) (ck (.int 0))) (mTup (aCons (ck (.str "log")) (aCons (ck (.str "fork")) aNil))))) (mRet (ck (.int 0))) mNil) (mSeq (mIfS (toB (mB oEqE (mB oIx (gv 0) (ck (.int 0))) (ck (.str "await")))) (mRet (mB oIx (gv 0) (ck (.int 1)))) mNil) (mSeq (mIfS (toB (mB oEqE (mB oIx (gv 0) (ck (.int 0))) (ck (.str "loop")))) (mRet (mB oMul (mB oIx (gv 0) (ck (.int 1))) (mC (F__law_end n) (aCons (mB oIx (gv 0) (ck (.int 2))) aNil)))) mNil) (mSeq (mSet 1 (mLcL (ilAny (mB oIx (gv 0) (ck (.int 1)))) (gN 2) bYes (mC (F__law_end n) (aCons (gv 2) aNil)) [2])) (mRet (mB oIx (mDict ["seq", "join", "race"] (aCons (mC bSum (aCons (gv 1) aNil)) (aCons (mC (bBest maxN) (aCons (mB oAdd (gv 1) (mLst (aCons (ck (.int 0)) aNil))) aNil)) (aCons (mC (bBest minN) (aCons (mB oAdd (gv 1) (mLst (aCons (mB oPow (ck (.int 10)) (ck (.int 60))) aNil))) aNil)) aNil)))) (mB oIx (gv 0) (ck (.int 0)))))))))
def F__law_word : FM := mkF 1 1 0 (mRet (mC F__law_of (aCons (gv 0) (aCons (mLst (aCons (ck (.str "a")) (aCons (ck (.str "b")) (aCons (ck (.str "c")) (aCons (ck (.str "d")) (aCons (ck (.str "x")) (aCons (ck (.str "aa")) (aCons (ck (.str "log")) (aCons (ck (.str "zzzzzzzz")) aNil))))))))) aNil))))
def F__law_leaf : FM := mkF 1 1 0 (mSeq (mIfS (toB (mB oLt (mC F__law_take (aCons (gv 0) (aCons (ck (.int 5)) aNil))) (ck (.int 3)))) (mRet (mTup (aCons (ck (.str "log")) (aCons (mC F__law_word (aCons (gv 0) aNil)) aNil)))) mNil) (mRet (mTup (aCons (ck (.str "await")) (aCons (mB oAdd (ck (.int 1)) (mC F__law_take (aCons (gv 0) (aCons (ck (.int 3)) aNil)))) aNil)))))
def F__law_plain : Nat → FM
  | 0 => fun _ _ => none
  | n + 1 => mkF 7 3 0 (mSeq (mSet 3 (mC F__law_take (aCons (gv 0) (aCons (ck (.int 9)) aNil)))) (mSeq (mIfS (bOr (toB (mB oLt (gv 3) (ck (.int 2)))) (bOr (toB (mB oLt (gv 1) (ck (.int 2)))) (toB (mB oLt (gv 2) (ck (.int 2)))))) (mRet (mC F__law_leaf (aCons (gv 0) aNil))) mNil) (mSeq (mIfS (toB (mB oEqE (gv 3) (ck (.int 2)))) (mRet (mTup (aCons (ck (.str "fork")) (aCons (mC (F__law_plain n) (aCons (gv 0) (aCons (mB oSub (gv 1) (ck (.int 1))) (aCons (mB oSub (gv 2) (ck (.int 1))) aNil)))) aNil)))) mNil) (mSeq (mSet 4 (mC bMin2 (aCons (mB oSub (gv 1) (ck (.int 1))) (aCons (mIf (toB (mB oLt (gv 3) (ck (.int 7)))) (mB oAdd (ck (.int 1)) (mC F__law_take (aCons (gv 0) (aCons (ck (.int 3)) aNil)))) (mC F__law_take (aCons (gv 0) (aCons (ck (.int 5)) aNil)))) aNil)))) (mSeq (mSet 5 (mC bTuple (aCons (mLcL (ilOf (iRg1 (aCons (gv 4) aNil))) (gN 6) bYes (mC (F__law_plain n) (aCons (gv 0) (aCons (mB oDiv (mB oSub (gv 1) (ck (.int 1))) (mC bMax2 (aCons (ck (.int 1)) (aCons (gv 4) aNil)))) (aCons (mB oSub (gv 2) (ck (.int 1))) aNil)))) [6]) aNil))) (mRet (mTup (aCons (mB oIx (mLst (aCons (ck (.str "join")) (aCons (ck (.str "join")) (aCons (ck (.str "race")) (aCons (ck (.str "race")) (aCons (ck (.str "seq")) (aCons (ck (.str "seq")) aNil))))))) (mB oSub (gv 3) (ck (.int 3)))) (aCons (gv 5) aNil)))))))))
def F__law_body : FM := mkF 2 1 0 (mSeq (mSet 1 (mC (F__law_plain 20) (aCons (gv 0) (aCons (ck (.int 6)) (aCons (ck (.int 3)) aNil))))) (mSeq (mIfS (toB (mB oEqE (mC (F__law_end 20) (aCons (gv 1) aNil)) (ck (.int 0)))) (mRet (mTup (aCons (ck (.str "seq")) (aCons (mTup (aCons (gv 1) (aCons (mTup (aCons (ck (.str "await")) (aCons (mB oAdd (ck (.int 1)) (mC F__law_take (aCons (gv 0) (aCons (ck (.int 6)) aNil)))) aNil))) aNil))) aNil)))) mNil) (mRet (mIf (toB (mB oLt (mC (F__law_end 20) (aCons (gv 1) aNil)) (ck (.int 7)))) (gv 1) (mTup (aCons (ck (.str "seq")) (aCons (mTup (aCons (mTup (aCons (ck (.str "log")) (aCons (ck (.str "x")) aNil))) (aCons (mTup (aCons (ck (.str "await")) (aCons (ck (.int 6)) aNil))) aNil))) aNil)))))))
def F__law_program : Nat → FM
  | 0 => fun _ _ => none
  | n + 1 => mkF 8 4 0 (mSeq (mSet 4 (mC F__law_take (aCons (gv 0) (aCons (ck (.int 10)) aNil)))) (mSeq (mIfS (bAnd (toB (mB oEqE (gv 4) (ck (.int 9)))) (bAnd (toB (mB oNe (gv 3) (mLst aNil))) (toB (mB oGt (gv 1) (ck (.int 5)))))) (mRet (mTup (aCons (ck (.str "loop")) (aCons (mC F__law_of (aCons (gv 0) (aCons (gv 3) aNil))) (aCons (mC F__law_body (aCons (gv 0) aNil)) aNil))))) mNil) (mSeq (mIfS (bOr (toB (mB oLt (gv 4) (ck (.int 2)))) (bOr (toB (mB oLt (gv 1) (ck (.int 2)))) (toB (mB oLt (gv 2) (ck (.int 2)))))) (mRet (mC F__law_leaf (aCons (gv 0) aNil))) mNil) (mSeq (mIfS (toB (mB oEqE (gv 4) (ck (.int 2)))) (mRet (mTup (aCons (ck (.str "fork")) (aCons (mC (F__law_program n) (aCons (gv 0) (aCons (mB oSub (gv 1) (ck (.int 1))) (aCons (mB oSub (gv 2) (ck (.int 1))) (aCons (gv 3) aNil))))) aNil)))) mNil) (mSeq (mSet 5 (mC bMin2 (aCons (mB oSub (gv 1) (ck (.int 1))) (aCons (mIf (toB (mB oLt (gv 4) (ck (.int 7)))) (mB oAdd (ck (.int 1)) (mC F__law_take (aCons (gv 0) (aCons (ck (.int 3)) aNil)))) (mC F__law_take (aCons (gv 0) (aCons (ck (.int 5)) aNil)))) aNil)))) (mSeq (mSet 6 (mC bTuple (aCons (mLcL (ilOf (iRg1 (aCons (gv 5) aNil))) (gN 7) bYes (mC (F__law_program n) (aCons (gv 0) (aCons (mB oDiv (mB oSub (gv 1) (ck (.int 1))) (mC bMax2 (aCons (ck (.int 1)) (aCons (gv 5) aNil)))) (aCons (mB oSub (gv 2) (ck (.int 1))) (aCons (gv 3) aNil))))) [7]) aNil))) (mRet (mTup (aCons (mB oIx (mLst (aCons (ck (.str "join")) (aCons (ck (.str "join")) (aCons (ck (.str "race")) (aCons (ck (.str "race")) (aCons (ck (.str "seq")) (aCons (ck (.str "seq")) (aCons (ck (.str "seq")) aNil)))))))) (mB oSub (gv 4) (ck (.int 3)))) (aCons (gv 6) aNil))))))))))
def F__law_acts : FM := mkF 5 2 0 (mSeq (mSet 2 (mNew aNil)) (mSeq (mForL (ilOf (iRg1 (aCons (gv 1) aNil))) (gN 3) (mSeq (mSet 4 (mC F__law_take (aCons (gv 0) (aCons (ck (.int 9)) aNil)))) (mIfS (toB (mB oLt (gv 4) (ck (.int 4)))) (mEx (mM okL oApp (gv 2) (aCons (mTup (aCons (ck (.str "call")) aNil)) aNil))) (mIfS (toB (mB oEqE (gv 4) (ck (.int 4)))) (mEx (mM okL oApp (gv 2) (aCons (mTup (aCons (ck (.str "run")) (aCons (mC F__law_of (aCons (gv 0) (aCons (mLst (aCons (ck (.int 0)) (aCons (ck (.int 1)) (aCons (ck (.int 3)) (aCons (ck (.int 9)) (aCons (ck (.int 30)) aNil)))))) aNil))) aNil))) aNil))) (mIfS (toB (mB oLt (gv 4) (ck (.int 7)))) (mEx (mM okL oApp (gv 2) (aCons (mTup (aCons (ck (.str "add")) (aCons (mC (F__law_program 20) (aCons (gv 0) (aCons (ck (.int 8)) (aCons (ck (.int 4)) (aCons (mLst (aCons (ck (.int 0)) (aCons (ck (.int 1)) (aCons (ck (.int 3)) (aCons (mB oPow (ck (.int 10)) (ck (.int 18))) aNil))))) aNil))))) aNil))) aNil))) (mEx (mM okL oApp (gv 2) (aCons (mTup (aCons (ck (.str "undo")) aNil)) aNil)))))))) (mRet (mIceD 3 (gv 2)))))
def F__law_steps : FM := mkF 1 1 0 (mRet (mIf (toB (mB oEqE (mB oIx (gv 0) (ck (.int 0))) (ck (.str "seq")))) (mB oIx (gv 0) (ck (.int 1))) (mTup (aCons (gv 0) aNil))))
def F__law_added : FM := mkF 6 3 0 (mSeq (mSet 3 (mNew aNil)) (mSeq (mForL (ilAny (gv 1)) (gN 4) (mEx (mM okL oApp (gv 3) (aCons (mC bTuple (aCons (mLcL (ilAny (mC F__law_steps (aCons (gv 4) aNil))) (gN 5) bYes (mC F__law_of (aCons (gv 0) (aCons (mLst (aCons (ck (.int 0)) (aCons (ck (.int 0)) (aCons (mC F__law_take (aCons (gv 0) (aCons (mB oAdd (gv 2) (ck (.int 1))) aNil))) aNil)))) aNil))) [5]) aNil)) aNil)))) (mRet (mC bTuple (aCons (gv 3) aNil)))))
def F__law_after : FM := mkF 4 3 0 (mSeq (mWh (toB (mB oNe (gv 2) (mLst aNil))) (mIfS (toB (mB oEqE (mB oIx (gv 2) (mU oNeg (ck (.int 1)))) (ck (.str "loop ")))) (mEx (mM okL oPop (gv 2) aNil)) (mIfS (toB (mB oEqE (mSl oSl (gv 0) (oSo (gv 1)) (oSo (mB oAdd (gv 1) (ck (.int 1))))) (ck (.str ")")))) (mSeq (mEx (mM okL oPop (gv 2) aNil)) (mSet 1 (mB oAdd (gv 1) (ck (.int 1))))) (mIfS (bOr (toB (mB oEqE (mB oIx (gv 2) (mU oNeg (ck (.int 1)))) (ck (.str "fork(")))) (toB (mB oNe (mSl oSl (gv 0) (oSo (gv 1)) (oSo (mB oAdd (gv 1) (ck (.int 2))))) (ck (.str "; "))))) (mSeq (mSet 3 (vAnd (mB oNe (mB oIx (gv 2) (mU oNeg (ck (.int 1)))) (ck (.str "fork("))) (mB oEqE (mSl oSl (gv 0) (oSo (gv 1)) (oSo (mB oAdd (gv 1) (ck (.int 1))))) (ck (.str ";"))))) (mRet (mTup (aCons (mB oAdd (gv 1) (mC bToInt (aCons (gv 3) aNil))) (aCons (ck (.bl true)) aNil))))) (mRet (mTup (aCons (mB oAdd (gv 1) (ck (.int 2))) (aCons (ck (.bl false)) aNil))))))) 1000) (mRet (mTup (aCons (mIf (toB (mB oLt (gv 1) (mC bLen (aCons (gv 0) aNil)))) (gv 1) (mB oAdd (gv 1) (ck (.int 1)))) (aCons (ck (.bl true)) aNil)))))
def F__law_all : FM := mkF 4 1 0 (mRet (mC bSum (aCons (mLcL (ilAny (gv 0)) (gT 3 (gsCons (gN 1) (gsCons (gN 2) (gsCons (gN 3) gsNil)))) bYes (gv 3) [1, 2, 3]) aNil)))
def F__law_all_plans : FM := mkF 11 2 0 (mSeq (mSet 2 (mLst (aCons (mTup aNil) aNil))) (mSeq (mForL (ilAny (gv 0)) (gN 3) (mSeq (mSet 4 (mLst (aCons (mTup aNil) aNil))) (mSeq (mForL (ilAny (mC F__law_steps (aCons (gv 3) aNil))) (gN 5) (mSeq (mSet 6 (mNew aNil)) (mSeq (mForL (ilAny (gv 4)) (gN 7) (mEx (mM okL oExt (gv 6) (aCons (mLcL (ilOf (iRg1 (aCons (mB oAdd (gv 1) (ck (.int 1))) aNil))) (gN 10) bYes (mB oAdd (gv 7) (mTup (aCons (gv 10) aNil))) [10]) aNil)))) (mSet 4 (gv 6))))) (mSeq (mSet 8 (mNew aNil)) (mSeq (mForL (ilAny (gv 2)) (gN 9) (mEx (mM okL oExt (gv 8) (aCons (mLcL (ilAny (gv 4)) (gN 7) bYes (mB oAdd (gv 9) (mTup (aCons (gv 7) aNil))) [7]) aNil)))) (mSet 2 (gv 8))))))) (mRet (gv 2))))
def F__law_words : FM := mkF 3 1 0 (mRet (mC bSum (aCons (mLcL (ilAny (gv 0)) (gN 1) bYes (mC bLen (aCons (mLcL (ilAny (gv 1)) (gN 2) (toB (mB oIsNot (gv 2) (ck .non))) (gv 2) [2]) aNil)) [1]) aNil)))
def F__law_any_form : FM := mkF 10 2 0 (mSeq (mAsg (mTup (aCons (mB oAdd (ck (.int 1)) (mC F__law_take (aCons (gv 0) (aCons (gv 1) aNil)))) (aCons (mLst (aCons (ck (.str "a")) (aCons (ck (.str "b")) (aCons (ck (.str "c")) (aCons (ck (.str "d")) (aCons (ck (.str "zzzzzzzz")) aNil)))))) aNil))) (gT 2 (gsCons (gN 2) (gsCons (gN 3) gsNil)))) (mSeq (mPar 4 5 (aCons (mC F__law_take (aCons (gv 0) (aCons (gv 2) aNil))) (aCons (mNew aNil) aNil))) (mSeq (mForL (ilOf (iRg1 (aCons (gv 2) aNil))) (gN 6) (mSeq (mSet 7 (mC bTuple (aCons (mLcL (ilOf (iRg1 (aCons (mC F__law_of (aCons (gv 0) (aCons (mLst (aCons (ck (.int 0)) (aCons (ck (.int 0)) (aCons (ck (.int 1)) (aCons (ck (.int 1)) (aCons (ck (.int 2)) aNil)))))) aNil))) aNil))) (gN 9) bYes (mC F__law_of (aCons (gv 0) (aCons (gv 3) aNil))) [9]) aNil))) (mSeq (mIfS (toB (mB oGe (gv 6) (gv 4))) (mSeq (mSet 8 (mC F__law_take (aCons (gv 0) (aCons (mB oAdd (mC bLen (aCons (gv 7) aNil)) (ck (.int 1))) aNil)))) (mSet 7 (mB oAdd (mB oAdd (mSl oSl (gv 7) oNo (oSo (gv 8))) (mTup (aCons (ck .non) aNil))) (mSl oSl (gv 7) (oSo (gv 8)) oNo)))) mNil) (mEx (mM okL oApp (gv 5) (aCons (gv 7) aNil)))))) (mSeq (mWh (bOr (bAnd (toB (mB oGt (mC bLen (aCons (gv 5) aNil)) (mB oAdd (gv 4) (ck (.int 1))))) (toB (mB oEqE (mB oIx (gv 5) (mU oNeg (ck (.int 1)))) (mTup (aCons (ck .non) aNil))))) (toB (mB oGt (mC F__law_words (aCons (gv 5) aNil)) (ck (.int 30))))) (mEx (mM okL oPop (gv 5) aNil)) 100) (mSeq (mSet 4 (mC bMin2 (aCons (gv 4) (aCons (mC bLen (aCons (gv 5) aNil)) aNil)))) (mSeq (mIfS (toB (mB oEqE (gv 4) (mC bLen (aCons (gv 5) aNil)))) (mEx (mM okL oApp (gv 5) (aCons (mTup (aCons (ck .non) aNil)) aNil))) mNil) (mRet (mTup (aCons (gv 4) (aCons (mC bTuple (aCons (gv 5) aNil)) aNil))))))))))
def F__law_is_whole : FM := mkF 1 1 0 (mRet (vAnd (mIsi .int (gv 0)) (vNot (mIsi .bl (gv 0)))))
def F__law_is_word : FM := mkF 1 1 0 (mRet (vAnd (mIsi .str (gv 0)) (vAnd (mCh oLt oLt (ck (.int 0)) (mC bLen (aCons (gv 0) aNil)) (ck (.int 9))) (mB oEqE (mM okS oStripC (gv 0) (aCons (ck (.str "abcdefghijklmnopqrstuvwxyz")) aNil)) (ck (.str ""))))))
def F__law_is_shape : FM := mkF 1 1 0 (mSeq (mIfS (bOr (bNot (bTru (mIsi .tup (gv 0)))) (bOr (toB (mB oEqE (gv 0) (mTup aNil))) (bNot (bTru (mIsi .str (mB oIx (gv 0) (ck (.int 0)))))))) (mRet (ck (.bl false))) mNil) (mSeq (mIfS (toB (mB oEqE (mB oIx (gv 0) (ck (.int 0))) (ck (.str "loop")))) (mRet (vAnd (mB oEqE (mC bLen (aCons (gv 0) aNil)) (ck (.int 3))) (vAnd (mC F__law_is_whole (aCons (mB oIx (gv 0) (ck (.int 1))) aNil)) (mCh oLe oLe (ck (.int 0)) (mB oIx (gv 0) (ck (.int 1))) (mB oPow (ck (.int 10)) (ck (.int 18))))))) mNil) (mSeq (mIfS (bOr (toB (mB oNe (mC bLen (aCons (gv 0) aNil)) (ck (.int 2)))) (toB (mB oNotIn (mB oIx (gv 0) (ck (.int 0))) (mTup (aCons (ck (.str "log")) (aCons (ck (.str "await")) (aCons (ck (.str "seq")) (aCons (ck (.str "fork")) (aCons (ck (.str "join")) (aCons (ck (.str "race")) aNil)))))))))) (mRet (ck (.bl false))) mNil) (mSeq (mIfS (toB (mB oEqE (mB oIx (gv 0) (ck (.int 0))) (ck (.str "log")))) (mRet (mC F__law_is_word (aCons (mB oIx (gv 0) (ck (.int 1))) aNil))) mNil) (mSeq (mIfS (toB (mB oEqE (mB oIx (gv 0) (ck (.int 0))) (ck (.str "await")))) (mRet (vAnd (mC F__law_is_whole (aCons (mB oIx (gv 0) (ck (.int 1))) aNil)) (mCh oLe oLe (ck (.int 1)) (mB oIx (gv 0) (ck (.int 1))) (mB oPow (ck (.int 10)) (ck (.int 18)))))) mNil) (mSeq (mIfS (toB (mB oEqE (mB oIx (gv 0) (ck (.int 0))) (ck (.str "fork")))) (mRet (ck (.bl true))) mNil) (mRet (vAnd (mIsi .tup (mB oIx (gv 0) (ck (.int 1)))) (mCh oLe oLe (mC bToInt (aCons (mB oNe (mB oIx (gv 0) (ck (.int 0))) (ck (.str "seq"))) aNil)) (mC bLen (aCons (mB oIx (gv 0) (ck (.int 1))) aNil)) (mIf (toB (mB oEqE (mB oIx (gv 0) (ck (.int 0))) (ck (.str "seq")))) (ck (.int 12)) (ck (.int 6))))))))))))
def F__law_kids : FM := mkF 1 1 0 (mSeq (mIfS (toB (mB oIn (mB oIx (gv 0) (ck (.int 0))) (mTup (aCons (ck (.str "log")) (aCons (ck (.str "await")) aNil))))) (mRet (mTup aNil)) mNil) (mRet (mIf (toB (mB oIn (mB oIx (gv 0) (ck (.int 0))) (mTup (aCons (ck (.str "seq")) (aCons (ck (.str "join")) (aCons (ck (.str "race")) aNil)))))) (mB oIx (gv 0) (ck (.int 1))) (mSl oSl (gv 0) (oSo (mU oNeg (ck (.int 1)))) oNo))))
def F__law_are_shapes : Nat → FM
  | 0 => fun _ _ => none
  | n + 1 => mkF 3 2 0 (mSeq (mIfS (bOr (toB (mB oEqE (gv 1) (ck (.int 0)))) (bNot (bTru (mC F__law_is_shape (aCons (gv 0) aNil))))) (mRet (ck (.bl false))) mNil) (mRet (mC bAll (aCons (mLcL (ilAny (mC F__law_kids (aCons (gv 0) aNil))) (gN 2) bYes (mC (F__law_are_shapes n) (aCons (gv 2) (aCons (mB oSub (gv 1) (ck (.int 1))) aNil))) [2]) aNil))))
def F__law_atoms : Nat → FM
  | 0 => fun _ _ => none
  | n + 1 => mkF 8 2 0 (mSeq (mIfS (toB (mB oEqE (mB oIx (gv 0) (ck (.int 0))) (ck (.str "log")))) (mRet (mLst (aCons (mTup (aCons (gv 1) (aCons (ck (.int 1)) (aCons (ck (.int 1)) aNil)))) aNil))) mNil) (mSeq (mIfS (toB (mB oEqE (mB oIx (gv 0) (ck (.int 0))) (ck (.str "await")))) (mRet (mLst aNil)) mNil) (mSeq (mIfS (toB (mB oEqE (mB oIx (gv 0) (ck (.int 0))) (ck (.str "fork")))) (mRet (mC (F__law_atoms n) (aCons (mB oIx (gv 0) (ck (.int 1))) (aCons (gv 1) aNil)))) mNil) (mSeq (mIfS (toB (mB oEqE (mB oIx (gv 0) (ck (.int 0))) (ck (.str "loop")))) (mSeq (mSet 2 (mC (F__law_end 20) (aCons (mB oIx (gv 0) (ck (.int 2))) aNil))) (mRet (mLcL (ilAny (mC (F__law_atoms n) (aCons (mB oIx (gv 0) (ck (.int 2))) (aCons (ck (.int 0)) aNil)))) (gT 3 (gsCons (gN 5) (gsCons (gN 6) (gsCons (gN 7) gsNil)))) bYes (mTup (aCons (mB oAdd (gv 1) (gv 5)) (aCons (gv 2) (aCons (mB oIx (gv 0) (ck (.int 1))) aNil)))) [5, 6, 7]))) mNil) (mSeq (mSet 3 (mNew aNil)) (mSeq (mForL (ilAny (mB oIx (gv 0) (ck (.int 1)))) (gN 4) (mSeq (mEx (mM okL oExt (gv 3) (aCons (mC (F__law_atoms n) (aCons (gv 4) (aCons (gv 1) aNil))) aNil))) (mSet 1 (mB oAdd (gv 1) (mIf (toB (mB oEqE (mB oIx (gv 0) (ck (.int 0))) (ck (.str "seq")))) (mC (F__law_end 20) (aCons (gv 4) aNil)) (ck (.int 0))))))) (mRet (mIceD 3 (gv 3)))))))))
def F__law_begun : FM := mkF 12 7 0 (mSeq (mAsg (mTup (aCons (mB oIx (gv 0) (ck (.int 0))) (aCons (mLst aNil) aNil))) (gT 2 (gsCons (gN 7) (gsCons (gN 8) gsNil)))) (mSeq (mIfS (toB (mB oEqE (gv 7) (ck (.str "log")))) (mSeq (mEx (mM okL oApp (gv 4) (aCons (mTup (aCons (gv 6) (aCons (gv 2) (aCons (mB oIx (gv 0) (ck (.int 1))) aNil)))) aNil))) (mRet (mLst (aCons (mTup (aCons (ck (.str "done")) (aCons (ck .non) (aCons (gv 1) (aCons (gv 2) aNil))))) aNil)))) mNil) (mSeq (mIfS (toB (mB oEqE (gv 7) (ck (.str "await")))) (mSeq (mSet 9 (mTup (aCons (ck (.str "begin")) (aCons (mTup (aCons (ck (.str "await")) (aCons (mB oSub (mB oIx (gv 0) (ck (.int 1))) (ck (.int 1))) aNil))) (aCons (gv 1) (aCons (gv 2) aNil)))))) (mEx (mM okL oApp (gv 5) (aCons (mIf (toB (mB oGt (mB oIx (gv 0) (ck (.int 1))) (ck (.int 1)))) (mLst (aCons (gv 9) aNil)) (mLst (aCons (mTup (aCons (ck (.str "done")) (aCons (ck .non) (aCons (gv 1) (aCons (gv 2) aNil))))) aNil))) aNil)))) (mIfS (toB (mB oEqE (gv 7) (ck (.str "fork")))) (mSet 8 (mLst (aCons (mTup (aCons (ck (.str "done")) (aCons (ck .non) (aCons (gv 1) (aCons (gv 2) aNil))))) (aCons (mTup (aCons (ck (.str "begin")) (aCons (mB oIx (gv 0) (ck (.int 1))) (aCons (mTup (aCons (ck (.str "none")) aNil)) (aCons (gv 2) aNil))))) aNil)))) (mIfS (toB (mB oEqE (gv 7) (ck (.str "seq")))) (mSet 8 (mLst (aCons (mTup (aCons (ck (.str "done")) (aCons (ck .non) (aCons (mTup (aCons (ck (.str "seq")) (aCons (mB oIx (gv 0) (ck (.int 1))) (aCons (gv 1) aNil)))) (aCons (gv 2) aNil))))) aNil))) (mIfS (toB (mB oEqE (gv 7) (ck (.str "loop")))) (mSet 8 (mLst (aCons (mTup (aCons (ck (.str "done")) (aCons (ck .non) (aCons (mTup (aCons (ck (.str "loop")) (aCons (mB oIx (gv 0) (ck (.int 1))) (aCons (mB oIx (gv 0) (ck (.int 2))) (aCons (gv 1) aNil))))) (aCons (gv 2) aNil))))) aNil))) (mSeq (mSet 10 (mC bLenE (aCons (gv 3) aNil))) (mSeq (mAsg (mIf (toB (mB oEqE (gv 7) (ck (.str "join")))) (mC bLenE (aCons (mB oIx (gv 0) (ck (.int 1))) aNil)) (ck (.int 1))) (gPut (gv 3) (gv 10))) (mSet 8 (mLcL (ilAny (mRev (mB oIx (gv 0) (ck (.int 1))))) (gN 11) bYes (mTup (aCons (ck (.str "begin")) (aCons (gv 11) (aCons (mTup (aCons (gv 7) (aCons (gv 10) (aCons (gv 1) aNil)))) (aCons (gv 2) aNil))))) [11])))))))) (mRet (gv 8)))))
def F__law_below : FM := mkF 6 2 0 (mSeq (mSet 2 (ck (.int 0))) (mSeq (mForL (ilAny (gv 0)) (gT 3 (gsCons (gN 3) (gsCons (gN 4) (gsCons (gN 5) gsNil)))) (mIfS (toB (mB oGt (gv 1) (gv 3))) (mSet 2 (mB oAdd (gv 2) (mC bMin2 (aCons (gv 5) (aCons (mB oDiv (mB oSub (mB oAdd (mB oSub (gv 1) (gv 3)) (gv 4)) (ck (.int 1))) (gv 4)) aNil))))) mNil)) (mRet (gv 2))))
def F__law_bent : Nat → FM
  | 0 => fun _ _ => none
  | n + 1 => mkF 4 2 0 (mSeq (mIfS (bAnd (bTru (mIsi .tup (gv 1))) (bAnd (toB (mB oNe (gv 1) (mTup aNil))) (toB (mB oGt (mC F__law_take (aCons (gv 0) (aCons (ck (.int 4)) aNil))) (ck (.int 0)))))) (mSeq (mSet 2 (mC F__law_take (aCons (gv 0) (aCons (mC bLen (aCons (gv 1) aNil)) aNil)))) (mRet (mB oAdd (mB oAdd (mSl oSl (gv 1) oNo (oSo (gv 2))) (mTup (aCons (mC (F__law_bent n) (aCons (gv 0) (aCons (mB oIx (gv 1) (gv 2)) aNil))) aNil))) (mSl oSl (gv 1) (oSo (mB oAdd (gv 2) (ck (.int 1)))) oNo)))) mNil) (mSeq (mSet 3 (mLst (aCons (ck .non) (aCons (ck (.bl true)) (aCons (ck (.bl false)) (aCons (mU oNeg (ck (.int 1))) (aCons (ck (.int 0)) (aCons (ck (.int 1)) (aCons (mB oPow (ck (.int 10)) (ck (.int 30))) (aCons (ck (.str "")) (aCons (ck (.str "a")) (aCons (mTup aNil) (aCons (mLst aNil) (aCons mDic0 (aCons (mTup (aCons (ck (.int 0)) aNil)) (aCons (mTup (aCons (ck (.int 0)) (aCons (ck (.int 0)) aNil))) (aCons (mTup (aCons (ck (.int 0)) (aCons (ck (.int 0)) (aCons (ck (.int 0)) aNil)))) (aCons (mTup (aCons (mTup (aCons (ck (.int 0)) (aCons (ck (.int 0)) (aCons (ck (.int 0)) aNil)))) (aCons (mTup (aCons (ck (.int 0)) (aCons (ck (.int 0)) (aCons (ck (.int 1)) aNil)))) aNil))) aNil)))))))))))))))))) (mSeq (mIfS (bTru (mIsi .tup (gv 1))) (mSet 3 (mB oAdd (gv 3) (mLst (aCons (mC bList (aCons (gv 1) aNil)) (aCons (mSl oSl (gv 1) (oSo (ck (.int 1))) oNo) (aCons (mSl oSl (gv 1) oNo (oSo (mU oNeg (ck (.int 1))))) (aCons (mB oAdd (gv 1) (mSl oSl (gv 1) (oSo (mU oNeg (ck (.int 1)))) oNo)) (aCons (mRev (gv 1)) (aCons (mB oAdd (gv 1) (mTup (aCons (ck (.int 0)) aNil))) (aCons (mTup (aCons (gv 1) aNil)) aNil)))))))))) mNil) (mSeq (mIfS (bTru (mIsi .int (gv 1))) (mSet 3 (mB oAdd (gv 3) (mLst (aCons (mB oAdd (gv 1) (ck (.int 1))) (aCons (mB oSub (gv 1) (ck (.int 1))) (aCons (mC bStrI (aCons (gv 1) aNil)) aNil)))))) mNil) (mRet (mC F__law_of (aCons (gv 0) (aCons (gv 3) aNil))))))))
def F__law_caught : FM := mkF 4 1 0 (mSeq (mPar 1 2 (aCons (ck .non) (aCons (ck .non) aNil))) (mSeq sNone (mSeq (mIfS (toB (mB oIs (gv 1) (ck .non))) (mRet (mTup (aCons (ck (.str "value")) (aCons (gv 2) aNil)))) mNil) (mSeq (mSet 3 (mLst (aCons eNone (aCons eNone (aCons eNone aNil))))) (mSeq (mSet 3 (mB oAdd (gv 3) (mLst (aCons eNone (aCons eNone aNil))))) (mSeq (mIfS (bOr (toB (mB oNe eNone (ck (.int 1)))) (bNot (bTru eNone))) (mRet (mTup (aCons (ck (.str "other")) (aCons (ck .non) aNil)))) mNil) (mSeq (mIfS (bTru eNone) (mRet (mTup (aCons (ck (.str "plan")) (aCons (mFld [] "plan" (gv 1)) aNil)))) mNil) (mSeq (mIfS (bTru eNone) (mRet (mTup (aCons (ck (.str "event")) (aCons (mFld [] "event" (gv 1)) aNil)))) mNil) (mSeq (mIfS (bTru eNone) (mRet (mTup (aCons (ck (.str "wish")) (aCons (mFld [] "wish" (gv 1)) aNil)))) mNil) (mRet (mIf (bTru eNone) (mTup (aCons (ck (.str "observation")) (aCons (mFld [] "value" (gv 1)) aNil))) (mTup (aCons (ck (.str "many")) (aCons (mFld [] "limit" (gv 1)) aNil))))))))))))))
def F__law_crowd : FM := mkF 5 4 0 (mRet (mC bTuple (aCons (mLcL (ilOf (iRg1 (aCons (mB oAdd (ck (.int 1)) (mC F__law_take (aCons (gv 0) (aCons (gv 1) aNil)))) aNil))) (gN 4) bYes (mC (F__law_program 20) (aCons (gv 0) (aCons (gv 2) (aCons (ck (.int 5)) (aCons (gv 3) aNil))))) [4]) aNil)))
def F__law_tagged : Nat → FM
  | 0 => fun _ _ => none
  | n + 1 => mkF 3 2 0 (mSeq (mIfS (toB (mB oEqE (mB oIx (gv 0) (ck (.int 0))) (ck (.str "log")))) (mRet (mTup (aCons (ck (.str "log")) (aCons (gv 1) aNil)))) mNil) (mSeq (mIfS (toB (mB oEqE (mB oIx (gv 0) (ck (.int 0))) (ck (.str "await")))) (mRet (gv 0)) mNil) (mSeq (mIfS (toB (mB oEqE (mB oIx (gv 0) (ck (.int 0))) (ck (.str "fork")))) (mRet (mTup (aCons (ck (.str "fork")) (aCons (mC (F__law_tagged n) (aCons (mB oIx (gv 0) (ck (.int 1))) (aCons (gv 1) aNil))) aNil)))) mNil) (mSeq (mIfS (toB (mB oEqE (mB oIx (gv 0) (ck (.int 0))) (ck (.str "loop")))) (mRet (mB oAdd (mSl oSl (gv 0) oNo (oSo (ck (.int 2)))) (mTup (aCons (mC (F__law_tagged n) (aCons (mB oIx (gv 0) (ck (.int 2))) (aCons (gv 1) aNil))) aNil)))) mNil) (mRet (mTup (aCons (mB oIx (gv 0) (ck (.int 0))) (aCons (mC bTuple (aCons (mLcL (ilAny (mB oIx (gv 0) (ck (.int 1)))) (gN 2) bYes (mC (F__law_tagged n) (aCons (gv 2) (aCons (gv 1) aNil))) [2]) aNil)) aNil))))))))
def F__law_delayed : FM := mkF 10 2 0 (mSeq (mSet 2 (mNew aNil)) (mSeq (mForL (ilEnA eNone) (gT 2 (gsCons (gN 3) (gsCons (gT 2 (gsCons (gN 4) (gsCons (gN 5) gsNil))) gsNil))) (mSeq (mSet 6 (mNew aNil)) (mSeq (mForL (ilEnA eNone) (gT 2 (gsCons (gN 7) (gsCons (gT 2 (gsCons (gN 8) (gsCons (gN 9) gsNil))) gsNil))) (mSeq (mIfS (toB (mB oGt (gv 9) (ck (.int 0)))) (mEx (mM okL oApp (gv 6) (aCons (mTup (aCons (ck (.str "await")) (aCons (gv 9) aNil))) aNil))) mNil) (mEx (mM okL oApp (gv 6) (aCons (mC (F__law_tagged 20) (aCons (gv 8) (aCons (mTup (aCons (gv 3) (aCons (gv 7) aNil))) aNil))) aNil))))) (mEx (mM okL oApp (gv 2) (aCons (mTup (aCons (ck (.str "seq")) (aCons (mC bTuple (aCons (gv 6) aNil)) aNil))) aNil)))))) (mRet (mC bTuple (aCons (gv 2) aNil)))))
def F__law_delays : FM := mkF 5 1 0 (mSeq (mSet 1 mDicN) (mSeq (mForL (ilEnA (gv 0)) (gT 2 (gsCons (gN 2) (gsCons (gN 3) gsNil))) (mForL (ilOf (iRg1 (aCons (mC bLen (aCons (gv 3) aNil)) aNil))) (gN 4) (mAsg (mC bSum (aCons (mSl oSl (gv 3) oNo (oSo (mB oAdd (gv 4) (ck (.int 1))))) aNil)) (gPut (gv 1) (mTup (aCons (gv 2) (aCons (gv 4) aNil))))))) (mRet (mIceD 3 (gv 1)))))
def F__law_done : FM := mkF 5 3 0 (mSeq (mPar 3 4 (aCons (mB oIx (gv 0) (ck (.int 0))) (aCons (mB oIx (gv 0) (mU oNeg (ck (.int 1)))) aNil))) (mSeq (mIfS (bAnd (toB (mB oIn (gv 3) (mTup (aCons (ck (.str "seq")) (aCons (ck (.str "loop")) aNil))))) (toB (mB oIn (mB oIx (gv 0) (ck (.int 1))) (mTup (aCons (mTup aNil) (aCons (ck (.int 0)) aNil)))))) (mRet (mLst (aCons (mTup (aCons (ck (.str "done")) (aCons (ck .non) (aCons (gv 4) (aCons (gv 1) aNil))))) aNil))) mNil) (mSeq (mIfS (toB (mB oEqE (gv 3) (ck (.str "seq")))) (mRet (mLst (aCons (mTup (aCons (ck (.str "begin")) (aCons (mB oIx (mB oIx (gv 0) (ck (.int 1))) (ck (.int 0))) (aCons (mTup (aCons (ck (.str "seq")) (aCons (mSl oSl (mB oIx (gv 0) (ck (.int 1))) (oSo (ck (.int 1))) oNo) (aCons (gv 4) aNil)))) (aCons (gv 1) aNil))))) aNil))) mNil) (mSeq (mIfS (toB (mB oEqE (gv 3) (ck (.str "loop")))) (mRet (mLst (aCons (mTup (aCons (ck (.str "begin")) (aCons (mB oIx (gv 0) (ck (.int 2))) (aCons (mTup (aCons (ck (.str "loop")) (aCons (mB oSub (mB oIx (gv 0) (ck (.int 1))) (ck (.int 1))) (aCons (mB oIx (gv 0) (ck (.int 2))) (aCons (gv 4) aNil))))) (aCons (gv 1) aNil))))) aNil))) mNil) (mSeq (mIfS (toB (mB oEqE (gv 3) (ck (.str "none")))) (mRet (mLst aNil)) mNil) (mSeq (mAsg (mB oSub (mB oIx (gv 2) (mB oIx (gv 0) (ck (.int 1)))) (ck (.int 1))) (gPut (gv 2) (mB oIx (gv 0) (ck (.int 1))))) (mRet (mIf (toB (mB oEqE (mB oIx (gv 2) (mB oIx (gv 0) (ck (.int 1)))) (ck (.int 0)))) (mLst (aCons (mTup (aCons (ck (.str "done")) (aCons (ck .non) (aCons (gv 4) (aCons (gv 1) aNil))))) aNil)) (mLst aNil)))))))))
def F__law_due : FM := mkF 1 1 0 (mSeq (mIfS (toB (mB oGt (mC bLen (aCons (mB oIx (gv 0) (ck (.int 1))) aNil)) (ck (.int 24)))) (mRet (mTup (aCons (ck (.str "long")) (aCons (ck (.int 24)) aNil)))) mNil) (mRet (mIf (toB (mB oGt (mC F__law_words (aCons (mB oIx (gv 0) (ck (.int 1))) aNil)) (ck (.int 30)))) (mTup (aCons (ck (.str "many")) (aCons (ck (.int 30)) aNil))) (mTup (aCons (ck (.str "form")) (aCons (gv 0) aNil))))))
def F__law_logged : FM := mkF 13 1 0 (mSeq (mSet 1 (mLcL (ilEnA (gv 0)) (gT 2 (gsCons (gN 12) (gsCons (gN 10) gsNil))) bYes (mTup (aCons (ck (.str "begin")) (aCons (gv 10) (aCons (mTup (aCons (ck (.str "none")) aNil)) (aCons (gv 12) aNil))))) [12, 10])) (mSeq (mAsg (mTup (aCons mDicN (aCons (mNew aNil) (aCons (mLst (aCons (gv 1) aNil)) (aCons (ck (.int 0)) aNil))))) (gT 4 (gsCons (gN 2) (gsCons (gN 3) (gsCons (gN 4) (gsCons (gN 5) gsNil)))))) (mSeq (mWh (toB (mB oNeE (gv 4) (mLst aNil))) (mSeq (mSet 6 (mNew aNil)) (mSeq (mForL (ilAny (gv 4)) (gN 7) (mSeq (mSet 8 (mRevN (gv 7))) (mWh (toB (mB oNeE (gv 8) (mLst aNil))) (mSeq (mAsg (mM okL oPop (gv 8) aNil) (gT 4 (gsCons (gN 9) (gsCons (gN 10) (gsCons (gN 11) (gsCons (gN 12) gsNil)))))) (mIfS (toB (mB oEqE (gv 9) (ck (.str "begin")))) (mEx (mM okL oExt (gv 8) (aCons (mC F__law_begun (aCons (gv 10) (aCons (gv 11) (aCons (gv 12) (aCons (gv 2) (aCons (gv 3) (aCons (gv 6) (aCons (gv 5) aNil)))))))) aNil))) (mEx (mM okL oExt (gv 8) (aCons (mC F__law_done (aCons (gv 11) (aCons (gv 12) (aCons (gv 2) aNil)))) aNil))))) 100000))) (mPar 4 5 (aCons (gv 6) (aCons (mB oAdd (gv 5) (ck (.int 1))) aNil))))) 100000) (mRet (mIceD 3 (gv 3))))))
def F__law_sides : FM := mkF 8 2 0 (mSeq (mAsg (mTup (aCons (mTup (aCons (ck (.str "loop")) (aCons (gv 1) (aCons (mTup (aCons (ck (.str "seq")) (aCons (mTup (aCons (mTup (aCons (ck (.str "log")) (aCons (ck .non) aNil))) (aCons (mTup (aCons (ck (.str "await")) (aCons (ck (.int 1)) aNil))) aNil))) aNil))) aNil)))) (aCons (mNew aNil) (aCons (mU oNeg (ck (.int 1))) aNil)))) (gT 3 (gsCons (gN 2) (gsCons (gN 3) (gsCons (gN 4) gsNil))))) (mSeq (mForL (ilAny (mC F__law_logged (aCons (mLst (aCons (mTup (aCons (ck (.str "seq")) (aCons (mTup (aCons (gv 0) (aCons (gv 2) aNil))) aNil))) aNil)) aNil))) (gT 3 (gsCons (gN 5) (gsCons (gN 6) (gsCons (gN 7) gsNil)))) (mIfS (toB (mB oIs (gv 7) (ck .non))) (mSet 4 (gv 5)) (mEx (mM okL oApp (gv 3) (aCons (mTup (aCons (gv 5) (aCons (mB oEqE (gv 4) (gv 5)) aNil))) aNil))))) (mRet (mIceD 3 (gv 3)))))
def F__law_facts : FM := mkF 10 1 0 (mSeq (mSet 1 mDicN) (mSeq (mForL (ilEnA (gv 0)) (gT 2 (gsCons (gN 2) (gsCons (gN 3) gsNil))) (mSeq (mSet 4 (ck (.int 0))) (mForL (ilEnA (mC F__law_steps (aCons (gv 3) aNil))) (gT 2 (gsCons (gN 5) (gsCons (gN 6) gsNil))) (mSeq (mForL (ilEnA (mC F__law_sides (aCons (gv 6) (aCons (ck (.int 80)) aNil)))) (gT 2 (gsCons (gN 7) (gsCons (gT 2 (gsCons (gN 8) (gsCons (gN 9) gsNil))) gsNil))) (mAsg (mTup (aCons (mB oAdd (gv 4) (gv 8)) (aCons (mTup (aCons (gv 2) (aCons (mC bToInt (aCons (gv 9) aNil)) (aCons (mIf (bTru (gv 9)) (mU oNeg (gv 5)) (gv 5)) (aCons (gv 7) aNil))))) aNil))) (gPut (gv 1) (mTup (aCons (gv 2) (aCons (gv 5) (aCons (gv 7) aNil))))))) (mSet 4 (mB oAdd (gv 4) (mC (F__law_end 20) (aCons (gv 6) aNil)))))))) (mRet (mIceD 3 (gv 1)))))
def F__law_size : Nat → FM
  | 0 => fun _ _ => none
  | n + 1 => mkF 6 1 0 (mSeq (mSet 1 (mLst aNil)) (mSeq (mIfS (toB (mB oEqE (mB oIx (gv 0) (ck (.int 0))) (ck (.str "fork")))) (mSet 1 (mLst (aCons (mB oIx (gv 0) (ck (.int 1))) aNil))) mNil) (mSeq (mIfS (toB (mB oEqE (mB oIx (gv 0) (ck (.int 0))) (ck (.str "loop")))) (mSet 1 (mLst (aCons (mB oIx (gv 0) (ck (.int 2))) aNil))) mNil) (mSeq (mIfS (toB (mB oIn (mB oIx (gv 0) (ck (.int 0))) (mTup (aCons (ck (.str "seq")) (aCons (ck (.str "join")) (aCons (ck (.str "race")) aNil)))))) (mSet 1 (mC bList (aCons (mB oIx (gv 0) (ck (.int 1))) aNil))) mNil) (mSeq (mSet 2 (mLcL (ilAny (gv 1)) (gN 4) bYes (mC (F__law_size n) (aCons (gv 4) aNil)) [4])) (mSeq (mSet 3 (mB oAdd (mC bToInt (aCons (mB oEqE (mB oIx (gv 0) (ck (.int 0))) (ck (.str "loop"))) aNil)) (mC bSum (aCons (mLcL (ilAny (gv 2)) (gN 5) bYes (mB oIx (gv 5) (ck (.int 1))) [5]) aNil)))) (mRet (mTup (aCons (mB oAdd (ck (.int 1)) (mC bSum (aCons (mLcL (ilAny (gv 2)) (gN 5) bYes (mB oIx (gv 5) (ck (.int 0))) [5]) aNil))) (aCons (gv 3) (aCons (mB oAdd (ck (.int 1)) (mC (bBest maxN) (aCons (mB oAdd (mLst (aCons (ck (.int 0)) aNil)) (mLcL (ilAny (gv 2)) (gN 5) bYes (mB oIx (gv 5) (ck (.int 2))) [5])) aNil))) aNil)))))))))))
def F__law_fit : FM := mkF 5 1 0 (mSeq (mAsg (mC (F__law_size 20) (aCons (gv 0) aNil)) (gT 3 (gsCons (gN 1) (gsCons (gN 2) (gsCons (gN 3) gsNil))))) (mSeq (mSet 4 (vAnd (mB oLe (gv 1) (ck (.int 70))) (vAnd (mB oLe (gv 2) (ck (.int 6))) (mB oLe (gv 3) (ck (.int 11)))))) (mRet (mIf (bTru (gv 4)) (gv 0) (mTup (aCons (ck (.str "seq")) (aCons (mTup (aCons (mTup (aCons (ck (.str "log")) (aCons (ck (.str "x")) aNil))) (aCons (mTup (aCons (ck (.str "await")) (aCons (ck (.int 2)) aNil))) (aCons (mTup (aCons (ck (.str "log")) (aCons (ck (.str "a")) aNil))) aNil)))) aNil)))))))
def F__law_far : FM := mkF 4 1 0 (mSeq (mSet 1 (mB oAdd (ck (.int 1)) (mC F__law_take (aCons (gv 0) (aCons (mB oPow (ck (.int 10)) (ck (.int 18))) aNil))))) (mSeq (mSet 2 (mC F__law_fit (aCons (mC (F__law_program 20) (aCons (gv 0) (aCons (ck (.int 30)) (aCons (ck (.int 5)) (aCons (mLst (aCons (mB oPow (ck (.int 10)) (ck (.int 18))) (aCons (mB oSub (mB oPow (ck (.int 10)) (ck (.int 18))) (ck (.int 1))) (aCons (gv 1) (aCons (gv 1) (aCons (mB oAdd (ck (.int 1)) (mB oMod (gv 1) (ck (.int 1000)))) (aCons (ck (.int 3)) (aCons (ck (.int 0)) aNil)))))))) aNil))))) aNil))) (mSeq (mIfS (toB (mB oGt (mB oIx (mC (F__law_size 20) (aCons (gv 2) aNil)) (ck (.int 1))) (ck (.int 0)))) (mRet (gv 2)) mNil) (mSeq (mSet 3 (mTup (aCons (gv 2) (aCons (mTup (aCons (ck (.str "loop")) (aCons (gv 1) (aCons (mC F__law_body (aCons (gv 0) aNil)) aNil)))) aNil)))) (mRet (mTup (aCons (mC F__law_of (aCons (gv 0) (aCons (mLst (aCons (ck (.str "seq")) (aCons (ck (.str "join")) (aCons (ck (.str "race")) aNil)))) aNil))) (aCons (mIf (toB (mB oEqE (mC F__law_take (aCons (gv 0) (aCons (ck (.int 2)) aNil))) (ck (.int 0)))) (gv 3) (mRev (gv 3))) aNil))))))))
def F__law_few : FM := mkF 3 1 0 (mSeq (mIfS (toB (mB oEqE (mC F__law_take (aCons (gv 0) (aCons (ck (.int 5)) aNil))) (ck (.int 0)))) (mRet (mC (F__law_plain 20) (aCons (gv 0) (aCons (ck (.int 8)) (aCons (ck (.int 4)) aNil))))) mNil) (mSeq (mSet 1 (mLcL (ilOf (iRg1 (aCons (mC F__law_take (aCons (gv 0) (aCons (ck (.int 5)) aNil))) aNil))) (gN 2) bYes (mC (F__law_plain 20) (aCons (gv 0) (aCons (ck (.int 5)) (aCons (ck (.int 3)) aNil)))) [2])) (mSeq (mIfS (bAnd (toB (mB oNe (gv 1) (mLst aNil))) (toB (mB oEqE (mC F__law_take (aCons (gv 0) (aCons (ck (.int 3)) aNil))) (ck (.int 0))))) (mSeq (mSet 2 (mC F__law_take (aCons (gv 0) (aCons (mC bLen (aCons (gv 1) aNil)) aNil)))) (mAsg (mTup (aCons (ck (.str "loop")) (aCons (mC F__law_take (aCons (gv 0) (aCons (ck (.int 4)) aNil))) (aCons (mC F__law_body (aCons (gv 0) aNil)) aNil)))) (gPut (gv 1) (gv 2)))) mNil) (mRet (mTup (aCons (ck (.str "seq")) (aCons (mC bTuple (aCons (gv 1) aNil)) aNil)))))))
def F__law_gapped : FM := mkF 5 1 0 (mSeq (mSet 1 (mLcL (ilAny (mC (F__law_atoms 20) (aCons (gv 0) (aCons (ck (.int 0)) aNil)))) (gT 3 (gsCons (gN 2) (gsCons (gN 3) (gsCons (gN 4) gsNil)))) bYes (mB oAdd (gv 2) (mB oMul (gv 3) (gv 4))) [2, 3, 4])) (mRet (mB oAdd (mC (bBest maxN) (aCons (mB oAdd (gv 1) (mLst (aCons (mC (F__law_end 20) (aCons (gv 0) aNil)) aNil))) aNil)) (ck (.int 3)))))
def F__law_unequal : FM := mkF 3 2 0 (mSeq (mSet 2 (ck (.int 0))) (mSeq (mWh (bAnd (toB (mB oLt (gv 2) (mC bLen (aCons (gv 0) aNil)))) (bAnd (toB (mB oLt (gv 2) (mC bLen (aCons (gv 1) aNil)))) (toB (mB oEqE (mB oIx (gv 0) (gv 2)) (mB oIx (gv 1) (gv 2)))))) (mSet 2 (mB oAdd (gv 2) (ck (.int 1)))) 1000) (mRet (gv 2))))
def F__law_first : FM := mkF 5 2 0 (mSeq (mSet 2 (mC bMax2 (aCons (mC F__law_gapped (aCons (gv 0) aNil)) (aCons (mC F__law_gapped (aCons (gv 1) aNil)) aNil)))) (mSeq (mForL (ilEnA eNone) (gT 2 (gsCons (gN 3) (gsCons (gN 4) gsNil))) (mIfS (toB (mB oNe (mB oIx (gv 4) (ck (.int 0))) (mB oIx (gv 4) (ck (.int 1))))) (mRet (mTup (aCons (gv 3) (aCons (mC F__law_unequal (aCons (mB oIx (gv 4) (ck (.int 0))) (aCons (mB oIx (gv 4) (ck (.int 1))) aNil))) aNil)))) mNil)) (mRet (ck .non))))
def F__law_marked : FM := mkF 8 2 0 (mSeq (mSet 2 (mTup (aCons (ck (.str "loop")) (aCons (gv 1) (aCons (mTup (aCons (ck (.str "seq")) (aCons (mTup (aCons (mTup (aCons (ck (.str "log")) (aCons (ck .non) aNil))) (aCons (mTup (aCons (ck (.str "await")) (aCons (ck (.int 1)) aNil))) aNil))) aNil))) aNil))))) (mSeq (mSet 3 (mLcL (ilOf (iRg1 (aCons (gv 1) aNil))) (gN 4) bYes (mNew aNil) [4])) (mSeq (mForL (ilAny (mC F__law_logged (aCons (mLst (aCons (mTup (aCons (ck (.str "seq")) (aCons (mTup (aCons (gv 0) (aCons (gv 2) aNil))) aNil))) aNil)) aNil))) (gT 3 (gsCons (gN 4) (gsCons (gN 5) (gsCons (gN 6) gsNil)))) (mIfS (toB (mB oLt (gv 4) (gv 1))) (mEx (mM okL oApp (mB oIx (gv 3) (gv 4)) (aCons (gv 6) aNil))) mNil)) (mRet (mLcL (ilAny (gv 3)) (gN 7) bYes (mC bTuple (aCons (gv 7) aNil)) [7])))))
def F__law_span : FM := mkF 4 1 0 (mRet (mB oAdd (mB oAdd (ck (.int 2)) (mC (F__law_end 20) (aCons (gv 0) aNil))) (mC (bBest maxN) (aCons (mB oAdd (mLst (aCons (ck (.int 0)) aNil)) (mLcL (ilAny (mC F__law_logged (aCons (mLst (aCons (gv 0) aNil)) aNil))) (gT 3 (gsCons (gN 1) (gsCons (gN 2) (gsCons (gN 3) gsNil)))) bYes (gv 1) [1, 2, 3])) aNil))))
def F__law_form : FM := mkF 3 1 0 (mSeq (mSet 1 (mC (F__law_end 20) (aCons (gv 0) aNil))) (mSeq (mSet 2 (mC F__law_marked (aCons (gv 0) (aCons (mC bMax2 (aCons (mC F__law_span (aCons (gv 0) aNil)) (aCons (mB oAdd (gv 1) (ck (.int 1))) aNil))) aNil)))) (mSeq (mWh (bAnd (toB (mB oGt (mC bLen (aCons (gv 2) aNil)) (mB oAdd (gv 1) (ck (.int 1))))) (toB (mB oEqE (mB oIx (gv 2) (mU oNeg (ck (.int 1)))) (mTup (aCons (ck .non) aNil))))) (mEx (mM okL oPop (gv 2) aNil)) 1000) (mRet (mTup (aCons (gv 1) (aCons (mC bTuple (aCons (gv 2) aNil)) aNil)))))))
def F__law_happened : FM := mkF 8 2 0 (mSeq (mPar 2 3 (aCons (mNew aNil) (aCons mDicN aNil))) (mSeq (mForL (ilAny (mC F__law_logged (aCons (mC F__law_delayed (aCons (gv 0) (aCons (gv 1) aNil))) aNil))) (gT 3 (gsCons (gN 4) (gsCons (gN 5) (gsCons (gN 6) gsNil)))) (mSeq (mSet 7 eNone) (mSeq (mAsg (mB oAdd (gv 7) (ck (.int 1))) (gPut (gv 3) (gv 6))) (mEx (mM okL oApp (gv 2) (aCons (mTup (aCons (gv 4) (aCons (mB oAdd (gv 6) (mTup (aCons (gv 7) aNil))) aNil))) aNil)))))) (mRet (mIceD 3 (gv 2)))))
def F__law_heads : FM := mkF 1 1 0 (mRet (mB oAdd (mLst (aCons (ck (.str "log ")) (aCons (ck (.str "await ")) (aCons (ck (.str "loop ")) (aCons (ck (.str "seq(")) (aCons (ck (.str "fork(")) (aCons (ck (.str "join(")) (aCons (ck (.str "race(")) aNil)))))))) (mB oMul (mLst (aCons (ck (.str ")")) aNil)) (mC bToInt (aCons (gv 0) aNil)))))
def F__law_is_number : FM := mkF 1 1 0 (mRet (vAnd (mIsi .int (gv 0)) (vAnd (vNot (mIsi .bl (gv 0))) (mB oGe (gv 0) (ck (.int 0))))))
def F__law_lag : FM := mkF 4 2 0 (mSeq (mPar 2 3 (aCons (mB oIx (gv 0) (mB oIx (gv 1) (ck (.int 0)))) (aCons (mB oIx (gv 0) (mB oIx (gv 1) (ck (.int 1)))) aNil))) (mRet (mB oAdd (mB oSub (mB oIx (gv 2) (ck (.int 0))) (mB oIx (gv 3) (ck (.int 0)))) (mC bToInt (aCons (mB oLt (mB oIx (gv 3) (ck (.int 1))) (mB oIx (gv 2) (ck (.int 1)))) aNil)))))
def F__law_is_circle : FM := mkF 7 3 0 (mSeq (mIfS (bOr (bNot (bTru (mIsi .tup (gv 2)))) (toB (mB oEqE (gv 2) (mTup aNil)))) (mRet (ck (.bl false))) mNil) (mSeq (mIfS (bNot (bTru (mC bAll (aCons (mLcL (ilAny (gv 2)) (gN 3) bYes (vAnd (mC F__law_is_number (aCons (gv 3) aNil)) (mB oLt (gv 3) (mC bLen (aCons (gv 1) aNil)))) [3]) aNil)))) (mRet (ck (.bl false))) mNil) (mSeq sNone (mRet (mB oGt (mC bSum (aCons (mLcL (ilAny (gv 2)) (gN 3) bYes (mC F__law_lag (aCons (gv 0) (aCons (mB oIx (gv 1) (gv 3)) aNil))) [3]) aNil)) (ck (.int 0)))))))
def F__law_is_deed : FM := mkF 3 2 0 (mSeq (mIfS (bOr (bNot (bTru (mIsi .tup (gv 1)))) (bOr (toB (mB oNe (mC bLen (aCons (gv 1) aNil)) (ck (.int 3)))) (bNot (bTru (mC bAll (aCons (mLcL (ilAny (gv 1)) (gN 2) bYes (mC F__law_is_number (aCons (gv 2) aNil)) [2]) aNil)))))) (mRet (ck (.bl false))) mNil) (mRet (mB oIn (gv 1) (gv 0))))
def F__law_last : Nat → FM
  | 0 => fun _ _ => none
  | n + 1 => mkF 5 1 0 (mSeq (mIfS (toB (mB oEqE (mB oIx (gv 0) (ck (.int 0))) (ck (.str "log")))) (mRet (ck (.int 0))) mNil) (mSeq (mIfS (toB (mB oEqE (mB oIx (gv 0) (ck (.int 0))) (ck (.str "await")))) (mRet (mU oNeg (ck (.int 1)))) mNil) (mSeq (mIfS (toB (mB oNe (mB oIx (gv 0) (ck (.int 0))) (ck (.str "seq")))) (mRet (mC (bBest maxN) (aCons (mLcL (ilAny (mC F__law_kids (aCons (gv 0) aNil))) (gN 3) bYes (mC (F__law_last n) (aCons (gv 3) aNil)) [3]) aNil))) mNil) (mSeq (mPar 1 2 (aCons (ck (.int 0)) (aCons (mU oNeg (ck (.int 1))) aNil))) (mSeq (mForL (ilAny (mB oIx (gv 0) (ck (.int 1)))) (gN 3) (mSeq (mSet 4 (mC (F__law_last n) (aCons (gv 3) aNil))) (mSeq (mSet 2 (mIf (toB (mB oGe (gv 4) (ck (.int 0)))) (mC bMax2 (aCons (gv 2) (aCons (mB oAdd (gv 1) (gv 4)) aNil))) (gv 2))) (mSet 1 (mB oAdd (gv 1) (mC (F__law_end 20) (aCons (gv 3) aNil))))))) (mRet (gv 2)))))))
def F__law_nodes : FM := mkF 6 1 0 (mSeq (mPar 1 2 (aCons (mNew aNil) (aCons (mNew (aCons (mTup (aCons (gv 0) (aCons (ck (.int 1)) aNil))) aNil)) aNil))) (mSeq (mWh (toB (mB oNe (gv 2) (mLst aNil))) (mSeq (mAsg (mM okL oPop (gv 2) aNil) (gT 2 (gsCons (gN 3) (gsCons (gN 4) gsNil)))) (mSeq (mEx (mM okL oApp (gv 1) (aCons (mTup (aCons (gv 3) (aCons (gv 4) aNil))) aNil))) (mEx (mM okL oExt (gv 2) (aCons (mLcL (ilAny (mC F__law_kids (aCons (gv 3) aNil))) (gN 5) bYes (mTup (aCons (gv 5) (aCons (mB oAdd (gv 4) (ck (.int 1))) aNil))) [5]) aNil))))) 200) (mRet (mIceD 3 (gv 1)))))
def F__law_is_tree : FM := mkF 7 1 0 (mSeq (mIfS (bNot (bTru (mC (F__law_are_shapes 20) (aCons (gv 0) (aCons (ck (.int 12)) aNil))))) (mRet (ck (.bl false))) mNil) (mSeq (mSet 1 (mLcL (ilAny (mC F__law_nodes (aCons (gv 0) aNil))) (gT 2 (gsCons (gN 5) (gsCons (gN 6) gsNil))) bYes (gv 5) [5, 6])) (mSeq (mSet 2 (mLcL (ilAny (gv 1)) (gN 5) (toB (mB oEqE (mB oIx (gv 5) (ck (.int 0))) (ck (.str "loop")))) (mB oIx (gv 5) (ck (.int 2))) [5])) (mSeq (mIfS (bOr (toB (mB oGt (mC bLen (aCons (gv 1) aNil)) (ck (.int 80)))) (toB (mB oGt (mC bLen (aCons (gv 2) aNil)) (ck (.int 8))))) (mRet (ck (.bl false))) mNil) (mSeq (mForL (ilAny (gv 2)) (gN 3) (mSeq (mSet 4 (mLcL (ilAny (mC F__law_nodes (aCons (gv 3) aNil))) (gT 2 (gsCons (gN 5) (gsCons (gN 6) gsNil))) bYes (mB oIx (gv 5) (ck (.int 0))) [5, 6])) (mIfS (bOr (toB (mB oIn (ck (.str "loop")) (gv 4))) (bOr (toB (mB oGt eNone (ck (.int 12)))) (bOr (bNot (toB (mCh oLt oLt (ck (.int 0)) (mC (F__law_end 20) (aCons (gv 3) aNil)) (ck (.int 7))))) (toB (mB oGt (mC (F__law_last 20) (aCons (gv 3) aNil)) (ck (.int 30))))))) (mRet (ck (.bl false))) mNil))) (mRet (ck (.bl true))))))))
def F__law_plan_of : FM := mkF 9 2 0 (mSeq (mSet 2 (mNew aNil)) (mSeq (mForL (ilEnA (gv 0)) (gT 2 (gsCons (gN 3) (gsCons (gN 4) gsNil))) (mSeq (mSet 5 (mB oAdd (mLst (aCons (ck (.int 0)) aNil)) (mLcL (ilOf (iRg1 (aCons (mC bLen (aCons (mC F__law_steps (aCons (gv 4) aNil)) aNil)) aNil))) (gN 6) bYes (mB oIx (gv 1) (mTup (aCons (gv 3) (aCons (gv 6) aNil)))) [6]))) (mEx (mM okL oApp (gv 2) (aCons (mC bTuple (aCons eNone aNil)) aNil))))) (mRet (mC bTuple (aCons (gv 2) aNil)))))
def F__law_zeros : FM := mkF 2 1 0 (mRet (mC bTuple (aCons (mLcL (ilAny (gv 0)) (gN 1) bYes (mB oMul2 (mTup (aCons (ck (.int 0)) aNil)) (mC bLen (aCons (mC F__law_steps (aCons (gv 1) aNil)) aNil))) [1]) aNil)))
def F__law_least : FM := mkF 10 3 0 (mSeq (mSet 3 (mC F__law_delays (aCons (mC F__law_zeros (aCons (gv 0) aNil)) aNil))) (mSeq (mForL (ilOf (iRg1 (aCons (mB oAdd (mC bLen (aCons (gv 3) aNil)) (ck (.int 1))) aNil))) (gN 4) (mSeq (mSet 5 (ck (.bl true))) (mSeq (mForL (ilAny (mC bList (aCons (gv 3) aNil))) (gT 2 (gsCons (gN 6) (gsCons (gN 7) gsNil))) (mIfS (bAnd (toB (mB oGt (gv 7) (ck (.int 0)))) (toB (mB oGt (mB oIx (gv 3) (mTup (aCons (gv 6) (aCons (mB oSub (gv 7) (ck (.int 1))) aNil)))) (mB oIx (gv 3) (mTup (aCons (gv 6) (aCons (gv 7) aNil))))))) (mAsg (mTup (aCons (mB oIx (gv 3) (mTup (aCons (gv 6) (aCons (mB oSub (gv 7) (ck (.int 1))) aNil)))) (aCons (ck (.bl false)) aNil))) (gT 2 (gsCons (gPut (gv 3) (mTup (aCons (gv 6) (aCons (gv 7) aNil)))) (gsCons (gN 5) gsNil)))) mNil)) (mSeq (mForL (ilAny (gv 2)) (gN 8) (mSeq (mSet 9 (mB oAdd (mB oIx (gv 3) (mSl oSl (mB oIx (gv 8) (ck (.int 0))) oNo (oSo (ck (.int 2))))) (mC F__law_lag (aCons (gv 1) (aCons (gv 8) aNil))))) (mIfS (toB (mB oGt (gv 9) (mB oIx (gv 3) (mSl oSl (mB oIx (gv 8) (ck (.int 1))) oNo (oSo (ck (.int 2))))))) (mAsg (mTup (aCons (gv 9) (aCons (ck (.bl false)) aNil))) (gT 2 (gsCons (gPut (gv 3) (mSl oSl (mB oIx (gv 8) (ck (.int 1))) oNo (oSo (ck (.int 2))))) (gsCons (gN 5) gsNil)))) mNil))) (mIfS (bTru (gv 5)) (mRet (mC F__law_plan_of (aCons (gv 0) (aCons (gv 3) aNil)))) mNil))))) (mRet (ck .non))))
def F__law_met : FM := mkF 7 2 0 (mSeq (mSet 2 eNone) (mRet (mC bAll (aCons (mLcL (ilAny (gv 0)) (gT 2 (gsCons (gN 5) (gsCons (gN 6) gsNil))) bYes (mB oLt (mB oIx (gv 2) (gv 5)) (mB oIx (gv 2) (gv 6))) [5, 6]) aNil))))
def F__law_moments : Nat → FM
  | 0 => fun _ _ => none
  | n + 1 => mkF 4 2 0 (mSeq (mIfS (toB (mB oEqE (mB oIx (gv 0) (ck (.int 0))) (ck (.str "log")))) (mRet (mLst (aCons (gv 1) aNil))) mNil) (mSeq (mIfS (toB (mB oEqE (mB oIx (gv 0) (ck (.int 0))) (ck (.str "await")))) (mRet (mLst aNil)) mNil) (mSeq (mIfS (toB (mB oEqE (mB oIx (gv 0) (ck (.int 0))) (ck (.str "fork")))) (mRet (mC (F__law_moments n) (aCons (mB oIx (gv 0) (ck (.int 1))) (aCons (gv 1) aNil)))) mNil) (mSeq (mIfS (toB (mB oEqE (mB oIx (gv 0) (ck (.int 0))) (ck (.str "loop")))) (mRet (mLst (aCons (gv 1) (aCons (mB oAdd (gv 1) (mB oMul (mB oIx (gv 0) (ck (.int 1))) (mC (F__law_end 20) (aCons (mB oIx (gv 0) (ck (.int 2))) aNil)))) aNil)))) mNil) (mSeq (mSet 2 (mNew aNil)) (mSeq (mForL (ilAny (mB oIx (gv 0) (ck (.int 1)))) (gN 3) (mSeq (mEx (mM okL oExt (gv 2) (aCons (mC (F__law_moments n) (aCons (gv 3) (aCons (gv 1) aNil))) aNil))) (mSet 1 (mB oAdd (gv 1) (mIf (toB (mB oEqE (mB oIx (gv 0) (ck (.int 0))) (ck (.str "seq")))) (mC (F__law_end 20) (aCons (gv 3) aNil)) (ck (.int 0))))))) (mRet (mIceD 3 (gv 2)))))))))
def F__law_near : Nat → FM
  | 0 => fun _ _ => none
  | n + 1 => mkF 6 2 0 (mSeq (mSet 2 (mC F__law_take (aCons (gv 0) (aCons (ck (.int 12)) aNil)))) (mSeq (mIfS (toB (mB oEqE (gv 2) (ck (.int 0)))) (mRet (mTup (aCons (ck (.str "seq")) (aCons (mTup (aCons (gv 1) aNil)) aNil)))) mNil) (mSeq (mIfS (toB (mB oEqE (gv 2) (ck (.int 1)))) (mRet (mTup (aCons (ck (.str "seq")) (aCons (mTup (aCons (mTup (aCons (ck (.str "seq")) (aCons (mTup aNil) aNil))) (aCons (gv 1) (aCons (mTup (aCons (ck (.str "loop")) (aCons (ck (.int 0)) (aCons (mTup (aCons (ck (.str "await")) (aCons (ck (.int 1)) aNil))) aNil)))) aNil)))) aNil)))) mNil) (mSeq (mIfS (toB (mB oEqE (gv 2) (ck (.int 2)))) (mRet (mTup (aCons (mC F__law_of (aCons (gv 0) (aCons (mLst (aCons (ck (.str "join")) (aCons (ck (.str "race")) aNil))) aNil))) (aCons (mTup (aCons (gv 1) aNil)) aNil)))) mNil) (mSeq (mIfS (toB (mB oEqE (gv 2) (ck (.int 3)))) (mRet (mTup (aCons (ck (.str "seq")) (aCons (mTup (aCons (gv 1) (aCons (mC F__law_leaf (aCons (gv 0) aNil)) aNil))) aNil)))) mNil) (mSeq (mIfS (toB (mB oEqE (gv 2) (ck (.int 4)))) (mSeq (mSet 3 (mC bMin2 (aCons (mC (F__law_end 20) (aCons (gv 1) aNil)) (aCons (mB oPow (ck (.int 10)) (ck (.int 18))) aNil)))) (mRet (mIf (toB (mB oGt (gv 3) (ck (.int 0)))) (mTup (aCons (ck (.str "seq")) (aCons (mTup (aCons (mTup (aCons (ck (.str "fork")) (aCons (gv 1) aNil))) (aCons (mTup (aCons (ck (.str "await")) (aCons (gv 3) aNil))) aNil))) aNil))) (mTup (aCons (ck (.str "fork")) (aCons (gv 1) aNil)))))) mNil) (mSeq (mIfS (toB (mB oEqE (mB oIx (gv 1) (ck (.int 0))) (ck (.str "await")))) (mRet (mC F__law_of (aCons (gv 0) (aCons (mLst (aCons (mTup (aCons (ck (.str "seq")) (aCons (mB oMul2 (mTup (aCons (mTup (aCons (ck (.str "await")) (aCons (ck (.int 1)) aNil))) aNil)) (mC bMin2 (aCons (mB oIx (gv 1) (ck (.int 1))) (aCons (ck (.int 9)) aNil)))) aNil))) (aCons (mTup (aCons (ck (.str "await")) (aCons (mB oAdd (mB oIx (gv 1) (ck (.int 1))) (ck (.int 1))) aNil))) aNil))) aNil)))) mNil) (mSeq (mIfS (toB (mB oEqE (mB oIx (gv 1) (ck (.int 0))) (ck (.str "log")))) (mRet (mC F__law_of (aCons (gv 0) (aCons (mLst (aCons (mTup (aCons (ck (.str "fork")) (aCons (gv 1) aNil))) (aCons (mTup (aCons (ck (.str "log")) (aCons (mC F__law_word (aCons (gv 0) aNil)) aNil))) (aCons (mTup (aCons (ck (.str "join")) (aCons (mTup (aCons (gv 1) (aCons (mTup (aCons (ck (.str "seq")) (aCons (mTup aNil) aNil))) aNil))) aNil))) aNil)))) aNil)))) mNil) (mSeq (mIfS (toB (mB oEqE (mB oIx (gv 1) (ck (.int 0))) (ck (.str "fork")))) (mRet (mTup (aCons (ck (.str "fork")) (aCons (mC (F__law_near n) (aCons (gv 0) (aCons (mB oIx (gv 1) (ck (.int 1))) aNil))) aNil)))) mNil) (mSeq (mIfS (bAnd (toB (mB oEqE (mB oIx (gv 1) (ck (.int 0))) (ck (.str "loop")))) (toB (mB oGt (mB oIx (gv 1) (ck (.int 1))) (ck (.int 1))))) (mRet (mIf (toB (mB oLt (gv 2) (ck (.int 9)))) (mTup (aCons (ck (.str "seq")) (aCons (mTup (aCons (mB oIx (gv 1) (ck (.int 2))) (aCons (mTup (aCons (ck (.str "loop")) (aCons (mB oSub (mB oIx (gv 1) (ck (.int 1))) (ck (.int 1))) (aCons (mB oIx (gv 1) (ck (.int 2))) aNil)))) aNil))) aNil))) (mTup (aCons (ck (.str "loop")) (aCons (mB oSub (mB oIx (gv 1) (ck (.int 1))) (ck (.int 1))) (aCons (mB oIx (gv 1) (ck (.int 2))) aNil)))))) mNil) (mSeq (mIfS (bOr (toB (mB oEqE (mB oIx (gv 1) (ck (.int 0))) (ck (.str "loop")))) (toB (mB oEqE (mB oIx (gv 1) (ck (.int 1))) (mTup aNil)))) (mRet (mTup (aCons (ck (.str "seq")) (aCons (mTup (aCons (gv 1) (aCons (gv 1) aNil))) aNil)))) mNil) (mSeq (mSet 4 (mC F__law_take (aCons (gv 0) (aCons (mC bLen (aCons (mB oIx (gv 1) (ck (.int 1))) aNil)) aNil)))) (mSeq (mSet 5 (mC (F__law_near n) (aCons (gv 0) (aCons (mB oIx (mB oIx (gv 1) (ck (.int 1))) (gv 4)) aNil)))) (mSeq (mIfS (bAnd (toB (mB oGt (gv 2) (ck (.int 9)))) (toB (mB oIn (mB oIx (gv 1) (ck (.int 0))) (mTup (aCons (ck (.str "join")) (aCons (ck (.str "race")) aNil)))))) (mRet (mTup (aCons (mB oIx (gv 1) (ck (.int 0))) (aCons (mRev (mB oIx (gv 1) (ck (.int 1)))) aNil)))) mNil) (mRet (mTup (aCons (mB oIx (gv 1) (ck (.int 0))) (aCons (mB oAdd (mB oAdd (mSl oSl (mB oIx (gv 1) (ck (.int 1))) oNo (oSo (gv 4))) (mTup (aCons (gv 5) aNil))) (mSl oSl (mB oIx (gv 1) (ck (.int 1))) (oSo (mB oAdd (gv 4) (ck (.int 1)))) oNo)) aNil))))))))))))))))))
def F__law_nested : FM := mkF 5 1 0 (mSeq (mPar 1 2 (aCons (mLst aNil) (aCons (mLst aNil) aNil))) (mSeq (mForL (ilAny (gv 0)) (gT 2 (gsCons (gN 3) (gsCons (gN 4) gsNil))) (mPar 1 2 (aCons (mB oAdd (gv 1) (gv 3)) (aCons (mB oAdd (gv 4) (gv 2)) aNil)))) (mRet (mTup (aCons (gv 1) (aCons (gv 2) aNil))))))
def F__law_stretch : FM := mkF 3 3 0 (mSeq (mWh (bAnd (toB (mB oLt (gv 1) (mC bLen (aCons (gv 0) aNil)))) (toB (mB oIn (mB oIx (gv 0) (gv 1)) (gv 2)))) (mSet 1 (mB oAdd (gv 1) (ck (.int 1)))) 1000) (mRet (gv 1)))
def F__law_number_end : FM := mkF 2 2 0 (mSeq (mIfS (toB (mB oEqE (mSl oSl (gv 0) (oSo (gv 1)) (oSo (mB oAdd (gv 1) (ck (.int 1))))) (ck (.str "0")))) (mRet (mB oAdd (gv 1) (ck (.int 1)))) mNil) (mRet (mC F__law_stretch (aCons (gv 0) (aCons (gv 1) (aCons (ck (.str "0123456789")) aNil))))))
def F__law_odd : FM := mkF 4 1 0 (mSeq (mSet 1 (mNew (aCons (ck .non) (aCons (ck (.bl true)) (aCons (ck (.bl false)) (aCons (ck (.int 0)) (aCons (ck (.int 1)) (aCons (mU oNeg (ck (.int 1))) (aCons (mB oPow (ck (.int 10)) (ck (.int 18))) (aCons (ck (.str "")) (aCons (ck (.str "a")) (aCons (ck (.str "log a")) (aCons (mTup aNil) (aCons (mLst aNil) (aCons mDic0 (aCons (mTup (aCons (ck (.str "log")) (aCons (ck (.str "a")) aNil))) (aCons (mTup (aCons (ck (.str "log")) (aCons (ck (.str "A")) aNil))) aNil))))))))))))))))) (mSeq (mSet 1 (mB oAddN (gv 1) (mLst (aCons (mTup (aCons (ck (.str "seq")) (aCons (mTup aNil) aNil))) (aCons (mTup (aCons (ck (.str "await")) (aCons (ck (.int 0)) aNil))) (aCons (mTup (aCons (ck (.str "await")) (aCons (ck (.bl true)) aNil))) (aCons (mTup (aCons (ck (.str "join")) (aCons (mTup aNil) aNil))) (aCons (mTup (aCons (ck (.str "loop")) (aCons (ck (.int 2)) (aCons (mTup (aCons (ck (.str "log")) (aCons (ck (.str "a")) aNil))) aNil)))) (aCons (mTup (aCons (ck (.str "seq")) (aCons (mLst aNil) aNil))) aNil))))))))) (mSeq (mEx (mM okL oApp (gv 1) (aCons (mTup (aCons (mTup (aCons (ck (.str "log")) (aCons (ck (.str "a")) aNil))) aNil)) aNil))) (mSeq (mSet 2 (mC F__law_of (aCons (gv 0) (aCons (gv 1) aNil)))) (mSeq (mForL (ilOf (iRg1 (aCons (mB oIx (mLst (aCons (ck (.int 0)) (aCons (ck (.int 0)) (aCons (ck (.int 0)) (aCons (ck (.int 1)) (aCons (ck (.int 9)) aNil)))))) (mC F__law_take (aCons (gv 0) (aCons (ck (.int 5)) aNil)))) aNil))) (gN 3) (mSet 2 (mB oIx (mLst (aCons (mTup (aCons (gv 2) aNil)) (aCons (mLst (aCons (gv 2) aNil)) (aCons (mDict ["a"] (aCons (gv 2) aNil)) (aCons (mTup (aCons (ck (.str "fork")) (aCons (gv 2) aNil))) aNil))))) (mC F__law_take (aCons (gv 0) (aCons (ck (.int 4)) aNil)))))) (mRet (gv 2)))))))
def F__law_open_spots : Nat → FM
  | 0 => fun _ _ => none
  | n + 1 => mkF 5 1 0 (mSeq (mSet 1 (mNew (aCons (mTup aNil) aNil))) (mSeq (mIfS (toB (mB oIn (mB oIx (gv 0) (ck (.int 0))) (mTup (aCons (ck (.str "seq")) (aCons (ck (.str "join")) (aCons (ck (.str "race")) (aCons (ck (.str "fork")) aNil))))))) (mForL (ilEnA (mC F__law_kids (aCons (gv 0) aNil))) (gT 2 (gsCons (gN 2) (gsCons (gN 3) gsNil))) (mEx (mM okL oExt (gv 1) (aCons (mLcL (ilAny (mC (F__law_open_spots n) (aCons (gv 3) aNil))) (gN 4) bYes (mB oAdd (mTup (aCons (gv 2) aNil)) (gv 4)) [4]) aNil)))) mNil) (mRet (mIceD 3 (gv 1)))))
def F__law_order : FM := mkF 4 2 0 (mRet (mC bTuple (aCons (mLcL (ilAny (mC F__law_happened (aCons (gv 0) (aCons (gv 1) aNil)))) (gT 2 (gsCons (gN 2) (gsCons (gN 3) gsNil))) bYes (gv 3) [2, 3]) aNil)))
def F__law_pairs : FM := mkF 7 3 0 (mSeq (mSet 3 (mNew aNil)) (mSeq (mForL (ilOf (iRg1 (aCons (mB oMul (mC F__law_take (aCons (gv 0) (aCons (mB oAdd (gv 2) (ck (.int 1))) aNil))) (mC bToInt (aCons (mB oGt (mC bLen (aCons (gv 1) aNil)) (ck (.int 1))) aNil))) aNil))) (gN 4) (mSeq (mSet 5 (mC F__law_take (aCons (gv 0) (aCons (mC bLen (aCons (gv 1) aNil)) aNil)))) (mSeq (mSet 6 (mB oMod (mB oAdd (mB oAdd (gv 5) (ck (.int 1))) (mC F__law_take (aCons (gv 0) (aCons (mB oSub (mC bLen (aCons (gv 1) aNil)) (ck (.int 1))) aNil)))) (mC bLen (aCons (gv 1) aNil)))) (mEx (mM okL oApp (gv 3) (aCons (mTup (aCons (mB oIx (gv 1) (gv 5)) (aCons (mB oIx (gv 1) (gv 6)) aNil))) aNil)))))) (mRet (mC bTuple (aCons (gv 3) aNil)))))
def F__law_passed : FM := mkF 7 3 0 (mSeq (mPar 3 4 (aCons (ck .non) (aCons (gv 1) aNil))) (mSeq (mForL (ilAny (gv 2)) (gN 5) (mSeq (mSet 6 (ck (.int 0))) (mSeq (mWh (bAnd (toB (mB oLt (gv 6) (mC bLen (aCons (gv 5) aNil)))) (bAnd (toB (mB oLt (mB oAdd (gv 1) (gv 6)) (mC bLen (aCons (gv 0) aNil)))) (toB (mB oEqE (mB oIx (gv 0) (mB oAdd (gv 1) (gv 6))) (mB oIx (gv 5) (gv 6)))))) (mSet 6 (mB oAdd (gv 6) (ck (.int 1)))) 1000) (mSeq (mIfS (toB (mB oEqE (gv 6) (mC bLen (aCons (gv 5) aNil)))) (mSet 3 (gv 5)) mNil) (mSet 4 (mC bMax2 (aCons (gv 4) (aCons (mB oAdd (gv 1) (gv 6)) aNil)))))))) (mRet (mTup (aCons (gv 3) (aCons (gv 4) aNil))))))
def F__law_pot : FM := mkF 4 2 1 (mSeq (mSet 2 (mIf (toB (mB oLt (gv 1) (mC bLen (aCons (gv 0) aNil)))) (mB oIx (gv 0) (gv 1)) (mB oAdd (mB oMul (ck (.int 17)) (gv 1)) (ck (.int 9))))) (mSeq (mSet 3 (mB oMul (mB oMod (mC bAbs (aCons (gv 2) aNil)) (mB oPow (mB oPow (ck (.int 10)) (ck (.int 60))) (ck (.int 5)))) (mC bToInt (aCons (mB oGe (mC bAbs (aCons (gv 2) aNil)) (mB oPow (ck (.int 10)) (ck (.int 18)))) aNil)))) (mRet (mNew (aCons (gv 3) (aCons (mB oMod (mB oAdd (mB oAdd (mB oMul (mB oMod (gv 2) (ck (.int 2305843009213693951))) (ck (.int 69621))) (mB oMul (mB oMul (ck (.int 7919)) (gv 1)) (gv 1))) (ck (.int 31))) (ck (.int 2305843009213693921))) (aCons (ck (.int 0)) aNil)))))))
def F__law_refusal : FM := mkF 4 1 0 (mSeq (mSet 1 (ck .non)) (mSeq sNone (mSeq (mIfS (toB (mB oIs (gv 1) (ck .non))) (mRet (ck .non)) mNil) (mSeq (mSet 2 (mNew (aCons eNone (aCons eNone (aCons eNone aNil))))) (mSeq (mSet 2 (mB oAddN (gv 2) (mLst (aCons eNone (aCons eNone (aCons eNone aNil)))))) (mSeq (mSet 2 (mB oAddN (gv 2) (mLst (aCons eNone (aCons eNone (aCons eNone aNil)))))) (mSeq (mEx (mM okL oApp (gv 2) (aCons eNone aNil))) (mSeq (mIfS (toB (mB oNe eNone (ck (.int 1)))) (mRet (mTup (aCons (ck (.str "other")) (aCons (ck (.str "")) aNil)))) mNil) (mSeq (mSet 3 eNone) (mSeq (mIfS (toB (mB oIn (gv 3) (mTup (aCons (ck (.int 0)) (aCons (ck (.int 1)) aNil))))) (mRet (mTup (aCons (ck (.str "value")) (aCons (mC bRepr (aCons (mFld [] "value" (gv 1)) aNil)) aNil)))) mNil) (mSeq (mIfS (toB (mB oIn (gv 3) (mTup (aCons (ck (.int 2)) (aCons (ck (.int 3)) aNil))))) (mRet (mIf (toB (mB oEqE (gv 3) (ck (.int 2)))) (mTup (aCons (ck (.str "limit")) (aCons (mC bRepr (aCons (mFld [] "limit" (gv 1)) aNil)) aNil))) (mTup (aCons (ck (.str "entry")) (aCons (mC bRepr (aCons (mFld [] "number" (gv 1)) aNil)) aNil))))) mNil) (mSeq (mIfS (toB (mB oIn (gv 3) (mTup (aCons (ck (.int 4)) (aCons (ck (.int 9)) aNil))))) (mRet (mIf (toB (mB oEqE (gv 3) (ck (.int 4)))) (mTup (aCons (ck (.str "which")) (aCons (mC bRepr (aCons (mFld [] "program" (gv 1)) aNil)) aNil))) (mTup (aCons (ck (.str "name")) (aCons (mC bRepr (aCons (mFld [] "name" (gv 1)) aNil)) aNil))))) mNil) (mSeq (mIfS (toB (mB oIn (gv 3) (mTup (aCons (ck (.int 7)) (aCons (ck (.int 8)) aNil))))) (mRet (mIf (toB (mB oEqE (gv 3) (ck (.int 7)))) (mTup (aCons (ck (.str "place")) (aCons (mC bRepr (aCons (mFld [] "position" (gv 1)) aNil)) aNil))) (mTup (aCons (ck (.str "line")) (aCons (mC bRepr (aCons (mFld [] "line" (gv 1)) aNil)) aNil))))) mNil) (mRet (mTup (aCons (mIf (toB (mB oEqE (gv 3) (ck (.int 5)))) (ck (.str "empty")) (ck (.str "undo"))) (aCons (ck (.str "")) aNil)))))))))))))))))
def F__law_scan : FM := mkF 9 1 0 (mSeq (mAsg (mTup (aCons (ck (.int 0)) (aCons (mNew aNil) (aCons (ck (.bl false)) (aCons (ck (.bl false)) aNil))))) (gT 4 (gsCons (gN 1) (gsCons (gN 2) (gsCons (gN 3) (gsCons (gN 4) gsNil)))))) (mSeq (mWh (bNot (bTru (gv 4))) (mSeq (mAsg (mC F__law_passed (aCons (gv 0) (aCons (gv 1) (aCons (mC F__law_heads (aCons (gv 3) aNil)) aNil)))) (gT 2 (gsCons (gN 5) (gsCons (gN 6) gsNil)))) (mSeq (mIfS (toB (mB oIs (gv 5) (ck .non))) (mRet (gv 6)) mNil) (mSeq (mAsg (mTup (aCons (mB oAdd (gv 1) (mC bLen (aCons (gv 5) aNil))) (aCons (mB oIn (gv 5) (mTup (aCons (ck (.str "seq(")) (aCons (ck (.str "join(")) (aCons (ck (.str "race(")) aNil))))) (aCons (mB oIn (gv 5) (mTup (aCons (ck (.str "log ")) (aCons (ck (.str "await ")) (aCons (ck (.str ")")) aNil))))) aNil)))) (gT 3 (gsCons (gN 1) (gsCons (gN 3) (gsCons (gN 7) gsNil))))) (mSeq (mIfS (toB (mB oIn (gv 5) (mTup (aCons (ck (.str "log ")) (aCons (ck (.str "await ")) (aCons (ck (.str "loop ")) aNil)))))) (mSeq (mSet 8 (gv 1)) (mSeq (mSet 1 (mIf (toB (mB oEqE (gv 5) (ck (.str "log ")))) (mC F__law_stretch (aCons (gv 0) (aCons (gv 1) (aCons (ck (.str "abcdefghijklmnopqrstuvwxyz")) aNil)))) (mC F__law_number_end (aCons (gv 0) (aCons (gv 1) aNil))))) (mSeq (mIfS (bOr (toB (mB oEqE (gv 1) (gv 8))) (bAnd (toB (mB oEqE (gv 5) (ck (.str "loop ")))) (toB (mB oNe (mSl oSl (gv 0) (oSo (gv 1)) (oSo (mB oAdd (gv 1) (ck (.int 1))))) (ck (.str " ")))))) (mRet (gv 1)) mNil) (mSet 1 (mB oAdd (gv 1) (mC bToInt (aCons (mB oEqE (gv 5) (ck (.str "loop "))) aNil))))))) mNil) (mSeq (mIfS (toB (mB oEqE (gv 5) (ck (.str ")")))) (mEx (mM okL oPop (gv 2) aNil)) (mIfS (bNot (bTru (gv 7))) (mEx (mM okL oApp (gv 2) (aCons (gv 5) aNil))) mNil)) (mIfS (bTru (gv 7)) (mAsg (mC F__law_after (aCons (gv 0) (aCons (gv 1) (aCons (gv 2) aNil)))) (gT 2 (gsCons (gN 1) (gsCons (gN 4) gsNil)))) mNil)))))) 1000) (mRet (mIf (toB (mB oEqE (gv 1) (mB oAdd (mC bLen (aCons (gv 0) aNil)) (ck (.int 1))))) (ck .non) (gv 1)))))
def F__law_shown : FM := mkF 2 1 0 (mSeq (mSet 1 (mLst (aCons (mMeth "waiting" [(113, F_Tape_waiting), (4, F_Queue_waiting)] (gv 0) aNil) (aCons (mMeth "calls" [(4, F_Queue_calls)] (gv 0) aNil) (aCons (mMeth "log" [(4, F_Queue_log)] (gv 0) aNil) (aCons (mMeth "finished" [(4, F_Queue_finished)] (gv 0) aNil) (aCons (mMeth "programs" [(4, F_Queue_programs)] (gv 0) aNil) aNil))))))) (mRet (mC bRepr (aCons (gv 1) aNil))))
def F__law_small : FM := mkF 1 1 0 (mRet (mC (F__law_program 20) (aCons (gv 0) (aCons (mB oAdd (ck (.int 2)) (mC F__law_take (aCons (gv 0) (aCons (ck (.int 22)) aNil)))) (aCons (mB oAdd (ck (.int 2)) (mC F__law_take (aCons (gv 0) (aCons (ck (.int 5)) aNil)))) (aCons (mLst (aCons (ck (.int 0)) (aCons (ck (.int 1)) (aCons (ck (.int 2)) (aCons (ck (.int 3)) (aCons (ck (.int 5)) aNil)))))) aNil))))))
def F__law_spots : FM := mkF 7 2 0 (mSeq (mSet 2 (mC bSortedX (aCons eNone aNil))) (mSeq (mSet 3 (mNew aNil)) (mSeq (mForL (ilAny (gv 2)) (gN 4) (mEx (mM okL oExt (gv 3) (aCons (mLst (aCons (mB oSub (gv 4) (ck (.int 1))) (aCons (gv 4) (aCons (mB oAdd (gv 4) (ck (.int 1))) (aCons (mB oAdd (gv 4) (mC F__law_take (aCons (gv 0) (aCons (ck (.int 70)) aNil)))) aNil))))) aNil)))) (mSeq (mEx (mM okL oExt (gv 3) (aCons (mLcL (ilOf (iRg1 (aCons (ck (.int 6)) aNil))) (gN 5) bYes (mC F__law_take (aCons (gv 0) (aCons (mB oAdd (mB oIx (gv 2) (mU oNeg (ck (.int 1)))) (ck (.int 9))) aNil))) [5]) aNil))) (mRet (mC bSortedX (aCons eNone aNil)))))))
def F__law_state : FM := mkF 4 1 0 (mSeq (mSet 1 (mLcL (ilEnA (gv 0)) (gT 2 (gsCons (gN 2) (gsCons (gN 3) gsNil))) bYes (mTup (aCons (ck (.str "begin")) (aCons (gv 3) (aCons (mTup (aCons (ck (.str "top")) aNil)) (aCons (gv 2) aNil))))) [2, 3])) (mRet (mDict ["left", "tally", "found", "ended", "trees"] (aCons (mLst (aCons (gv 1) aNil)) (aCons mDic0 (aCons (mLst aNil) (aCons (mLst aNil) (aCons (mC bList (aCons (gv 0) aNil)) aNil))))))))
def F__law_step : FM := mkF 7 1 0 (mSeq (mPar 1 2 (aCons (mNew aNil) (aCons (mRevN (mM okL oPop (mB oIx (gv 0) (ck (.str "left"))) (aCons (ck (.int 0)) aNil))) aNil))) (mSeq (mWh (toB (mB oNe (gv 2) (mLst aNil))) (mSeq (mAsg (mM okL oPop (gv 2) aNil) (gT 4 (gsCons (gN 3) (gsCons (gN 4) (gsCons (gN 5) (gsCons (gN 6) gsNil)))))) (mIfS (toB (mB oEqE (gv 3) (ck (.str "begin")))) (mEx (mM okL oExt (gv 2) (aCons (mC F__law_begun (aCons (gv 4) (aCons (gv 5) (aCons (gv 6) (aCons (mB oIx (gv 0) (ck (.str "tally"))) (aCons (mB oIx (gv 0) (ck (.str "found"))) (aCons (gv 1) (aCons (ck (.int 0)) aNil)))))))) aNil))) (mIfS (toB (mB oEqE (gv 5) (mTup (aCons (ck (.str "top")) aNil)))) (mEx (mM okL oApp (mB oIx (gv 0) (ck (.str "ended"))) (aCons (gv 6) aNil))) (mEx (mM okL oExt (gv 2) (aCons (mC F__law_done (aCons (gv 5) (aCons (gv 6) (aCons (mB oIx (gv 0) (ck (.str "tally"))) aNil)))) aNil)))))) 1000) (mEx (mM okL oExt (mB oIx (gv 0) (ck (.str "left"))) (aCons (gv 1) aNil)))))
def F__law_tested : FM := mkF 9 2 0 (mSeq (mAsg (gv 1) (gT 2 (gsCons (gN 2) (gsCons (gN 3) gsNil)))) (mSeq (mSet 4 (mIf (toB (mB oIs (gv 2) (ck .non))) (mTup aNil) (mB oAdd (mB oMul2 (mTup (aCons (mTup (aCons (ck (.str "await")) (aCons (gv 2) aNil))) aNil)) (mC bToInt (aCons (mB oGt (gv 2) (ck (.int 0))) aNil))) (mTup (aCons (mTup (aCons (ck (.str "log")) (aCons (ck (.int 0)) aNil))) aNil))))) (mSeq (mSet 5 (mIf (toB (mB oIs (gv 3) (ck .non))) (mLst aNil) (mLst (aCons (mTup (aCons (ck (.str "seq")) (aCons (mB oAdd (mB oMul2 (mTup (aCons (mTup (aCons (ck (.str "await")) (aCons (gv 3) aNil))) aNil)) (mC bToInt (aCons (mB oGt (gv 3) (ck (.int 0))) aNil))) (mTup (aCons (mTup (aCons (ck (.str "log")) (aCons (ck (.int 1)) aNil))) aNil))) aNil))) aNil)))) (mRet (mLcL (ilAny (mC F__law_logged (aCons (mB oAdd (mLst (aCons (mTup (aCons (ck (.str "seq")) (aCons (mB oAdd (mTup (aCons (gv 0) aNil)) (gv 4)) aNil))) aNil)) (gv 5)) aNil))) (gT 3 (gsCons (gN 6) (gsCons (gN 7) (gsCons (gN 8) gsNil)))) bYes (gv 8) [6, 7, 8])))))
def F__law_texted : Nat → FM
  | 0 => fun _ _ => none
  | n + 1 => mkF 3 1 0 (mSeq (mIfS (toB (mB oIn (mB oIx (gv 0) (ck (.int 0))) (mTup (aCons (ck (.str "log")) (aCons (ck (.str "await")) aNil))))) (mRet (mB oAdd (mB oAdd (mB oIx (gv 0) (ck (.int 0))) (ck (.str " "))) (mC bStrI (aCons (mB oIx (gv 0) (ck (.int 1))) aNil)))) mNil) (mSeq (mIfS (toB (mB oEqE (mB oIx (gv 0) (ck (.int 0))) (ck (.str "loop")))) (mRet (mB oAdd (mB oAdd (mB oAdd (ck (.str "loop ")) (mC bStrI (aCons (mB oIx (gv 0) (ck (.int 1))) aNil))) (ck (.str " "))) (mC (F__law_texted n) (aCons (mB oIx (gv 0) (ck (.int 2))) aNil)))) mNil) (mSeq (mSet 1 (mIf (toB (mB oEqE (mB oIx (gv 0) (ck (.int 0))) (ck (.str "fork")))) (mTup (aCons (mB oIx (gv 0) (ck (.int 1))) aNil)) (mB oIx (gv 0) (ck (.int 1))))) (mRet (mB oAdd (mB oAdd (mB oAdd (mB oIx (gv 0) (ck (.int 0))) (ck (.str "("))) eNone) (ck (.str ")")))))))
def F__law_told : FM := mkF 1 1 0 sNone
def F__law_trees : FM := mkF 3 2 0 (mRet (mC bTuple (aCons (mLcL (ilOf (iRg1 (aCons (mB oAdd (ck (.int 1)) (mC F__law_take (aCons (gv 0) (aCons (gv 1) aNil)))) aNil))) (gN 2) bYes (mC F__law_few (aCons (gv 0) aNil)) [2]) aNil)))
def F__law_turned : Nat → FM
  | 0 => fun _ _ => none
  | n + 1 => mkF 2 1 0 (mSeq (mIfS (toB (mB oIn (mB oIx (gv 0) (ck (.int 0))) (mTup (aCons (ck (.str "log")) (aCons (ck (.str "await")) aNil))))) (mRet (mIf (toB (mB oEqE (mB oIx (gv 0) (ck (.int 0))) (ck (.str "log")))) (mTup (aCons (ck (.str "log")) (aCons (ck (.str "a")) aNil))) (gv 0))) mNil) (mSeq (mIfS (toB (mB oEqE (mB oIx (gv 0) (ck (.int 0))) (ck (.str "fork")))) (mRet (mTup (aCons (ck (.str "fork")) (aCons (mC (F__law_turned n) (aCons (mB oIx (gv 0) (ck (.int 1))) aNil)) aNil)))) mNil) (mSeq (mIfS (toB (mB oEqE (mB oIx (gv 0) (ck (.int 0))) (ck (.str "loop")))) (mRet (mB oAdd (mSl oSl (gv 0) oNo (oSo (ck (.int 2)))) (mTup (aCons (mC (F__law_turned n) (aCons (mB oIx (gv 0) (ck (.int 2))) aNil)) aNil)))) mNil) (mRet (mTup (aCons (mB oIx (gv 0) (ck (.int 0))) (aCons (mC bTuple (aCons (mLcL (ilAny (mB oIx (gv 0) (ck (.int 1)))) (gN 1) bYes (mC (F__law_turned n) (aCons (gv 1) aNil)) [1]) aNil)) aNil)))))))
def F__wall : FM := mkF 1 1 0 (mWh (bTru (ck (.bl true))) mNil 1000)
def F_as_program : FM := mkF 1 1 0 (mRet (mTup (aCons (ck (.str "join")) (aCons (gv 0) aNil))))
def F_awaits_of : FM := mkF 3 1 0 (mRet (mC bTuple (aCons eNone aNil)))
def F_changes : FM := mkF 1 1 0 (mRet (mC bTuple (aCons (mC bSortedX (aCons eNone aNil)) aNil)))
def F_check_event : FM := mkF 2 2 0 (mIfS (bNot (bTru (mMeth "is_event" [(3, F_Stage_is_event)] (gv 0) (aCons (gv 1) aNil)))) sNone mNil)
def F_check_range : FM := mkF 2 2 0 (mIfS (toB (mB oGt (mB oSub (gv 1) (gv 0)) (ck (.int 2000)))) sNone mNil)
def F_common_log : FM := mkF 2 1 0 (mRet (mIceD 3 (mMake 2 F_Log___init__ (aCons (mLcL (ilAny (gv 0)) (gN 1) bYes (mC (F_course_of 20) (aCons (gv 1) aNil)) [1]) aNil))))
def F_company_entries : FM := mkF 6 3 0 (mSeq (mEx (mC F_check_range (aCons (gv 1) (aCons (gv 2) aNil)))) (mSeq (mSet 3 (mC F_common_log (aCons (gv 0) aNil))) (mRet (mC bTuple (aCons (mLcL (ilAny (mMeth "between" [(2, F_Log_between)] (gv 3) (aCons (gv 1) (aCons (gv 2) aNil)))) (gT 2 (gsCons (gN 4) (gsCons (gN 5) gsNil))) bYes (mTup (aCons (mB oIx (mFld [2] "owners" (gv 3)) (gv 5)) (aCons (mFld [0] "word" (mB oIx (mFld [2] "strands" (gv 3)) (gv 5))) aNil))) [4, 5]) aNil)))))
def F_foreign : FM := mkF 3 3 0 (mRet (mB oAdd (mMeth "before" [(2, F_Log_before)] (mC F_common_log (aCons (mSl oSl (gv 0) oNo (oSo (gv 1))) aNil)) (aCons (mB oAdd (gv 2) (ck (.int 1))) aNil)) (mMeth "before" [(2, F_Log_before)] (mC F_common_log (aCons (mSl oSl (gv 0) (oSo (mB oAdd (gv 1) (ck (.int 1)))) oNo) aNil)) (aCons (gv 2) aNil))))
def F_company_entry : FM := mkF 6 2 0 (mSeq (mSet 2 (mC F_common_log (aCons (gv 0) aNil))) (mSeq (mIfS (bNot (bTru (mMeth "has" [(2, F_Log_has)] (gv 2) (aCons (gv 1) aNil)))) sNone mNil) (mSeq (mAsg (mMeth "located" [(2, F_Log_located)] (gv 2) (aCons (gv 1) aNil)) (gT 2 (gsCons (gN 3) (gsCons (gN 4) gsNil)))) (mSeq (mSet 5 (mB oIx (mFld [2] "owners" (gv 2)) (gv 4))) (mRet (mTup (aCons (gv 5) (aCons (mB oSub (gv 1) (mC F_foreign (aCons (gv 0) (aCons (gv 5) (aCons (gv 3) aNil))))) (aCons (gv 3) (aCons (mFld [0] "word" (mB oIx (mFld [2] "strands" (gv 2)) (gv 4))) aNil))))))))))
def F_company_number : FM := mkF 4 3 0 (mSeq (mIfS (bNot (bTru (mC F_is_index (aCons (gv 1) (aCons (mC bLen (aCons (gv 0) aNil)) aNil))))) sNone mNil) (mSeq (mSet 3 (mIceD 3 (mMake 2 F_Log___init__ (aCons (mLst (aCons (mC (F_course_of 20) (aCons (mB oIx (gv 0) (gv 1)) aNil)) aNil)) aNil)))) (mSeq (mIfS (bNot (bTru (mMeth "has" [(2, F_Log_has)] (gv 3) (aCons (gv 2) aNil)))) sNone mNil) (mRet (mB oAdd (gv 2) (mC F_foreign (aCons (gv 0) (aCons (gv 1) (aCons (mMeth "round_of" [(2, F_Log_round_of)] (gv 3) (aCons (gv 2) aNil)) aNil)))))))))
def F_in_one_line : FM := mkF 1 1 0 (mRet (mIf (toB (mB oGt (mC bLen (aCons (gv 0) aNil)) (ck (.int 0)))) eNone (ck (.str "-"))))
def F_company_text : FM := mkF 4 2 0 (mRet (mC F_in_one_line (aCons (mLcL (ilAny (mC F_company_entries (aCons eNone (aCons (gv 0) (aCons (gv 1) aNil))))) (gT 2 (gsCons (gN 2) (gsCons (gN 3) gsNil))) bYes (mB oAdd (mB oAdd (mC bStrI (aCons (gv 2) aNil)) (ck (.str ":"))) (gv 3)) [2, 3]) aNil)))
def F_company_total : FM := mkF 1 1 0 (mRet (mMeth "total" [(2, F_Log_total)] (mC F_common_log (aCons (gv 0) aNil)) aNil))
def F_first_steps : FM := mkF 3 1 0 (mSeq (mSet 1 (mNew (aCons (ck (.int 0)) aNil))) (mSeq (mForL (ilAny (mFld [3] "courses" (gv 0))) (gN 2) (mEx (mM okL oApp (gv 1) (aCons (mB oAdd (mB oIx (gv 1) (mU oNeg (ck (.int 1)))) (mC bLen (aCons (gv 2) aNil))) aNil)))) (mRet (mIceD 3 (gv 1)))))
def F_ring_behind : FM := mkF 5 3 0 (mSeq (mForL (ilAny (gv 1)) (gN 3) (mSet 2 (mB oIx (mB oIx (gv 0) (mB oIx (gv 1) (gv 2))) (ck (.int 0))))) (mSeq (mSet 4 (mNew (aCons (mB oIx (gv 1) (gv 2)) aNil))) (mSeq (mWh (toB (mB oNe (mB oIx (mB oIx (gv 0) (mB oIx (gv 4) (mU oNeg (ck (.int 1))))) (ck (.int 0))) (gv 2))) (mEx (mM okL oApp (gv 4) (aCons (mB oIx (gv 1) (mB oIx (mB oIx (gv 0) (mB oIx (gv 4) (mU oNeg (ck (.int 1))))) (ck (.int 0)))) aNil))) 1000) (mRet (mRev (gv 4))))))
def F_least_delays : FM := mkF 10 2 0 (mSeq (mSet 2 (mB oMul (mLst (aCons (ck (.int 0)) aNil)) (gv 0))) (mSeq (mSet 3 (mB oMul (mLst (aCons (ck .non) aNil)) (gv 0))) (mSeq (mForL (ilOf (iRg1 (aCons (mB oAdd (gv 0) (ck (.int 1))) aNil))) (gN 4) (mSeq (mSet 5 (ck .non)) (mSeq (mForL (ilEnA (gv 1)) (gT 2 (gsCons (gN 6) (gsCons (gT 3 (gsCons (gN 7) (gsCons (gN 8) (gsCons (gN 9) gsNil)))) gsNil))) (mIfS (toB (mB oGt (mB oAdd (mB oIx (gv 2) (gv 7)) (gv 9)) (mB oIx (gv 2) (gv 8)))) (mSeq (mAsg (mB oAdd (mB oIx (gv 2) (gv 7)) (gv 9)) (gPut (gv 2) (gv 8))) (mSeq (mAsg (gv 6) (gPut (gv 3) (gv 8))) (mSet 5 (gv 8)))) mNil)) (mIfS (toB (mB oIs (gv 5) (ck .non))) (mRet (mTup (aCons (gv 2) (aCons (ck .non) aNil)))) mNil)))) (mRet (mTup (aCons (ck .non) (aCons (mC F_ring_behind (aCons (gv 1) (aCons (gv 3) (aCons (gv 5) aNil)))) aNil)))))))
def F_solved : FM := mkF 12 2 0 (mSeq (mSet 2 (mC F_first_steps (aCons (gv 0) aNil))) (mSeq (mSet 3 (mNew aNil)) (mSeq (mForL (ilAny (gv 1)) (gN 4) (mSeq (mAsg (mLcL (ilAny (gv 4)) (gT 3 (gsCons (gN 9) (gsCons (gN 10) (gsCons (gN 11) gsNil)))) bYes (mB oAdd (mB oIx (gv 2) (gv 9)) (gv 10)) [9, 10, 11]) (gT 2 (gsCons (gN 5) (gsCons (gN 6) gsNil)))) (mEx (mM okL oApp (gv 3) (aCons (mTup (aCons (gv 5) (aCons (gv 6) (aCons (mMeth "lag" [(3, F_Stage_lag)] (gv 0) (aCons (gv 4) aNil)) aNil)))) aNil))))) (mSeq sNone (mRet (mC F_least_delays (aCons (mB oIx (gv 2) (mU oNeg (ck (.int 1)))) (aCons (gv 3) aNil))))))))
def F_steps_of : FM := mkF 1 1 0 (mSeq (mIfS (toB (mB oEqE (mB oIx (gv 0) (ck (.int 0))) (ck (.str "seq")))) (mRet (mB oIx (gv 0) (ck (.int 1)))) mNil) (mRet (mTup (aCons (gv 0) aNil))))
def F_stage_of : FM := mkF 2 1 0 (mRet (mIceD 3 (mMake 3 F_Stage___init__ (aCons (mLcL (ilAny (gv 0)) (gN 1) bYes (mC F_steps_of (aCons (gv 1) aNil)) [1]) aNil))))
def F_stage_for : FM := mkF 4 2 0 (mSeq (mSet 2 (mC F_stage_of (aCons (gv 0) aNil))) (mSeq (mForL (ilAny (gv 1)) (gN 3) (mIfS (bNot (bTru (mMeth "is_wish" [(3, F_Stage_is_wish)] (gv 2) (aCons (gv 3) aNil)))) sNone mNil)) (mRet (gv 2))))
def F_contradiction : FM := mkF 4 2 0 (mSeq (mSet 2 (mB oIx (mC F_solved (aCons (mC F_stage_for (aCons (gv 0) (aCons (gv 1) aNil))) (aCons (gv 1) aNil))) (ck (.int 1)))) (mSeq (mIfS (toB (mB oIs (gv 2) (ck .non))) (mRet (ck .non)) mNil) (mRet (mC bTuple (aCons (mLcL (ilAny (gv 2)) (gN 3) (toB (mB oLt (gv 3) (mC bLen (aCons (gv 1) aNil)))) (gv 3) [3]) aNil)))))
def F_log_of : FM := mkF 1 1 0 (mRet (mIceD 3 (mMake 2 F_Log___init__ (aCons (mLst (aCons (mC (F_course_of 20) (aCons (gv 0) aNil)) aNil)) aNil))))
def F_count_before : FM := mkF 2 2 0 (mRet (mMeth "before" [(2, F_Log_before)] (mC F_log_of (aCons (gv 0) aNil)) (aCons (gv 1) aNil)))
def F_depth : Nat → FM
  | 0 => fun _ _ => none
  | n + 1 => mkF 2 1 0 (mRet (mB oAdd (ck (.int 1)) (mCK (bBestD maxN) (aCons (mLcL (ilAny (mC F_children (aCons (gv 0) aNil))) (gN 1) bYes (mC (F_depth n) (aCons (gv 1) aNil)) [1]) aNil) (aCons (ck (.int 0)) aNil))))
def F_first_unlike : FM := mkF 5 2 0 (mSeq (mIfS (toB (mB oEqE (gv 0) (gv 1))) (mRet (ck .non)) mNil) (mSeq (mForL (ilEnA eNone) (gT 2 (gsCons (gN 2) (gsCons (gT 2 (gsCons (gN 3) (gsCons (gN 4) gsNil))) gsNil))) (mIfS (toB (mB oNe (gv 3) (gv 4))) (mRet (gv 2)) mNil)) (mRet (mC bMin2 (aCons (mC bLen (aCons (gv 0) aNil)) (aCons (mC bLen (aCons (gv 1) aNil)) aNil))))))
def F_difference : FM := mkF 8 2 0 (mSeq (mSet 2 (mC bSortedX (aCons eNone aNil))) (mSeq (mForL (ilEnA (gv 2)) (gT 2 (gsCons (gN 3) (gsCons (gN 4) gsNil))) (mSeq (mSet 5 (mB oAdd (gv 4) eNone)) (mSeq (mIfS (toB (mB oLt (mB oAdd (gv 3) (ck (.int 1))) (mC bLen (aCons (gv 2) aNil)))) (mSet 5 (mC bMin2 (aCons (gv 5) (aCons (mB oIx (gv 2) (mB oAdd (gv 3) (ck (.int 1)))) aNil)))) mNil) (mForL (ilOf (iRg2 (aCons (gv 4) (aCons (gv 5) aNil)))) (gN 6) (mSeq (mSet 7 (mC F_first_unlike (aCons (mMeth "marked" [(1, F_Course_marked)] (gv 0) (aCons (gv 6) aNil)) (aCons (mMeth "marked" [(1, F_Course_marked)] (gv 1) (aCons (gv 6) aNil)) aNil)))) (mIfS (toB (mB oIsNot (gv 7) (ck .non))) (mRet (mTup (aCons (gv 6) (aCons (gv 7) aNil)))) mNil)))))) (mRet (ck .non))))
def F_entries : FM := mkF 6 3 0 (mSeq (mEx (mC F_check_range (aCons (gv 1) (aCons (gv 2) aNil)))) (mSeq (mSet 3 (mC F_log_of (aCons (gv 0) aNil))) (mRet (mC bTuple (aCons (mLcL (ilAny (mMeth "between" [(2, F_Log_between)] (gv 3) (aCons (gv 1) (aCons (gv 2) aNil)))) (gT 2 (gsCons (gN 4) (gsCons (gN 5) gsNil))) bYes (mFld [0] "word" (mB oIx (mFld [2] "strands" (gv 3)) (gv 5))) [4, 5]) aNil)))))
def F_entry : FM := mkF 5 2 0 (mSeq (mSet 2 (mC F_log_of (aCons (gv 0) aNil))) (mSeq (mIfS (bNot (bTru (mMeth "has" [(2, F_Log_has)] (gv 2) (aCons (gv 1) aNil)))) sNone mNil) (mSeq (mAsg (mMeth "located" [(2, F_Log_located)] (gv 2) (aCons (gv 1) aNil)) (gT 2 (gsCons (gN 3) (gsCons (gN 4) gsNil)))) (mRet (mTup (aCons (gv 3) (aCons (mFld [0] "word" (mB oIx (mFld [2] "strands" (gv 2)) (gv 4))) aNil)))))))
def F_entry_text : FM := mkF 4 2 0 (mSeq (mAsg (mC F_entry (aCons (gv 0) (aCons (gv 1) aNil))) (gT 2 (gsCons (gN 2) (gsCons (gN 3) gsNil)))) (mRet (mB oAdd (mB oAdd (mC bStrI (aCons (gv 2) aNil)) (ck (.str " "))) (gv 3))))
def F_round_with : FM := mkF 3 3 0 (mRet (mB oAdd (mB oIx (mMeth "base_and_rank" [(3, F_Stage_base_and_rank)] (gv 0) (aCons (gv 2) aNil)) (ck (.int 0))) (mC bSum (aCons (mSl oSl (mB oIx (gv 1) (mB oIx (gv 2) (ck (.int 0)))) oNo (oSo (mB oAdd (mB oIx (gv 2) (ck (.int 1))) (ck (.int 1))))) aNil))))
def F_event_round : FM := mkF 4 3 0 (mSeq (mSet 3 (mC F_stage_of (aCons (gv 0) aNil))) (mSeq (mEx (mC F_check_event (aCons (gv 3) (aCons (gv 2) aNil)))) (mRet (mC F_round_with (aCons (gv 3) (aCons (gv 1) (aCons (gv 2) aNil)))))))
def F_small_stage : FM := mkF 2 1 0 (mSeq (mSet 1 (mC F_stage_of (aCons (gv 0) aNil))) (mSeq (mIfS (toB (mB oGt (mMeth "total" [(1, F_Course_total), (2, F_Log_total), (3, F_Stage_total)] (gv 1) aNil) (ck (.int 400)))) sNone mNil) (mSeq (mEx (mMeth "look_up_all" [(3, F_Stage_look_up_all)] (gv 1) aNil)) (mRet (gv 1)))))
def F_events_of : FM := mkF 1 1 0 (mRet (mC bTuple (aCons (mC bSortedX (aCons (mFld [3] "known" (mC F_small_stage (aCons (gv 0) aNil))) aNil)) aNil)))
def F_is_observation : FM := mkF 3 2 0 (mSeq (mIfS (bOr (bNot (bTru (mIsi .tup (gv 1)))) (toB (mB oNe (mC bLen (aCons (gv 1) aNil)) (mMeth "total" [(1, F_Course_total), (2, F_Log_total), (3, F_Stage_total)] (gv 0) aNil)))) (mRet (ck (.bl false))) mNil) (mSeq (mIfS (bNot (bTru (mC bAll (aCons (mLcL (ilAny (gv 1)) (gN 2) bYes (mMeth "is_event" [(3, F_Stage_is_event)] (gv 0) (aCons (gv 2) aNil)) [2]) aNil)))) (mRet (ck (.bl false))) mNil) (mRet (mB oEqE (mC bLen (aCons eNone aNil)) (mC bLen (aCons (gv 1) aNil))))))
def F_least_plan : FM := mkF 6 2 0 (mSeq (mSet 2 (mB oIx (mC F_solved (aCons (gv 0) (aCons (gv 1) aNil))) (ck (.int 0)))) (mSeq (mIfS (toB (mB oIs (gv 2) (ck .non))) (mRet (ck .non)) mNil) (mSeq (mSet 3 (mC F_first_steps (aCons (gv 0) aNil))) (mRet (mC bTuple (aCons eNone aNil))))))
def F_explained : FM := mkF 3 2 0 (mSeq (mSet 2 (mC F_small_stage (aCons (gv 0) aNil))) (mSeq (mIfS (bNot (bTru (mC F_is_observation (aCons (gv 2) (aCons (gv 1) aNil))))) sNone mNil) (mRet (mC F_least_plan (aCons (gv 2) (aCons (mC bList (aCons eNone aNil)) aNil))))))
def F_fewest_awaits : FM := mkF 2 2 0 (mRet (mC F_least_plan (aCons (mC F_stage_for (aCons (gv 0) (aCons (gv 1) aNil))) (aCons (gv 1) aNil))))
def F_finish : FM := mkF 1 1 0 (mRet (mFld [1] "finish" (mC (F_course_of 20) (aCons (gv 0) aNil))))
def F_finish_text : FM := mkF 1 1 0 (mRet (mC bStrI (aCons (mC F_finish (aCons (gv 0) aNil)) aNil)))
def F_first_difference : FM := mkF 2 2 0 (mRet (mC F_difference (aCons (mC (F_course_of 20) (aCons (gv 0) aNil)) (aCons (mC (F_course_of 20) (aCons (gv 1) aNil)) aNil))))
def F_form_that_shows : FM := mkF 3 1 0 (mSeq (mSet 1 (mC bMax2 (aCons (mFld [1] "finish" (gv 0)) (aCons (vOr (mMeth "last_round" [(1, F_Course_last_round)] (gv 0) aNil) (ck (.int 0))) aNil)))) (mSeq (mIfS (toB (mB oGe (gv 1) (ck (.int 24)))) sNone mNil) (mSeq (mIfS (toB (mB oGt (mMeth "total" [(1, F_Course_total)] (gv 0) aNil) (ck (.int 30)))) sNone mNil) (mRet (mTup (aCons (mFld [1] "finish" (gv 0)) (aCons (mC bTuple (aCons (mLcL (ilOf (iRg1 (aCons (mB oAdd (gv 1) (ck (.int 1))) aNil))) (gN 2) bYes (mMeth "marked" [(1, F_Course_marked)] (gv 0) (aCons (gv 2) aNil)) [2]) aNil)) aNil)))))))
def F_shown_course : FM := mkF 9 1 0 (mSeq (mAsg (gv 0) (gT 2 (gsCons (gN 1) (gsCons (gN 2) gsNil)))) (mSeq (mPar 3 4 (aCons (mNew aNil) (aCons (mNew aNil) aNil))) (mSeq (mForL (ilEnA (gv 2)) (gT 2 (gsCons (gN 5) (gsCons (gN 6) gsNil))) (mSeq (mSet 7 (mIf (toB (mB oLt (gv 5) (gv 1))) (mC bLen (aCons (gv 6) aNil)) eNone)) (mSeq (mEx (mM okL oExt (gv 3) (aCons (mLcL (ilAny (mSl oSl (gv 6) oNo (oSo (gv 7)))) (gN 8) bYes (mC F_once (aCons (gv 8) (aCons (gv 5) aNil))) [8]) aNil))) (mEx (mM okL oExt (gv 4) (aCons (mLcL (ilAny (mSl oSl (gv 6) (oSo (mB oAdd (gv 7) (ck (.int 1)))) oNo)) (gN 8) bYes (mC F_once (aCons (gv 8) (aCons (gv 5) aNil))) [8]) aNil)))))) (mRet (mIceD 3 (mMake 1 F_Course___init__ (aCons (gv 1) (aCons (gv 3) (aCons (gv 4) aNil)))))))))
def F_forked : FM := mkF 1 1 0 (mRet (mC F_form_that_shows (aCons (mC F_detached_course (aCons (mC F_shown_course (aCons (gv 0) aNil)) aNil)) aNil)))
def F_form_of : FM := mkF 1 1 0 (mRet (mC F_form_that_shows (aCons (mC (F_course_of 20) (aCons (gv 0) aNil)) aNil)))
def F_is_ahead : FM := mkF 7 4 0 (mSeq (mSet 4 (mC F_stage_of (aCons (gv 0) aNil))) (mSeq (mEx (mC F_check_event (aCons (gv 4) (aCons (gv 2) aNil)))) (mSeq (mEx (mC F_check_event (aCons (gv 4) (aCons (gv 3) aNil)))) (mSeq (mPar 5 6 (aCons (mC F_round_with (aCons (gv 4) (aCons (gv 1) (aCons (gv 2) aNil)))) (aCons (mC F_round_with (aCons (gv 4) (aCons (gv 1) (aCons (gv 3) aNil)))) aNil))) (mSeq (mIfS (toB (mB oNe (gv 5) (gv 6))) (mRet (mB oLt (gv 5) (gv 6))) mNil) (mRet (mB oLt (mB oIx (mMeth "base_and_rank" [(3, F_Stage_base_and_rank)] (gv 4) (aCons (gv 2) aNil)) (ck (.int 1))) (mB oIx (mMeth "base_and_rank" [(3, F_Stage_base_and_rank)] (gv 4) (aCons (gv 3) aNil)) (ck (.int 1))))))))))
def F_is_numeral : FM := mkF 2 1 0 (mSeq (mIfS (bOr (bNot (toB (mCh oLe oLe (ck (.int 1)) (mC bLen (aCons (gv 0) aNil)) (ck (.int 40))))) (bNot (bTru (mC bAll (aCons (mLcL (ilAny (gv 0)) (gN 1) bYes (mCh oLe oLe (ck (.str "0")) (gv 1) (ck (.str "9"))) [1]) aNil))))) (mRet (ck (.bl false))) mNil) (mRet (vOr (mB oEqE (gv 0) (ck (.str "0"))) (mB oNe (mB oIx (gv 0) (ck (.int 0))) (ck (.str "0"))))))
def F_is_company_line : FM := mkF 2 1 0 (mSeq (mIfS (bOr (bNot (toB (mCh oLe oLe (ck (.int 4)) (mC bLen (aCons (gv 0) aNil)) (mB oAdd (ck (.int 3)) (ck (.int 8)))))) (bOr (bNot (bTru (mC F_is_numeral (aCons (mB oIx (gv 0) (ck (.int 1))) aNil)))) (bNot (bTru (mC F_is_numeral (aCons (mB oIx (gv 0) (ck (.int 2))) aNil)))))) (mRet (ck (.bl false))) mNil) (mRet (vAnd (mB oLe (mC bToInt (aCons (mB oIx (gv 0) (ck (.int 1))) aNil)) (mC bToInt (aCons (mB oIx (gv 0) (ck (.int 2))) aNil))) (mC bAll (aCons (mLcL (ilAny (mSl oSl (gv 0) (oSo (ck (.int 3))) oNo)) (gN 1) bYes (mC F_is_word (aCons (gv 1) aNil)) [1]) aNil)))))
def F_is_kind : FM := mkF 2 2 0 (mRet (mIf (toB (mB oEqE (gv 1) (ck (.str "name")))) (mC F_is_word (aCons (gv 0) aNil)) (mC F_is_numeral (aCons (gv 0) aNil))))
def F_is_line : FM := mkF 5 1 0 (mSeq (mIfS (bNot (bTru (mIsi .str (gv 0)))) (mRet (ck (.bl false))) mNil) (mSeq (mSet 1 eNone) (mSeq (mIfS (toB (mB oEqE (mB oIx (gv 1) (ck (.int 0))) (ck (.str "let")))) (mRet (vAnd (mB oGt (mC bLen (aCons (gv 1) aNil)) (ck (.int 2))) (mC F_is_word (aCons (mB oIx (gv 1) (ck (.int 1))) aNil)))) mNil) (mSeq (mIfS (toB (mB oEqE (mB oIx (gv 1) (ck (.int 0))) (ck (.str "company")))) (mRet (mC F_is_company_line (aCons (gv 1) aNil))) mNil) (mSeq (mIfS (toB (mB oNotIn (mB oIx (gv 1) (ck (.int 0))) eNone)) (mRet (ck (.bl false))) mNil) (mSeq (mSet 2 (mB oIx eNone (mB oIx (gv 1) (ck (.int 0))))) (mRet (vAnd (mB oEqE (mC bLen (aCons (gv 1) aNil)) (mB oAdd (mC bLen (aCons (gv 2) aNil)) (ck (.int 1)))) (mC bAll (aCons eNone aNil))))))))))
def F_is_row : FM := mkF 3 2 0 (mRet (vAnd (mIsi .tup (gv 0)) (vAnd (mB oEqE (mC bLen (aCons (gv 0) aNil)) (gv 1)) (mC bAll (aCons (mLcL (ilAny (gv 0)) (gN 2) bYes (mC F_is_number (aCons (gv 2) aNil)) [2]) aNil)))))
def F_joined : FM := mkF 2 1 0 (mRet (mC F_form_that_shows (aCons (mC F_joined_course (aCons (mLcL (ilAny (gv 0)) (gN 1) bYes (mC F_shown_course (aCons (gv 1) aNil)) [1]) aNil)) aNil)))
def F_lag : FM := mkF 3 2 0 (mSeq (mSet 2 (mC F_stage_of (aCons (gv 0) aNil))) (mSeq (mIfS (bNot (bTru (mMeth "is_wish" [(3, F_Stage_is_wish)] (gv 2) (aCons (gv 1) aNil)))) sNone mNil) (mRet (mMeth "lag" [(3, F_Stage_lag)] (gv 2) (aCons (gv 1) aNil)))))
def F_last_round : FM := mkF 1 1 0 (mRet (mMeth "last_round" [(1, F_Course_last_round)] (mC (F_course_of 20) (aCons (gv 0) aNil)) aNil))
def F_leads_on : FM := mkF 2 2 0 (mRet (vAnd (mB oEqE (mB oIx (mB oIx (gv 0) (ck (.int 1))) (ck (.int 0))) (mB oIx (mB oIx (gv 1) (ck (.int 0))) (ck (.int 0)))) (mB oLe (mB oIx (mB oIx (gv 0) (ck (.int 1))) (ck (.int 1))) (mB oIx (mB oIx (gv 1) (ck (.int 0))) (ck (.int 1))))))
def F_logged_words : Nat → FM
  | 0 => fun _ _ => none
  | n + 1 => mkF 3 1 0 (mSeq (mIfS (toB (mB oEqE (mB oIx (gv 0) (ck (.int 0))) (ck (.str "log")))) (mRet (mLst (aCons (mB oIx (gv 0) (ck (.int 1))) aNil))) mNil) (mRet (mLc2L (ilAny (mC F_children (aCons (gv 0) aNil))) (gN 1) bYes (iAny (mC (F_logged_words n) (aCons (gv 1) aNil))) (gN 2) bYes (gv 2) [1, 2] [2])))
def F_marked : FM := mkF 2 2 0 (mRet (mMeth "marked" [(1, F_Course_marked)] (mC (F_course_of 20) (aCons (gv 0) aNil)) (aCons (gv 1) aNil)))
def F_marked_log : FM := mkF 5 2 0 (mSeq (mAsg (gv 1) (gT 2 (gsCons (gN 2) (gsCons (gN 3) gsNil)))) (mSeq (mSet 4 (mNew (aCons (gv 0) aNil))) (mSeq (mIfS (toB (mB oIsNot (gv 2) (ck .non))) (mSet 4 (mNew (aCons (mC F_turned_course (aCons (mLst (aCons (gv 0) (aCons (mC F_silent_course (aCons (gv 2) aNil)) (aCons (mC F_word_course (aCons (ck (.int 0)) aNil)) aNil)))) aNil)) aNil))) mNil) (mSeq (mIfS (toB (mB oIsNot (gv 3) (ck .non))) (mEx (mM okL oApp (gv 4) (aCons (mC F_turned_course (aCons (mLst (aCons (mC F_silent_course (aCons (gv 3) aNil)) (aCons (mC F_word_course (aCons (ck (.int 1)) aNil)) aNil))) aNil)) aNil))) mNil) (mRet (mIceD 3 (mMake 2 F_Log___init__ (aCons (gv 4) aNil))))))))
def F_node_count : Nat → FM
  | 0 => fun _ _ => none
  | n + 1 => mkF 2 1 0 (mRet (mB oAdd (ck (.int 1)) (mC bSum (aCons (mLcL (ilAny (mC F_children (aCons (gv 0) aNil))) (gN 1) bYes (mC (F_node_count n) (aCons (gv 1) aNil)) [1]) aNil))))
def F_observed : FM := mkF 6 2 0 (mSeq (mSet 2 (mC F_small_stage (aCons (gv 0) aNil))) (mSeq (mIfS (bNot (bTru (mMeth "is_plan" [(3, F_Stage_is_plan)] (gv 2) (aCons (gv 1) aNil)))) sNone mNil) (mSeq (mSet 3 (mLcL (ilAny (mFld [3] "known" (gv 2))) (gN 4) bYes (mTup (aCons (mC F_round_with (aCons (gv 2) (aCons (gv 1) (aCons (gv 4) aNil)))) (aCons (mB oIx (mMeth "base_and_rank" [(3, F_Stage_base_and_rank)] (gv 2) (aCons (gv 4) aNil)) (ck (.int 1))) (aCons (gv 4) aNil)))) [4])) (mRet (mC bTuple (aCons (mLcL (ilAny (mC bSortedX (aCons (gv 3) aNil))) (gT 3 (gsCons (gN 5) (gsCons (gN 5) (gsCons (gN 4) gsNil)))) bYes (gv 4) [5, 4]) aNil))))))
def F_one_seq : FM := mkF 2 1 0 (mSeq (mWh (toB (mB oGt (mC bLen (aCons (gv 0) aNil)) (ck (.int 12)))) (mSet 0 (mLcL (ilOf (iRg3 (aCons (ck (.int 0)) (aCons (mC bLen (aCons (gv 0) aNil)) (aCons (ck (.int 12)) aNil))))) (gN 1) bYes (mTup (aCons (ck (.str "seq")) (aCons (mC bTuple (aCons (mSl oSl (gv 0) (oSo (gv 1)) (oSo (mB oAdd (gv 1) (ck (.int 12))))) aNil)) aNil))) [1])) 10) (mRet (mTup (aCons (ck (.str "seq")) (aCons (mC bTuple (aCons (gv 0) aNil)) aNil)))))
def F_one_chain : FM := mkF 4 1 0 (mSeq (mSet 1 (mNew aNil)) (mSeq (mSet 2 (ck (.int 0))) (mSeq (mForL (ilAny (gv 0)) (gN 3) (mSeq (mIfS (toB (mB oGt (mFld [0] "first" (gv 3)) (gv 2))) (mSeq (mEx (mM okL oApp (gv 1) (aCons (mTup (aCons (ck (.str "await")) (aCons (mB oSub (mFld [0] "first" (gv 3)) (gv 2)) aNil))) aNil))) (mSet 2 (mFld [0] "first" (gv 3)))) mNil) (mEx (mM okL oApp (gv 1) (aCons (mTup (aCons (ck (.str "log")) (aCons (mFld [0] "word" (gv 3)) aNil))) aNil))))) (mRet (mC F_one_seq (aCons (gv 1) aNil))))))
def F_part_at : FM := mkF 5 2 0 (mSeq (mIfS (bNot (bTru (mIsi .tup (gv 1)))) sNone mNil) (mSeq (mSet 2 (gv 0)) (mSeq (mForL (ilAny (gv 1)) (gN 3) (mSeq (mSet 4 (mC F_children (aCons (gv 2) aNil))) (mSeq (mIfS (bOr (bNot (bTru (mC F_is_integer (aCons (gv 3) aNil)))) (bNot (toB (mCh oLe oLt (ck (.int 0)) (gv 3) (mC bLen (aCons (gv 4) aNil)))))) sNone mNil) (mSet 2 (mB oIx (gv 4) (gv 3)))))) (mRet (gv 2)))))
def F_places : Nat → FM
  | 0 => fun _ _ => none
  | n + 1 => mkF 5 1 0 (mSeq (mSet 1 (mNew (aCons (mTup aNil) aNil))) (mSeq (mForL (ilEnA (mC F_children (aCons (gv 0) aNil))) (gT 2 (gsCons (gN 2) (gsCons (gN 3) gsNil))) (mEx (mM okL oExt (gv 1) (aCons (mLcL (ilAny (mC (F_places n) (aCons (gv 3) aNil))) (gN 4) bYes (mTup (aCons (gv 2) (aStar (gv 4) aNil))) [4]) aNil)))) (mRet (mC bTuple (aCons (gv 1) aNil)))))
def F_planned : FM := mkF 4 2 0 (mSeq (mIfS (bNot (bTru (mMeth "is_plan" [(3, F_Stage_is_plan)] (mC F_stage_of (aCons (gv 0) aNil)) (aCons (gv 1) aNil)))) sNone mNil) (mRet (mC bTuple (aCons eNone aNil))))
def F_program_of : FM := mkF 4 1 0 (mSeq (mSet 1 (mC F_shown_course (aCons (gv 0) aNil))) (mSeq (mSet 2 (mNew (aCons (mTup (aCons (ck (.str "fork")) (aCons (mC F_one_chain (aCons (mFld [1] "ahead" (gv 1)) aNil)) aNil))) aNil))) (mSeq (mIfS (toB (mB oGt (mFld [1] "finish" (gv 1)) (ck (.int 0)))) (mEx (mM okL oApp (gv 2) (aCons (mTup (aCons (ck (.str "await")) (aCons (mFld [1] "finish" (gv 1)) aNil))) aNil))) mNil) (mSeq (mSet 3 (mTup (aCons (ck (.str "seq")) (aCons (mC bTuple (aCons (gv 2) aNil)) aNil)))) (mSeq (mIfS (bNot (bTru (mFld [1] "behind" (gv 1)))) (mRet (gv 3)) mNil) (mRet (mTup (aCons (ck (.str "race")) (aCons (mTup (aCons (gv 3) (aCons (mC F_one_chain (aCons (mFld [1] "behind" (gv 1)) aNil)) aNil))) aNil)))))))))
def F_show_program : Nat → FM
  | 0 => fun _ _ => none
  | n + 1 => mkF 3 1 0 (mSeq (mSet 1 (mB oIx (gv 0) (ck (.int 0)))) (mSeq (mIfS (toB (mB oEqE (gv 1) (ck (.str "log")))) (mRet (mB oAdd (ck (.str "log ")) (mB oIx (gv 0) (ck (.int 1))))) mNil) (mSeq (mIfS (toB (mB oEqE (gv 1) (ck (.str "await")))) (mRet (mB oAdd (ck (.str "await ")) (mC bStrI (aCons (mB oIx (gv 0) (ck (.int 1))) aNil)))) mNil) (mSeq (mIfS (toB (mB oEqE (gv 1) (ck (.str "loop")))) (mRet (mB oAdd (mB oAdd (mB oAdd (ck (.str "loop ")) (mC bStrI (aCons (mB oIx (gv 0) (ck (.int 1))) aNil))) (ck (.str " "))) (mC (F_show_program n) (aCons (mB oIx (gv 0) (ck (.int 2))) aNil)))) mNil) (mRet (mB oAdd (mB oAdd (mB oAdd (gv 1) (ck (.str "("))) eNone) (ck (.str ")"))))))))
def F_program_text : FM := mkF 1 1 0 (mRet (mC (F_show_program 20) (aCons (gv 0) aNil)))
def F_raced : FM := mkF 2 1 0 (mRet (mC F_form_that_shows (aCons (mC F_raced_course (aCons (mLcL (ilAny (gv 0)) (gN 1) bYes (mC F_shown_course (aCons (gv 1) aNil)) [1]) aNil)) aNil)))
def F_read_line : FM := mkF 2 2 0 sNone
def F_read_company : FM := mkF 4 1 0 (mSeq (mIfS (bNot (bTru (mIsi .str (gv 0)))) sNone mNil) (mSeq (mSet 1 (mNew aNil)) (mSeq (mForL (ilEnA eNone) (gT 2 (gsCons (gN 2) (gsCons (gN 3) gsNil))) (mSeq (mIfS (toB (mB oEqE (gv 2) (ck (.int 8)))) sNone mNil) (mEx (mM okL oApp (gv 1) (aCons (mC F_read_line (aCons (gv 3) (aCons (gv 2) aNil))) aNil))))) (mRet (mC bTuple (aCons (gv 1) aNil))))))
def F_renamed : Nat → FM
  | 0 => fun _ _ => none
  | n + 1 => mkF 3 2 0 (mSeq (mIfS (toB (mB oEqE (mB oIx (gv 0) (ck (.int 0))) (ck (.str "log")))) (mRet (mTup (aCons (ck (.str "log")) (aCons eNone aNil)))) mNil) (mRet (mC F_with_children (aCons (gv 0) (aCons (mC bTuple (aCons (mLcL (ilAny (mC F_children (aCons (gv 0) aNil))) (gN 2) bYes (mC (F_renamed n) (aCons (gv 2) (aCons (gv 1) aNil))) [2]) aNil)) aNil)))))
def F_repeated : FM := mkF 2 2 0 (mRet (mC F_form_that_shows (aCons (mC F_repeated_course (aCons (mC F_shown_course (aCons (gv 0) aNil)) (aCons (gv 1) aNil))) aNil)))
def F_with_part : Nat → FM
  | 0 => fun _ _ => none
  | n + 1 => mkF 4 3 0 (mSeq (mIfS (toB (mB oEqE (gv 1) (mTup aNil))) (mRet (gv 2)) mNil) (mSeq (mSet 3 (mC bListN (aCons (mC F_children (aCons (gv 0) aNil)) aNil))) (mSeq (mAsg (mC (F_with_part n) (aCons (mB oIx (gv 3) (mB oIx (gv 1) (ck (.int 0)))) (aCons (mSl oSl (gv 1) (oSo (ck (.int 1))) oNo) (aCons (gv 2) aNil)))) (gPut (gv 3) (mB oIx (gv 1) (ck (.int 0))))) (mRet (mC F_with_children (aCons (gv 0) (aCons (mC bTuple (aCons (gv 3) aNil)) aNil)))))))
def F_replaced : FM := mkF 4 3 0 (mSeq (mEx (mC F_part_at (aCons (gv 0) (aCons (gv 1) aNil)))) (mSeq (mSet 3 (mC (F_with_part 20) (aCons (gv 0) (aCons (gv 1) (aCons (gv 2) aNil))))) (mSeq (mIfS (bNot (bTru (mC F_is_program (aCons (gv 3) aNil)))) sNone mNil) (mRet (gv 3)))))
def F_round_text : FM := mkF 3 2 0 (mRet (mC F_in_one_line (aCons (mLcL (ilAny (mC F_marked (aCons (gv 0) (aCons (gv 1) aNil)))) (gN 2) bYes (mIf (toB (mB oIs (gv 2) (ck .non))) (ck (.str "_")) (gv 2)) [2]) aNil)))
def F_same : FM := mkF 2 2 0 (mRet (mB oIs (mC F_first_difference (aCons (gv 0) (aCons (gv 1) aNil))) (ck .non)))
def F_same_text : FM := mkF 3 2 0 (mSeq (mSet 2 (mC F_first_difference (aCons (gv 0) (aCons (gv 1) aNil)))) (mSeq (mIfS (toB (mB oIs (gv 2) (ck .non))) (mRet (ck (.str "yes"))) mNil) (mRet (mB oAdd (mB oAdd (mB oAdd (ck (.str "no ")) (mC bStrI (aCons (mB oIx (gv 2) (ck (.int 0))) aNil))) (ck (.str " "))) (mC bStrI (aCons (mB oIx (gv 2) (ck (.int 1))) aNil))))))
def F_show_company : FM := mkF 2 1 0 (mRet eNone)
def F_shows_contradiction : FM := mkF 9 3 0 (mSeq (mSet 3 (mC F_stage_for (aCons (gv 0) (aCons (gv 1) aNil)))) (mSeq (mIfS (bOr (bNot (bTru (mIsi .tup (gv 2)))) (toB (mB oEqE (gv 2) (mTup aNil)))) (mRet (ck (.bl false))) mNil) (mSeq (mIfS (bNot (bTru (mC bAll (aCons (mLcL (ilAny (gv 2)) (gN 5) bYes (mC F_is_index (aCons (gv 5) (aCons (mC bLen (aCons (gv 1) aNil)) aNil))) [5]) aNil)))) (mRet (ck (.bl false))) mNil) (mSeq (mSet 4 (mLcL (ilAny (gv 2)) (gN 5) bYes (mB oIx (gv 1) (gv 5)) [5])) (mSeq (mIfS (bNot (bTru (mC bAll (aCons eNone aNil)))) (mRet (ck (.bl false))) mNil) (mRet (mB oGt (mC bSum (aCons (mLcL (ilAny (gv 4)) (gN 8) bYes (mMeth "lag" [(3, F_Stage_lag)] (gv 3) (aCons (gv 8) aNil)) [8]) aNil)) (ck (.int 0)))))))))
def F_teller : FM := mkF 9 2 0 (mSeq (mPar 2 3 (aCons (mC (F_course_of 20) (aCons (gv 0) aNil)) (aCons (mC (F_course_of 20) (aCons (gv 1) aNil)) aNil))) (mSeq (mSet 4 (mC F_difference (aCons (gv 2) (aCons (gv 3) aNil)))) (mSeq (mIfS (toB (mB oIs (gv 4) (ck .non))) (mRet (ck .non)) mNil) (mSeq (mAsg (gv 4) (gT 2 (gsCons (gN 5) (gsCons (gN 6) gsNil)))) (mSeq (mSet 7 (mC bMin2 (aCons (mFld [1] "finish" (gv 2)) (aCons (mFld [1] "finish" (gv 3)) aNil)))) (mSeq (mSet 8 (mIf (toB (mB oLe (gv 7) (gv 5))) (mB oSub (gv 5) (gv 7)) (ck .non))) (mRet (mTup (aCons (mTup (aCons (gv 8) (aCons (gv 5) aNil))) (aCons (mB oAdd (mMeth "before" [(0, F_Strand_before), (2, F_Log_before)] (mIceD 3 (mMake 2 F_Log___init__ (aCons (mLst (aCons (gv 2) aNil)) aNil))) (aCons (gv 5) aNil)) (gv 6)) aNil))))))))))
def F_test_entry : FM := mkF 4 3 0 (mSeq (mSet 3 (mC F_marked_log (aCons (mC (F_course_of 20) (aCons (gv 0) aNil)) (aCons (gv 1) aNil)))) (mSeq (mIfS (bNot (bTru (mMeth "has" [(2, F_Log_has)] (gv 3) (aCons (gv 2) aNil)))) (mRet (ck .non)) mNil) (mRet (mFld [0] "word" (mB oIx (mFld [2] "strands" (gv 3)) (mB oIx (mMeth "located" [(2, F_Log_located)] (gv 3) (aCons (gv 2) aNil)) (ck (.int 1))))))))
def F_then : FM := mkF 2 2 0 (mRet (mC F_form_that_shows (aCons (mC F_turned_course (aCons (mLst (aCons (mC F_shown_course (aCons (gv 0) aNil)) (aCons (mC F_shown_course (aCons (gv 1) aNil)) aNil))) aNil)) aNil)))
def F_total : FM := mkF 1 1 0 (mRet (mMeth "total" [(2, F_Log_total)] (mC F_log_of (aCons (gv 0) aNil)) aNil))
def F_total_text : FM := mkF 1 1 0 (mRet (mC bStrI (aCons (mC F_total (aCons (gv 0) aNil)) aNil)))
def F_with_awaits : FM := mkF 5 2 0 (mSeq (mIfS (bNot (bTru (mC bAny (aCons (gv 1) aNil)))) (mRet (gv 0)) mNil) (mSeq (mSet 2 (mNew aNil)) (mSeq sNone (mRet (mTup (aCons (ck (.str "seq")) (aCons (mC bTuple (aCons (gv 2) aNil)) aNil)))))))
def F_words_in : FM := mkF 3 2 0 (mRet (mC bTuple (aCons (mLcL (ilAny (mC F_marked (aCons (gv 0) (aCons (gv 1) aNil)))) (gN 2) (toB (mB oIsNot (gv 2) (ck .non))) (gv 2) [2]) aNil)))
def F_words_of : FM := mkF 1 1 0 (mRet (mC bTuple (aCons (mC bSortedX (aCons eNone aNil)) aNil)))
end SH

end
section
set_option Elab.async false
set_option linter.all false
set_option maxRecDepth 100000
set_option autoImplicit false
namespace Z
open PySem PySem.Spec L2
/-! ### what a mirror does, step by step -/
@[simp] theorem e_mFldS {cs : List Nat} {f : Str} {o v : EM} {σ : Slo} {st : Sto} : mFldS cs f o v σ st = (v σ st).bind fun p => (o σ p.2).bind fun q => (oFldS cs f p.1 q.1 q.2).bind fun r => some (.nx, σ, r) := rfl
@[simp] theorem e_mFld {cs : List Nat} {f : Str} {o : EM} {σ : Slo} {st : Sto} : mFld cs f o σ st = (o σ st).bind fun p => oFld cs f p.1 p.2 := rfl
@[simp] theorem e_mMake {c : Nat} {m : FM} {a : Ev (List D)} {σ : Slo} {st : Sto} : mMake c m a σ st = (a σ st).bind fun p => (m (.ref p.2.length :: p.1) (p.2 ++ [.obj c [] []])).bind fun r => match r.1 with
  | .non => some (.ref p.2.length, r.2)
  | _ => none := rfl
@[simp] theorem e_mIceD {n : Nat} {a : EM} {σ : Slo} {st : Sto} : mIceD n a σ st = (a σ st).bind fun p => iceD n p.1 p.2 := rfl
@[simp] theorem e_mMeth {nm : Str} {tbl : List (Nat × FM)} {o : EM} {a : Ev (List D)} {σ : Slo} {st : Sto} : mMeth nm tbl o a σ st = (o σ st).bind fun p => (clsD p.1 p.2).bind fun q => if (q.2.all fun n => !(nm == n)) = true then (tbl.lookup q.1).bind fun F => (a σ p.2).bind fun r => F (p.1 :: r.1) r.2 else none := rfl
@[simp] theorem e_aStar {a : EM} {r : Ev (List D)} {σ : Slo} {st : Sto} : aStar a r σ st = (a σ st).bind fun p => (vS p.1 p.2).bind fun ds => (r σ p.2).bind fun q => some (ds ++ q.1, q.2) := rfl
@[simp] theorem e_mPar {i j : Nat} {a : Ev (List D)} {σ : Slo} {st : Sto} : mPar i j a σ st = (a σ st).bind fun p => match p.1 with
  | [x, y] => some (.nx, (σ.set i (some x)).set j (some y), p.2)
  | _ => none := rfl
@[simp] theorem e_mCK {m : List D → List D → Sto → Option (D × Sto)} {a b : Ev (List D)} {σ : Slo} {st : Sto} : mCK m a b σ st = (a σ st).bind fun p => (b σ p.2).bind fun q => m p.1 q.1 q.2 := rfl
@[simp] theorem e_mM {ok : D → Sto → Bool} {m : D → List D → Sto → Option (D × Sto)} {o : EM} {a : Ev (List D)} {σ : Slo} {st : Sto} : mM ok m o a σ st = (o σ st).bind fun p => if ok p.1 p.2 = true then (a σ p.2).bind fun q => m p.1 q.1 q.2 else none := rfl
@[simp] theorem e_gT {n : Nat} {r : List D → Slo → Sto → Option (Slo × Sto)} {ds : List D} {σ : Slo} {st : Sto} (h : ds.length = n) : gT n r (.tup ds) σ st = r ds σ st := by
  simp [gT, h]
@[simp] theorem e_gsNil {σ : Slo} {st : Sto} : gsNil [] σ st = some (σ, st) := rfl
@[simp] theorem e_gsCons {a : GM} {r : List D → Slo → Sto → Option (Slo × Sto)} {d : D} {ds : List D} {σ : Slo} {st : Sto} : gsCons a r (d :: ds) σ st = (a d σ st).bind fun p => r ds p.1 p.2 := rfl
theorem snoc_get {st : Sto} {o : O} : (st ++ [o])[st.length]? = some o := by
  rw [List.getElem?_append_right (Nat.le_refl _), Nat.sub_self]; rfl
theorem snoc_set {st : Sto} {o p : O} : (st ++ [o]).set st.length p = st ++ [p] := by
  rw [List.set_append_right _ _ (Nat.le_refl _), Nat.sub_self]; rfl
theorem fldS_new {st : Sto} {c : Nat} {cs : List Nat} {ns : List Str} {vs : List D} {f : Str} {x : D} (hc : cs.contains c = true) (hn : ns.length < 1000) :
    oFldS cs f x (.ref st.length) (st ++ [.obj c ns vs]) = some (st ++ [.obj c (putFN f ns) (putFD f x ns vs)]) := by
  have : (cs.contains c && decide (ns.length < 1000)) = true := by rw [hc, decide_eq_true hn]; rfl
  simp only [oFldS, snoc_get, if_pos this, snoc_set]
theorem comp_map {gm : GM} {mc : Ev Bool} {me : EM} {σ : Slo} {st : Sto} (p : D → Bool) (f : D → D) : ∀ ds : List D, (∀ d ∈ ds, ∃ σ', gm d σ st = some (σ', st) ∧ mc σ' st = some (p d, st) ∧ (p d = true → me σ' st = some (f d, st))) → mComp gm mc me σ ds st = some ((ds.filter p).map f, st)
  | [], _ => rfl
  | d :: ds, h => by
    obtain ⟨σ', h1, h2, h3⟩ := h d List.mem_cons_self
    have ih := comp_map p f ds fun x hx => h x (List.mem_cons_of_mem _ hx)
    cases hp : p d with
    | true =>
      have h4 := h3 hp
      rw [hp] at h2
      simp [mComp, h1, h2, h4, ih, hp]
    | false =>
      rw [hp] at h2
      simp [mComp, h1, h2, ih, hp]
/-- a comprehension over what is coded, whose turns change nothing -/
theorem comp_enc {α : Type} {gm : GM} {mc : Ev Bool} {me : EM} {σ : Slo} {st : Sto} (enc : α → D) (p : α → Bool) (f : α → D) : ∀ xs : List α, (∀ x ∈ xs, ∃ σ', gm (enc x) σ st = some (σ', st) ∧ mc σ' st = some (p x, st) ∧ (p x = true → me σ' st = some (f x, st))) → mComp gm mc me σ (xs.map enc) st = some ((xs.filter p).map f, st)
  | [], _ => rfl
  | d :: ds, h => by
    obtain ⟨σ', h1, h2, h3⟩ := h d List.mem_cons_self
    have ih := comp_enc enc p f ds fun x hx => h x (List.mem_cons_of_mem _ hx)
    cases hp : p d with
    | true =>
      have h4 := h3 hp
      rw [hp] at h2
      simp [mComp, h1, h2, h4, ih, hp]
    | false =>
      rw [hp] at h2
      simp [mComp, h1, h2, ih, hp]
theorem comp_enc1 {α : Type} {gm : GM} {me : EM} {σ : Slo} {st : Sto} (enc : α → D) (f : α → D) (xs : List α) (h : ∀ x ∈ xs, ∃ σ', gm (enc x) σ st = some (σ', st) ∧ me σ' st = some (f x, st)) : mComp gm bYes me σ (xs.map enc) st = some (xs.map f, st) := by
  have := comp_enc (mc := bYes) enc (fun _ => true) f xs fun d hd => let ⟨s, a, b⟩ := h d hd; ⟨s, a, rfl, fun _ => b⟩
  rw [this, List.filter_eq_self.mpr fun _ _ => rfl]
/-- [e for x in xs] over a list or tuple of what is coded -/
theorem lc_enc {α : Type} {it : EvL} {gm : GM} {me : EM} {vs : List Nat} {σ : Slo} {st st1 : Sto} (enc : α → D) (f : α → D) (xs : List α) (hi : it σ st = some ((xs.map enc, some), st1)) (h : ∀ x ∈ xs, ∃ σ', gm (enc x) (wipeD σ vs) st1 = some (σ', st1) ∧ me σ' st1 = some (f x, st1)) (hl : xs.length ≤ sizeLine) :
    mLcL it gm bYes me vs σ st = some (.lst (xs.map f), st1) := by
  have := comp_enc1 enc f xs h
  simp [mLcL, hi, this, hl]
theorem lc_encF {α : Type} {it : EvL} {gm : GM} {mc : Ev Bool} {me : EM} {vs : List Nat} {σ : Slo} {st st1 : Sto} (enc : α → D) (p : α → Bool) (f : α → D) (xs : List α) (hi : it σ st = some ((xs.map enc, some), st1)) (h : ∀ x ∈ xs, ∃ σ', gm (enc x) (wipeD σ vs) st1 = some (σ', st1) ∧ mc σ' st1 = some (p x, st1) ∧ (p x = true → me σ' st1 = some (f x, st1))) (hl : xs.length ≤ sizeLine) :
    mLcL it gm mc me vs σ st = some (.lst ((xs.filter p).map f), st1) := by
  have := comp_enc enc p f xs h
  have hl2 : (xs.filter p).length ≤ sizeLine := Nat.le_trans (List.length_filter_le _ _) hl
  simp [mLcL, hi, this, hl2]
/-- a loop over what is coded, by an invariant of what has been folded -/
theorem for_enc {α β : Type} {g : GM} {b : SM} (enc : α → D) (f : β → α → β) (I : β → Slo → Sto → Prop) : ∀ (xs : List α) (a : β) (σ : Slo) (st : Sto), I a σ st →
    (∀ x ∈ xs, ∀ a σ st, I a σ st → ∃ σ1 st1 σ2 st2, g (enc x) σ st = some (σ1, st1) ∧ b σ1 st1 = some (.nx, σ2, st2) ∧ I (f a x) σ2 st2) →
    ∃ σ' st', mFor g b (xs.map enc) σ st = some (.nx, σ', st') ∧ I (xs.foldl f a) σ' st'
  | [], a, σ, st, h, _ => ⟨σ, st, rfl, h⟩
  | x :: xs, a, σ, st, h, step => by
    obtain ⟨σ1, st1, σ2, st2, h1, h2, h3⟩ := step x List.mem_cons_self a σ st h
    obtain ⟨σ', st', h4, h5⟩ := for_enc enc f I xs (f a x) σ2 st2 h3 fun y hy => step y (List.mem_cons_of_mem _ hy)
    exact ⟨σ', st', by simp [mFor, h1, h2, h4], h5⟩
/-- .. by an invariant that also speaks of what is left -/
theorem for_run {α β : Type} {g : GM} {b : SM} (enc : α → D) (f : β → α → β) (I : List α → β → Slo → Sto → Prop)
    (step : ∀ x xs a σ st, I (x :: xs) a σ st → ∃ σ1 st1 σ2 st2, g (enc x) σ st = some (σ1, st1) ∧ b σ1 st1 = some (.nx, σ2, st2) ∧ I xs (f a x) σ2 st2) : ∀ (xs : List α) (a : β) (σ : Slo) (st : Sto), I xs a σ st →
    ∃ σ' st', mFor g b (xs.map enc) σ st = some (.nx, σ', st') ∧ I [] (xs.foldl f a) σ' st'
  | [], a, σ, st, h => ⟨σ, st, rfl, h⟩
  | x :: xs, a, σ, st, h => by
    obtain ⟨σ1, st1, σ2, st2, h1, h2, h3⟩ := step x xs a σ st h
    obtain ⟨σ', st', h4, h5⟩ := for_run enc f I step xs (f a x) σ2 st2 h3
    exact ⟨σ', st', by simp [mFor, h1, h2, h4], h5⟩
@[simp] theorem e_mForL {it : EvL} {g : GM} {b : SM} {σ : Slo} {st : Sto} : mForL it g b σ st = (it σ st).bind fun p => (mFor g b p.1.1 σ p.2).bind fun r => (p.1.2 r.2.2).bind fun s => some (r.1, r.2.1, s) := rfl
end Z

end
section
set_option Elab.async false
set_option linter.all false
set_option maxRecDepth 100000
set_option autoImplicit false
set_option exponentiation.threshold 5000
namespace T
open PySem PySem.Spec L2 Z
/-! ### programs -/
inductive Pg where
  | log (w : Str) | aw (n : Int) | seq (ps : List Pg) | fork (p : Pg) | join (ps : List Pg) | race (ps : List Pg) | loop (n : Int) (b : Pg)
mutual
def enc : Pg → D
  | .log w => .tup [.str "log", .str w]
  | .aw n => .tup [.str "await", .int n]
  | .seq ps => .tup [.str "seq", .tup (encs ps)]
  | .fork p => .tup [.str "fork", enc p]
  | .join ps => .tup [.str "join", .tup (encs ps)]
  | .race ps => .tup [.str "race", .tup (encs ps)]
  | .loop n b => .tup [.str "loop", .int n, enc b]
def encs : List Pg → List D
  | [] => []
  | p :: ps => enc p :: encs ps
end
theorem encs_map : ∀ ps : List Pg, encs ps = ps.map enc
  | [] => rfl
  | p :: ps => by show enc p :: encs ps = _; rw [encs_map ps]; rfl
mutual
def nodes : Pg → Nat
  | .log _ => 1
  | .aw _ => 1
  | .seq ps => 1 + nodess ps
  | .fork p => 1 + nodes p
  | .join ps => 1 + nodess ps
  | .race ps => 1 + nodess ps
  | .loop _ b => 1 + nodes b
def nodess : List Pg → Nat
  | [] => 0
  | p :: ps => nodes p + nodess ps
end
mutual
def dep : Pg → Nat
  | .log _ => 1
  | .aw _ => 1
  | .seq ps => 1 + deps ps
  | .fork p => 1 + dep p
  | .join ps => 1 + deps ps
  | .race ps => 1 + deps ps
  | .loop _ b => 1 + dep b
def deps : List Pg → Nat
  | [] => 0
  | p :: ps => max (dep p) (deps ps)
end
theorem nodes_pos : ∀ p : Pg, 1 ≤ nodes p
  | .log _ => Nat.le_refl _
  | .aw _ => Nat.le_refl _
  | .seq ps => by simp [nodes]
  | .fork p => by simp [nodes]
  | .join ps => by simp [nodes]
  | .race ps => by simp [nodes]
  | .loop _ b => by simp [nodes]
theorem nodess_mem : ∀ {ps : List Pg} {p : Pg}, p ∈ ps → nodes p ≤ nodess ps
  | [], _, h => by cases h
  | q :: ps, p, h => by
    simp only [nodess]
    rcases List.mem_cons.mp h with rfl | h
    · omega
    · have := nodess_mem h; omega
theorem len_nodess : ∀ ps : List Pg, ps.length ≤ nodess ps
  | [] => Nat.le_refl _
  | p :: ps => by
    have := len_nodess ps
    have := nodes_pos p
    simp only [nodess, List.length_cons]; omega
theorem deps_mem : ∀ {ps : List Pg} {p : Pg}, p ∈ ps → dep p ≤ deps ps
  | [], _, h => by cases h
  | q :: ps, p, h => by
    simp only [deps]
    rcases List.mem_cons.mp h with rfl | h
    · omega
    · have := deps_mem h; omega

/-! ### strands, courses -/
structure Sn where
  w : D
  f : Int
  s : Int
  m : Int
def Sn.last (x : Sn) : Int := x.f + (x.m - 1) * x.s
def encS (x : Sn) : D := .obj 0 ["word", "first", "step", "many", "last"] [x.w, .int x.f, .int x.s, .int x.m, .int x.last]
structure Co where
  fin : Int
  ah : List Sn
  be : List Sn
def encC (c : Co) : D := .obj 1 ["finish", "ahead", "behind"] [.int c.fin, .lst (c.ah.map encS), .lst (c.be.map encS)]
def Sn.mv (k : Int) (x : Sn) : Sn := { x with f := x.f + k }
def Co.all (c : Co) : List Sn := c.ah ++ c.be
def once (w : D) (k : Int) : Sn := ⟨w, k, 1, 1⟩
def cWord (w : D) : Co := ⟨0, [once w 0], []⟩
def cWait (n : Int) : Co := ⟨n, [], []⟩
def cFork (c : Co) : Co := ⟨0, c.all, []⟩
def tStep (a : Int × List Sn × List Sn) (p : Co) : Int × List Sn × List Sn := (a.1 + p.fin, a.2.1 ++ p.ah.map (Sn.mv a.1), p.be.map (Sn.mv a.1) ++ a.2.2)
def cSeq (ps : List Co) : Co := let r := ps.foldl tStep (0, [], []); ⟨r.1, r.2.1, r.2.2⟩
/-- words of nothing but data; small numbers -/
def okW (d : D) : Bool := match d with
  | .str _ => true
  | .int _ => true
  | _ => false
def small (i : Int) : Prop := i.natAbs < 2 ^ 4000
def Sn.ok (x : Sn) : Prop := okW x.w = true ∧ small x.s ∧ small (x.m - 1)
theorem below_w {n : Nat} {d : D} (h : okW d = true) : below n d = true := by
  cases d <;> first | rfl | (simp [okW] at h)
theorem below_S {n : Nat} {x : Sn} (h : okW x.w = true) : below n (encS x) = true := by
  have := below_w (n := n) h
  simp [encS, below, belows, this]
theorem belows_S {n : Nat} : ∀ {xs : List Sn}, (∀ x ∈ xs, x.ok) → belows n (xs.map encS) = true
  | [], _ => rfl
  | x :: xs, h => by
    have h1 := below_S (n := n) (h x List.mem_cons_self).1
    have h2 := belows_S (n := n) fun y hy => h y (List.mem_cons_of_mem x hy)
    simp [belows, h1, h2]
theorem below_C {n : Nat} {c : Co} (h1 : ∀ x ∈ c.ah, x.ok) (h2 : ∀ x ∈ c.be, x.ok) : below n (encC c) = true := by
  simp [encC, below, belows, belows_S h1, belows_S h2]

/-! ### objects that are made -/
section
variable {st : Sto} {σ : Slo}
theorem pS0 (a : D) : putFN "word" [] = (["word"] : List Str) ∧ putFD "word" a [] [] = [a] := ⟨by decide +kernel, rfl⟩
theorem pS1 (a b : D) : putFN "first" ["word"] = (["word", "first"] : List Str) ∧ putFD "first" b ["word"] [a] = [a, b] := by
  have h : ¬ (("word" : Str) = "first") := by decide +kernel
  exact ⟨by decide +kernel, by simp [putFD, h]⟩
theorem pS2 (a b c : D) : putFN "step" ["word", "first"] = (["word", "first", "step"] : List Str) ∧ putFD "step" c ["word", "first"] [a, b] = [a, b, c] := by
  have h : ¬ (("word" : Str) = "step") := by decide +kernel
  have h2 : ¬ (("first" : Str) = "step") := by decide +kernel
  exact ⟨by decide +kernel, by simp [putFD, h, h2]⟩
theorem pS3 (a b c d : D) : putFN "many" ["word", "first", "step"] = (["word", "first", "step", "many"] : List Str) ∧ putFD "many" d ["word", "first", "step"] [a, b, c] = [a, b, c, d] := by
  have h : ¬ (("word" : Str) = "many") := by decide +kernel
  have h2 : ¬ (("first" : Str) = "many") := by decide +kernel
  have h3 : ¬ (("step" : Str) = "many") := by decide +kernel
  exact ⟨by decide +kernel, by simp [putFD, h, h2, h3]⟩
theorem pS4 (a b c d e : D) : putFN "last" ["word", "first", "step", "many"] = (["word", "first", "step", "many", "last"] : List Str) ∧ putFD "last" e ["word", "first", "step", "many"] [a, b, c, d] = [a, b, c, d, e] := by
  have h : ¬ (("word" : Str) = "last") := by decide +kernel
  have h2 : ¬ (("first" : Str) = "last") := by decide +kernel
  have h3 : ¬ (("step" : Str) = "last") := by decide +kernel
  have h4 : ¬ (("many" : Str) = "last") := by decide +kernel
  exact ⟨by decide +kernel, by simp [putFD, h, h2, h3, h4]⟩
theorem pC0 (a : D) : putFN "finish" [] = (["finish"] : List Str) ∧ putFD "finish" a [] [] = [a] := ⟨by decide +kernel, rfl⟩
theorem pC1 (a b : D) : putFN "ahead" ["finish"] = (["finish", "ahead"] : List Str) ∧ putFD "ahead" b ["finish"] [a] = [a, b] := by
  have h : ¬ (("finish" : Str) = "ahead") := by decide +kernel
  exact ⟨by decide +kernel, by simp [putFD, h]⟩
theorem pC2 (a b c : D) : putFN "behind" ["finish", "ahead"] = (["finish", "ahead", "behind"] : List Str) ∧ putFD "behind" c ["finish", "ahead"] [a, b] = [a, b, c] := by
  have h : ¬ (("finish" : Str) = "behind") := by decide +kernel
  have h2 : ¬ (("ahead" : Str) = "behind") := by decide +kernel
  exact ⟨by decide +kernel, by simp [putFD, h, h2]⟩
theorem strand_init {w : D} {f s m : Int} (hw : WfS st) (h1 : okW w = true) (h2 : small s) (h3 : small (m - 1)) :
    SH.F_Strand___init__ [.ref st.length, w, .int f, .int s, .int m] (st ++ [.obj 0 [] []]) = some (.non, st ++ [.obj 0 ["word", "first", "step", "many", "last"] [w, .int f, .int s, .int m, .int (f + (m - 1) * s)]]) := by
  have wf : WfS (st ++ [.obj 0 ["word", "first", "step", "many", "last"] [w, .int f, .int s, .int m, .int (f + (m - 1) * s)]]) := hw.add (by simp [belowO, belows, below, below_w h1])
  have hcut := cut_ok (d := .non) (n := st.length + 1) (by simp) rfl wf
  have c : ([0] : List Nat).contains 0 = true := by decide
  have k0 := fldS_new (st := st) (f := "word") (x := w) (ns := []) (vs := []) c (by decide)
  rw [(pS0 w).1, (pS0 w).2] at k0
  have k1 := fldS_new (st := st) (f := "first") (x := .int f) (ns := ["word"]) (vs := [w]) c (by decide)
  rw [(pS1 w (.int f)).1, (pS1 w (.int f)).2] at k1
  have k2 := fldS_new (st := st) (f := "step") (x := .int s) (ns := ["word", "first"]) (vs := [w, .int f]) c (by decide)
  rw [(pS2 w (.int f) (.int s)).1, (pS2 w (.int f) (.int s)).2] at k2
  have k3 := fldS_new (st := st) (f := "many") (x := .int m) (ns := ["word", "first", "step"]) (vs := [w, .int f, .int s]) c (by decide)
  rw [(pS3 w (.int f) (.int s) (.int m)).1, (pS3 w (.int f) (.int s) (.int m)).2] at k3
  have k4 := fldS_new (st := st) (f := "last") (x := .int (f + (m - 1) * s)) (ns := ["word", "first", "step", "many"]) (vs := [w, .int f, .int s, .int m]) c (by decide)
  rw [(pS4 w (.int f) (.int s) (.int m) (.int (f + (m - 1) * s))).1, (pS4 w (.int f) (.int s) (.int m) (.int (f + (m - 1) * s))).2] at k4
  have hm := cMul_ok h3 h2
  simp [SH.F_Strand___init__, mkF, gv, k0, k1, k2, k3, e_oMul hm, k4, hcut]
theorem ice_obj {n i c : Nat} {st : Sto} {ns : List Str} {vs : List D} (h : st[i]? = some (.obj c ns vs)) : iceD (n + 1) (.ref i) st = (iceL (iceD n) vs (st.set i .dead)).bind fun r => some (.obj c ns r.1, r.2) := by
  simp only [iceD, h]
theorem ice_lst {n i : Nat} {st : Sto} {ds : List D} (h : st[i]? = some (.lst ds)) : iceD (n + 1) (.ref i) st = (iceL (iceD n) ds (st.set i .dead)).bind fun r => some (.lst r.1, r.2) := by
  simp only [iceD, h]
theorem strand_make {w : D} {f s m : Int} (hw : WfS st) (h1 : okW w = true) (h2 : small s) (h3 : small (m - 1)) {a : Ev (List D)} (ha : a σ st = some ([w, .int f, .int s, .int m], st)) :
    mIceD 3 (mMake 0 SH.F_Strand___init__ a) σ st = some (encS ⟨w, f, s, m⟩, st ++ [.dead]) := by
  have hi : iceL (iceD 2) [w, .int f, .int s, .int m, .int (f + (m - 1) * s)] (st ++ [.dead]) = some ([w, .int f, .int s, .int m, .int (f + (m - 1) * s)], st ++ [.dead]) := by
    cases w <;> first | rfl | (simp [okW] at h1)
  simp only [e_mIceD, e_mMake, ha, Option.bind_some, strand_init hw h1 h2 h3, ice_obj snoc_get, snoc_set, hi]
  rfl
theorem cut_dead {d : D} {n : Nat} (hn : st.length = n) (hw : WfS st) (hd : below n d = true) : cutSt n d (st ++ [.dead]) = some (d, st) := by
  subst hn
  unfold cutSt
  rw [List.take_left]
  rw [if_pos]
  rw [Bool.and_eq_true, List.all_eq_true]
  exact ⟨hd, hw⟩
theorem once_ok {w : D} {f : Int} (hw : WfS st) (h1 : okW w = true) : SH.F_once [w, .int f] st = some (encS (once w f), st) := by
  have h := strand_make (st := st) (σ := [some w, some (.int f)]) (w := w) (f := f) (s := 1) (m := 1) (a := aCons (gv 0) (aCons (gv 1) (aCons (ck (.int 1)) (aCons (ck (.int 1)) aNil)))) hw h1 (by unfold small; decide) (by unfold small; decide) (by simp [gv])
  have hc := cut_dead (d := encS (once w f)) (n := st.length) rfl hw (below_S h1)
  simp only [SH.F_once, mkF]
  simp only [e_mRet, List.length_cons, List.length_nil, if_true, List.map_cons, List.map_nil, List.replicate_zero, List.append_nil, Nat.sub_self, Nat.zero_add, Nat.reduceAdd]
  rw [h]
  simp [once] at hc ⊢
  exact hc
end
end T

end
section
set_option Elab.async false
set_option linter.all false
set_option maxRecDepth 100000
set_option autoImplicit false
set_option exponentiation.threshold 5000
namespace T
open PySem PySem.Spec L2 Z
theorem sz {n : Nat} (h : n ≤ 1000000) : n ≤ sizeLine := Nat.le_trans h (by decide +kernel)
section
variable {st : Sto} {σ : Slo}
theorem addL {xs ys : List D} (h : xs.length + ys.length ≤ 1000000) : oAdd (.lst xs) (.lst ys) st = some (.lst (xs ++ ys), st) := by
  simp [oAdd, pL, sz h]
theorem ext_ok {acc ds : List D} (h : acc.length + ds.length ≤ 1000000) : oExt (.ref st.length) [.lst ds] (st ++ [.lst acc]) = some (.non, st ++ [.lst (acc ++ ds)]) := by
  simp [oExt, snoc_get, snoc_set, pL, sz h]
theorem okL_new {acc : List D} : okL (.ref st.length) (st ++ [.lst acc]) = true := by simp [okL, vL, snoc_get]
theorem fC_fin (a b c : D) : fldD ["finish", "ahead", "behind"] [a, b, c] "finish" = some a := by
  have h : (("finish" : Str) == "finish") = true := by decide +kernel
  simp only [fldD, h]
theorem fC_ah (a b c : D) : fldD ["finish", "ahead", "behind"] [a, b, c] "ahead" = some b := by
  have h : (("ahead" : Str) == "finish") = false := by decide +kernel
  have h2 : (("ahead" : Str) == "ahead") = true := by decide +kernel
  simp only [fldD, h, h2]
theorem fC_be (a b c : D) : fldD ["finish", "ahead", "behind"] [a, b, c] "behind" = some c := by
  have h : (("behind" : Str) == "finish") = false := by decide +kernel
  have h2 : (("behind" : Str) == "ahead") = false := by decide +kernel
  have h3 : (("behind" : Str) == "behind") = true := by decide +kernel
  simp only [fldD, h, h2, h3]
theorem fS_w (a b c d e : D) : fldD ["word", "first", "step", "many", "last"] [a, b, c, d, e] "word" = some a := by
  have h : (("word" : Str) == "word") = true := by decide +kernel
  simp only [fldD, h]
theorem fS_f (a b c d e : D) : fldD ["word", "first", "step", "many", "last"] [a, b, c, d, e] "first" = some b := by
  have h : (("first" : Str) == "word") = false := by decide +kernel
  have h2 : (("first" : Str) == "first") = true := by decide +kernel
  simp only [fldD, h, h2]
theorem fS_s (a b c d e : D) : fldD ["word", "first", "step", "many", "last"] [a, b, c, d, e] "step" = some c := by
  have h : (("step" : Str) == "word") = false := by decide +kernel
  have h2 : (("step" : Str) == "first") = false := by decide +kernel
  have h3 : (("step" : Str) == "step") = true := by decide +kernel
  simp only [fldD, h, h2, h3]
theorem fS_m (a b c d e : D) : fldD ["word", "first", "step", "many", "last"] [a, b, c, d, e] "many" = some d := by
  have h : (("many" : Str) == "word") = false := by decide +kernel
  have h2 : (("many" : Str) == "first") = false := by decide +kernel
  have h3 : (("many" : Str) == "step") = false := by decide +kernel
  have h4 : (("many" : Str) == "many") = true := by decide +kernel
  simp only [fldD, h, h2, h3, h4]
theorem fS_l (a b c d e : D) : fldD ["word", "first", "step", "many", "last"] [a, b, c, d, e] "last" = some e := by
  have h : (("last" : Str) == "word") = false := by decide +kernel
  have h2 : (("last" : Str) == "first") = false := by decide +kernel
  have h3 : (("last" : Str) == "step") = false := by decide +kernel
  have h4 : (("last" : Str) == "many") = false := by decide +kernel
  have h5 : (("last" : Str) == "last") = true := by decide +kernel
  simp only [fldD, h, h2, h3, h4, h5]
@[simp] theorem oF_fin {c : Co} : oFld [1] "finish" (encC c) st = some (.int c.fin, st) := by simp [oFld, encC, fC_fin]
@[simp] theorem oF_ah {c : Co} : oFld [1] "ahead" (encC c) st = some (.lst (c.ah.map encS), st) := by simp [oFld, encC, fC_ah]
@[simp] theorem oF_be {c : Co} : oFld [1] "behind" (encC c) st = some (.lst (c.be.map encS), st) := by simp [oFld, encC, fC_be]
@[simp] theorem oF_w {x : Sn} : oFld [0] "word" (encS x) st = some (x.w, st) := by simp [oFld, encS, fS_w]
@[simp] theorem oF_f {x : Sn} : oFld [0] "first" (encS x) st = some (.int x.f, st) := by simp [oFld, encS, fS_f]
@[simp] theorem oF_s {x : Sn} : oFld [0] "step" (encS x) st = some (.int x.s, st) := by simp [oFld, encS, fS_s]
@[simp] theorem oF_m {x : Sn} : oFld [0] "many" (encS x) st = some (.int x.m, st) := by simp [oFld, encS, fS_m]
@[simp] theorem oF_l {x : Sn} : oFld [0] "last" (encS x) st = some (.int x.last, st) := by simp [oFld, encS, fS_l]
def NC : List Str := ["finish", "ahead", "behind"]
def NS : List Str := ["word", "first", "step", "many", "last"]
@[simp] theorem cls_C {c : Co} : clsD (encC c) st = some (1, NC) := rfl
@[simp] theorem cls_S {x : Sn} : clsD (encS x) st = some (0, NS) := rfl
theorem nm_C {nm : Str} (h : (NC.all fun n => !(nm == n)) = true) {F : FM} {o : EM} {a : Ev (List D)} {c : Co} (ho : o σ st = some (encC c, st)) :
    mMeth nm [(1, F)] o a σ st = (a σ st).bind fun r => F (encC c :: r.1) r.2 := by
  simp only [e_mMeth, ho, Option.bind_some, cls_C, h, if_true]
  rfl
theorem nm_S {nm : Str} (h : (NS.all fun n => !(nm == n)) = true) {F : FM} {o : EM} {a : Ev (List D)} {x : Sn} (ho : o σ st = some (encS x, st)) :
    mMeth nm [(0, F)] o a σ st = (a σ st).bind fun r => F (encS x :: r.1) r.2 := by
  simp only [e_mMeth, ho, Option.bind_some, cls_S, h, if_true]
  rfl
theorem n_all : (NC.all fun n => !(("all_strands" : Str) == n)) = true := by decide +kernel
theorem n_total : (NC.all fun n => !(("total" : Str) == n)) = true := by decide +kernel
theorem n_last : (NC.all fun n => !(("last_round" : Str) == n)) = true := by decide +kernel
theorem n_moved : (NS.all fun n => !(("moved" : Str) == n)) = true := by decide +kernel
/-- a course whose strands are fine, not too many -/
structure Co.ok (c : Co) (n : Nat) : Prop where
  a : ∀ x ∈ c.ah, x.ok
  b : ∀ x ∈ c.be, x.ok
  len : c.ah.length + c.be.length ≤ n
theorem all_ok {c : Co} {n : Nat} (h : c.ok n) (hn : n ≤ 1000000) (hw : WfS st) : SH.F_Course_all_strands [encC c] st = some (.lst (c.all.map encS), st) := by
  have hl := h.len
  have hc := cut_ok (d := .lst (c.all.map encS)) (n := st.length) rfl (show belows st.length (c.all.map encS) = true from belows_S fun x hx => by
    rcases List.mem_append.mp hx with hx | hx
    · exact h.a x hx
    · exact h.b x hx) hw
  have ha := addL (st := st) (xs := c.ah.map encS) (ys := c.be.map encS) (by simp; omega)
  have hm : c.ah.map encS ++ c.be.map encS = c.all.map encS := by simp [Co.all]
  rw [hm] at ha
  simp [SH.F_Course_all_strands, mkF, gv, ha, hc]
theorem moved_ok {x : Sn} {k : Int} (h : x.ok) (hw : WfS st) : SH.F_Strand_moved [encS x, .int k] st = some (encS (x.mv k), st) := by
  obtain ⟨h1, h2, h3⟩ := h
  have hm := strand_make (st := st) (σ := [some (encS x), some (.int k)]) (w := x.w) (f := x.f + k) (s := x.s) (m := x.m) (a := aCons (mFld [0] "word" (gv 0)) (aCons (mB oAdd (mFld [0] "first" (gv 0)) (gv 1)) (aCons (mFld [0] "step" (gv 0)) (aCons (mFld [0] "many" (gv 0)) aNil)))) hw h1 h2 h3 (by simp [gv])
  have hc := cut_dead (d := encS (x.mv k)) (n := st.length) rfl hw (below_S h1)
  show (mRet _ _ st).bind _ = _
  rw [e_mRet]
  show ((mIceD 3 _ [some (encS x), some (.int k)] st).bind _).bind _ = _
  rw [hm]
  exact hc
theorem course_init {f a b : D} (hw : WfS st) (hf : below (st.length + 1) f = true) (ha : below (st.length + 1) a = true) (hb : below (st.length + 1) b = true) :
    SH.F_Course___init__ [.ref st.length, f, a, b] (st ++ [.obj 1 [] []]) = some (.non, st ++ [.obj 1 ["finish", "ahead", "behind"] [f, a, b]]) := by
  have wf : WfS (st ++ [.obj 1 ["finish", "ahead", "behind"] [f, a, b]]) := hw.add (by simp [belowO, belows, hf, ha, hb])
  have hcut := cut_ok (d := .non) (n := st.length + 1) (by simp) rfl wf
  have c : ([1] : List Nat).contains 1 = true := by decide
  have k0 := fldS_new (st := st) (f := "finish") (x := f) (ns := []) (vs := []) c (by decide)
  rw [(pC0 f).1, (pC0 f).2] at k0
  have k1 := fldS_new (st := st) (f := "ahead") (x := a) (ns := ["finish"]) (vs := [f]) c (by decide)
  rw [(pC1 f a).1, (pC1 f a).2] at k1
  have k2 := fldS_new (st := st) (f := "behind") (x := b) (ns := ["finish", "ahead"]) (vs := [f, a]) c (by decide)
  rw [(pC2 f a b).1, (pC2 f a b).2] at k2
  simp [SH.F_Course___init__, mkF, gv, k0, k1, k2, hcut]
/-- Course(finish, ahead, behind) of values -/
theorem course_make {c : Co} (hw : WfS st) {n : Nat} (h : c.ok n) {a : Ev (List D)} (ha : a σ st = some ([.int c.fin, .lst (c.ah.map encS), .lst (c.be.map encS)], st)) :
    mIceD 3 (mMake 1 SH.F_Course___init__ a) σ st = some (encC c, st ++ [.dead]) := by
  have hi : iceL (iceD 2) [.int c.fin, .lst (c.ah.map encS), .lst (c.be.map encS)] (st ++ [.dead]) = some ([.int c.fin, .lst (c.ah.map encS), .lst (c.be.map encS)], st ++ [.dead]) := rfl
  have hin := course_init (st := st) (f := .int c.fin) (a := .lst (c.ah.map encS)) (b := .lst (c.be.map encS)) hw rfl (belows_S h.a) (belows_S h.b)
  simp only [e_mIceD, e_mMake, ha, Option.bind_some, hin, ice_obj snoc_get, snoc_set, hi]
  rfl
theorem ret_made {N n : Nat} {ds : List D} {m : EM} {c : Co} {k : Nat} (hl : ds.length = n) (hw : WfS st) (h : c.ok k) (hm : m (ds.map some ++ List.replicate (N - n) none) st = some (encC c, st ++ [.dead])) :
    mkF N n 0 (mRet m) ds st = some (encC c, st) := by
  have hc := cut_dead (d := encC c) (n := st.length) rfl hw (below_C h.a h.b)
  simp only [mkF, hl, if_true, e_mRet, hm, Option.bind_some]
  exact hc
theorem ok_word {w : D} (h : okW w = true) : (cWord w).ok 1 := ⟨fun x hx => by
  simp [cWord] at hx; subst hx; exact ⟨h, by show small 1; unfold small; decide, by show small 0; unfold small; decide⟩, fun x hx => by simp [cWord] at hx, by simp [cWord]⟩
theorem word_c {w : D} (h : okW w = true) (hw : WfS st) : SH.F_word_course [w] st = some (encC (cWord w), st) := by
  refine ret_made (c := cWord w) rfl hw (ok_word h) (course_make hw (ok_word h) ?_)
  have ho := once_ok (st := st) (f := 0) hw h
  simp [gv, ho, cWord, sz]
theorem ok_wait {n : Int} : (cWait n).ok 0 := ⟨fun x hx => by simp [cWait] at hx, fun x hx => by simp [cWait] at hx, by simp [cWait]⟩
theorem wait_c {n : Int} (hw : WfS st) : SH.F_silent_course [.int n] st = some (encC (cWait n), st) := by
  refine ret_made (c := cWait n) rfl hw ok_wait (course_make hw ok_wait ?_)
  simp [gv, cWait]
theorem ok_fork {c : Co} {n : Nat} (h : c.ok n) : (cFork c).ok n := ⟨fun x hx => by
  rcases List.mem_append.mp (show x ∈ c.ah ++ c.be from hx) with hx | hx
  · exact h.a x hx
  · exact h.b x hx, fun x hx => by simp [cFork] at hx, by have := h.len; simp [cFork, Co.all]; omega⟩
theorem fork_c {c : Co} {n : Nat} (h : c.ok n) (hn : n ≤ 1000000) (hw : WfS st) : SH.F_detached_course [encC c] st = some (encC (cFork c), st) := by
  refine ret_made (c := cFork c) rfl hw (ok_fork h) (course_make hw (ok_fork h) ?_)
  have ha := all_ok h hn hw
  have hm := nm_C (st := st) (σ := [some (encC c)]) (F := SH.F_Course_all_strands) (o := gv 0) (a := aNil) n_all (c := c) (by simp [gv])
  simp only [e_aNil, Option.bind_some, ha] at hm
  simp [hm, cFork, -e_mMeth]
end
end T

end
section
set_option Elab.async false
set_option linter.all false
set_option maxRecDepth 100000
set_option autoImplicit false
set_option exponentiation.threshold 5000
namespace T
open PySem PySem.Spec L2 Z
theorem mv_ok {x : Sn} {k : Int} (h : x.ok) : (x.mv k).ok := h
def nst : List Co → Nat
  | [] => 0
  | c :: cs => c.ah.length + c.be.length + nst cs
section
variable {st : Sto} {σ : Slo}
theorem walk_lst {ds : List D} {a : EM} (h : a σ st = some (.lst ds, st)) : ilAny a σ st = some ((ds, some), st) := by
  simp [ilAny, h, walkD, lend]
/-- [x.moved(start) for x in xs] -/
theorem moved_all {xs : List Sn} {k : Int} {it : EM} {j v : Nat} (hi : it σ st = some (.lst (xs.map encS), st)) (hv : v < σ.length) (hk : σ[j]? = some (some (.int k))) (hj : j ≠ v) (h : ∀ x ∈ xs, x.ok) (hl : xs.length ≤ 1000000) (hw : WfS st) :
    mLcL (ilAny it) (gN v) bYes (mMeth "moved" [(0, SH.F_Strand_moved)] (gv v) (aCons (gv j) aNil)) [v] σ st = some (.lst ((xs.map (Sn.mv k)).map encS), st) := by
  rw [List.map_map]
  refine lc_enc encS _ xs (walk_lst hi) (fun x hx => ⟨_, rfl, ?_⟩) (sz hl)
  have h1 : ((wipeD σ [v]).set v (some (encS x)))[v]? = some (some (encS x)) := List.getElem?_set_self (by simp [wipeD, hv])
  have h2 : ((wipeD σ [v]).set v (some (encS x)))[j]? = some (some (.int k)) := by
    rw [List.getElem?_set_ne (Ne.symm hj)]
    show ((σ.set v none))[j]? = _
    rw [List.getElem?_set_ne (Ne.symm hj)]; exact hk
  rw [nm_S n_moved (x := x) (by simp [gv, h1])]
  have hm := moved_ok (st := st) (k := k) (h x hx) hw
  simp [gv, h2, hm]
theorem tfold_len : ∀ (ps : List Co) (a : Int × List Sn × List Sn), (ps.foldl tStep a).2.1.length + (ps.foldl tStep a).2.2.length = a.2.1.length + a.2.2.length + nst ps
  | [], a => by simp [nst]
  | p :: ps, a => by
    have := tfold_len ps (tStep a p)
    rw [List.foldl_cons, this]
    simp [tStep, nst]; omega
theorem tfold_ok : ∀ (ps : List Co) (a : Int × List Sn × List Sn), (∀ p ∈ ps, (∀ x ∈ p.ah, x.ok) ∧ ∀ x ∈ p.be, x.ok) → (∀ x ∈ a.2.1, x.ok) → (∀ x ∈ a.2.2, x.ok) → (∀ x ∈ (ps.foldl tStep a).2.1, x.ok) ∧ ∀ x ∈ (ps.foldl tStep a).2.2, x.ok
  | [], a, _, h1, h2 => ⟨h1, h2⟩
  | p :: ps, a, h, h1, h2 => by
    obtain ⟨q1, q2⟩ := h p List.mem_cons_self
    refine tfold_ok ps (tStep a p) (fun q hq => h q (List.mem_cons_of_mem _ hq)) (fun x hx => ?_) fun x hx => ?_
    · rcases List.mem_append.mp hx with hx | hx
      · exact h1 x hx
      · obtain ⟨y, hy, rfl⟩ := List.mem_map.mp hx; exact mv_ok (q1 y hy)
    · rcases List.mem_append.mp hx with hx | hx
      · obtain ⟨y, hy, rfl⟩ := List.mem_map.mp hx; exact mv_ok (q2 y hy)
      · exact h2 x hx
theorem seq_ok {ps : List Co} (h : ∀ p ∈ ps, (∀ x ∈ p.ah, x.ok) ∧ ∀ x ∈ p.be, x.ok) : (cSeq ps).ok (nst ps) := by
  obtain ⟨h1, h2⟩ := tfold_ok ps (0, [], []) h (fun x hx => nomatch hx) (fun x hx => nomatch hx)
  exact ⟨h1, h2, Nat.le_of_eq ((tfold_len ps (0, [], [])).trans (by simp))⟩
theorem mem_nst : ∀ {ps : List Co} {p : Co}, p ∈ ps → p.ah.length + p.be.length ≤ nst ps
  | [], _, h => by cases h
  | q :: ps, p, h => by
    simp only [nst]
    rcases List.mem_cons.mp h with rfl | h
    · omega
    · have := mem_nst h; omega
/-- what the loop of turned_course holds -/
structure TInv (st : Sto) (ps : List Co) (a : Int × List Sn × List Sn) (σ : Slo) (st' : Sto) : Prop where
  s : st' = st ++ [.lst (a.2.1.map encS)]
  l : ∃ x y z, σ = [x, some (.int a.1), some (.ref st.length), some (.lst (a.2.2.map encS)), y, z]
  o1 : ∀ x ∈ a.2.1, x.ok
  o2 : ∀ x ∈ a.2.2, x.ok
  o : ∀ p ∈ ps, (∀ x ∈ p.ah, x.ok) ∧ ∀ x ∈ p.be, x.ok
  n : a.2.1.length + a.2.2.length + nst ps ≤ 300000
theorem tinv_wf {ps : List Co} {a : Int × List Sn × List Sn} {st' : Sto} {σ : Slo} (hw : WfS st) (h : TInv st ps a σ st') : WfS st' := by
  rw [h.s]
  exact hw.add (by simp [belowO, belows_S h.o1])
theorem turned_step (hw : WfS st) (x : Co) (xs : List Co) (a : Int × List Sn × List Sn) (σ : Slo) (st' : Sto) (h : TInv st (x :: xs) a σ st') : ∃ σ1 st1 σ2 st2, gN 4 (encC x) σ st' = some (σ1, st1) ∧
    (mSeq (mEx (mM okL oExt (gv 2) (aCons (mLcL (ilAny (mFld [1] "ahead" (gv 4))) (gN 5) bYes (mMeth "moved" [(0, SH.F_Strand_moved)] (gv 5) (aCons (gv 1) aNil)) [5]) aNil))) (mSeq (mSet 3 (mB oAdd (mLcL (ilAny (mFld [1] "behind" (gv 4))) (gN 5) bYes (mMeth "moved" [(0, SH.F_Strand_moved)] (gv 5) (aCons (gv 1) aNil)) [5]) (gv 3))) (mSet 1 (mB oAdd (gv 1) (mFld [1] "finish" (gv 4)))))) σ1 st1 = some (.nx, σ2, st2) ∧ TInv st xs (tStep a x) σ2 st2 := by
  have wf := tinv_wf hw h
  obtain ⟨hs, ⟨u, y, z, rfl⟩, o1, o2, o, n⟩ := h
  obtain ⟨q1, q2⟩ := o x List.mem_cons_self
  simp only [nst] at n
  have m1 := moved_all (st := st') (σ := [u, some (.int a.1), some (.ref st.length), some (.lst (a.2.2.map encS)), some (encC x), z]) (xs := x.ah) (k := a.1) (it := mFld [1] "ahead" (gv 4)) (j := 1) (v := 5) (by simp [gv]) (by simp) rfl (by decide) q1 (by omega) wf
  have wf2 : WfS (st ++ [.lst ((a.2.1 ++ x.ah.map (Sn.mv a.1)).map encS)]) := hw.add (by
    refine belows_S fun y hy => ?_
    rcases List.mem_append.mp hy with hy | hy
    · exact o1 y hy
    · obtain ⟨w, hw', rfl⟩ := List.mem_map.mp hy; exact mv_ok (q1 w hw'))
  have m2 := moved_all (st := st ++ [.lst ((a.2.1 ++ x.ah.map (Sn.mv a.1)).map encS)]) (σ := [u, some (.int a.1), some (.ref st.length), some (.lst (a.2.2.map encS)), some (encC x), z]) (xs := x.be) (k := a.1) (it := mFld [1] "behind" (gv 4)) (j := 1) (v := 5) (by simp [gv]) (by simp) rfl (by decide) q2 (by omega) wf2
  have e1 := ext_ok (st := st) (acc := a.2.1.map encS) (ds := (x.ah.map (Sn.mv a.1)).map encS) (by simp; omega)
  have e2 := addL (st := st ++ [.lst ((a.2.1 ++ x.ah.map (Sn.mv a.1)).map encS)]) (xs := (x.be.map (Sn.mv a.1)).map encS) (ys := a.2.2.map encS) (by simp; omega)
  rw [← List.map_append] at e1 e2
  subst hs
  refine ⟨_, _, _, _, rfl, ?_, ⟨rfl, ⟨u, some (encC x), z, rfl⟩, ?_, ?_, fun p hp => o p (List.mem_cons_of_mem _ hp), ?_⟩⟩
  · have g2 : gv 2 [u, some (.int a.1), some (.ref st.length), some (.lst (a.2.2.map encS)), some (encC x), z] (st ++ [.lst (a.2.1.map encS)]) = some (.ref st.length, st ++ [.lst (a.2.1.map encS)]) := rfl
    simp only [List.set_cons_succ, List.set_cons_zero, e_mSeq, e_mEx, e_mM, g2, Option.bind_some, okL_new, if_true, e_aCons, m1, e_aNil, e1, e_mSet, e_mB, m2]
    have g3 : gv 3 [u, some (.int a.1), some (.ref st.length), some (.lst (a.2.2.map encS)), some (encC x), z] (st ++ [.lst ((a.2.1 ++ x.ah.map (Sn.mv a.1)).map encS)]) = some (.lst (a.2.2.map encS), st ++ [.lst ((a.2.1 ++ x.ah.map (Sn.mv a.1)).map encS)]) := rfl
    simp only [g3, Option.bind_some, e2, List.set_cons_succ, List.set_cons_zero]
    simp [gv, tStep]
  · exact fun y hy => by
      rcases List.mem_append.mp hy with hy | hy
      · exact o1 y hy
      · obtain ⟨w, hw', rfl⟩ := List.mem_map.mp hy; exact mv_ok (q1 w hw')
  · exact fun y hy => by
      rcases List.mem_append.mp hy with hy | hy
      · obtain ⟨w, hw', rfl⟩ := List.mem_map.mp hy; exact mv_ok (q2 w hw')
      · exact o2 y hy
  · simp only [tStep, List.length_append, List.length_map]; omega
/-- Course(finish, ahead, behind), ahead a list of the store -/
theorem course_make1 {c : Co} (hw : WfS st) {n : Nat} (h : c.ok n) {a : Ev (List D)} (ha : a σ (st ++ [.lst (c.ah.map encS)]) = some ([.int c.fin, .ref st.length, .lst (c.be.map encS)], st ++ [.lst (c.ah.map encS)])) :
    mIceD 3 (mMake 1 SH.F_Course___init__ a) σ (st ++ [.lst (c.ah.map encS)]) = some (encC c, st ++ [.dead, .dead]) := by
  have wf : WfS (st ++ [.lst (c.ah.map encS)]) := hw.add (by simp [belowO, belows_S h.a])
  have hin := course_init (st := st ++ [.lst (c.ah.map encS)]) (f := .int c.fin) (a := .ref st.length) (b := .lst (c.be.map encS)) wf rfl (show decide (st.length < _) = true from decide_eq_true (by simp; omega)) (belows_S h.b)
  have s1 : ((st ++ [O.lst (c.ah.map encS)]) ++ [O.dead])[st.length]? = some (.lst (c.ah.map encS)) := by
    rw [List.append_assoc, List.getElem?_append_right (Nat.le_refl _), Nat.sub_self]; rfl
  have s2 : ((st ++ [O.lst (c.ah.map encS)]) ++ [O.dead]).set st.length .dead = st ++ [.dead, .dead] := by
    rw [List.append_assoc, List.set_append_right _ _ (Nat.le_refl _), Nat.sub_self]; rfl
  have hi : ∀ s : Sto, iceL (iceD 1) (c.ah.map encS) s = some (c.ah.map encS, s) := fun s => by
    induction c.ah with
    | nil => rfl
    | cons x r ih => simp only [List.map_cons, iceL]; rw [show iceD 1 (encS x) s = some (encS x, s) from rfl]; simp [ih]
  have h2 : iceD 2 (.ref st.length) ((st ++ [O.lst (c.ah.map encS)]) ++ [O.dead]) = some (.lst (c.ah.map encS), st ++ [.dead, .dead]) := by
    rw [ice_lst s1, s2, hi]; rfl
  simp only [e_mIceD, e_mMake, ha, Option.bind_some]
  rw [hin]
  simp only [Option.bind_some, ice_obj snoc_get, snoc_set, iceL]
  rw [show iceD 2 (.int c.fin) ((st ++ [O.lst (c.ah.map encS)]) ++ [O.dead]) = some (.int c.fin, (st ++ [.lst (c.ah.map encS)]) ++ [.dead]) from rfl]
  simp only [Option.bind_some, h2]
  rfl
theorem cut_dead2 {d : D} {n : Nat} {os : List O} (hn : st.length = n) (hw : WfS st) (hd : below n d = true) : cutSt n d (st ++ os) = some (d, st) := by
  subst hn
  unfold cutSt
  rw [List.take_left]
  rw [if_pos]
  rw [Bool.and_eq_true, List.all_eq_true]
  exact ⟨hd, hw⟩
theorem turned_c {ps : List Co} (h : ∀ p ∈ ps, (∀ x ∈ p.ah, x.ok) ∧ ∀ x ∈ p.be, x.ok) (hn : nst ps ≤ 300000) (hw : WfS st) : SH.F_turned_course [.lst (ps.map encC)] st = some (encC (cSeq ps), st) := by
  have start : TInv st ps (0, [], []) [some (.lst (ps.map encC)), some (.int 0), some (.ref st.length), some (.lst []), none, none] (st ++ [.lst []]) := ⟨rfl, ⟨_, _, _, rfl⟩, (fun x hx => nomatch hx), (fun x hx => nomatch hx), h, by simpa using hn⟩
  obtain ⟨σ', st', h1, h2⟩ := for_run encC tStep (TInv st) (turned_step hw) ps _ _ _ start
  obtain ⟨hs, ⟨u, y, z, rfl⟩, o1, o2, _, n⟩ := h2
  generalize hR : ps.foldl tStep (0, [], []) = R at *
  have hc : cSeq ps = ⟨R.1, R.2.1, R.2.2⟩ := by simp only [cSeq, hR]
  have ok : (⟨R.1, R.2.1, R.2.2⟩ : Co).ok (nst ps) := by rw [← hc]; exact seq_ok h
  have hm := course_make1 (st := st) (c := ⟨R.1, R.2.1, R.2.2⟩) (σ := [u, some (.int R.1), some (.ref st.length), some (.lst (R.2.2.map encS)), y, z]) hw ok (a := aCons (gv 1) (aCons (gv 2) (aCons (gv 3) aNil))) (by simp [gv])
  have hcut := cut_dead2 (d := encC ⟨R.1, R.2.1, R.2.2⟩) (n := st.length) (os := [.dead, .dead]) rfl hw (below_C ok.a ok.b)
  have hil : ilAny (gv 0) [some (.lst (ps.map encC)), some (.int 0), some (.ref st.length), some (.lst []), none, none] (st ++ [.lst []]) = some ((ps.map encC, some), st ++ [.lst []]) := walk_lst rfl
  subst hs
  rw [hc]
  show (mSeq _ _ [some (.lst (ps.map encC)), none, none, none, none, none] st).bind _ = _
  simp only [e_mSeq, e_mSet, e_ck, Option.bind_some, List.set_cons_succ, List.set_cons_zero, e_mPar, e_aCons, e_mNew, e_mLst, e_aNil, List.length_nil, Nat.zero_le, if_true, e_mForL, hil]
  rw [h1]
  simp only [Option.bind_some, e_mRet, hm]
  exact hcut
end
end T

end
section
set_option Elab.async false
set_option linter.all false
set_option maxRecDepth 100000
set_option autoImplicit false
set_option exponentiation.threshold 5000
namespace T
open PySem PySem.Spec L2 Z
/-! ### with their numbers -/
def idx {α : Type} : Nat → List α → List (Int × α)
  | _, [] => []
  | k, x :: xs => ((k : Nat), x) :: idx (k + 1) xs
def encI {α : Type} (e : α → D) (q : Int × α) : D := .tup [.int q.1, e q.2]
theorem enum_idx {α : Type} (e : α → D) : ∀ (xs : List α) (k : Nat), enumD k (xs.map e) = (idx k xs).map (encI e)
  | [], _ => rfl
  | x :: xs, k => by
    show D.tup [.int (k : Nat), e x] :: enumD (k + 1) (xs.map e) = _
    rw [enum_idx e xs (k + 1)]; rfl
theorem idx_snd {α : Type} : ∀ (xs : List α) (k : Nat), (idx k xs).map (·.2) = xs
  | [], _ => rfl
  | x :: xs, k => by simp [idx, idx_snd xs (k + 1)]
theorem idx_len {α : Type} (xs : List α) (k : Nat) : (idx k xs).length = xs.length := by
  have := congrArg List.length (idx_snd xs k)
  simpa using this
theorem idx_mem {α : Type} {xs : List α} {k : Nat} {q : Int × α} (h : q ∈ idx k xs) : q.2 ∈ xs := by
  have := List.mem_map_of_mem (f := fun q : Int × α => q.2) h
  rwa [idx_snd xs k] at this

/-! ### beside each other -/
def bStep (car : Int) (a : List Sn × List Sn) (q : Int × Co) : List Sn × List Sn :=
  if q.1 < car then (a.1 ++ q.2.all, a.2) else if q.1 = car then (a.1 ++ q.2.ah, a.2 ++ q.2.be) else (a.1, a.2 ++ q.2.all)
def cBeside (ps : List Co) (fin car : Int) : Co := let r := (idx 0 ps).foldl (bStep car) ([], []); ⟨fin, r.1, r.2⟩
def nsq : List (Int × Co) → Nat
  | [] => 0
  | q :: qs => q.2.ah.length + q.2.be.length + nsq qs
theorem nsq_idx : ∀ (ps : List Co) (k : Nat), nsq (idx k ps) = nst ps
  | [], _ => rfl
  | p :: ps, k => by simp [idx, nsq, nst, nsq_idx ps (k + 1)]
def OkA (p : Co) : Prop := (∀ x ∈ p.ah, x.ok) ∧ ∀ x ∈ p.be, x.ok
theorem OkA.all {p : Co} (h : OkA p) : ∀ x ∈ p.all, x.ok := fun x hx => by
  rcases List.mem_append.mp hx with hx | hx
  · exact h.1 x hx
  · exact h.2 x hx
theorem bfold_len (car : Int) : ∀ (qs : List (Int × Co)) (a : List Sn × List Sn), (qs.foldl (bStep car) a).1.length + (qs.foldl (bStep car) a).2.length = a.1.length + a.2.length + nsq qs
  | [], a => by simp [nsq]
  | q :: qs, a => by
    have := bfold_len car qs (bStep car a q)
    rw [List.foldl_cons, this]
    unfold bStep
    split
    · simp [nsq, Co.all]; omega
    · split
      · simp [nsq]; omega
      · simp [nsq, Co.all]; omega
theorem app_ok {xs ys : List Sn} (h1 : ∀ x ∈ xs, x.ok) (h2 : ∀ x ∈ ys, x.ok) : ∀ x ∈ xs ++ ys, x.ok := fun x hx => by
  rcases List.mem_append.mp hx with hx | hx
  · exact h1 x hx
  · exact h2 x hx
theorem bstep_ok {car : Int} {q : Int × Co} {a : List Sn × List Sn} (h : OkA q.2) (h1 : ∀ x ∈ a.1, x.ok) (h2 : ∀ x ∈ a.2, x.ok) : (∀ x ∈ (bStep car a q).1, x.ok) ∧ ∀ x ∈ (bStep car a q).2, x.ok := by
  unfold bStep
  split
  · exact ⟨app_ok h1 h.all, h2⟩
  · split
    · exact ⟨app_ok h1 h.1, app_ok h2 h.2⟩
    · exact ⟨h1, app_ok h2 h.all⟩
theorem bfold_ok (car : Int) : ∀ (qs : List (Int × Co)) (a : List Sn × List Sn), (∀ q ∈ qs, OkA q.2) → (∀ x ∈ a.1, x.ok) → (∀ x ∈ a.2, x.ok) → (∀ x ∈ (qs.foldl (bStep car) a).1, x.ok) ∧ ∀ x ∈ (qs.foldl (bStep car) a).2, x.ok
  | [], a, _, h1, h2 => ⟨h1, h2⟩
  | q :: qs, a, h, h1, h2 => by
    obtain ⟨q1, q2⟩ := bstep_ok (car := car) (h q List.mem_cons_self) h1 h2
    exact bfold_ok car qs _ (fun p hp => h p (List.mem_cons_of_mem _ hp)) q1 q2
theorem beside_ok {ps : List Co} {fin car : Int} (h : ∀ p ∈ ps, OkA p) : (cBeside ps fin car).ok (nst ps) := by
  obtain ⟨h1, h2⟩ := bfold_ok car (idx 0 ps) ([], []) (fun q hq => h _ (idx_mem hq)) (fun x hx => nomatch hx) (fun x hx => nomatch hx)
  refine ⟨h1, h2, Nat.le_of_eq ((bfold_len car (idx 0 ps) ([], [])).trans ?_)⟩
  rw [nsq_idx]; simp
section
variable {st : Sto} {σ : Slo}
theorem snoc2_0 {o p : O} : (st ++ [o, p])[st.length]? = some o := by
  rw [List.getElem?_append_right (Nat.le_refl _), Nat.sub_self]; rfl
theorem snoc2_1 {o p : O} : (st ++ [o, p])[st.length + 1]? = some p := by
  rw [List.getElem?_append_right (Nat.le_succ _)]; simp
theorem snoc2_s0 {o p q : O} : (st ++ [o, p]).set st.length q = st ++ [q, p] := by
  rw [List.set_append_right _ _ (Nat.le_refl _), Nat.sub_self]; rfl
theorem snoc2_s1 {o p q : O} : (st ++ [o, p]).set (st.length + 1) q = st ++ [o, q] := by
  rw [List.set_append_right _ _ (Nat.le_succ _)]; simp
theorem ext2_0 {acc ds : List D} {p : O} (h : acc.length + ds.length ≤ 1000000) : oExt (.ref st.length) [.lst ds] (st ++ [.lst acc, p]) = some (.non, st ++ [.lst (acc ++ ds), p]) := by
  simp [oExt, snoc2_0, snoc2_s0, pL, sz h]
theorem ext2_1 {acc ds : List D} {p : O} (h : acc.length + ds.length ≤ 1000000) : oExt (.ref (st.length + 1)) [.lst ds] (st ++ [p, .lst acc]) = some (.non, st ++ [p, .lst (acc ++ ds)]) := by
  simp [oExt, snoc2_1, snoc2_s1, pL, sz h]
theorem okL2_0 {acc : List D} {p : O} : okL (.ref st.length) (st ++ [.lst acc, p]) = true := by simp [okL, vL, snoc2_0]
theorem okL2_1 {acc : List D} {p : O} : okL (.ref (st.length + 1)) (st ++ [p, .lst acc]) = true := by simp [okL, vL, snoc2_1]
theorem wf2 {xs ys : List Sn} (hw : WfS st) (h1 : ∀ x ∈ xs, x.ok) (h2 : ∀ x ∈ ys, x.ok) : WfS (st ++ [.lst (xs.map encS), .lst (ys.map encS)]) := by
  have := (hw.add (o := .lst (xs.map encS)) (by simp [belowO, belows_S h1])).add (o := .lst (ys.map encS)) (by simp [belowO, belows_S h2])
  rwa [List.append_assoc] at this
structure BInv (st : Sto) (fin car : Int) (qs : List (Int × Co)) (a : List Sn × List Sn) (σ : Slo) (st' : Sto) : Prop where
  s : st' = st ++ [.lst (a.1.map encS), .lst (a.2.map encS)]
  l : ∃ x y z, σ = [x, some (.int fin), some (.int car), some (.ref st.length), some (.ref (st.length + 1)), y, z]
  o1 : ∀ x ∈ a.1, x.ok
  o2 : ∀ x ∈ a.2, x.ok
  o : ∀ q ∈ qs, OkA q.2
  n : a.1.length + a.2.length + nsq qs ≤ 300000
theorem OkA.ok {p : Co} (h : OkA p) : p.ok (p.ah.length + p.be.length) := ⟨h.1, h.2, Nat.le_refl _⟩
theorem eq_int (a b : Int) : oEqE (.int a) (.int b) st = some (.bl (decide (a = b)), st) := by
  have h : ∀ x : Int, SeqAt.shaped (.int x) = true := fun x => by simp [SeqAt.shaped, PyData.canLay0, PyData.depth]
  have e : PyData.eqv (.int a) (.int b) = decide (a = b) := by rw [Bool.eq_iff_iff]; simp [PyData.eqv]
  simp [oEqE, oEqE0, oEq, pyT, pyD, h, e]
theorem all_call {p : Co} {i : Nat} (h : OkA p) (hn : p.ah.length + p.be.length ≤ 1000000) (hw : WfS st) (hi : σ[i]? = some (some (encC p))) : mMeth "all_strands" [(1, SH.F_Course_all_strands)] (gv i) aNil σ st = some (.lst (p.all.map encS), st) := by
  have hm := nm_C (st := st) (σ := σ) (F := SH.F_Course_all_strands) (o := gv i) (a := aNil) n_all (c := p) (by simp [gv, hi])
  rw [hm]
  simp only [e_aNil, Option.bind_some]
  exact all_ok h.ok hn hw
theorem beside_step (hw : WfS st) (fin car : Int) (q : Int × Co) (qs : List (Int × Co)) (a : List Sn × List Sn) (σ : Slo) (st' : Sto) (h : BInv st fin car (q :: qs) a σ st') : ∃ σ1 st1 σ2 st2, gT 2 (gsCons (gN 5) (gsCons (gN 6) gsNil)) (encI encC q) σ st' = some (σ1, st1) ∧
    (mIfS (toB (mB oLt (gv 5) (gv 2))) (mEx (mM okL oExt (gv 3) (aCons (mMeth "all_strands" [(1, SH.F_Course_all_strands)] (gv 6) aNil) aNil))) (mIfS (toB (mB oEqE (gv 5) (gv 2))) (mSeq (mEx (mM okL oExt (gv 3) (aCons (mFld [1] "ahead" (gv 6)) aNil))) (mEx (mM okL oExt (gv 4) (aCons (mFld [1] "behind" (gv 6)) aNil)))) (mEx (mM okL oExt (gv 4) (aCons (mMeth "all_strands" [(1, SH.F_Course_all_strands)] (gv 6) aNil) aNil))))) σ1 st1 = some (.nx, σ2, st2) ∧ BInv st fin car qs (bStep car a q) σ2 st2 := by
  obtain ⟨hs, ⟨u, y, z, rfl⟩, o1, o2, o, n⟩ := h
  have oq := o q List.mem_cons_self
  simp only [nsq] at n
  obtain ⟨b1, b2⟩ := bstep_ok (car := car) oq o1 o2
  have wf := wf2 (st := st) hw o1 o2
  have hlen : q.2.all.length = q.2.ah.length + q.2.be.length := by simp [Co.all]
  have hb : (bStep car a q).1.length + (bStep car a q).2.length + nsq qs ≤ 300000 := by
    have := bfold_len car [q] a
    simp [nsq] at this
    omega
  subst hs
  generalize hσ : [u, some (.int fin), some (.int car), some (.ref st.length), some (.ref (st.length + 1)), some (.int q.1), some (encC q.2)] = τ
  have e0 : gT 2 (gsCons (gN 5) (gsCons (gN 6) gsNil)) (encI encC q) [u, some (.int fin), some (.int car), some (.ref st.length), some (.ref (st.length + 1)), y, z] (st ++ [.lst (a.1.map encS), .lst (a.2.map encS)]) = some (τ, st ++ [.lst (a.1.map encS), .lst (a.2.map encS)]) := by
    rw [← hσ]; simp [encI]
  have g2 : ∀ s, gv 2 τ s = some (.int car, s) := fun s => by rw [← hσ]; rfl
  have g3 : ∀ s, gv 3 τ s = some (.ref st.length, s) := fun s => by rw [← hσ]; rfl
  have g4 : ∀ s, gv 4 τ s = some (.ref (st.length + 1), s) := fun s => by rw [← hσ]; rfl
  have g5 : ∀ s, gv 5 τ s = some (.int q.1, s) := fun s => by rw [← hσ]; rfl
  have g6 : ∀ s, gv 6 τ s = some (encC q.2, s) := fun s => by rw [← hσ]; rfl
  have hall := all_call (σ := τ) (i := 6) oq (by omega) wf (by rw [← hσ]; rfl)
  refine ⟨_, _, τ, st ++ [.lst ((bStep car a q).1.map encS), .lst ((bStep car a q).2.map encS)], e0, ?_, ⟨rfl, ⟨u, some (.int q.1), some (encC q.2), hσ.symm⟩, b1, b2, fun p hp => o p (List.mem_cons_of_mem _ hp), hb⟩⟩
  have x0 := ext2_0 (st := st) (acc := a.1.map encS) (ds := q.2.all.map encS) (p := .lst (a.2.map encS)) (by simp; omega)
  have x1 := ext2_1 (st := st) (acc := a.2.map encS) (ds := q.2.all.map encS) (p := .lst (a.1.map encS)) (by simp; omega)
  have x2 := ext2_0 (st := st) (acc := a.1.map encS) (ds := q.2.ah.map encS) (p := .lst (a.2.map encS)) (by simp; omega)
  have x3 := ext2_1 (st := st) (acc := a.2.map encS) (ds := q.2.be.map encS) (p := .lst ((a.1 ++ q.2.ah).map encS)) (by simp; omega)
  rw [← List.map_append] at x0 x1 x2 x3
  by_cases h1 : q.1 < car
  · have hb : bStep car a q = (a.1 ++ q.2.all, a.2) := if_pos h1
    rw [hb]
    simp only [e_mIfS, e_toB, e_mB, g5, g2, Option.bind_some, e_oLt, decide_eq_true h1, if_true, e_mEx, e_mM, g3, okL2_0, e_aCons, hall, e_aNil, x0]
  · by_cases h2 : q.1 = car
    · have hb : bStep car a q = (a.1 ++ q.2.ah, a.2 ++ q.2.be) := by unfold bStep; rw [if_neg h1, if_pos h2]
      rw [hb]
      simp only [e_mIfS, e_toB, e_mB, g5, g2, Option.bind_some, e_oLt, decide_eq_false h1, Bool.false_eq_true, if_false, eq_int, decide_eq_true h2, if_true, e_mSeq, e_mEx, e_mM, g3, g4, okL2_0, okL2_1, e_aCons, e_mFld, g6, oF_ah, oF_be, e_aNil, x2, x3]
    · have hb : bStep car a q = (a.1, a.2 ++ q.2.all) := by unfold bStep; rw [if_neg h1, if_neg h2]
      rw [hb]
      simp only [e_mIfS, e_toB, e_mB, g5, g2, Option.bind_some, e_oLt, decide_eq_false h1, Bool.false_eq_true, if_false, eq_int, decide_eq_false h2, e_mEx, e_mM, g4, okL2_1, if_true, e_aCons, hall, e_aNil, x1]
/-- Course(finish, ahead, behind), both lists of the store -/
theorem iceS (xs : List Sn) : ∀ s : Sto, iceL (iceD 1) (xs.map encS) s = some (xs.map encS, s) := fun s => by
  induction xs with
  | nil => rfl
  | cons x r ih => simp only [List.map_cons, iceL]; rw [show iceD 1 (encS x) s = some (encS x, s) from rfl]; simp [ih]
theorem course_make2 {c : Co} (hw : WfS st) {n : Nat} (h : c.ok n) {a : Ev (List D)} (ha : a σ (st ++ [.lst (c.ah.map encS), .lst (c.be.map encS)]) = some ([.int c.fin, .ref st.length, .ref (st.length + 1)], st ++ [.lst (c.ah.map encS), .lst (c.be.map encS)])) :
    mIceD 3 (mMake 1 SH.F_Course___init__ a) σ (st ++ [.lst (c.ah.map encS), .lst (c.be.map encS)]) = some (encC c, st ++ [.dead, .dead, .dead]) := by
  have wf := wf2 (st := st) hw h.a h.b
  have hl : (st ++ [O.lst (c.ah.map encS), O.lst (c.be.map encS)]).length = st.length + 2 := by simp
  have hin := course_init (st := st ++ [.lst (c.ah.map encS), .lst (c.be.map encS)]) (f := .int c.fin) (a := .ref st.length) (b := .ref (st.length + 1)) wf rfl (show decide (st.length < _) = true from decide_eq_true (by omega)) (show decide (st.length + 1 < _) = true from decide_eq_true (by omega))
  generalize hA : c.ah.map encS = As at *
  generalize hB : c.be.map encS = Bs at *
  have s1 : ((st ++ [O.lst As, O.lst Bs]) ++ [O.dead])[st.length]? = some (.lst As) := by
    rw [List.append_assoc, List.getElem?_append_right (Nat.le_refl _), Nat.sub_self]; rfl
  have s2 : ((st ++ [O.lst As, O.lst Bs]) ++ [O.dead]).set st.length .dead = st ++ [.dead, .lst Bs, .dead] := by
    rw [List.append_assoc, List.set_append_right _ _ (Nat.le_refl _), Nat.sub_self]; rfl
  have s3 : (st ++ [O.dead, O.lst Bs, O.dead])[st.length + 1]? = some (.lst Bs) := by
    rw [List.getElem?_append_right (Nat.le_succ _)]; simp
  have s4 : (st ++ [O.dead, O.lst Bs, O.dead]).set (st.length + 1) .dead = st ++ [.dead, .dead, .dead] := by
    rw [List.set_append_right _ _ (Nat.le_succ _)]; simp
  have i1 : ∀ s, iceL (iceD 1) As s = some (As, s) := by rw [← hA]; exact iceS _
  have i2 : ∀ s, iceL (iceD 1) Bs s = some (Bs, s) := by rw [← hB]; exact iceS _
  have h2 : iceD 2 (.ref st.length) ((st ++ [O.lst As, O.lst Bs]) ++ [O.dead]) = some (.lst As, st ++ [.dead, .lst Bs, .dead]) := by
    rw [ice_lst s1, s2, i1]; rfl
  have h3 : iceD 2 (.ref (st.length + 1)) (st ++ [O.dead, O.lst Bs, O.dead]) = some (.lst Bs, st ++ [.dead, .dead, .dead]) := by
    rw [ice_lst s3, s4, i2]; rfl
  simp only [e_mIceD, e_mMake, ha, Option.bind_some]
  rw [hin]
  simp only [Option.bind_some, ice_obj snoc_get, snoc_set, iceL]
  rw [show iceD 2 (.int c.fin) ((st ++ [O.lst As, O.lst Bs]) ++ [O.dead]) = some (.int c.fin, (st ++ [O.lst As, O.lst Bs]) ++ [O.dead]) from rfl]
  simp only [Option.bind_some, h2, h3, encC, hA, hB]
theorem beside_c {ps : List Co} {fin car : Int} (h : ∀ p ∈ ps, OkA p) (hn : nst ps ≤ 300000) (hw : WfS st) : SH.F_beside_course [.lst (ps.map encC), .int fin, .int car] st = some (encC (cBeside ps fin car), st) := by
  have start : BInv st fin car (idx 0 ps) ([], []) [some (.lst (ps.map encC)), some (.int fin), some (.int car), some (.ref st.length), some (.ref (st.length + 1)), none, none] (st ++ [.lst [], .lst []]) :=
    ⟨rfl, ⟨_, _, _, rfl⟩, (fun x hx => nomatch hx), (fun x hx => nomatch hx), (fun q hq => h _ (idx_mem hq)), by rw [nsq_idx]; simpa using hn⟩
  obtain ⟨σ', st', h1, h2⟩ := for_run (encI encC) (bStep car) (BInv st fin car) (beside_step hw fin car) (idx 0 ps) _ _ _ start
  obtain ⟨hs, ⟨u, y, z, rfl⟩, o1, o2, _, n⟩ := h2
  generalize hR : (idx 0 ps).foldl (bStep car) ([], []) = R at *
  have hc : cBeside ps fin car = ⟨fin, R.1, R.2⟩ := by simp only [cBeside, hR]
  have ok : (⟨fin, R.1, R.2⟩ : Co).ok (nst ps) := by rw [← hc]; exact beside_ok h
  have hm := course_make2 (st := st) (c := ⟨fin, R.1, R.2⟩) (σ := [u, some (.int fin), some (.int car), some (.ref st.length), some (.ref (st.length + 1)), y, z]) hw ok (a := aCons (gv 1) (aCons (gv 3) (aCons (gv 4) aNil))) (by simp [gv])
  have hcut := cut_dead2 (d := encC ⟨fin, R.1, R.2⟩) (n := st.length) (os := [.dead, .dead, .dead]) rfl hw (below_C ok.a ok.b)
  have hil : ilEnA (gv 0) [some (.lst (ps.map encC)), some (.int fin), some (.int car), some (.ref st.length), some (.ref (st.length + 1)), none, none] (st ++ [.lst [], .lst []]) = some (((idx 0 ps).map (encI encC), some), st ++ [.lst [], .lst []]) := by
    rw [← enum_idx]; rfl
  subst hs
  rw [hc]
  show (mSeq _ _ [some (.lst (ps.map encC)), some (.int fin), some (.int car), none, none, none, none] st).bind _ = _
  have l1 : (st ++ [O.lst []]).length = st.length + 1 := by simp
  simp only [e_mSeq, Option.bind_some, e_mPar, e_aCons, e_mNew, e_aNil, List.length_nil, Nat.zero_le, if_true, l1, List.append_assoc, List.cons_append, List.nil_append, List.set_cons_succ, List.set_cons_zero, e_mForL, hil]
  rw [h1]
  simp only [Option.bind_some, e_mRet, hm]
  exact hcut
end
end T

end
section
set_option Elab.async false
set_option linter.all false
set_option maxRecDepth 100000
set_option autoImplicit false
set_option exponentiation.threshold 5000
namespace T
open PySem PySem.Spec L2 Z
/-! ### greatest and least pairs -/
def pr (q : Int × Int) : PyData := .tuple [.int q.1, .int q.2]
def ltP (a b : Int × Int) : Bool := decide (a.1 < b.1 ∨ (a.1 = b.1 ∧ a.2 < b.2))
def maxP (a : Int × Int) (l : List (Int × Int)) : Int × Int := l.foldl (fun a y => if ltP a y = true then y else a) a
def minP (a : Int × Int) (l : List (Int × Int)) : Int × Int := l.foldl (fun a y => if ltP y a = true then y else a) a
theorem lt_pr (a b : Int × Int) : PySem.W.dataLt (pr a) (pr b) = ltP a b := PySem.W.dataLt_ii _ _ _ _
theorem max_pr : ∀ (l : List (Int × Int)) (a : Int × Int), PySem.W.maxD (pr a) (l.map pr) = pr (maxP a l)
  | [], a => rfl
  | y :: l, a => by
    have ih := max_pr l
    simp only [PySem.W.maxD, maxP, List.map_cons, List.foldl_cons, lt_pr] at ih ⊢
    by_cases h : ltP a y = true
    · rw [if_pos h, if_pos h]; exact ih y
    · rw [if_neg h, if_neg h]; exact ih a
theorem min_pr : ∀ (l : List (Int × Int)) (a : Int × Int), PySem.W.minD (pr a) (l.map pr) = pr (minP a l)
  | [], a => rfl
  | y :: l, a => by
    have ih := min_pr l
    simp only [PySem.W.minD, minP, List.map_cons, List.foldl_cons, lt_pr] at ih ⊢
    by_cases h : ltP y a = true
    · rw [if_pos h, if_pos h]; exact ih y
    · rw [if_neg h, if_neg h]; exact ih a
theorem pr_alike (a b : Int × Int) : PySem.W.alike (pr a) (pr b) = true := by simp [pr, PySem.W.alike, PySem.W.alikeAll]
theorem pr_lay : ∀ l : List (Int × Int), PyData.canLayAll0 (l.map pr) = true
  | [] => rfl
  | a :: l => by simp [PyData.canLayAll0, pr, PyData.canLay0, pr_lay l]
theorem pr_depth : ∀ l : List (Int × Int), PyData.depthAll (l.map pr) ≤ 60
  | [] => by simp [PyData.depthAll]
  | a :: l => by
    have := pr_depth l
    simp [PyData.depthAll, pr, PyData.depth]; omega
theorem pr_best (l : List (Int × Int)) : okBest (l.map pr) = true := by
  simp only [okBest, Bool.and_eq_true, List.all_eq_true, decide_eq_true_eq, Bool.not_eq_true']
  refine ⟨⟨⟨fun x hx y hy => ?_, fun x hx => ?_⟩, pr_lay l⟩, pr_depth l⟩
  · obtain ⟨a, _, rfl⟩ := List.mem_map.mp hx
    obtain ⟨b, _, rfl⟩ := List.mem_map.mp hy
    exact pr_alike a b
  · obtain ⟨a, _, rfl⟩ := List.mem_map.mp hx
    rfl
def encP (q : Int × Int) : D := .tup [.int q.1, .int q.2]
theorem pds_pr : ∀ l : List (Int × Int), pds (l.map encP) = some (l.map pr)
  | [] => rfl
  | a :: l => by
    show (pd (encP a)).bind (fun p => (pds (l.map encP)).bind fun ps => some (p :: ps)) = _
    rw [pds_pr l]; rfl
theorem dX_pr (a : Int × Int) : dX (pr a) = encP a := rfl
def fins (ps : List Co) : List (Int × Int) := (idx 0 ps).map fun q => (q.2.fin, q.1)
def carry (f : Int × Int → List (Int × Int) → Int × Int) (l : List (Int × Int)) : Int × Int := match l with
  | [] => (0, 0)
  | a :: l => f a l
def cJoin (ps : List Co) : Co := cBeside ps (carry maxP (fins ps)).1 (carry maxP (fins ps)).2
def cRace (ps : List Co) : Co := cBeside ps (carry minP (fins ps)).1 (carry minP (fins ps)).2
section
variable {st : Sto} {σ : Slo}
theorem gT2 {r : List D → Slo → Sto → Option (Slo × Sto)} {a b : D} : gT 2 r (.tup [a, b]) σ st = r [a, b] σ st := rfl
theorem gT3 {r : List D → Slo → Sto → Option (Slo × Sto)} {a b c : D} : gT 3 r (.tup [a, b, c]) σ st = r [a, b, c] σ st := rfl
theorem best_max (l : List (Int × Int)) : bBestX PySem.W.maxD [.lst (l.map encP)] [encP (0, 0)] st = some (encP (carry maxP l), st) := by
  simp only [bBestX, e_vL, Option.bind_some, pds_pr, pr_best, if_true]
  cases l with
  | nil => rfl
  | cons a l => simp only [List.map_cons, carry]; rw [max_pr]; rfl
theorem best_min (l : List (Int × Int)) : bBestX PySem.W.minD [.lst (l.map encP)] [encP (0, 0)] st = some (encP (carry minP l), st) := by
  simp only [bBestX, e_vL, Option.bind_some, pds_pr, pr_best, if_true]
  cases l with
  | nil => rfl
  | cons a l => simp only [List.map_cons, carry]; rw [min_pr]; rfl
theorem fins_lc {ps : List Co} (hl : ps.length ≤ 1000000) : mLcL (ilEnA (gv 0)) (gT 2 (gsCons (gN 1) (gsCons (gN 2) gsNil))) bYes (mTup (aCons (mFld [1] "finish" (gv 2)) (aCons (gv 1) aNil))) [1, 2] [some (.lst (ps.map encC)), none, none] st = some (.lst ((fins ps).map encP), st) := by
  have hil : ilEnA (gv 0) [some (.lst (ps.map encC)), none, none] st = some (((idx 0 ps).map (encI encC), some), st) := by
    rw [← enum_idx]; rfl
  have := lc_enc (me := mTup (aCons (mFld [1] "finish" (gv 2)) (aCons (gv 1) aNil))) (gm := gT 2 (gsCons (gN 1) (gsCons (gN 2) gsNil))) (vs := [1, 2]) (encI encC) (fun q => encP (q.2.fin, q.1)) (idx 0 ps) hil (fun q hq => ⟨[some (.lst (ps.map encC)), some (.int q.1), some (encC q.2)], by simp [encI, wipeD], by
    have : (2 : Nat) ≤ sizeLine := by decide
    simp [gv, encP, this]⟩) (by rw [idx_len]; exact sz hl)
  rw [this, fins, List.map_map]
  rfl
theorem ltf_c {ps : List Co} (hl : ps.length ≤ 1000000) (hw : WfS st) : SH.F_last_to_finish [.lst (ps.map encC)] st = some (encP (carry maxP (fins ps)), st) := by
  have h1 := fins_lc (st := st) hl
  have h2 := best_max (st := st) (fins ps)
  have two : (2 : Nat) ≤ sizeLine := by decide
  have e0 : encP (0, 0) = .tup [.int 0, .int 0] := rfl
  rw [e0] at h2
  have hcut := cut_ok (d := encP (carry maxP (fins ps))) (n := st.length) rfl rfl hw
  show (mRet _ [some (.lst (ps.map encC)), none, none] st).bind _ = _
  simp only [e_mRet, e_mCK, e_aCons, h1, e_aNil, Option.bind_some, e_mTup, e_ck, List.length_cons, List.length_nil, Nat.zero_add, Nat.reduceAdd, two, if_true, h2]
  exact hcut
theorem ftf_c {ps : List Co} (hl : ps.length ≤ 1000000) (hw : WfS st) : SH.F_first_to_finish [.lst (ps.map encC)] st = some (encP (carry minP (fins ps)), st) := by
  have h1 := fins_lc (st := st) hl
  have h2 := best_min (st := st) (fins ps)
  have two : (2 : Nat) ≤ sizeLine := by decide
  have e0 : encP (0, 0) = .tup [.int 0, .int 0] := rfl
  rw [e0] at h2
  have hcut := cut_ok (d := encP (carry minP (fins ps))) (n := st.length) rfl rfl hw
  show (mRet _ [some (.lst (ps.map encC)), none, none] st).bind _ = _
  simp only [e_mRet, e_mCK, e_aCons, h1, e_aNil, Option.bind_some, e_mTup, e_ck, List.length_cons, List.length_nil, Nat.zero_add, Nat.reduceAdd, two, if_true, h2]
  exact hcut
theorem join_c {ps : List Co} (h : ∀ p ∈ ps, OkA p) (hn : nst ps ≤ 300000) (hl : ps.length ≤ 1000000) (hw : WfS st) : SH.F_joined_course [.lst (ps.map encC)] st = some (encC (cJoin ps), st) := by
  have h2 := ltf_c (st := st) hl hw
  have h3 := beside_c (st := st) (fin := (carry maxP (fins ps)).1) (car := (carry maxP (fins ps)).2) h hn hw
  have hcut := cut_ok (d := encC (cJoin ps)) (n := st.length) rfl (below_C (beside_ok h).a (beside_ok h).b) hw
  show (mSeq _ _ [some (.lst (ps.map encC)), none, none] st).bind _ = _
  simp only [e_mSeq, e_mAsg, e_mC, e_aCons, e_aNil]
  simp only [gv, List.getElem?_cons_zero, List.getElem?_cons_succ, Option.bind_some, h2]
  rw [show encP (carry maxP (fins ps)) = .tup [.int (carry maxP (fins ps)).1, .int (carry maxP (fins ps)).2] from rfl]
  rw [gT2]
  simp only [e_gsCons, e_gsNil, e_gN, Option.bind_some, List.set_cons_succ, List.set_cons_zero, e_mRet, e_mC, e_aCons, e_aNil]
  simp only [gv, List.getElem?_cons_zero, List.getElem?_cons_succ, Option.bind_some, h3]
  exact hcut
theorem race_c {ps : List Co} (h : ∀ p ∈ ps, OkA p) (hn : nst ps ≤ 300000) (hl : ps.length ≤ 1000000) (hw : WfS st) : SH.F_raced_course [.lst (ps.map encC)] st = some (encC (cRace ps), st) := by
  have h2 := ftf_c (st := st) hl hw
  have h3 := beside_c (st := st) (fin := (carry minP (fins ps)).1) (car := (carry minP (fins ps)).2) h hn hw
  have hcut := cut_ok (d := encC (cRace ps)) (n := st.length) rfl (below_C (beside_ok h).a (beside_ok h).b) hw
  show (mSeq _ _ [some (.lst (ps.map encC)), none, none] st).bind _ = _
  simp only [e_mSeq, e_mAsg, e_mC, e_aCons, e_aNil]
  simp only [gv, List.getElem?_cons_zero, List.getElem?_cons_succ, Option.bind_some, h2]
  rw [show encP (carry minP (fins ps)) = .tup [.int (carry minP (fins ps)).1, .int (carry minP (fins ps)).2] from rfl]
  rw [gT2]
  simp only [e_gsCons, e_gsNil, e_gN, Option.bind_some, List.set_cons_succ, List.set_cons_zero, e_mRet, e_mC, e_aCons, e_aNil]
  simp only [gv, List.getElem?_cons_zero, List.getElem?_cons_succ, Option.bind_some, h3]
  exact hcut
end
/-! ### the course of a program whose loops have no bodies -/
mutual
def course : Pg → Co
  | .log w => cWord (.str w)
  | .aw n => cWait n
  | .seq ps => cSeq (courses ps)
  | .fork p => cFork (course p)
  | .join ps => cJoin (courses ps)
  | .race ps => cRace (courses ps)
  | .loop _ _ => ⟨0, [], []⟩
def courses : List Pg → List Co
  | [] => []
  | p :: ps => course p :: courses ps
end
theorem courses_map : ∀ ps : List Pg, courses ps = ps.map course
  | [] => rfl
  | p :: ps => by show course p :: courses ps = _; rw [courses_map ps]; rfl
mutual
def plainP : Pg → Bool
  | .log _ => true
  | .aw _ => true
  | .seq ps => plains ps
  | .fork p => plainP p
  | .join ps => plains ps
  | .race ps => plains ps
  | .loop _ _ => false
def plains : List Pg → Bool
  | [] => true
  | p :: ps => plainP p && plains ps
end
theorem plains_mem : ∀ {ps : List Pg} {p : Pg}, plains ps = true → p ∈ ps → plainP p = true
  | [], _, _, h => by cases h
  | q :: ps, p, e, h => by
    have e : (plainP q && plains ps) = true := e
    rw [Bool.and_eq_true] at e
    rcases List.mem_cons.mp h with rfl | h
    · exact e.1
    · exact plains_mem e.2 h
theorem fork_len (c : Co) : (cFork c).ah.length + (cFork c).be.length = c.ah.length + c.be.length := by simp [cFork, Co.all]
theorem seq_len (ps : List Co) : (cSeq ps).ah.length + (cSeq ps).be.length = nst ps := by
  have := tfold_len ps (0, [], [])
  simpa [cSeq] using this
theorem beside_len (ps : List Co) (f c : Int) : (cBeside ps f c).ah.length + (cBeside ps f c).be.length = nst ps := by
  have := bfold_len c (idx 0 ps) ([], [])
  rw [nsq_idx] at this
  simpa [cBeside] using this
mutual
theorem course_len : ∀ p : Pg, (course p).ah.length + (course p).be.length ≤ nodes p
  | .log w => by simp [course, cWord, nodes]
  | .aw n => by simp [course, cWait, nodes]
  | .seq ps => by have := courses_len ps; simp only [course, nodes]; rw [seq_len]; omega
  | .fork p => by have := course_len p; simp only [course, nodes]; rw [fork_len]; omega
  | .join ps => by have := courses_len ps; simp only [course, nodes, cJoin]; rw [beside_len]; omega
  | .race ps => by have := courses_len ps; simp only [course, nodes, cRace]; rw [beside_len]; omega
  | .loop n b => by simp [course, nodes]
theorem courses_len : ∀ ps : List Pg, nst (courses ps) ≤ nodess ps
  | [] => Nat.le_refl _
  | p :: ps => by have := course_len p; have := courses_len ps; simp only [courses, nst, nodess]; omega
end
mutual
theorem course_okA : ∀ p : Pg, OkA (course p)
  | .log w => ⟨(ok_word rfl).a, (ok_word rfl).b⟩
  | .aw n => ⟨ok_wait.a, ok_wait.b⟩
  | .seq ps => ⟨(seq_ok (courses_okA ps)).a, (seq_ok (courses_okA ps)).b⟩
  | .fork p => ⟨(ok_fork (course_okA p).ok).a, (ok_fork (course_okA p).ok).b⟩
  | .join ps => ⟨(beside_ok (courses_okA ps)).a, (beside_ok (courses_okA ps)).b⟩
  | .race ps => ⟨(beside_ok (courses_okA ps)).a, (beside_ok (courses_okA ps)).b⟩
  | .loop n b => ⟨(fun x hx => nomatch hx), (fun x hx => nomatch hx)⟩
theorem courses_okA : ∀ (ps : List Pg), ∀ c ∈ courses ps, OkA c
  | [], c, h => nomatch h
  | p :: ps, c, h => by
    rcases List.mem_cons.mp (show c ∈ course p :: courses ps from h) with rfl | h
    · exact course_okA p
    · exact courses_okA ps c h
end
end T

end
section
set_option Elab.async false
set_option linter.all false
set_option maxRecDepth 100000
set_option autoImplicit false
set_option exponentiation.threshold 5000
namespace T
open PySem PySem.Spec L2 Z
section
variable {st : Sto} {σ : Slo}
theorem eq_str (a b : Str) (ha : PyData.strOk a = true) (hb : PyData.strOk b = true) : oEqE (.str a) (.str b) st = some (.bl (decide (a = b)), st) := by
  have h : ∀ x : Str, PyData.strOk x = true → SeqAt.shaped (.str x) = true := fun x hx => by simp [SeqAt.shaped, PyData.canLay0, PyData.depth, hx]
  have e : PyData.eqv (.str a) (.str b) = decide (a = b) := by rw [Bool.eq_iff_iff]; simp [PyData.eqv]
  simp [oEqE, oEqE0, oEq, pyT, pyD, h a ha, h b hb, e]
theorem eq_str_t (a b : Str) (ha : PyData.strOk a = true) (hb : PyData.strOk b = true) (h : a = b) : oEqE (.str a) (.str b) st = some (.bl true, st) := by rw [eq_str a b ha hb, decide_eq_true h]
theorem eq_str_f (a b : Str) (ha : PyData.strOk a = true) (hb : PyData.strOk b = true) (h : ¬ a = b) : oEqE (.str a) (.str b) st = some (.bl false, st) := by rw [eq_str a b ha hb, decide_eq_false h]
theorem okk_log : PyData.strOk "log" = true := by decide +kernel
theorem okk_await : PyData.strOk "await" = true := by decide +kernel
theorem okk_fork : PyData.strOk "fork" = true := by decide +kernel
theorem okk_loop : PyData.strOk "loop" = true := by decide +kernel
theorem okk_seq : PyData.strOk "seq" = true := by decide +kernel
theorem okk_join : PyData.strOk "join" = true := by decide +kernel
theorem okk_race : PyData.strOk "race" = true := by decide +kernel
theorem k_log_log : oEqE (.str "log") (.str "log") st = some (.bl true, st) := eq_str_t _ _ okk_log okk_log rfl
theorem k_log_await : oEqE (.str "log") (.str "await") st = some (.bl false, st) := eq_str_f _ _ okk_log okk_await (by decide +kernel)
theorem k_log_fork : oEqE (.str "log") (.str "fork") st = some (.bl false, st) := eq_str_f _ _ okk_log okk_fork (by decide +kernel)
theorem k_log_loop : oEqE (.str "log") (.str "loop") st = some (.bl false, st) := eq_str_f _ _ okk_log okk_loop (by decide +kernel)
theorem k_log_seq : oEqE (.str "log") (.str "seq") st = some (.bl false, st) := eq_str_f _ _ okk_log okk_seq (by decide +kernel)
theorem k_log_join : oEqE (.str "log") (.str "join") st = some (.bl false, st) := eq_str_f _ _ okk_log okk_join (by decide +kernel)
theorem k_log_race : oEqE (.str "log") (.str "race") st = some (.bl false, st) := eq_str_f _ _ okk_log okk_race (by decide +kernel)
theorem k_await_log : oEqE (.str "await") (.str "log") st = some (.bl false, st) := eq_str_f _ _ okk_await okk_log (by decide +kernel)
theorem k_await_await : oEqE (.str "await") (.str "await") st = some (.bl true, st) := eq_str_t _ _ okk_await okk_await rfl
theorem k_await_fork : oEqE (.str "await") (.str "fork") st = some (.bl false, st) := eq_str_f _ _ okk_await okk_fork (by decide +kernel)
theorem k_await_loop : oEqE (.str "await") (.str "loop") st = some (.bl false, st) := eq_str_f _ _ okk_await okk_loop (by decide +kernel)
theorem k_await_seq : oEqE (.str "await") (.str "seq") st = some (.bl false, st) := eq_str_f _ _ okk_await okk_seq (by decide +kernel)
theorem k_await_join : oEqE (.str "await") (.str "join") st = some (.bl false, st) := eq_str_f _ _ okk_await okk_join (by decide +kernel)
theorem k_await_race : oEqE (.str "await") (.str "race") st = some (.bl false, st) := eq_str_f _ _ okk_await okk_race (by decide +kernel)
theorem k_fork_log : oEqE (.str "fork") (.str "log") st = some (.bl false, st) := eq_str_f _ _ okk_fork okk_log (by decide +kernel)
theorem k_fork_await : oEqE (.str "fork") (.str "await") st = some (.bl false, st) := eq_str_f _ _ okk_fork okk_await (by decide +kernel)
theorem k_fork_fork : oEqE (.str "fork") (.str "fork") st = some (.bl true, st) := eq_str_t _ _ okk_fork okk_fork rfl
theorem k_fork_loop : oEqE (.str "fork") (.str "loop") st = some (.bl false, st) := eq_str_f _ _ okk_fork okk_loop (by decide +kernel)
theorem k_fork_seq : oEqE (.str "fork") (.str "seq") st = some (.bl false, st) := eq_str_f _ _ okk_fork okk_seq (by decide +kernel)
theorem k_fork_join : oEqE (.str "fork") (.str "join") st = some (.bl false, st) := eq_str_f _ _ okk_fork okk_join (by decide +kernel)
theorem k_fork_race : oEqE (.str "fork") (.str "race") st = some (.bl false, st) := eq_str_f _ _ okk_fork okk_race (by decide +kernel)
theorem k_loop_log : oEqE (.str "loop") (.str "log") st = some (.bl false, st) := eq_str_f _ _ okk_loop okk_log (by decide +kernel)
theorem k_loop_await : oEqE (.str "loop") (.str "await") st = some (.bl false, st) := eq_str_f _ _ okk_loop okk_await (by decide +kernel)
theorem k_loop_fork : oEqE (.str "loop") (.str "fork") st = some (.bl false, st) := eq_str_f _ _ okk_loop okk_fork (by decide +kernel)
theorem k_loop_loop : oEqE (.str "loop") (.str "loop") st = some (.bl true, st) := eq_str_t _ _ okk_loop okk_loop rfl
theorem k_loop_seq : oEqE (.str "loop") (.str "seq") st = some (.bl false, st) := eq_str_f _ _ okk_loop okk_seq (by decide +kernel)
theorem k_loop_join : oEqE (.str "loop") (.str "join") st = some (.bl false, st) := eq_str_f _ _ okk_loop okk_join (by decide +kernel)
theorem k_loop_race : oEqE (.str "loop") (.str "race") st = some (.bl false, st) := eq_str_f _ _ okk_loop okk_race (by decide +kernel)
theorem k_seq_log : oEqE (.str "seq") (.str "log") st = some (.bl false, st) := eq_str_f _ _ okk_seq okk_log (by decide +kernel)
theorem k_seq_await : oEqE (.str "seq") (.str "await") st = some (.bl false, st) := eq_str_f _ _ okk_seq okk_await (by decide +kernel)
theorem k_seq_fork : oEqE (.str "seq") (.str "fork") st = some (.bl false, st) := eq_str_f _ _ okk_seq okk_fork (by decide +kernel)
theorem k_seq_loop : oEqE (.str "seq") (.str "loop") st = some (.bl false, st) := eq_str_f _ _ okk_seq okk_loop (by decide +kernel)
theorem k_seq_seq : oEqE (.str "seq") (.str "seq") st = some (.bl true, st) := eq_str_t _ _ okk_seq okk_seq rfl
theorem k_seq_join : oEqE (.str "seq") (.str "join") st = some (.bl false, st) := eq_str_f _ _ okk_seq okk_join (by decide +kernel)
theorem k_seq_race : oEqE (.str "seq") (.str "race") st = some (.bl false, st) := eq_str_f _ _ okk_seq okk_race (by decide +kernel)
theorem k_join_log : oEqE (.str "join") (.str "log") st = some (.bl false, st) := eq_str_f _ _ okk_join okk_log (by decide +kernel)
theorem k_join_await : oEqE (.str "join") (.str "await") st = some (.bl false, st) := eq_str_f _ _ okk_join okk_await (by decide +kernel)
theorem k_join_fork : oEqE (.str "join") (.str "fork") st = some (.bl false, st) := eq_str_f _ _ okk_join okk_fork (by decide +kernel)
theorem k_join_loop : oEqE (.str "join") (.str "loop") st = some (.bl false, st) := eq_str_f _ _ okk_join okk_loop (by decide +kernel)
theorem k_join_seq : oEqE (.str "join") (.str "seq") st = some (.bl false, st) := eq_str_f _ _ okk_join okk_seq (by decide +kernel)
theorem k_join_join : oEqE (.str "join") (.str "join") st = some (.bl true, st) := eq_str_t _ _ okk_join okk_join rfl
theorem k_join_race : oEqE (.str "join") (.str "race") st = some (.bl false, st) := eq_str_f _ _ okk_join okk_race (by decide +kernel)
theorem k_race_log : oEqE (.str "race") (.str "log") st = some (.bl false, st) := eq_str_f _ _ okk_race okk_log (by decide +kernel)
theorem k_race_await : oEqE (.str "race") (.str "await") st = some (.bl false, st) := eq_str_f _ _ okk_race okk_await (by decide +kernel)
theorem k_race_fork : oEqE (.str "race") (.str "fork") st = some (.bl false, st) := eq_str_f _ _ okk_race okk_fork (by decide +kernel)
theorem k_race_loop : oEqE (.str "race") (.str "loop") st = some (.bl false, st) := eq_str_f _ _ okk_race okk_loop (by decide +kernel)
theorem k_race_seq : oEqE (.str "race") (.str "seq") st = some (.bl false, st) := eq_str_f _ _ okk_race okk_seq (by decide +kernel)
theorem k_race_join : oEqE (.str "race") (.str "join") st = some (.bl false, st) := eq_str_f _ _ okk_race okk_join (by decide +kernel)
theorem k_race_race : oEqE (.str "race") (.str "race") st = some (.bl true, st) := eq_str_t _ _ okk_race okk_race rfl
theorem ix2_0 (a b : D) : oIx (.tup [a, b]) (.int 0) st = some (a, st) := by simp only [oIx, ixL]; rfl
theorem ix2_1 (a b : D) : oIx (.tup [a, b]) (.int 1) st = some (b, st) := by simp only [oIx, ixL]; rfl
theorem ix3_0 (a b c : D) : oIx (.tup [a, b, c]) (.int 0) st = some (a, st) := by simp only [oIx, ixL]; rfl
theorem ix3_1 (a b c : D) : oIx (.tup [a, b, c]) (.int 1) st = some (b, st) := by simp only [oIx, ixL]; rfl
theorem ix3_2 (a b c : D) : oIx (.tup [a, b, c]) (.int 2) st = some (c, st) := by simp only [oIx, ixL]; rfl
theorem walk_tup {ds : List D} {a : EM} (h : a σ st = some (.tup ds, st)) : ilAny a σ st = some ((ds, some), st) := by
  simp [ilAny, h, walkD]

theorem course_of_ok : ∀ (n : Nat) (p : Pg) (st : Sto), dep p ≤ n → plainP p = true → nodes p ≤ 300000 → WfS st → SH.F_course_of n [enc p] st = some (encC (course p), st)
  | 0, p, st, h, _, _, _ => by cases p <;> simp [dep] at h
  | n + 1, p, st, hd, hp, hn, hw => by
    have hok := course_okA p
    have hcut := cut_ok (d := encC (course p)) (n := st.length) rfl (below_C hok.1 hok.2) hw
    have lc : ∀ (k : Str) (ps : List Pg), deps ps ≤ n → plains ps = true → nodess ps ≤ 300000 → mLcL (ilAny (mB oIx (gv 0) (ck (.int 1)))) (gN 3) bYes (mC (SH.F_course_of n) (aCons (gv 3) aNil)) [3] [some (.tup [.str k, .tup (encs ps)]), some (.str k), none, none] st = some (.lst ((courses ps).map encC), st) := fun k ps h1 h2 h3 => by
      have := lc_enc (it := ilAny (mB oIx (gv 0) (ck (.int 1)))) (gm := gN 3) (me := mC (SH.F_course_of n) (aCons (gv 3) aNil)) (vs := [3]) (σ := [some (.tup [.str k, .tup (encs ps)]), some (.str k), none, none]) (st := st) (st1 := st) enc (fun p => encC (course p)) ps
        (walk_tup (by simp [gv, ix2_1, encs_map])) (fun p hp => ⟨[some (.tup [.str k, .tup (encs ps)]), some (.str k), none, some (enc p)], rfl, by
          have ih := course_of_ok n p st (Nat.le_trans (deps_mem hp) h1) (plains_mem h2 hp) (Nat.le_trans (nodess_mem hp) h3) hw
          simp only [e_mC, e_aCons, e_aNil, gv, List.getElem?_cons_zero, List.getElem?_cons_succ, Option.bind_some]
          exact ih⟩) (sz (by have := len_nodess ps; omega))
      rw [this, courses_map, List.map_map]; rfl
    cases p with

    | log w =>
      have hk := word_c (w := .str w) (st := st) rfl hw
      show (mSeq _ _ [some (.tup [.str "log", .str w]), none, none, none] st).bind _ = _
      simp only [e_mSeq, e_mSet, e_mB, e_mIfS, e_toB, e_ck, e_mRet, e_mC, e_aCons, e_aNil, e_mNil, Option.bind_some, List.set_cons_succ, List.set_cons_zero, Bool.false_eq_true, if_false, if_true, gv, List.getElem?_cons_zero, List.getElem?_cons_succ, ix2_0, ix2_1, k_log_log, k_log_await, k_log_fork, k_log_loop, k_log_seq, k_log_join, k_log_race, hk]
      exact hcut

    | aw m =>
      have hk := wait_c (n := m) (st := st) hw
      show (mSeq _ _ [some (.tup [.str "await", .int m]), none, none, none] st).bind _ = _
      simp only [e_mSeq, e_mSet, e_mB, e_mIfS, e_toB, e_ck, e_mRet, e_mC, e_aCons, e_aNil, e_mNil, Option.bind_some, List.set_cons_succ, List.set_cons_zero, Bool.false_eq_true, if_false, if_true, gv, List.getElem?_cons_zero, List.getElem?_cons_succ, ix2_0, ix2_1, k_await_log, k_await_await, k_await_fork, k_await_loop, k_await_seq, k_await_join, k_await_race, hk]
      exact hcut

    | fork q =>
      simp only [dep, nodes] at hd hn
      have ih := course_of_ok n q st (by omega) hp (by omega) hw
      have hk := fork_c (course_okA q).ok (by have := course_len q; omega) hw (st := st)
      show (mSeq _ _ [some (.tup [.str "fork", enc q]), none, none, none] st).bind _ = _
      simp only [e_mSeq, e_mSet, e_mB, e_mIfS, e_toB, e_ck, e_mRet, e_mC, e_aCons, e_aNil, e_mNil, Option.bind_some, List.set_cons_succ, List.set_cons_zero, Bool.false_eq_true, if_false, if_true, gv, List.getElem?_cons_zero, List.getElem?_cons_succ, ix2_0, ix2_1, k_fork_log, k_fork_await, k_fork_fork, k_fork_loop, k_fork_seq, k_fork_join, k_fork_race, ih, hk]
      exact hcut

    | seq ps =>
      simp only [dep, nodes] at hd hn
      have hlc := lc "seq" ps (by omega) hp (by omega)
      have hl : (courses ps).length ≤ 1000000 := by rw [courses_map, List.length_map]; have := len_nodess ps; omega
      have hk := turned_c (courses_okA ps) (by have := courses_len ps; omega) hw (st := st)
      show (mSeq _ _ [some (.tup [.str "seq", .tup (encs ps)]), none, none, none] st).bind _ = _
      simp only [e_mSeq, e_mSet, e_mB, e_mIfS, e_toB, e_ck, e_mRet, e_mC, e_aCons, e_aNil, e_mNil, Option.bind_some, List.set_cons_succ, List.set_cons_zero, Bool.false_eq_true, if_false, if_true, gv, List.getElem?_cons_zero, List.getElem?_cons_succ, ix2_0, ix2_1, k_seq_log, k_seq_await, k_seq_fork, k_seq_loop, k_seq_seq, k_seq_join, k_seq_race, hlc, hk]
      exact hcut

    | join ps =>
      simp only [dep, nodes] at hd hn
      have hlc := lc "join" ps (by omega) hp (by omega)
      have hl : (courses ps).length ≤ 1000000 := by rw [courses_map, List.length_map]; have := len_nodess ps; omega
      have hk := join_c (courses_okA ps) (by have := courses_len ps; omega) hl hw (st := st)
      show (mSeq _ _ [some (.tup [.str "join", .tup (encs ps)]), none, none, none] st).bind _ = _
      simp only [e_mSeq, e_mSet, e_mB, e_mIfS, e_toB, e_ck, e_mRet, e_mC, e_aCons, e_aNil, e_mNil, Option.bind_some, List.set_cons_succ, List.set_cons_zero, Bool.false_eq_true, if_false, if_true, gv, List.getElem?_cons_zero, List.getElem?_cons_succ, ix2_0, ix2_1, k_join_log, k_join_await, k_join_fork, k_join_loop, k_join_seq, k_join_join, k_join_race, hlc, hk]
      exact hcut

    | race ps =>
      simp only [dep, nodes] at hd hn
      have hlc := lc "race" ps (by omega) hp (by omega)
      have hl : (courses ps).length ≤ 1000000 := by rw [courses_map, List.length_map]; have := len_nodess ps; omega
      have hk := race_c (courses_okA ps) (by have := courses_len ps; omega) hl hw (st := st)
      show (mSeq _ _ [some (.tup [.str "race", .tup (encs ps)]), none, none, none] st).bind _ = _
      simp only [e_mSeq, e_mSet, e_mB, e_mIfS, e_toB, e_ck, e_mRet, e_mC, e_aCons, e_aNil, e_mNil, Option.bind_some, List.set_cons_succ, List.set_cons_zero, Bool.false_eq_true, if_false, if_true, gv, List.getElem?_cons_zero, List.getElem?_cons_succ, ix2_0, ix2_1, k_race_log, k_race_await, k_race_fork, k_race_loop, k_race_seq, k_race_join, k_race_race, hlc, hk]
      exact hcut

    | loop m b => cases hp
end
end T

end
section
set_option Elab.async false
set_option linter.all false
set_option maxRecDepth 100000
set_option autoImplicit false
set_option exponentiation.threshold 5000
namespace T
open PySem PySem.Spec L2 Z
/-! ### what all strands of a plainP program have -/
def AllC (P : Sn → Prop) (c : Co) : Prop := (∀ x ∈ c.ah, P x) ∧ ∀ x ∈ c.be, P x
theorem app_P {P : Sn → Prop} {xs ys : List Sn} (h1 : ∀ x ∈ xs, P x) (h2 : ∀ x ∈ ys, P x) : ∀ x ∈ xs ++ ys, P x := fun x hx => by
  rcases List.mem_append.mp hx with hx | hx
  · exact h1 x hx
  · exact h2 x hx
theorem AllC.all {P : Sn → Prop} {c : Co} (h : AllC P c) : ∀ x ∈ c.all, P x := app_P h.1 h.2
theorem map_P {P : Sn → Prop} (hm : ∀ x k, P x → P (x.mv k)) {xs : List Sn} {k : Int} (h : ∀ x ∈ xs, P x) : ∀ x ∈ xs.map (Sn.mv k), P x := fun x hx => by
  obtain ⟨y, hy, rfl⟩ := List.mem_map.mp hx; exact hm y k (h y hy)
theorem tfold_P {P : Sn → Prop} (hm : ∀ x k, P x → P (x.mv k)) : ∀ (ps : List Co) (a : Int × List Sn × List Sn), (∀ p ∈ ps, AllC P p) → (∀ x ∈ a.2.1, P x) → (∀ x ∈ a.2.2, P x) → (∀ x ∈ (ps.foldl tStep a).2.1, P x) ∧ ∀ x ∈ (ps.foldl tStep a).2.2, P x
  | [], a, _, h1, h2 => ⟨h1, h2⟩
  | p :: ps, a, h, h1, h2 => tfold_P hm ps (tStep a p) (fun q hq => h q (List.mem_cons_of_mem _ hq)) (app_P h1 (map_P hm (h p List.mem_cons_self).1)) (app_P (map_P hm (h p List.mem_cons_self).2) h2)
theorem bfold_P {P : Sn → Prop} (car : Int) : ∀ (qs : List (Int × Co)) (a : List Sn × List Sn), (∀ q ∈ qs, AllC P q.2) → (∀ x ∈ a.1, P x) → (∀ x ∈ a.2, P x) → (∀ x ∈ (qs.foldl (bStep car) a).1, P x) ∧ ∀ x ∈ (qs.foldl (bStep car) a).2, P x
  | [], a, _, h1, h2 => ⟨h1, h2⟩
  | q :: qs, a, h, h1, h2 => by
    have hq := h q List.mem_cons_self
    have : (∀ x ∈ (bStep car a q).1, P x) ∧ ∀ x ∈ (bStep car a q).2, P x := by
      unfold bStep
      split
      · exact ⟨app_P h1 hq.all, h2⟩
      · split
        · exact ⟨app_P h1 hq.1, app_P h2 hq.2⟩
        · exact ⟨h1, app_P h2 hq.all⟩
    exact bfold_P car qs _ (fun p hp => h p (List.mem_cons_of_mem _ hp)) this.1 this.2
theorem beside_P {P : Sn → Prop} {ps : List Co} {f c : Int} (h : ∀ p ∈ ps, AllC P p) : AllC P (cBeside ps f c) :=
  bfold_P c (idx 0 ps) ([], []) (fun q hq => h _ (idx_mem hq)) (fun x hx => nomatch hx) (fun x hx => nomatch hx)
mutual
theorem course_P {P : Sn → Prop} (hm : ∀ x k, P x → P (x.mv k)) (h0 : ∀ w, P (once (.str w) 0)) : ∀ p : Pg, AllC P (course p)
  | .log w => ⟨fun x hx => by simp [course, cWord] at hx; subst hx; exact h0 w, fun x hx => by simp [course, cWord] at hx⟩
  | .aw n => ⟨fun x hx => by simp [course, cWait] at hx, fun x hx => by simp [course, cWait] at hx⟩
  | .seq ps => tfold_P hm (courses ps) (0, [], []) (courses_P hm h0 ps) (fun x hx => nomatch hx) (fun x hx => nomatch hx)
  | .fork p => ⟨(course_P hm h0 p).all, fun x hx => by simp [course, cFork] at hx⟩
  | .join ps => beside_P (courses_P hm h0 ps)
  | .race ps => beside_P (courses_P hm h0 ps)
  | .loop _ _ => ⟨fun x hx => by simp [course] at hx, fun x hx => by simp [course] at hx⟩
theorem courses_P {P : Sn → Prop} (hm : ∀ x k, P x → P (x.mv k)) (h0 : ∀ w, P (once (.str w) 0)) : ∀ (ps : List Pg), ∀ c ∈ courses ps, AllC P c
  | [], c, h => nomatch h
  | p :: ps, c, h => by
    rcases List.mem_cons.mp (show c ∈ course p :: courses ps from h) with rfl | h
    · exact course_P hm h0 p
    · exact courses_P hm h0 ps c h
end
/-! ### counts of strands -/
def total (c : Co) : Int := (c.all.map Sn.m).sum
def lastOf (c : Co) : Option Int := match c.all with
  | [] => none
  | x :: xs => some (maxN ((x :: xs).map Sn.last))
def optD : Option Int → D
  | none => .non
  | some i => .int i
section
variable {st : Sto} {σ : Slo}
theorem all_lc {c : Co} {f : Str} (g : Sn → Int) (h : OkA c) (hn : c.ah.length + c.be.length ≤ 1000000) (hw : WfS st) (hf : ∀ (x : Sn) (st : Sto), oFld [0] f (encS x) st = some (.int (g x), st)) :
    mLcL (ilAny (mMeth "all_strands" [(1, SH.F_Course_all_strands)] (gv 0) aNil)) (gN 1) bYes (mFld [0] f (gv 1)) [1] [some (encC c), none] st = some (.lst (c.all.map fun x => .int (g x)), st) := by
  have ha := all_call (st := st) (σ := [some (encC c), none]) (i := 0) h hn hw rfl
  refine lc_enc encS _ c.all (walk_lst ha) (fun x hx => ⟨[some (encC c), some (encS x)], rfl, ?_⟩) (sz (by simp [Co.all]; omega))
  simp [gv, hf]
theorem intsD_map {α : Type} (g : α → Int) : ∀ xs : List α, intsD (xs.map fun x => .int (g x)) = some (xs.map g)
  | [] => rfl
  | x :: xs => by simp [intsD, intsD_map g xs]
theorem total_c {c : Co} (h : OkA c) (hn : c.ah.length + c.be.length ≤ 1000000) (hw : WfS st) : SH.F_Course_total [encC c] st = some (.int (total c), st) := by
  have h1 := all_lc (st := st) (c := c) (f := "many") Sn.m h hn hw (fun x st => oF_m)
  have hcut := cut_ok (d := .int (total c)) (n := st.length) rfl rfl hw
  have h2 : bSum [.lst (c.all.map fun x => .int (Sn.m x))] st = some (.int (total c), st) := by
    simp [bSum, intsD_map, total]
  show (mRet _ [some (encC c), none] st).bind _ = _
  simp only [e_mRet, e_mC, e_aCons, h1, e_aNil, Option.bind_some, h2]
  exact hcut
theorem last_c {c : Co} (h : OkA c) (hn : c.ah.length + c.be.length ≤ 1000000) (hw : WfS st) : SH.F_Course_last_round [encC c] st = some (optD (lastOf c), st) := by
  have h1 := all_lc (st := st) (c := c) (f := "last") Sn.last h hn hw (fun x st => oF_l)
  have hb : below st.length (optD (lastOf c)) = true := by cases lastOf c <;> rfl
  have hcut := cut_ok (d := optD (lastOf c)) (n := st.length) rfl hb hw
  have h2 : bBestD maxN [.lst (c.all.map fun x => .int (Sn.last x))] [.non] st = some (optD (lastOf c), st) := by
    simp only [bBestD, e_vL, Option.bind_some, intsD_map, lastOf]
    cases c.all with
    | nil => rfl
    | cons x xs => rfl
  show (mRet _ [some (encC c), none] st).bind _ = _
  simp only [e_mRet, e_mCK, e_aCons, h1, e_aNil, e_ck, Option.bind_some, h2]
  exact hcut
/-! ### bodies -/
def bodyT (p : Pg) : Bool := let c := course p
  decide (1 ≤ c.fin) && decide (c.fin ≤ 6) && !decide (12 < total c) && (decide (total c = 0) || (match lastOf c with | none => false | some i => decide (i ≤ 30)))
theorem nm_tot {F : FM} {c : Co} {i : Nat} (hi : σ[i]? = some (some (encC c))) : mMeth "total" [(1, F)] (gv i) aNil σ st = F [encC c] st := by
  rw [nm_C n_total (c := c) (by simp [gv, hi])]; rfl
theorem nm_lst {F : FM} {c : Co} {i : Nat} (hi : σ[i]? = some (some (encC c))) : mMeth "last_round" [(1, F)] (gv i) aNil σ st = F [encC c] st := by
  rw [nm_C n_last (c := c) (by simp [gv, hi])]; rfl
theorem cut_b {b : Bool} (hw : WfS st) : cutSt st.length (.bl b) st = some (.bl b, st) := cut_ok rfl rfl hw
theorem tot0 {p : Pg} (h : ¬ total (course p) = 0) : ∃ i, lastOf (course p) = some i := by
  unfold lastOf
  split
  · rename_i e
    exact absurd (by simp [total, e]) h
  · exact ⟨_, rfl⟩
theorem body_c {p : Pg} (hd : dep p ≤ 20) (hp : plainP p = true) (hn : nodes p ≤ 300000) (hw : WfS st) : SH.F_is_body [enc p] st = some (.bl (bodyT p), st) := by
  have hc := course_of_ok 20 p st hd hp hn hw
  have hl := course_len p
  have ht := total_c (st := st) (course_okA p) (by omega) hw
  have hr := last_c (st := st) (course_okA p) (by omega) hw
  have hcut := fun b => cut_b (b := b) hw
  have m1 := nm_tot (st := st) (σ := [some (enc p), some (encC (course p))]) (F := SH.F_Course_total) (c := course p) (i := 1) rfl
  have m2 := nm_lst (st := st) (σ := [some (enc p), some (encC (course p))]) (F := SH.F_Course_last_round) (c := course p) (i := 1) rfl
  rw [ht] at m1
  rw [hr] at m2
  have g1 : ∀ s, gv 1 [some (enc p), some (encC (course p))] s = some (encC (course p), s) := fun s => rfl
  have g0 : gv 0 [some (enc p), none] st = some (enc p, st) := rfl
  have hle : ∀ a b : Int, oLe (.int a) (.int b) st = some (.bl (decide (a ≤ b)), st) := fun a b => rfl
  have hgt : ∀ a b : Int, oGt (.int a) (.int b) st = some (.bl (decide (b < a)), st) := fun a b => rfl
  show (mSeq _ _ [some (enc p), none] st).bind _ = _
  simp only [e_mSeq, e_mSet, e_mC, e_aCons, g0, e_aNil, Option.bind_some, hc, List.set_cons_succ, List.set_cons_zero, e_mIfS, e_bOr, e_bNot, e_toB, e_mCh, e_ck, e_mFld, g1, oF_fin, hle, e_mB, m1, hgt]
  by_cases h1 : 1 ≤ (course p).fin
  · by_cases h2 : (course p).fin ≤ 6
    · by_cases h3 : 12 < total (course p)
      · simp [h1, h2, h3, hcut, bodyT, m1, -e_mMeth]
      · by_cases h4 : total (course p) = 0
        · simp [h1, h2, h3, h4, hcut, bodyT, e_vOr, m1, eq_int, -e_mMeth]
        · obtain ⟨i, hi⟩ := tot0 h4
          rw [hi] at m2
          simp [h1, h2, h3, h4, hcut, bodyT, e_vOr, m1, m2, hi, optD, eq_int, -e_mMeth]
    · simp [h1, h2, hcut, bodyT]
  · simp [h1, hcut, bodyT]
end
end T

end
section
set_option Elab.async false
set_option linter.all false
set_option maxRecDepth 100000
set_option autoImplicit false
set_option exponentiation.threshold 5000
namespace T
open PySem PySem.Spec L2 Z
/-! ### words, counts, nodes -/
def lowB (c : Nat) : Bool := decide (97 ≤ c) && decide (c ≤ 122)
def wordT (x : Str) : Bool := decide (1 ≤ x.length) && decide (x.length ≤ 8) && x.cps.toList.all lowB
theorem le_one (a b : Nat) (st : Sto) : oLe (.str ⟨#[a]⟩) (.str ⟨#[b]⟩) st = some (.bl (decide (a ≤ b)), st) := by
  have : (!decide (([b] : List Nat) < [a])) = decide (a ≤ b) := by
    rw [Bool.eq_iff_iff]
    simp [List.cons_lt_cons_iff]
  show some (D.bl (!decide (([b] : List Nat) < [a])), st) = _
  rw [this]
theorem ch_a : ("a" : Str) = ⟨#[97]⟩ := by decide +kernel
theorem ch_z : ("z" : Str) = ⟨#[122]⟩ := by decide +kernel
def chD (d : D) : Bool := match d with
  | .str ⟨#[c]⟩ => lowB c
  | _ => false
theorem blsD_map {α : Type} (f : α → Bool) : ∀ ds : List α, blsD (ds.map fun d => .bl (f d)) = some (ds.map f)
  | [] => rfl
  | d :: ds => by simp [blsD, blsD_map f ds]
theorem all_map {α : Type} (f : α → Bool) (ds : List α) (st : Sto) : bAll [.lst (ds.map fun d => .bl (f d))] st = some (.bl (ds.all f), st) := by
  simp [bAll, blsD_map, List.all_map]
section
variable {st : Sto} {σ : Slo}
theorem word_c' {x : Str} (hl : x.length ≤ 100000) (hw : WfS st) : SH.F_is_word [.str x] st = some (.bl (wordT x), st) := by
  have hc := fun b => cut_b (b := b) hw
  have hz : x.length ≤ sizeLine := Nat.le_trans hl (by decide +kernel)
  have step : ∀ c : Nat, ∀ σ : Slo, σ.length = 2 → mCh oLe oLe (ck (.str "a")) (gv 1) (ck (.str "z")) (σ.set 1 (some (.str ⟨#[c]⟩))) st = some (.bl (lowB c), st) := fun c σ hs => by
    have hg : (σ.set 1 (some (D.str ⟨#[c]⟩)))[1]? = some (some (.str ⟨#[c]⟩)) := List.getElem?_set_self (by omega)
    by_cases h1 : 97 ≤ c
    · simp [gv, hg, ch_a, ch_z, le_one, h1, lowB]
    · simp [gv, hg, ch_a, ch_z, le_one, h1, lowB]
  have turns : mComp (gN 1) bYes (mCh oLe oLe (ck (.str "a")) (gv 1) (ck (.str "z"))) (wipeD [some (.str x), none] [1]) (strD x) st = some ((strD x).map fun d => .bl (chD d), st) := by
    have := comp_enc1 (gm := gN 1) (me := mCh oLe oLe (ck (.str "a")) (gv 1) (ck (.str "z"))) (σ := wipeD [some (.str x), none] [1]) (st := st) (fun d => d) (fun d => .bl (chD d)) (strD x) fun d hd => by
      obtain ⟨c, _, rfl⟩ := List.mem_map.mp hd
      exact ⟨_, rfl, step c _ rfl⟩
    simpa using this
  have lenS : (strD x).length = x.length := by simp [strD, Str.length]
  have allS : (strD x).all chD = x.cps.toList.all lowB := by
    simp only [strD, List.all_map]
    rfl
  by_cases h1 : 1 ≤ x.length
  · have i1 : (1 : Int) ≤ (x.length : Int) := by omega
    by_cases h2 : x.length ≤ 8
    · have i2 : (x.length : Int) ≤ 8 := by omega
      have sz : (strD x).length ≤ sizeLine := by rw [lenS]; exact hz
      simp [i1, i2, sz, SH.F_is_word, mkF, gv, tyD, isTy, truD, bLen, lenD, hz, h1, h2, hc, mLcL, ilAny, walkD, turns, all_map, allS, wordT, lenS]
    · have i2 : ¬ (x.length : Int) ≤ 8 := by omega
      simp [i1, i2, SH.F_is_word, mkF, gv, tyD, isTy, truD, bLen, lenD, hz, h1, h2, hc, wordT]
  · have i1 : ¬ (1 : Int) ≤ (x.length : Int) := by omega
    simp [i1, SH.F_is_word, mkF, gv, tyD, isTy, truD, bLen, lenD, hz, h1, hc, wordT]
def countT (n least : Int) : Bool := decide (least ≤ n) && decide (n ≤ 1000000000000000000)
theorem integer_c {n : Int} (hw : WfS st) : SH.F_is_integer [.int n] st = some (.bl true, st) := by
  have hc := fun b => cut_b (b := b) hw
  simp [SH.F_is_integer, mkF, gv, tyD, isTy, hc]
theorem count_c {n least : Int} (hw : WfS st) : SH.F_is_count [.int n, .int least] st = some (.bl (countT n least), st) := by
  have hc := fun b => cut_b (b := b) hw
  have h := integer_c (n := n) hw
  by_cases h1 : least ≤ n
  · simp [SH.F_is_count, mkF, gv, h, hc, countT, h1]
  · simp [SH.F_is_count, mkF, gv, h, hc, countT, h1]
theorem parts_c {ds : List D} {a b : Int} (hl : ds.length ≤ 1000000) (hw : WfS st) : SH.F_are_parts [.tup ds, .int a, .int b] st = some (.bl (decide (a ≤ ds.length) && decide ((ds.length : Int) ≤ b)), st) := by
  have hc := fun b => cut_b (b := b) hw
  by_cases h1 : a ≤ (ds.length : Int)
  · simp [SH.F_are_parts, mkF, gv, tyD, isTy, bLen, lenD, hc, h1]
  · simp [SH.F_are_parts, mkF, gv, tyD, isTy, bLen, lenD, hc, h1]
def nodeT : Pg → Bool
  | .log w => wordT w
  | .aw n => countT n 1
  | .seq ps => decide (ps.length ≤ 12)
  | .fork _ => true
  | .join ps => decide (1 ≤ ps.length) && decide (ps.length ≤ 6)
  | .race ps => decide (1 ≤ ps.length) && decide (ps.length ≤ 6)
  | .loop n _ => countT n 0
def kidsT : Pg → List Pg
  | .log _ => []
  | .aw _ => []
  | .seq ps => ps
  | .fork p => [p]
  | .join ps => ps
  | .race ps => ps
  | .loop _ b => [b]
/-- lists and words not beyond what a machine holds -/
def fit1 : Pg → Bool
  | .log w => decide (w.length ≤ 100000)
  | .seq ps => decide (ps.length ≤ 100000)
  | .join ps => decide (ps.length ≤ 100000)
  | .race ps => decide (ps.length ≤ 100000)
  | _ => true
theorem encs_len (ps : List Pg) : (encs ps).length = ps.length := by rw [encs_map, List.length_map]
end
end T

end
section
set_option Elab.async false
set_option linter.all false
set_option maxRecDepth 100000
set_option autoImplicit false
set_option exponentiation.threshold 5000
namespace T
open PySem PySem.Spec L2 Z
section
variable {st : Sto} {σ : Slo}
theorem isi_tup (ds : List D) : (tyD (.tup ds) st).bind (fun b => some (D.bl (isTy b .tup), st)) = some (.bl true, st) := rfl
theorem eqN2 (a b : D) : oEqE (.tup [a, b]) (.tup []) st = some (.bl false, st) := rfl
theorem eqN3 (a b c : D) : oEqE (.tup [a, b, c]) (.tup []) st = some (.bl false, st) := rfl
theorem len2 (a b : D) : bLen [.tup [a, b]] st = some (.int 2, st) := rfl
theorem len3 (a b c : D) : bLen [.tup [a, b, c]] st = some (.int 3, st) := rfl
theorem ne_int (a b : Int) : oNe (.int a) (.int b) st = some (.bl (!decide (a = b)), st) := by
  have h : ∀ x : Int, SeqAt.shaped (.int x) = true := fun x => by simp [SeqAt.shaped, PyData.canLay0, PyData.depth]
  have e : PyData.eqv (.int a) (.int b) = decide (a = b) := by rw [Bool.eq_iff_iff]; simp [PyData.eqv]
  simp [oNe, pyT, pyD, h, e]
theorem ne22 : oNe (.int 2) (.int 2) st = some (.bl false, st) := by rw [ne_int]; rfl
theorem eq33 : oEqE (.int 3) (.int 3) st = some (.bl true, st) := by rw [eq_int]; rfl
theorem tru_bl (b : Bool) : (truD (.bl b) st).bind (fun b => some (b, st)) = some (b, st) := rfl
theorem gv0 {a : D} {r : Slo} {s : Sto} : gv 0 (some a :: r) s = some (a, s) := rfl
theorem gv1 {x : Option D} {a : D} {r : Slo} {s : Sto} : gv 1 (x :: some a :: r) s = some (a, s) := rfl
theorem sz2 : (2 : Nat) ≤ sizeLine := by decide
theorem sz1 : (1 : Nat) ≤ sizeLine := by decide
theorem sz3 : (3 : Nat) ≤ sizeLine := by decide
theorem kids_below {n : Nat} : ∀ p : Pg, below n (enc p) = true ∧ belows n ((kidsT p).map enc) = true := by
  have go : ∀ m (p : Pg), nodes p ≤ m → below n (enc p) = true ∧ belows n ((kidsT p).map enc) = true := by
    intro m
    induction m with
    | zero => intro p h; have := nodes_pos p; omega
    | succ m ih =>
      have l : ∀ ps : List Pg, nodess ps ≤ m → belows n (ps.map enc) = true := by
        intro ps h
        induction ps with
        | nil => rfl
        | cons q ps ih2 =>
          simp only [nodess] at h
          simp only [List.map_cons, belows, Bool.and_eq_true]
          exact ⟨(ih q (by omega)).1, ih2 (by omega)⟩
      intro p h
      cases p with
      | log w => exact ⟨rfl, rfl⟩
      | aw k => exact ⟨rfl, rfl⟩
      | seq ps => simp only [nodes] at h; have := l ps (by omega); exact ⟨by simp [enc, below, belows, encs_map, this], this⟩
      | fork q => simp only [nodes] at h; have := (ih q (by omega)).1; exact ⟨by simp [enc, below, belows, this], by simp [kidsT, belows, this]⟩
      | join ps => simp only [nodes] at h; have := l ps (by omega); exact ⟨by simp [enc, below, belows, encs_map, this], this⟩
      | race ps => simp only [nodes] at h; have := l ps (by omega); exact ⟨by simp [enc, below, belows, encs_map, this], this⟩
      | loop k q => simp only [nodes] at h; have := (ih q (by omega)).1; exact ⟨by simp [enc, below, belows, this], by simp [kidsT, belows, this]⟩
  exact fun p => go _ p (Nat.le_refl _)
theorem node_c {p : Pg} (hf : fit1 p = true) (hw : WfS st) : SH.F_is_node [enc p] st = some (.bl (nodeT p), st) := by
  have hcut := fun b => cut_b (b := b) hw
  cases p with
  | log w =>
    have hk := word_c' (x := w) (st := st) (of_decide_eq_true hf) hw
    show (mSeq _ _ [some (.tup [.str "log", .str w]), none] st).bind _ = _
    simp only [e_mSeq, e_mSet, e_mB, e_mIfS, e_toB, e_ck, e_mRet, e_mC, e_aCons, e_aNil, e_mNil, Option.bind_some, List.set_cons_succ, List.set_cons_zero, Bool.false_eq_true, if_false, if_true, e_bOr, e_bNot, e_bTru, e_mIsi, e_mTup, e_vAnd, List.length_nil, List.length_cons, Nat.zero_le, Nat.zero_add, Nat.reduceAdd, Bool.not_true, Bool.not_false, gv0, gv1, isi_tup, eqN2, len2, ne22, ix2_0, ix2_1, k_log_log, k_log_await, k_log_fork, k_log_loop, k_log_seq, k_log_join, k_log_race, tru_bl, hk]
    exact hcut _
  | aw m =>
    have hk := count_c (n := m) (least := 1) (st := st) hw
    show (mSeq _ _ [some (.tup [.str "await", .int m]), none] st).bind _ = _
    simp only [e_mSeq, e_mSet, e_mB, e_mIfS, e_toB, e_ck, e_mRet, e_mC, e_aCons, e_aNil, e_mNil, Option.bind_some, List.set_cons_succ, List.set_cons_zero, Bool.false_eq_true, if_false, if_true, e_bOr, e_bNot, e_bTru, e_mIsi, e_mTup, e_vAnd, List.length_nil, List.length_cons, Nat.zero_le, Nat.zero_add, Nat.reduceAdd, Bool.not_true, Bool.not_false, gv0, gv1, isi_tup, eqN2, len2, ne22, ix2_0, ix2_1, k_await_log, k_await_await, k_await_fork, k_await_loop, k_await_seq, k_await_join, k_await_race, tru_bl, hk]
    exact hcut _
  | seq ps =>
    have hl : ps.length ≤ 100000 := of_decide_eq_true hf
    have hk := parts_c (ds := encs ps) (a := 0) (b := 12) (st := st) (by rw [encs_len]; omega) hw
    have hv : (decide ((0 : Int) ≤ (encs ps).length) && decide (((encs ps).length : Int) ≤ 12)) = nodeT (.seq ps) := by
      rw [encs_len]; simp only [nodeT]; rw [Bool.eq_iff_iff]; simp; omega
    rw [hv] at hk
    show (mSeq _ _ [some (.tup [.str "seq", .tup (encs ps)]), none] st).bind _ = _
    simp only [e_mSeq, e_mSet, e_mB, e_mIfS, e_toB, e_ck, e_mRet, e_mC, e_aCons, e_aNil, e_mNil, Option.bind_some, List.set_cons_succ, List.set_cons_zero, Bool.false_eq_true, if_false, if_true, e_bOr, e_bNot, e_bTru, e_mIsi, e_mTup, e_vAnd, List.length_nil, List.length_cons, Nat.zero_le, Nat.zero_add, Nat.reduceAdd, Bool.not_true, Bool.not_false, gv0, gv1, isi_tup, eqN2, len2, ne22, ix2_0, ix2_1, k_seq_log, k_seq_await, k_seq_fork, k_seq_loop, k_seq_seq, k_seq_join, k_seq_race, tru_bl, hk]
    exact hcut _
  | fork q =>
    skip
    show (mSeq _ _ [some (.tup [.str "fork", enc q]), none] st).bind _ = _
    simp only [e_mSeq, e_mSet, e_mB, e_mIfS, e_toB, e_ck, e_mRet, e_mC, e_aCons, e_aNil, e_mNil, Option.bind_some, List.set_cons_succ, List.set_cons_zero, Bool.false_eq_true, if_false, if_true, e_bOr, e_bNot, e_bTru, e_mIsi, e_mTup, e_vAnd, List.length_nil, List.length_cons, Nat.zero_le, Nat.zero_add, Nat.reduceAdd, Bool.not_true, Bool.not_false, gv0, gv1, isi_tup, eqN2, len2, ne22, ix2_0, ix2_1, k_fork_log, k_fork_await, k_fork_fork, k_fork_loop, k_fork_seq, k_fork_join, k_fork_race, tru_bl]
    exact hcut _
  | join ps =>
    have hl : ps.length ≤ 100000 := of_decide_eq_true hf
    have hk := parts_c (ds := encs ps) (a := 1) (b := 6) (st := st) (by rw [encs_len]; omega) hw
    have hv : (decide ((1 : Int) ≤ (encs ps).length) && decide (((encs ps).length : Int) ≤ 6)) = nodeT (.join ps) := by
      rw [encs_len]; simp only [nodeT]; rw [Bool.eq_iff_iff]; simp; omega
    rw [hv] at hk
    show (mSeq _ _ [some (.tup [.str "join", .tup (encs ps)]), none] st).bind _ = _
    simp only [e_mSeq, e_mSet, e_mB, e_mIfS, e_toB, e_ck, e_mRet, e_mC, e_aCons, e_aNil, e_mNil, Option.bind_some, List.set_cons_succ, List.set_cons_zero, Bool.false_eq_true, if_false, if_true, e_bOr, e_bNot, e_bTru, e_mIsi, e_mTup, e_vAnd, List.length_nil, List.length_cons, Nat.zero_le, Nat.zero_add, Nat.reduceAdd, Bool.not_true, Bool.not_false, gv0, gv1, isi_tup, eqN2, len2, ne22, ix2_0, ix2_1, k_join_log, k_join_await, k_join_fork, k_join_loop, k_join_seq, k_join_join, k_join_race, tru_bl, hk]
    exact hcut _
  | race ps =>
    have hl : ps.length ≤ 100000 := of_decide_eq_true hf
    have hk := parts_c (ds := encs ps) (a := 1) (b := 6) (st := st) (by rw [encs_len]; omega) hw
    have hv : (decide ((1 : Int) ≤ (encs ps).length) && decide (((encs ps).length : Int) ≤ 6)) = nodeT (.race ps) := by
      rw [encs_len]; simp only [nodeT]; rw [Bool.eq_iff_iff]; simp; omega
    rw [hv] at hk
    show (mSeq _ _ [some (.tup [.str "race", .tup (encs ps)]), none] st).bind _ = _
    simp only [e_mSeq, e_mSet, e_mB, e_mIfS, e_toB, e_ck, e_mRet, e_mC, e_aCons, e_aNil, e_mNil, Option.bind_some, List.set_cons_succ, List.set_cons_zero, Bool.false_eq_true, if_false, if_true, e_bOr, e_bNot, e_bTru, e_mIsi, e_mTup, e_vAnd, List.length_nil, List.length_cons, Nat.zero_le, Nat.zero_add, Nat.reduceAdd, Bool.not_true, Bool.not_false, gv0, gv1, isi_tup, eqN2, len2, ne22, ix2_0, ix2_1, k_race_log, k_race_await, k_race_fork, k_race_loop, k_race_seq, k_race_join, k_race_race, tru_bl, hk]
    exact hcut _
  | loop m q =>
    have hk := count_c (n := m) (least := 0) (st := st) hw
    show (mSeq _ _ [some (.tup [.str "loop", .int m, enc q]), none] st).bind _ = _
    simp only [e_mSeq, e_mSet, e_mB, e_mIfS, e_toB, e_ck, e_mRet, e_mC, e_aCons, e_aNil, e_mNil, Option.bind_some, List.set_cons_succ, List.set_cons_zero, Bool.false_eq_true, if_false, if_true, e_bOr, e_bNot, e_bTru, e_mIsi, e_mTup, e_vAnd, List.length_nil, List.length_cons, Nat.zero_le, Nat.zero_add, Nat.reduceAdd, Bool.not_true, Bool.not_false, gv0, gv1, isi_tup, eqN3, len3, eq33, ix3_0, ix3_1, k_loop_log, k_loop_await, k_loop_fork, k_loop_loop, k_loop_seq, k_loop_join, k_loop_race, tru_bl, hk]
    exact hcut _
theorem kids_c {p : Pg} (hw : WfS st) : SH.F_children [enc p] st = some (.tup ((kidsT p).map enc), st) := by
  cases p with
  | log w =>
    have hcut := cut_ok (d := .tup ([])) (n := st.length) rfl (show belows st.length ([]) = true from by first | rfl | (have := (kids_below (n := st.length) (.log w)).2; simpa [kidsT, encs_map] using this)) hw
    show (mSeq _ _ [some (.tup [.str "log", .str w]), none] st).bind _ = _
    simp only [e_mSeq, e_mSet, e_mB, e_mIfS, e_toB, e_ck, e_mRet, e_mC, e_aCons, e_aNil, e_mNil, Option.bind_some, List.set_cons_succ, List.set_cons_zero, Bool.false_eq_true, if_false, if_true, e_bOr, e_bNot, e_bTru, e_mIsi, e_mTup, e_vAnd, List.length_nil, List.length_cons, Nat.zero_le, Nat.zero_add, Nat.reduceAdd, Bool.not_true, Bool.not_false, gv0, gv1, ix2_0, ix2_1, k_log_log, k_log_await, k_log_fork, k_log_loop, k_log_seq, k_log_join, k_log_race, sz1]
    rw [show (kidsT (.log w)).map enc = [] from by simp [kidsT, encs_map]]
    exact hcut
  | aw m =>
    have hcut := cut_ok (d := .tup ([])) (n := st.length) rfl (show belows st.length ([]) = true from by first | rfl | (have := (kids_below (n := st.length) (.aw m)).2; simpa [kidsT, encs_map] using this)) hw
    show (mSeq _ _ [some (.tup [.str "await", .int m]), none] st).bind _ = _
    simp only [e_mSeq, e_mSet, e_mB, e_mIfS, e_toB, e_ck, e_mRet, e_mC, e_aCons, e_aNil, e_mNil, Option.bind_some, List.set_cons_succ, List.set_cons_zero, Bool.false_eq_true, if_false, if_true, e_bOr, e_bNot, e_bTru, e_mIsi, e_mTup, e_vAnd, List.length_nil, List.length_cons, Nat.zero_le, Nat.zero_add, Nat.reduceAdd, Bool.not_true, Bool.not_false, gv0, gv1, ix2_0, ix2_1, k_await_log, k_await_await, k_await_fork, k_await_loop, k_await_seq, k_await_join, k_await_race, sz1]
    rw [show (kidsT (.aw m)).map enc = [] from by simp [kidsT, encs_map]]
    exact hcut
  | seq ps =>
    have hcut := cut_ok (d := .tup (encs ps)) (n := st.length) rfl (show belows st.length (encs ps) = true from by first | rfl | (have := (kids_below (n := st.length) (.seq ps)).2; simpa [kidsT, encs_map] using this)) hw
    show (mSeq _ _ [some (.tup [.str "seq", .tup (encs ps)]), none] st).bind _ = _
    simp only [e_mSeq, e_mSet, e_mB, e_mIfS, e_toB, e_ck, e_mRet, e_mC, e_aCons, e_aNil, e_mNil, Option.bind_some, List.set_cons_succ, List.set_cons_zero, Bool.false_eq_true, if_false, if_true, e_bOr, e_bNot, e_bTru, e_mIsi, e_mTup, e_vAnd, List.length_nil, List.length_cons, Nat.zero_le, Nat.zero_add, Nat.reduceAdd, Bool.not_true, Bool.not_false, gv0, gv1, ix2_0, ix2_1, k_seq_log, k_seq_await, k_seq_fork, k_seq_loop, k_seq_seq, k_seq_join, k_seq_race, sz1]
    rw [show (kidsT (.seq ps)).map enc = encs ps from by simp [kidsT, encs_map]]
    exact hcut
  | fork q =>
    have hcut := cut_ok (d := .tup ([enc q])) (n := st.length) rfl (show belows st.length ([enc q]) = true from by first | rfl | (have := (kids_below (n := st.length) (.fork q)).2; simpa [kidsT, encs_map] using this)) hw
    show (mSeq _ _ [some (.tup [.str "fork", enc q]), none] st).bind _ = _
    simp only [e_mSeq, e_mSet, e_mB, e_mIfS, e_toB, e_ck, e_mRet, e_mC, e_aCons, e_aNil, e_mNil, Option.bind_some, List.set_cons_succ, List.set_cons_zero, Bool.false_eq_true, if_false, if_true, e_bOr, e_bNot, e_bTru, e_mIsi, e_mTup, e_vAnd, List.length_nil, List.length_cons, Nat.zero_le, Nat.zero_add, Nat.reduceAdd, Bool.not_true, Bool.not_false, gv0, gv1, ix2_0, ix2_1, k_fork_log, k_fork_await, k_fork_fork, k_fork_loop, k_fork_seq, k_fork_join, k_fork_race, sz1]
    rw [show (kidsT (.fork q)).map enc = [enc q] from by simp [kidsT, encs_map]]
    exact hcut
  | join ps =>
    have hcut := cut_ok (d := .tup (encs ps)) (n := st.length) rfl (show belows st.length (encs ps) = true from by first | rfl | (have := (kids_below (n := st.length) (.join ps)).2; simpa [kidsT, encs_map] using this)) hw
    show (mSeq _ _ [some (.tup [.str "join", .tup (encs ps)]), none] st).bind _ = _
    simp only [e_mSeq, e_mSet, e_mB, e_mIfS, e_toB, e_ck, e_mRet, e_mC, e_aCons, e_aNil, e_mNil, Option.bind_some, List.set_cons_succ, List.set_cons_zero, Bool.false_eq_true, if_false, if_true, e_bOr, e_bNot, e_bTru, e_mIsi, e_mTup, e_vAnd, List.length_nil, List.length_cons, Nat.zero_le, Nat.zero_add, Nat.reduceAdd, Bool.not_true, Bool.not_false, gv0, gv1, ix2_0, ix2_1, k_join_log, k_join_await, k_join_fork, k_join_loop, k_join_seq, k_join_join, k_join_race, sz1]
    rw [show (kidsT (.join ps)).map enc = encs ps from by simp [kidsT, encs_map]]
    exact hcut
  | race ps =>
    have hcut := cut_ok (d := .tup (encs ps)) (n := st.length) rfl (show belows st.length (encs ps) = true from by first | rfl | (have := (kids_below (n := st.length) (.race ps)).2; simpa [kidsT, encs_map] using this)) hw
    show (mSeq _ _ [some (.tup [.str "race", .tup (encs ps)]), none] st).bind _ = _
    simp only [e_mSeq, e_mSet, e_mB, e_mIfS, e_toB, e_ck, e_mRet, e_mC, e_aCons, e_aNil, e_mNil, Option.bind_some, List.set_cons_succ, List.set_cons_zero, Bool.false_eq_true, if_false, if_true, e_bOr, e_bNot, e_bTru, e_mIsi, e_mTup, e_vAnd, List.length_nil, List.length_cons, Nat.zero_le, Nat.zero_add, Nat.reduceAdd, Bool.not_true, Bool.not_false, gv0, gv1, ix2_0, ix2_1, k_race_log, k_race_await, k_race_fork, k_race_loop, k_race_seq, k_race_join, k_race_race, sz1]
    rw [show (kidsT (.race ps)).map enc = encs ps from by simp [kidsT, encs_map]]
    exact hcut
  | loop m q =>
    have hcut := cut_ok (d := .tup ([enc q])) (n := st.length) rfl (show belows st.length ([enc q]) = true from by first | rfl | (have := (kids_below (n := st.length) (.loop m q)).2; simpa [kidsT, encs_map] using this)) hw
    show (mSeq _ _ [some (.tup [.str "loop", .int m, enc q]), none] st).bind _ = _
    simp only [e_mSeq, e_mSet, e_mB, e_mIfS, e_toB, e_ck, e_mRet, e_mC, e_aCons, e_aNil, e_mNil, Option.bind_some, List.set_cons_succ, List.set_cons_zero, Bool.false_eq_true, if_false, if_true, e_bOr, e_bNot, e_bTru, e_mIsi, e_mTup, e_vAnd, List.length_nil, List.length_cons, Nat.zero_le, Nat.zero_add, Nat.reduceAdd, Bool.not_true, Bool.not_false, gv0, gv1, ix3_0, ix3_1, ix3_2, k_loop_log, k_loop_await, k_loop_fork, k_loop_loop, k_loop_seq, k_loop_join, k_loop_race, sz1]
    rw [show (kidsT (.loop m q)).map enc = [enc q] from by simp [kidsT, encs_map]]
    exact hcut
end
end T

end
section
set_option Elab.async false
set_option linter.all false
set_option maxRecDepth 100000
set_option autoImplicit false
set_option exponentiation.threshold 5000
namespace T
open PySem PySem.Spec L2 Z
/-! ### is_program -/
abbrev Wt := Pg × Int × Bool
def encW (x : Wt) : D := .tup [enc x.1, .int x.2.1, .bl x.2.2]
def isLoop : Pg → Bool
  | .loop _ _ => true
  | _ => false
def loopBody : Pg → List Pg
  | .loop _ b => [b]
  | _ => []
def kidW (x : Wt) : List Wt := (kidsT x.1).map fun q => (q, x.2.1 + 1, x.2.2 || isLoop x.1)
def badW (x : Wt) (bodies : List Pg) (nodes : Int) : Bool := decide (80 < nodes + 1) || (decide (12 < x.2.1) || !nodeT x.1) || (isLoop x.1 && (x.2.2 || decide (bodies.length = 8)))
def walk : Nat → List Wt → List Pg → Int → Option (Option (List Pg))
  | 0, _, _, _ => none
  | n + 1, stack, bodies, nodes => match stack.getLast? with
    | none => some (some bodies)
    | some x => if badW x bodies nodes = true then some none else walk n (stack.dropLast ++ kidW x) (bodies ++ loopBody x.1) (nodes + 1)
def progB : SM := (mSeq (mAsg (mM okL oPop (gv 1) aNil) (gT 3 (gsCons (gN 4) (gsCons (gN 5) (gsCons (gN 6) gsNil))))) (mSeq (mSet 3 (mB oAdd (gv 3) (ck (.int 1)))) (mSeq (mIfS (bOr (toB (mB oGt (gv 3) (ck (.int 80)))) (bOr (toB (mB oGt (gv 5) (ck (.int 12)))) (bNot (bTru (mC SH.F_is_node (aCons (gv 4) aNil)))))) (mRet (ck (.bl false))) mNil) (mSeq (mIfS (toB (mB oEqE (mB oIx (gv 4) (ck (.int 0))) (ck (.str "loop")))) (mSeq (mIfS (bOr (bTru (gv 6)) (toB (mB oEqE (mC bLen (aCons (gv 2) aNil)) (ck (.int 8))))) (mRet (ck (.bl false))) mNil) (mEx (mM okL oApp (gv 2) (aCons (mB oIx (gv 4) (ck (.int 2))) aNil)))) mNil) (mSeq (mSet 7 (vOr (gv 6) (mB oEqE (mB oIx (gv 4) (ck (.int 0))) (ck (.str "loop"))))) (mEx (mM okL oExt (gv 1) (aCons (mLcL (ilAny (mC SH.F_children (aCons (gv 4) aNil))) (gN 8) bYes (mTup (aCons (gv 8) (aCons (mB oAdd (gv 5) (ck (.int 1))) (aCons (gv 7) aNil)))) [8]) aNil))))))))
theorem prog_eq : SH.F_is_program = mkF 10 1 0 (mSeq (mSet 1 (mNew (aCons (mTup (aCons (gv 0) (aCons (ck (.int 1)) (aCons (ck (.bl false)) aNil)))) aNil))) (mSeq (mSet 2 (mNew aNil)) (mSeq (mSet 3 (ck (.int 0))) (mSeq (mWh (bTru (gv 1)) progB 200) (mRet (mC bAll (aCons (mLcL (ilAny (gv 2)) (gN 9) bYes (mC SH.F_is_body (aCons (gv 9) aNil)) [9]) aNil))))))) := rfl
section
variable {st : Sto} {σ : Slo}
theorem enc_below (n : Nat) (p : Pg) : below n (enc p) = true := (kids_below p).1
theorem encs_below (n : Nat) : ∀ ps : List Pg, belows n (ps.map enc) = true
  | [] => rfl
  | p :: ps => by simp only [List.map_cons, belows, enc_below, encs_below n ps, Bool.and_self]
theorem encW_below (n : Nat) : ∀ xs : List Wt, belows n (xs.map encW) = true
  | [] => rfl
  | x :: xs => by simp [belows, encW, below, enc_below, encW_below n xs]
def stP (st : Sto) (xs : List Wt) (bs : List Pg) : Sto := st ++ [.lst (xs.map encW), .lst (bs.map enc)]
theorem wfP (hw : WfS st) (xs : List Wt) (bs : List Pg) : WfS (stP st xs bs) := by
  have := (hw.add (o := .lst (xs.map encW)) (by simp [belowO, encW_below])).add (o := .lst (bs.map enc)) (by simp [belowO, encs_below])
  rwa [List.append_assoc] at this
theorem loop_kind (p : Pg) : ∃ k, oIx (enc p) (.int 0) st = some (.str k, st) ∧ oEqE (.str k) (.str "loop") st = some (.bl (isLoop p), st) := by
  cases p with
  | log w => exact ⟨_, ix2_0 _ _, k_log_loop⟩
  | aw m => exact ⟨_, ix2_0 _ _, k_await_loop⟩
  | seq ps => exact ⟨_, ix2_0 _ _, k_seq_loop⟩
  | fork q => exact ⟨_, ix2_0 _ _, k_fork_loop⟩
  | join ps => exact ⟨_, ix2_0 _ _, k_join_loop⟩
  | race ps => exact ⟨_, ix2_0 _ _, k_race_loop⟩
  | loop m q => exact ⟨_, ix3_0 _ _ _, k_loop_loop⟩
/-- what the walk over the stack holds -/
def Slots (st : Sto) (k : Int) (σ : Slo) : Prop := ∃ a b c d e f g, σ = [a, some (.ref st.length), some (.ref (st.length + 1)), some (.int k), b, c, d, e, f, g]
theorem pop_ok {xs : List Wt} {x : Wt} {bs : List Pg} : oPop (.ref st.length) [] (stP st (xs ++ [x]) bs) = some (encW x, stP st xs bs) := by
  simp [oPop, stP, snoc2_0, snoc2_s0]
theorem okLP {xs : List Wt} {bs : List Pg} : okL (.ref st.length) (stP st xs bs) = true := okL2_0
theorem okLP1 {xs : List Wt} {bs : List Pg} : okL (.ref (st.length + 1)) (stP st xs bs) = true := okL2_1
theorem lenP1 {xs : List Wt} {bs : List Pg} : bLen [.ref (st.length + 1)] (stP st xs bs) = some (.int bs.length, stP st xs bs) := by
  simp [bLen, lenD, vL, stP, snoc2_1]
theorem appP1 {xs : List Wt} {bs : List Pg} {b : Pg} (h : bs.length < 1000) : oApp (.ref (st.length + 1)) [enc b] (stP st xs bs) = some (.non, stP st xs (bs ++ [b])) := by
  have h2 : bs.length < sizeLine := Nat.lt_of_lt_of_le h (by decide +kernel)
  simp [oApp, stP, snoc2_1, snoc2_s1, h2]
theorem extP {xs ys : List Wt} {bs : List Pg} (h : xs.length + ys.length ≤ 1000000) : oExt (.ref st.length) [.lst (ys.map encW)] (stP st xs bs) = some (.non, stP st (xs ++ ys) bs) := by
  have := ext2_0 (st := st) (acc := xs.map encW) (ds := ys.map encW) (p := .lst (bs.map enc)) (by simp; omega)
  rw [← List.map_append] at this
  exact this
theorem truP {xs : List Wt} {bs : List Pg} : truD (.ref st.length) (stP st xs bs) = some (!(xs.map encW).isEmpty) := by
  simp only [truD, stP, snoc2_0]
theorem kids_lc {x : Wt} {u : Slo} (hw : WfS st) (h0 : u.length = 10) (h4 : u[4]? = some (some (enc x.1))) (h5 : u[5]? = some (some (.int x.2.1))) (h7 : u[7]? = some (some (.bl (x.2.2 || isLoop x.1)))) (hl : (kidsT x.1).length ≤ 100000) :
    mLcL (ilAny (mC SH.F_children (aCons (gv 4) aNil))) (gN 8) bYes (mTup (aCons (gv 8) (aCons (mB oAdd (gv 5) (ck (.int 1))) (aCons (gv 7) aNil)))) [8] u st = some (.lst ((kidW x).map encW), st) := by
  have hk := kids_c (p := x.1) hw
  have := lc_enc (it := ilAny (mC SH.F_children (aCons (gv 4) aNil))) (gm := gN 8) (me := mTup (aCons (gv 8) (aCons (mB oAdd (gv 5) (ck (.int 1))) (aCons (gv 7) aNil)))) (vs := [8]) (σ := u) (st := st) (st1 := st) enc (fun q => encW (q, x.2.1 + 1, x.2.2 || isLoop x.1)) (kidsT x.1)
    (walk_tup (by simp [gv, h4, hk])) (fun q hq => ⟨(wipeD u [8]).set 8 (some (enc q)), rfl, by
      have w8 : ((wipeD u [8]).set 8 (some (enc q)))[8]? = some (some (enc q)) := List.getElem?_set_self (by simp [wipeD, h0])
      have w5 : ((wipeD u [8]).set 8 (some (enc q)))[5]? = some (some (.int x.2.1)) := by simp [wipeD, h5]
      have w7 : ((wipeD u [8]).set 8 (some (enc q)))[7]? = some (some (.bl (x.2.2 || isLoop x.1))) := by simp [wipeD, h7]
      simp [gv, w8, w5, w7, encW, sz3]⟩) (sz (by omega))
  rw [this, kidW, List.map_map]; rfl
theorem kids_fit {p : Pg} (h : fit1 p = true) : (kidsT p).length ≤ 100000 := by
  cases p <;> first | (simp [kidsT]; done) | exact of_decide_eq_true h
theorem loopBody_ix {p : Pg} (h : isLoop p = true) : ∃ b, loopBody p = [b] ∧ ∀ s : Sto, oIx (enc p) (.int 2) s = some (enc b, s) := by
  cases p with
  | loop n b => exact ⟨b, rfl, fun s => ix3_2 _ _ _⟩
  | _ => cases h
theorem noLoop_body {p : Pg} (h : isLoop p = false) : loopBody p = [] := by
  cases p with
  | loop n b => cases h
  | _ => rfl
end
end T

end
section
set_option Elab.async false
set_option linter.all false
set_option maxRecDepth 100000
set_option autoImplicit false
set_option exponentiation.threshold 5000
namespace T
open PySem PySem.Spec L2 Z
section
variable {st : Sto} {σ : Slo}
theorem gvn {n : Nat} {d : D} {s : Sto} {u : Slo} (h : u[n]? = some (some d)) : gv n u s = some (d, s) := by simp [gv, h]
theorem prog_step (hw : WfS st) {xs : List Wt} {x : Wt} {bs : List Pg} {k : Int} {u : Slo} (hu : Slots st k u) (hf : fit1 x.1 = true) (hl : xs.length ≤ 800000) (hb : bs.length < 1000) :
    (badW x bs k = true → ∃ u' os, progB u (stP st (xs ++ [x]) bs) = some (.rt (.bl false), u', st ++ os)) ∧
    (badW x bs k = false → ∃ u', progB u (stP st (xs ++ [x]) bs) = some (.nx, u', stP st (xs ++ kidW x) (bs ++ loopBody x.1)) ∧ Slots st (k + 1) u') := by
  obtain ⟨p, l, b⟩ := x
  obtain ⟨a0, b0, c0, d0, e0, f0, g0, rfl⟩ := hu
  have wf := wfP hw xs bs
  have hn := node_c (p := p) hf wf
  obtain ⟨kk, hk, hkl⟩ := loop_kind (st := stP st xs bs) p
  have hpop := pop_ok (st := st) (xs := xs) (x := (p, l, b)) (bs := bs)
  -- the slots behind the first two statements
  generalize hτ : [a0, some (.ref st.length), some (.ref (st.length + 1)), some (.int (k + 1)), some (enc p), some (.int l), some (.bl b), e0, f0, g0] = τ
  have t1 : ∀ s, gv 1 τ s = some (.ref st.length, s) := fun s => by rw [← hτ]; rfl
  have t2 : ∀ s, gv 2 τ s = some (.ref (st.length + 1), s) := fun s => by rw [← hτ]; rfl
  have t3 : ∀ s, gv 3 τ s = some (.int (k + 1), s) := fun s => by rw [← hτ]; rfl
  have t4 : ∀ s, gv 4 τ s = some (enc p, s) := fun s => by rw [← hτ]; rfl
  have t5 : ∀ s, gv 5 τ s = some (.int l, s) := fun s => by rw [← hτ]; rfl
  have t6 : ∀ s, gv 6 τ s = some (.bl b, s) := fun s => by rw [← hτ]; rfl
  have hgt : ∀ (a b : Int) (s : Sto), oGt (.int a) (.int b) s = some (.bl (decide (b < a)), s) := fun a b s => rfl
  have htb : ∀ (b : Bool) (s : Sto), (truD (.bl b) s).bind (fun b => some (b, s)) = some (b, s) := fun b s => rfl
  have hlen := lenP1 (st := st) (xs := xs) (bs := bs)
  have start : ∀ (rest : SM), (mSeq (mAsg (mM okL oPop (gv 1) aNil) (gT 3 (gsCons (gN 4) (gsCons (gN 5) (gsCons (gN 6) gsNil))))) (mSeq (mSet 3 (mB oAdd (gv 3) (ck (.int 1)))) rest)) [a0, some (.ref st.length), some (.ref (st.length + 1)), some (.int k), b0, c0, d0, e0, f0, g0] (stP st (xs ++ [(p, l, b)]) bs) = rest τ (stP st xs bs) := fun rest => by
    have q1 : gv 1 [a0, some (.ref st.length), some (.ref (st.length + 1)), some (.int k), b0, c0, d0, e0, f0, g0] (stP st (xs ++ [(p, l, b)]) bs) = some (.ref st.length, stP st (xs ++ [(p, l, b)]) bs) := rfl
    simp only [e_mSeq, e_mAsg, e_mM, q1, Option.bind_some, okLP, if_true, e_aNil, hpop, encW]
    rw [gT3]
    simp only [e_gsCons, e_gsNil, e_gN, Option.bind_some, List.set_cons_succ, List.set_cons_zero, e_mSet, e_mB, e_ck]
    have q3 : ∀ s, gv 3 [a0, some (.ref st.length), some (.ref (st.length + 1)), some (.int k), some (enc p), some (.int l), some (.bl b), e0, f0, g0] s = some (.int k, s) := fun s => rfl
    simp only [q3, Option.bind_some, e_oAdd, List.set_cons_succ, List.set_cons_zero, hτ]
  unfold progB
  rw [start]
  simp only [e_mSeq, e_mIfS, e_bOr, e_bNot, e_bTru, e_toB, e_mB, e_mC, e_aCons, e_aNil, e_ck, t3, t4, t5, Option.bind_some, hgt]
  by_cases h1 : 80 < k + 1
  · refine ⟨fun _ => ⟨τ, _, by simp only [decide_eq_true h1, if_true, e_mRet, e_ck, Option.bind_some]; rfl⟩, fun hbad => ?_⟩
    simp [badW, h1] at hbad
  by_cases h2 : 12 < l
  · refine ⟨fun _ => ⟨τ, _, by simp only [decide_eq_false h1, Bool.false_eq_true, if_false, decide_eq_true h2, if_true, e_mRet, e_ck, Option.bind_some]; rfl⟩, fun hbad => ?_⟩
    simp [badW, h1, h2] at hbad
  simp only [decide_eq_false h1, Bool.false_eq_true, if_false, decide_eq_false h2, hn, Option.bind_some, htb]
  cases h3 : nodeT p with
  | false =>
    refine ⟨fun _ => ⟨τ, _, by simp only [Bool.not_false, if_true, e_mRet, e_ck, Option.bind_some]; rfl⟩, fun hbad => ?_⟩
    simp [badW, h1, h2, h3] at hbad
  | true =>
    simp only [Bool.not_true, Bool.false_eq_true, if_false, e_mNil, Option.bind_some, t4, hk, hkl]
    have fin : ∀ bs', (∀ q, q = isLoop p → True) → bs'.length ≤ 1000000 → ∃ u', (mSeq (mSet 7 (vOr (gv 6) (mB oEqE (mB oIx (gv 4) (ck (.int 0))) (ck (.str "loop"))))) (mEx (mM okL oExt (gv 1) (aCons (mLcL (ilAny (mC SH.F_children (aCons (gv 4) aNil))) (gN 8) bYes (mTup (aCons (gv 8) (aCons (mB oAdd (gv 5) (ck (.int 1))) (aCons (gv 7) aNil)))) [8]) aNil)))) τ (stP st xs bs') = some (.nx, u', stP st (xs ++ kidW (p, l, b)) bs') ∧ Slots st (k + 1) u' := fun bs' _ _ => by
      obtain ⟨kk', hk', hkl'⟩ := loop_kind (st := stP st xs bs') p
      have v7 : vOr (gv 6) (mB oEqE (mB oIx (gv 4) (ck (.int 0))) (ck (.str "loop"))) τ (stP st xs bs') = some (.bl (b || isLoop p), stP st xs bs') := by
        simp only [e_vOr, t6, Option.bind_some]
        cases b with
        | true => rfl
        | false => simp only [e_mB, t4, Option.bind_some, e_ck, hk', hkl', Bool.false_or]
      have wf' := wfP hw xs bs'
      generalize hυ : τ.set 7 (some (.bl (b || isLoop p))) = υ
      have kl := kids_lc (x := (p, l, b)) (u := υ) wf' (by rw [← hυ, ← hτ]; rfl) (by rw [← hυ, ← hτ]; rfl) (by rw [← hυ, ← hτ]; rfl) (by rw [← hυ, ← hτ]; rfl) (kids_fit hf)
      have ex := extP (st := st) (xs := xs) (ys := kidW (p, l, b)) (bs := bs') (by simp only [kidW, List.length_map]; have : (kidsT p).length ≤ 100000 := kids_fit hf; omega)
      have s1 : ∀ s, gv 1 υ s = some (.ref st.length, s) := fun s => by rw [← hυ, ← hτ]; rfl
      refine ⟨υ, ?_, a0, some (enc p), some (.int l), some (.bl b), some (.bl (b || isLoop p)), f0, g0, by rw [← hυ, ← hτ]; rfl⟩
      simp only [e_mSeq, e_mSet, v7, Option.bind_some, hυ, e_mEx, e_mM, s1, okLP, if_true, e_aCons, kl, e_aNil, ex]
    cases h4 : isLoop p with
    | false =>
      simp only [Bool.false_eq_true, if_false]
      refine ⟨fun hbad => ?_, fun _ => ?_⟩
      · simp [badW, h1, h2, h3, h4] at hbad
      · obtain ⟨u', e1, e2⟩ := fin bs (fun _ _ => trivial) (by omega)
        refine ⟨u', ?_, e2⟩
        rw [noLoop_body h4, List.append_nil, ← e1]
        rfl
    | true =>
      obtain ⟨body, hb1, hb2⟩ := loopBody_ix h4
      simp only [if_true, e_mSeq, e_mIfS, e_bOr, e_bTru, e_toB, e_mB, e_mC, e_aCons, e_aNil, e_ck, t6, t2, Option.bind_some, htb, hlen, eq_int]
      by_cases h5 : b = true ∨ bs.length = 8
      · refine ⟨fun _ => ⟨τ, [.lst (xs.map encW), .lst (bs.map enc)], ?_⟩, fun hbad => ?_⟩
        · rcases h5 with h5 | h5
          · simp only [h5, if_true, e_mRet, e_ck, Option.bind_some]; rfl
          · have h6 : decide ((bs.length : Int) = 8) = true := decide_eq_true (by omega)
            cases b with
            | true => simp only [if_true, e_mRet, e_ck, Option.bind_some]; rfl
            | false => simp only [Bool.false_eq_true, if_false, h6, if_true, e_mRet, e_ck, Option.bind_some]; rfl
        · have : badW (p, l, b) bs k = true := by
            rcases h5 with h5 | h5 <;> simp [badW, h4, h5]
          rw [this] at hbad; cases hbad
      · have h5a : b = false := by cases b with
          | false => rfl
          | true => exact absurd (.inl rfl) h5
        have h5b : ¬ bs.length = 8 := fun e => h5 (.inr e)
        have h6 : decide ((bs.length : Int) = 8) = false := decide_eq_false (by omega)
        refine ⟨fun hbad => ?_, fun _ => ?_⟩
        · simp [badW, h1, h2, h3, h4, h5a, h5b] at hbad
        · obtain ⟨u', e1, e2⟩ := fin (bs ++ [body]) (fun _ _ => trivial) (by simp; omega)
          refine ⟨u', ?_, e2⟩
          rw [hb1, ← e1]
          have ap := appP1 (st := st) (xs := xs) (b := body) hb
          simp only [h5a, Bool.false_eq_true, if_false, h6, e_mNil, Option.bind_some, e_mEx, e_mM, t2, okLP1, if_true, e_aCons, e_mB, t4, e_ck, hb2, e_aNil, ap, e_mSeq]
end
end T

end
section
set_option Elab.async false
set_option linter.all false
set_option maxRecDepth 100000
set_option autoImplicit false
set_option exponentiation.threshold 5000
namespace T
open PySem PySem.Spec L2 Z
/-! ### is_program, by the parts -/
mutual
def allN : Pg → Bool
  | .log w => wordT w
  | .aw n => countT n 1
  | .seq ps => decide (ps.length ≤ 12) && allNs ps
  | .fork p => allN p
  | .join ps => (decide (1 ≤ ps.length) && decide (ps.length ≤ 6)) && allNs ps
  | .race ps => (decide (1 ≤ ps.length) && decide (ps.length ≤ 6)) && allNs ps
  | .loop n b => countT n 0 && allN b
def allNs : List Pg → Bool
  | [] => true
  | p :: ps => allN p && allNs ps
end
mutual
def loops : Pg → Nat
  | .log _ => 0
  | .aw _ => 0
  | .seq ps => loopss ps
  | .fork p => loops p
  | .join ps => loopss ps
  | .race ps => loopss ps
  | .loop _ b => 1 + loops b
def loopss : List Pg → Nat
  | [] => 0
  | p :: ps => loops p + loopss ps
end
mutual
def nestOk : Pg → Bool
  | .log _ => true
  | .aw _ => true
  | .seq ps => nestOks ps
  | .fork p => nestOk p
  | .join ps => nestOks ps
  | .race ps => nestOks ps
  | .loop _ b => plainP b
def nestOks : List Pg → Bool
  | [] => true
  | p :: ps => nestOk p && nestOks ps
end
mutual
def bodiesOf : Pg → List Pg
  | .log _ => []
  | .aw _ => []
  | .seq ps => bodiesOfs ps
  | .fork p => bodiesOf p
  | .join ps => bodiesOfs ps
  | .race ps => bodiesOfs ps
  | .loop _ b => b :: bodiesOf b
def bodiesOfs : List Pg → List Pg
  | [] => []
  | p :: ps => bodiesOf p ++ bodiesOfs ps
end
mutual
def fitA : Pg → Bool
  | .log w => decide (w.length ≤ 100000)
  | .aw _ => true
  | .seq ps => decide (ps.length ≤ 100000) && fitAs ps
  | .fork p => fitA p
  | .join ps => decide (ps.length ≤ 100000) && fitAs ps
  | .race ps => decide (ps.length ≤ 100000) && fitAs ps
  | .loop _ b => fitA b
def fitAs : List Pg → Bool
  | [] => true
  | p :: ps => fitA p && fitAs ps
end
theorem allNs_iff : ∀ {ps : List Pg}, allNs ps = true ↔ ∀ p ∈ ps, allN p = true
  | [] => by simp [allNs]
  | p :: ps => by simp [allNs, allNs_iff]
theorem nestOks_iff : ∀ {ps : List Pg}, nestOks ps = true ↔ ∀ p ∈ ps, nestOk p = true
  | [] => by simp [nestOks]
  | p :: ps => by simp [nestOks, nestOks_iff]
theorem plains_iff : ∀ {ps : List Pg}, plains ps = true ↔ ∀ p ∈ ps, plainP p = true
  | [] => by simp [plains]
  | p :: ps => by simp [plains, plains_iff]
theorem fitAs_iff : ∀ {ps : List Pg}, fitAs ps = true ↔ ∀ p ∈ ps, fitA p = true
  | [] => by simp [fitAs]
  | p :: ps => by simp [fitAs, fitAs_iff]
theorem bodiesOfs_mem : ∀ {ps : List Pg} {b : Pg}, b ∈ bodiesOfs ps ↔ ∃ p ∈ ps, b ∈ bodiesOf p
  | [], b => by simp [bodiesOfs]
  | p :: ps, b => by simp [bodiesOfs, bodiesOfs_mem]
theorem deps_iff : ∀ {ps : List Pg} {n : Nat}, deps ps ≤ n ↔ ∀ p ∈ ps, dep p ≤ n
  | [], n => by simp [deps]
  | p :: ps, n => by simp [deps, deps_iff, Nat.max_le]
/-! a program and its children -/
theorem c_allN (p : Pg) : allN p = true ↔ nodeT p = true ∧ ∀ q ∈ kidsT p, allN q = true := by
  cases p <;> simp [allN, nodeT, kidsT, allNs_iff]
theorem c_nodes (p : Pg) : nodes p = 1 + nodess (kidsT p) := by
  cases p <;> simp [nodes, kidsT, nodess]
theorem c_loops (p : Pg) : loops p = (loopBody p).length + loopss (kidsT p) := by
  cases p <;> simp [loops, kidsT, loopss, loopBody]
theorem c_dep (p : Pg) (n : Nat) : dep p ≤ n + 1 ↔ ∀ q ∈ kidsT p, dep q ≤ n := by
  cases p <;> simp [dep, kidsT, ← deps_iff] <;> omega
theorem dep_pos (p : Pg) : 1 ≤ dep p := by cases p <;> simp [dep]
theorem c_plain (p : Pg) : plainP p = true ↔ isLoop p = false ∧ ∀ q ∈ kidsT p, plainP q = true := by
  cases p <;> simp [plainP, isLoop, kidsT, plains_iff]
theorem c_nest (p : Pg) : nestOk p = true ↔ if isLoop p = true then ∀ q ∈ kidsT p, plainP q = true else ∀ q ∈ kidsT p, nestOk q = true := by
  cases p <;> simp [nestOk, isLoop, kidsT, nestOks_iff]
theorem c_bodies (p b : Pg) : b ∈ bodiesOf p ↔ b ∈ loopBody p ∨ ∃ q ∈ kidsT p, b ∈ bodiesOf q := by
  cases p <;> simp [bodiesOf, loopBody, kidsT, bodiesOfs_mem]
theorem c_fit (p : Pg) : fitA p = true ↔ fit1 p = true ∧ ∀ q ∈ kidsT p, fitA q = true := by
  cases p <;> simp [fitA, fit1, kidsT, fitAs_iff]
theorem kids12 {p : Pg} (h : nodeT p = true) : (kidsT p).length ≤ 12 := by
  cases p <;> simp [nodeT] at h <;> simp [kidsT] <;> omega
/-- an entry of the stack that is fine -/
def okW' (x : Wt) : Prop := allN x.1 = true ∧ x.2.1 + (dep x.1 : Int) ≤ 13 ∧ (if x.2.2 = true then plainP x.1 = true else nestOk x.1 = true)
def nodesW (xs : List Wt) : Nat := nodess (xs.map (·.1))
def loopsW (xs : List Wt) : Nat := loopss (xs.map (·.1))
def cond (xs : List Wt) (bs : List Pg) (k : Int) : Prop := (∀ x ∈ xs, okW' x) ∧ k + (nodesW xs : Int) ≤ 80 ∧ bs.length + loopsW xs ≤ 8
theorem nodess_app : ∀ (a b : List Pg), nodess (a ++ b) = nodess a + nodess b
  | [], b => by simp [nodess]
  | p :: a, b => by simp [nodess, nodess_app a b]; omega
theorem loopss_app : ∀ (a b : List Pg), loopss (a ++ b) = loopss a + loopss b
  | [], b => by simp [loopss]
  | p :: a, b => by simp [loopss, loopss_app a b]; omega
theorem kidW_fst (x : Wt) : (kidW x).map (·.1) = kidsT x.1 := by
  rw [kidW, List.map_map]
  exact List.map_id _
theorem loopBody_len (p : Pg) : (loopBody p).length = if isLoop p = true then 1 else 0 := by cases p <;> rfl
theorem okW_kids {x : Wt} : okW' x ↔ nodeT x.1 = true ∧ x.2.1 ≤ 12 ∧ ¬ (isLoop x.1 = true ∧ x.2.2 = true) ∧ ∀ y ∈ kidW x, okW' y := by
  obtain ⟨p, l, b⟩ := x
  have hd : ∀ m : Int, l + (dep p : Int) ≤ 13 ↔ l ≤ 12 ∧ ∀ q ∈ kidsT p, l + 1 + (dep q : Int) ≤ 13 := fun _ => by
    have h1 := dep_pos p
    constructor
    · intro h
      refine ⟨by omega, fun q hq => ?_⟩
      obtain ⟨n, hn⟩ : ∃ n, dep p = n + 1 := ⟨dep p - 1, by omega⟩
      have := (c_dep p n).mp (by omega) q hq
      omega
    · rintro ⟨h2, h3⟩
      have : dep p ≤ (12 - l).toNat + 1 := (c_dep p _).mpr fun q hq => by have := h3 q hq; omega
      omega
  simp only [okW', kidW, List.mem_map]
  constructor
  · rintro ⟨h1, h2, h3⟩
    obtain ⟨a1, a2⟩ := (c_allN p).mp h1
    obtain ⟨d1, d2⟩ := (hd 0).mp h2
    refine ⟨a1, d1, ?_, ?_⟩
    · rintro ⟨e1, e2⟩
      simp only [e2, if_true] at h3
      rw [((c_plain p).mp h3).1] at e1
      cases e1
    · rintro _ ⟨q, hq, rfl⟩
      refine ⟨a2 q hq, by simpa using d2 q hq, ?_⟩
      cases b with
      | true =>
        simp only [if_true, Bool.true_or] at h3 ⊢
        exact ((c_plain p).mp h3).2 q hq
      | false =>
        simp only [Bool.false_eq_true, if_false, Bool.false_or] at h3 ⊢
        have := (c_nest p).mp h3
        by_cases e : isLoop p = true
        · rw [if_pos e] at this ⊢; exact this q hq
        · rw [if_neg e] at this ⊢; exact this q hq
  · rintro ⟨h1, h2, h3, h4⟩
    have h4' := fun q hq => h4 (q, l + 1, b || isLoop p) ⟨q, hq, rfl⟩
    refine ⟨(c_allN p).mpr ⟨h1, fun q hq => (h4' q hq).1⟩, (hd 0).mpr ⟨h2, fun q hq => (h4' q hq).2.1⟩, ?_⟩
    cases b with
    | true =>
      simp only [if_true, and_true, Bool.true_or] at h3 h4' ⊢
      exact (c_plain p).mpr ⟨by simpa using h3, fun q hq => (h4' q hq).2.2⟩
    | false =>
      simp only [Bool.false_eq_true, if_false, Bool.false_or] at h4' ⊢
      refine (c_nest p).mpr ?_
      by_cases e : isLoop p = true
      · rw [if_pos e]
        exact fun q hq => by have := (h4' q hq).2.2; rwa [if_pos e] at this
      · rw [if_neg e]
        exact fun q hq => by have := (h4' q hq).2.2; rwa [if_neg e] at this
theorem cond_step {xs : List Wt} {x : Wt} {bs : List Pg} {k : Int} (hk : k ≤ 80) :
    (badW x bs k = true → ¬ cond (xs ++ [x]) bs k) ∧ (badW x bs k = false → (cond (xs ++ [x]) bs k ↔ cond (xs ++ kidW x) (bs ++ loopBody x.1) (k + 1))) := by
  have n1 : nodesW (xs ++ [x]) = nodesW xs + 1 + nodess (kidsT x.1) := by
    simp only [nodesW, List.map_append, nodess_app, List.map_cons, List.map_nil, nodess, c_nodes x.1]; omega
  have n2 : nodesW (xs ++ kidW x) = nodesW xs + nodess (kidsT x.1) := by
    simp only [nodesW, List.map_append, nodess_app, kidW_fst]
  have l1 : loopsW (xs ++ [x]) = loopsW xs + (loopBody x.1).length + loopss (kidsT x.1) := by
    simp only [loopsW, List.map_append, loopss_app, List.map_cons, List.map_nil, loopss, c_loops x.1]; omega
  have l2 : loopsW (xs ++ kidW x) = loopsW xs + loopss (kidsT x.1) := by
    simp only [loopsW, List.map_append, loopss_app, kidW_fst]
  constructor
  · rintro hb ⟨h1, h2, h3⟩
    obtain ⟨o1, o2, o3, o4⟩ := okW_kids.mp (h1 x (by simp))
    rw [n1] at h2
    rw [l1, loopBody_len] at h3
    simp only [badW, Bool.or_eq_true, Bool.and_eq_true, decide_eq_true_eq, Bool.not_eq_true'] at hb
    rcases hb with (hb | hb | hb) | ⟨hb1, hb2 | hb2⟩
    · omega
    · omega
    · rw [hb] at o1; cases o1
    · exact o3 ⟨hb1, hb2⟩
    · rw [if_pos hb1] at h3; omega
  · intro hb
    simp only [badW, Bool.or_eq_false_iff, Bool.and_eq_false_iff, decide_eq_false_iff_not, Bool.not_eq_false'] at hb
    obtain ⟨⟨b1, b2, b3⟩, b4⟩ := hb
    have hx : okW' x ↔ ∀ y ∈ kidW x, okW' y := by
      rw [okW_kids]
      refine ⟨fun h => h.2.2.2, fun h => ⟨b3, by omega, fun ⟨e1, e2⟩ => ?_, h⟩⟩
      rcases b4 with b4 | b4
      · rw [e1] at b4; cases b4
      · rw [e2] at b4; exact absurd b4.1 (by decide)
    simp only [cond, n1, n2, l1, l2, List.mem_append, List.mem_singleton, List.length_append]
    constructor
    · rintro ⟨h1, h2, h3⟩
      refine ⟨fun y hy => ?_, by omega, by omega⟩
      rcases hy with hy | hy
      · exact h1 y (.inl hy)
      · exact hx.mp (h1 x (.inr rfl)) y hy
    · rintro ⟨h1, h2, h3⟩
      refine ⟨fun y hy => ?_, by omega, by omega⟩
      rcases hy with hy | rfl
      · exact h1 y (.inl hy)
      · exact hx.mpr fun z hz => h1 z (.inr hz)
theorem walk_snoc {n : Nat} {xs : List Wt} {x : Wt} {bs : List Pg} {k : Int} : walk (n + 1) (xs ++ [x]) bs k = if badW x bs k = true then some none else walk n (xs ++ kidW x) (bs ++ loopBody x.1) (k + 1) := by
  simp [walk]
theorem walk_nil {n : Nat} {bs : List Pg} {k : Int} : walk (n + 1) [] bs k = some (some bs) := by simp [walk]
theorem walk_spec : ∀ (n : Nat) (xs : List Wt) (bs : List Pg) (k : Int), 81 ≤ k + (n : Int) → k ≤ 80 → bs.length ≤ 8 →
    (cond xs bs k → ∃ B, walk n xs bs k = some (some B) ∧ ∀ b, b ∈ B ↔ b ∈ bs ∨ ∃ x ∈ xs, b ∈ bodiesOf x.1) ∧ (¬ cond xs bs k → walk n xs bs k = some none)
  | 0, xs, bs, k, h1, h2, _ => by omega
  | n + 1, xs, bs, k, h1, h2, h3 => by
    rcases List.eq_nil_or_concat xs with rfl | ⟨ys, x, rfl⟩
    · refine ⟨fun _ => ⟨bs, walk_nil, by simp⟩, fun h => ?_⟩
      exact absurd ⟨(fun x hx => nomatch hx), by simpa [nodesW, nodess] using h2, by simpa [loopsW, loopss] using h3⟩ h
    · rw [List.concat_eq_append, walk_snoc]
      obtain ⟨s1, s2⟩ := cond_step (xs := ys) (x := x) (bs := bs) h2
      cases hb : badW x bs k with
      | true => exact ⟨fun h => absurd h (s1 hb), fun _ => by rw [if_pos rfl]⟩
      | false =>
        have s3 := s2 hb
        simp only [Bool.false_eq_true, if_false]
        have hb' := hb
        simp only [badW, Bool.or_eq_false_iff, Bool.and_eq_false_iff, decide_eq_false_iff_not, Bool.not_eq_false'] at hb'
        obtain ⟨⟨b1, _, _⟩, b4⟩ := hb'
        have hl : (bs ++ loopBody x.1).length ≤ 8 := by
          rw [List.length_append, loopBody_len]
          by_cases e : isLoop x.1 = true
          · rw [if_pos e]
            rcases b4 with b4 | b4
            · rw [e] at b4; cases b4
            · omega
          · rw [if_neg e]; omega
        obtain ⟨i1, i2⟩ := walk_spec n (ys ++ kidW x) (bs ++ loopBody x.1) (k + 1) (by omega) (by omega) hl
        refine ⟨fun h => ?_, fun h => i2 (fun h' => h (s3.mpr h'))⟩
        obtain ⟨B, e, hB⟩ := i1 (s3.mp h)
        refine ⟨B, e, fun b => ?_⟩
        rw [hB b]
        simp only [List.mem_append, List.mem_singleton]
        constructor
        · rintro ((h | h) | ⟨y, hy | hy, h⟩)
          · exact .inl h
          · exact .inr ⟨x, .inr rfl, (c_bodies _ _).mpr (.inl h)⟩
          · exact .inr ⟨y, .inl hy, h⟩
          · obtain ⟨q, hq, rfl⟩ := List.mem_map.mp hy
            exact .inr ⟨x, .inr rfl, (c_bodies _ _).mpr (.inr ⟨q, hq, h⟩)⟩
        · rintro (hb1 | ⟨y, hy | hy, hb1⟩)
          · exact .inl (.inl hb1)
          · exact .inr ⟨y, .inl hy, hb1⟩
          · subst hy
            rcases (c_bodies _ _).mp hb1 with hb1 | ⟨q, hq, hb1⟩
            · exact .inl (.inr hb1)
            · exact .inr ⟨(q, y.2.1 + 1, y.2.2 || isLoop y.1), .inr (List.mem_map.mpr ⟨q, hq, rfl⟩), hb1⟩
/-- whether a value that looks like a program is one -/
def progT (p : Pg) : Bool := allN p && decide (dep p ≤ 12) && nestOk p && decide (nodes p ≤ 80) && decide (loops p ≤ 8) && (bodiesOf p).all bodyT
end T

end
section
set_option Elab.async false
set_option linter.all false
set_option maxRecDepth 100000
set_option autoImplicit false
set_option exponentiation.threshold 5000
namespace T
open PySem PySem.Spec L2 Z
section
variable {st : Sto} {σ : Slo}
theorem e_mWh {c : Ev Bool} {b : SM} {n : Nat} : mWh c b (n + 1) σ st = (c σ st).bind fun p => if p.1 = true then (b σ p.2).bind fun r => match r.1 with
      | .nx => mWh c b n r.2.1 r.2.2
      | .ct => mWh c b n r.2.1 r.2.2
      | .bk => some (.nx, r.2)
      | .rt d => some (.rt d, r.2)
    else some (.nx, σ, p.2) := rfl
theorem bad_kids {x : Wt} {bs : List Pg} {k : Int} (h : badW x bs k = false) : (kidsT x.1).length ≤ 12 := by
  simp only [badW, Bool.or_eq_false_iff, Bool.not_eq_false'] at h
  exact kids12 h.1.2.2
theorem slot1 {k : Int} {u : Slo} {s : Sto} (h : Slots st k u) : gv 1 u s = some (.ref st.length, s) := by
  obtain ⟨a, b, c, d, e, f, g, rfl⟩ := h; rfl
theorem slot2 {k : Int} {u : Slo} {s : Sto} (h : Slots st k u) : gv 2 u s = some (.ref (st.length + 1), s) := by
  obtain ⟨a, b, c, d, e, f, g, rfl⟩ := h; rfl
theorem prog_walk (hw : WfS st) : ∀ (n : Nat) (xs : List Wt) (bs : List Pg) (k : Int) (u : Slo), Slots st k u → (∀ x ∈ xs, fitA x.1 = true) → xs.length + 12 * n ≤ 800000 → bs.length + n < 1000 →
    (walk n xs bs k = some none → ∃ u' os, mWh (bTru (gv 1)) progB n u (stP st xs bs) = some (.rt (.bl false), u', st ++ os)) ∧
    (∀ B, walk n xs bs k = some (some B) → ∃ u' k', mWh (bTru (gv 1)) progB n u (stP st xs bs) = some (.nx, u', stP st [] B) ∧ Slots st k' u')
  | 0, xs, bs, k, u, _, _, _, _ => ⟨fun h => (nomatch (show (none : Option (Option (List Pg))) = _ from h)), fun B h => (nomatch (show (none : Option (Option (List Pg))) = _ from h))⟩
  | n + 1, xs, bs, k, u, hu, hf, hl, hb => by
    have ht : bTru (gv 1) u (stP st xs bs) = some (!(xs.map encW).isEmpty, stP st xs bs) := by
      simp only [e_bTru, slot1 hu, Option.bind_some, truP]
    rcases List.eq_nil_or_concat xs with rfl | ⟨ys, x, rfl⟩
    · refine ⟨fun h => ?_, fun B h => ?_⟩
      · rw [walk_nil] at h; cases h
      · rw [walk_nil] at h
        cases h
        refine ⟨u, k, ?_, hu⟩
        rw [e_mWh, ht]; rfl
    · rw [List.concat_eq_append] at *
      have hne : (!((ys ++ [x]).map encW).isEmpty) = true := by simp
      rw [hne] at ht
      have hlen : (ys ++ [x]).length = ys.length + 1 := by simp
      obtain ⟨p1, p2⟩ := prog_step (xs := ys) (x := x) (bs := bs) hw hu ((c_fit _).mp (hf x (by simp))).1 (by omega) (by omega)
      rw [walk_snoc, e_mWh, ht]
      simp only [Option.bind_some, if_true]
      cases hbad : badW x bs k with
      | true =>
        obtain ⟨u', os, e⟩ := p1 hbad
        refine ⟨fun _ => ⟨u', os, by rw [e]; rfl⟩, fun B h => ?_⟩
        simp at h
      | false =>
        obtain ⟨u', e, hu'⟩ := p2 hbad
        have hk := bad_kids hbad
        have hlb : (bs ++ loopBody x.1).length ≤ bs.length + 1 := by
          rw [List.length_append, loopBody_len]; split <;> omega
        have hf' : ∀ y ∈ ys ++ kidW x, fitA y.1 = true := fun y hy => by
          rcases List.mem_append.mp hy with hy | hy
          · exact hf y (by simp [hy])
          · obtain ⟨q, hq, rfl⟩ := List.mem_map.mp hy
            exact ((c_fit _).mp (hf x (by simp))).2 q hq
        obtain ⟨i1, i2⟩ := prog_walk hw n (ys ++ kidW x) (bs ++ loopBody x.1) (k + 1) u' hu' hf' (by simp [kidW]; omega) (by omega)
        simp only [Bool.false_eq_true, if_false, e, Option.bind_some]
        all_goals exact ⟨i1, i2⟩
/-- all of a list that lies in the store -/
theorem lent1 {ds : List D} {o : O} : walkD (.ref (st.length + 1)) (st ++ [o, .lst ds]) = some ((ds, fun s => match s[st.length + 1]? with | some .dead => some (s.set (st.length + 1) (.lst ds)) | _ => none), st ++ [o, .dead]) := by
  simp only [walkD, lend, snoc2_1, snoc2_s1] <;> rfl
theorem lc_back {α : Type} {it : EvL} {gm : GM} {me : EM} {vs : List Nat} {back : Back} {st1 st2 : Sto} (enc : α → D) (f : α → D) (xs : List α) (hi : it σ st = some ((xs.map enc, back), st1)) (h : ∀ x ∈ xs, ∃ σ', gm (enc x) (wipeD σ vs) st1 = some (σ', st1) ∧ me σ' st1 = some (f x, st1)) (hl : xs.length ≤ sizeLine) (hb : back st1 = some st2) :
    mLcL it gm bYes me vs σ st = some (.lst (xs.map f), st2) := by
  have := comp_enc1 enc f xs h
  simp [mLcL, hi, this, hl, hb]
theorem bodies_len {p b : Pg} : ∀ n, nodes p ≤ n → b ∈ bodiesOf p → nodes b < nodes p ∧ dep b ≤ dep p
  | 0, h, _ => by have := nodes_pos p; omega
  | n + 1, h, hb => by
    have hp := c_nodes p
    have key : ∀ q ∈ kidsT p, nodes q ≤ nodess (kidsT p) ∧ dep q ≤ dep p := fun q hq => ⟨nodess_mem hq, by
      have h1 := dep_pos p
      obtain ⟨m, hm⟩ : ∃ m, dep p = m + 1 := ⟨dep p - 1, by omega⟩
      have := (c_dep p m).mp (by omega) q hq
      omega⟩
    rcases (c_bodies p b).mp hb with hb | ⟨q, hq, hb⟩
    · have : b ∈ kidsT p := by cases p <;> simp [loopBody] at hb <;> simp [kidsT, hb]
      have := key b this
      omega
    · have h1 := key q hq
      have h2 := bodies_len (p := q) (b := b) n (by omega) hb
      omega
theorem bodies_plain {p b : Pg} : ∀ n, nodes p ≤ n → (nestOk p = true → b ∈ bodiesOf p → plainP b = true) ∧ (plainP p = true → b ∉ bodiesOf p)
  | 0, h => by have := nodes_pos p; omega
  | n + 1, h => by
    rw [c_nodes] at h
    constructor
    · intro hn hb
      have hn := (c_nest p).mp hn
      rcases (c_bodies p b).mp hb with hb | ⟨q, hq, hb⟩
      · have hl : isLoop p = true := by cases p <;> simp [loopBody] at hb <;> rfl
        rw [if_pos hl] at hn
        have : b ∈ kidsT p := by cases p <;> simp [loopBody] at hb <;> simp [kidsT, hb]
        exact hn b this
      · have hq' := nodess_mem hq
        have ih := bodies_plain (p := q) (b := b) n (by omega)
        by_cases hl : isLoop p = true
        · rw [if_pos hl] at hn; exact absurd hb (ih.2 (hn q hq))
        · rw [if_neg hl] at hn; exact ih.1 (hn q hq) hb
    · intro hp hb
      obtain ⟨p1, p2⟩ := (c_plain p).mp hp
      rcases (c_bodies p b).mp hb with hb | ⟨q, hq, hb⟩
      · rw [noLoop_body p1] at hb; cases hb
      · have hq' := nodess_mem hq
        exact (bodies_plain (p := q) (b := b) n (by omega)).2 (p2 q hq) hb
theorem cond_one {p : Pg} : cond [(p, 1, false)] [] 0 ↔ allN p = true ∧ dep p ≤ 12 ∧ nestOk p = true ∧ nodes p ≤ 80 ∧ loops p ≤ 8 := by
  simp [cond, okW', nodesW, loopsW, nodess, loopss]
  constructor
  · rintro ⟨⟨a, b, c⟩, d, e⟩; exact ⟨a, by omega, c, by omega, e⟩
  · rintro ⟨a, b, c, d, e⟩; exact ⟨⟨a, by omega, c⟩, by omega, e⟩
theorem progT_iff {p : Pg} : progT p = true ↔ cond [(p, 1, false)] [] 0 ∧ ∀ b ∈ bodiesOf p, bodyT b = true := by
  rw [cond_one]
  simp [progT, and_assoc]
theorem program_c {p : Pg} (hf : fitA p = true) (hw : WfS st) : SH.F_is_program [enc p] st = some (.bl (progT p), st) := by
  have hcut := fun (b : Bool) (os : List O) => cut_dead2 (st := st) (d := .bl b) (n := st.length) (os := os) rfl hw rfl
  have hu : Slots st 0 [some (enc p), some (.ref st.length), some (.ref (st.length + 1)), some (.int 0), none, none, none, none, none, none] := ⟨_, _, _, _, _, _, _, rfl⟩
  obtain ⟨w1, w2⟩ := prog_walk hw 200 [(p, 1, false)] [] 0 _ hu (fun x hx => by simp at hx; subst hx; exact hf) (by simp) (by simp)
  obtain ⟨s1, s2⟩ := walk_spec 200 [(p, 1, false)] [] 0 (by decide) (by decide) (by decide)
  have l1 : (st ++ [O.lst [.tup [enc p, .int 1, .bl false]]]).length = st.length + 1 := by simp
  have hst : stP st [(p, 1, false)] [] = st ++ [.lst [.tup [enc p, .int 1, .bl false]], .lst []] := rfl
  rw [prog_eq]
  show (mSeq _ _ [some (enc p), none, none, none, none, none, none, none, none, none] st).bind _ = _
  simp only [e_mSeq, e_mSet, e_mNew, e_mTup, e_aCons, e_ck, e_aNil, gv0, Option.bind_some, List.length_cons, List.length_nil, Nat.zero_add, Nat.reduceAdd, sz3, sz1, if_true, Nat.zero_le, List.set_cons_succ, List.set_cons_zero, l1, List.append_assoc, List.cons_append, List.nil_append]
  rw [hst] at w1 w2
  by_cases hc : cond [(p, 1, false)] [] 0
  · obtain ⟨B, e, hB⟩ := s1 hc
    obtain ⟨u', k', e2, hu'⟩ := w2 B e
    rw [e2]
    have hB' : ∀ b, b ∈ B ↔ b ∈ bodiesOf p := fun b => by rw [hB b]; simp
    obtain ⟨c1, c2, c3, c4, c5⟩ := cond_one.mp hc
    have wf1 : WfS (st ++ [.lst [], .dead]) := by
      have := (hw.add (o := .lst []) rfl).add (o := .dead) rfl
      rwa [List.append_assoc] at this
    have hbl : B.length ≤ 300000 := by
      by_cases hz : B.length ≤ 300000
      · exact hz
      · exfalso
        have : ∀ (n : Nat) (xs : List Wt) (bs B : List Pg) (k : Int), walk n xs bs k = some (some B) → B.length ≤ bs.length + n := by
          intro n
          induction n with
          | zero => intro xs bs B k h; cases (show (none : Option (Option (List Pg))) = _ from h)
          | succ n ih =>
            intro xs bs B k h
            rcases List.eq_nil_or_concat xs with rfl | ⟨ys, x, rfl⟩
            · rw [walk_nil] at h; cases h; omega
            · rw [List.concat_eq_append, walk_snoc] at h
              split at h
              · cases h
              · have := ih _ _ _ _ h
                rw [List.length_append, loopBody_len] at this
                split at this <;> omega
        have := this 200 _ _ _ _ e
        simp at this
        omega
    have it : ilAny (gv 2) u' (stP st [] B) = some ((B.map enc, fun s => match s[st.length + 1]? with | some .dead => some (s.set (st.length + 1) (.lst (B.map enc))) | _ => none), st ++ [.lst [], .dead]) := by
      show (gv 2 u' (stP st [] B)).bind (fun p => walkD p.1 p.2) = _
      rw [slot2 hu']
      exact lent1
    have lc := lc_back (st := stP st [] B) (σ := u') (it := ilAny (gv 2)) (gm := gN 9) (me := mC SH.F_is_body (aCons (gv 9) aNil)) (vs := [9]) (st1 := st ++ [.lst [], .dead]) (st2 := st ++ [.lst [], .lst (B.map enc)]) enc (fun b => .bl (bodyT b)) B it (fun b hb => ⟨_, rfl, by
      have hb' := (hB' b).mp hb
      have h1 := bodies_len (p := p) (b := b) _ (Nat.le_refl _) hb'
      have h2 := (bodies_plain (p := p) (b := b) _ (Nat.le_refl _)).1 c3 hb'
      have h3 := body_c (st := st ++ [.lst [], .dead]) (p := b) (by omega) h2 (by omega) wf1
      have h4 : ((wipeD u' [9]).set 9 (some (enc b)))[9]? = some (some (enc b)) := by
        obtain ⟨a1, a2, a3, a4, a5, a6, a7, rfl⟩ := hu'; rfl
      simp only [e_mC, e_aCons, gvn h4, e_aNil, Option.bind_some, h3]⟩) (sz (by omega)) (by simp only [snoc2_1, snoc2_s1])
    simp only [Option.bind_some, e_mRet, e_mC, e_aCons, lc, e_aNil, all_map]
    have : B.all bodyT = progT p := by
      rw [Bool.eq_iff_iff, progT_iff, List.all_eq_true]
      exact ⟨fun h => ⟨hc, fun b hb => h b ((hB' b).mpr hb)⟩, fun h b hb => h.2 b ((hB' b).mp hb)⟩
    rw [this]
    exact hcut _ _
  · obtain ⟨u', os, e2⟩ := w1 (s2 hc)
    rw [e2]
    have : progT p = false := by
      cases h : progT p with
      | false => rfl
      | true => exact absurd (progT_iff.mp h).1 hc
    rw [this]
    exact hcut _ _
end
end T

end
section
set_option Elab.async false
set_option linter.all false
set_option maxRecDepth 100000
set_option autoImplicit false
set_option exponentiation.threshold 5000
namespace T
open PySem PySem.Spec L2 Z
/-! ### what is drawn -/
section
variable {i : Nat} {T : Int} {st : Sto} {σ : Slo}
theorem pot_lt (h : Pot i T st) : i < st.length := by
  obtain ⟨a, b, t, h, _⟩ := h
  exact (List.getElem?_eq_some_iff.mp h).1
theorem pot_le {U : Int} (h : Pot i T st) (hu : T ≤ U) : Pot i U st := by
  obtain ⟨a, b, t, h, h1, h2, h3, h4, h5⟩ := h
  exact ⟨a, b, t, h, h1, h2, h3, h4, by omega⟩
theorem pot_app {os : List O} (h : Pot i T st) : Pot i T (st ++ os) := by
  have hl := pot_lt h
  obtain ⟨a, b, t, h, r⟩ := h
  exact ⟨a, b, t, by rw [List.getElem?_append_left hl]; exact h, r⟩
theorem drawn_le {U : Int} {st' : Sto} (h : Drawn i T st st') (hu : T ≤ U) : Drawn i U st st' := ⟨h.wf, h.len, h.same, pot_le h.pot hu⟩
/-- what lies behind stays, whatever is drawn -/
theorem drawn_app {os : List O} {s : Sto} (hw : WfS st) (hi : i < st.length) (h : Drawn i T (st ++ os) s) : ∃ st', s = st' ++ os ∧ Drawn i T st st' := by
  obtain ⟨wf, len, same, pot⟩ := h
  have hl : (s.take st.length).length = st.length := by rw [List.length_take, len]; simp
  have hs : s = s.take st.length ++ os := by
    have hd : s.drop st.length = os := by
      apply List.ext_getElem?
      intro j
      rw [List.getElem?_drop, same _ (by omega), List.getElem?_append_right (by omega)]
      congr 1; omega
    rw [← hd, List.take_append_drop]
  refine ⟨s.take st.length, hs, ?_, hl, fun j hj => ?_, ?_⟩
  · intro o ho
    obtain ⟨j, hj, rfl⟩ := List.mem_iff_getElem.mp ho
    rw [hl] at hj ⊢
    by_cases e : j = i
    · subst e
      obtain ⟨a, b, t, hp, _⟩ := pot
      have : (s.take st.length)[j]? = some (.lst [.int a, .int b, .int t]) := by rw [List.getElem?_take_of_lt hj]; exact hp
      rw [List.getElem?_eq_getElem (by rw [hl]; exact hj)] at this
      rw [Option.some.inj this]; rfl
    · have h1 : (s.take st.length)[j]? = st[j]? := by rw [List.getElem?_take_of_lt hj, same j e, List.getElem?_append_left hj]
      rw [List.getElem?_eq_getElem (by rw [hl]; exact hj), List.getElem?_eq_getElem hj] at h1
      rw [Option.some.inj h1]
      exact hw _ (List.getElem_mem hj)
  · by_cases e : j < st.length
    · rw [List.getElem?_take_of_lt e, same j hj, List.getElem?_append_left e]
    · rw [List.getElem?_eq_none (by rw [hl]; omega), List.getElem?_eq_none (by omega)]
  · obtain ⟨a, b, t, hp, r⟩ := pot
    exact ⟨a, b, t, by rw [List.getElem?_take_of_lt hi]; exact hp, r⟩
theorem wf_drawn {st' : Sto} {U : Int} (h : Drawn i U st st') : WfS st' := h.wf
theorem app_drawn {os : List O} {st' : Sto} {U : Int} (hi : i < st.length) (h : Drawn i U st st') (hw : WfS (st' ++ os)) : Drawn i U (st ++ os) (st' ++ os) := by
  obtain ⟨wf, len, same, pot⟩ := h
  refine ⟨hw, by simp [len], fun j hj => ?_, pot_app pot⟩
  by_cases e : j < st.length
  · rw [List.getElem?_append_left (by omega), List.getElem?_append_left e, same j hj]
  · rw [List.getElem?_append_right (by omega), List.getElem?_append_right (by omega), len]
theorem Drawn.more {U : Int} {a b c : Sto} (h : Drawn i T a b) (h' : Drawn i U b c) : Drawn i U a c := h.trans h'
/-- a comprehension whose element draws -/
theorem comp_dr {α : Type} {gm : GM} {me : EM} (enc : α → D) (P : α → Prop) (c B : Int) (hc : 0 ≤ c)
    (step : ∀ (d : D) (st : Sto) (T : Int), WfS st → Pot i T st → T < B → ∃ σ' x st', gm d σ st = some (σ', st) ∧ me σ' st = some (enc x, st') ∧ P x ∧ Drawn i (T + c) st st') :
    ∀ (ds : List D) (st : Sto) (T : Int), WfS st → Pot i T st → T + c * ds.length < B →
      ∃ (xs : List α) (st' : Sto), mComp gm bYes me σ ds st = some (xs.map enc, st') ∧ xs.length = ds.length ∧ (∀ x ∈ xs, P x) ∧ Drawn i (T + c * ds.length) st st'
  | [], st, T, hw, hp, _ => ⟨[], st, rfl, rfl, (fun x hx => nomatch hx), ⟨hw, rfl, fun _ _ => rfl, pot_le hp (by simp)⟩⟩
  | d :: ds, st, T, hw, hp, hT => by
    have hm : c * ((d :: ds).length : Int) = c + c * (ds.length : Int) := by
      rw [List.length_cons, Int.natCast_add, Int.mul_add]; simp; omega
    have hnn : 0 ≤ c * (ds.length : Int) := Int.mul_nonneg hc (by omega)
    rw [hm] at hT
    obtain ⟨σ', x, st1, h1, h2, h3, h4⟩ := step d st T hw hp (by omega)
    obtain ⟨xs, st2, h5, h6, h7, h8⟩ := comp_dr enc P c B hc step ds st1 (T + c) h4.wf h4.pot (by omega)
    refine ⟨x :: xs, st2, by simp [mComp, h1, bYes, h2, h5], by simp [h6], fun y hy => ?_, ?_⟩
    · rcases List.mem_cons.mp hy with rfl | hy
      · exact h3
      · exact h7 y hy
    · rw [hm, ← Int.add_assoc]; exact h4.trans h8
/-- [e for x in range(k)], e draws -/
theorem lc_dr {α : Type} {it : EvL} {gm : GM} {me : EM} {vs : List Nat} (enc : α → D) (P : α → Prop) (c B : Int) (hc : 0 ≤ c) (ds : List D) (hi : it σ st = some ((ds, some), st))
    (step : ∀ (d : D) (st : Sto) (T : Int), WfS st → Pot i T st → T < B → ∃ σ' x st', gm d (wipeD σ vs) st = some (σ', st) ∧ me σ' st = some (enc x, st') ∧ P x ∧ Drawn i (T + c) st st')
    (hw : WfS st) (hp : Pot i T st) (hT : T + c * ds.length < B) (hl : ds.length ≤ sizeLine) :
    ∃ (xs : List α) (st' : Sto), mLcL it gm bYes me vs σ st = some (.lst (xs.map enc), st') ∧ xs.length = ds.length ∧ (∀ x ∈ xs, P x) ∧ Drawn i (T + c * ds.length) st st' := by
  obtain ⟨xs, st', h1, h2, h3, h4⟩ := comp_dr enc P c B hc step ds st T hw hp hT
  refine ⟨xs, st', ?_, h2, h3, h4⟩
  simp [mLcL, hi, h1, h2, hl]
def BIG : Int := 1000000000000
theorem take_d {b : Int} (hw : WfS st) (hp : Pot i T st) (hT : T < BIG) (h0 : 0 < b) (h1 : b < 2 ^ 60) : ∃ d st', SH.F__law_take [.ref i, .int b] st = some (.int d, st') ∧ 0 ≤ d ∧ d < b ∧ Drawn i (T + 1) st st' :=
  take_dr hw hp (Int.lt_trans hT (by decide)) h0 h1
theorem of_d {ds : List D} (hw : WfS st) (hp : Pot i T st) (hT : T < BIG) (h0 : ds ≠ []) (h1 : ds.length ≤ 1000) (hb : belows st.length ds = true) : ∃ d st', SH.F__law_of [.ref i, .lst ds] st = some (d, st') ∧ d ∈ ds ∧ Drawn i (T + 1) st st' :=
  of_dr hw hp (Int.lt_trans hT (by decide)) h0 (Nat.lt_of_le_of_lt h1 (by decide)) hb
def W8 : List Str := ["a", "b", "c", "d", "x", "aa", "log", "zzzzzzzz"]
theorem w8_lst {s : Sto} : mLst (aCons (ck (.str "a")) (aCons (ck (.str "b")) (aCons (ck (.str "c")) (aCons (ck (.str "d")) (aCons (ck (.str "x")) (aCons (ck (.str "aa")) (aCons (ck (.str "log")) (aCons (ck (.str "zzzzzzzz")) aNil)))))))) σ s = some (.lst (W8.map D.str), s) := by
  have : (8 : Nat) ≤ sizeLine := by decide
  simp [this, W8]
theorem strs_below {n : Nat} : ∀ ws : List Str, belows n (ws.map D.str) = true
  | [] => rfl
  | w :: ws => by simp [belows, below, strs_below ws]
theorem word_dr (hw : WfS st) (hp : Pot i T st) (hT : T < BIG) : ∃ w st', SH.F__law_word [.ref i] st = some (.str w, st') ∧ w ∈ W8 ∧ Drawn i (T + 1) st st' := by
  obtain ⟨d, st', h1, h2, h3⟩ := of_d (ds := W8.map D.str) hw hp hT (by simp [W8]) (by simp [W8]) (strs_below _)
  obtain ⟨w, hw8, rfl⟩ := List.mem_map.mp h2
  refine ⟨w, st', ?_, hw8, h3⟩
  have hcut := cut_ok (d := .str w) (n := st.length) (st := st') h3.len rfl h3.wf
  show (mRet _ [some (.ref i)] st).bind _ = _
  simp only [e_mRet, e_mC, e_aCons, gv0, Option.bind_some, w8_lst, e_aNil, h1]
  exact hcut
def leafT : Pg → Prop
  | .log w => w ∈ W8
  | .aw n => 1 ≤ n ∧ n ≤ 3
  | _ => False
theorem leaf_dr (hw : WfS st) (hp : Pot i T st) (hT : T < BIG - 1) : ∃ p st', SH.F__law_leaf [.ref i] st = some (enc p, st') ∧ leafT p ∧ Drawn i (T + 2) st st' := by
  obtain ⟨d, s1, h1, h2, h3, h4⟩ := take_d (b := 5) hw hp (by omega) (by decide) (by decide)
  by_cases hd : d < 3
  · obtain ⟨w, s2, k1, k2, k3⟩ := word_dr h4.wf h4.pot (by omega)
    have dr := drawn_le (h4.trans k3) (U := T + 2) (by omega)
    refine ⟨.log w, s2, ?_, k2, dr⟩
    have hcut := cut_ok (d := enc (.log w)) (n := st.length) (st := s2) dr.len rfl dr.wf
    show (mSeq _ _ [some (.ref i)] st).bind _ = _
    simp only [e_mSeq, e_mIfS, e_toB, e_mB, e_mC, e_aCons, gv0, e_ck, e_aNil, Option.bind_some, h1, e_oLt, decide_eq_true hd, if_true, e_mRet, e_mTup, k1, List.length_cons, List.length_nil, Nat.zero_add, Nat.reduceAdd, sz2]
    exact hcut
  · obtain ⟨n, s2, k1, k2, k3, k4⟩ := take_d (b := 3) h4.wf h4.pot (by omega) (by decide) (by decide)
    have dr := drawn_le (h4.trans k4) (U := T + 2) (by omega)
    refine ⟨.aw (1 + n), s2, ?_, ⟨by omega, by omega⟩, dr⟩
    have hcut := cut_ok (d := enc (.aw (1 + n))) (n := st.length) (st := s2) dr.len rfl dr.wf
    show (mSeq _ _ [some (.ref i)] st).bind _ = _
    simp only [e_mSeq, e_mIfS, e_toB, e_mB, e_mC, e_aCons, gv0, e_ck, e_aNil, Option.bind_some, h1, e_oLt, decide_eq_false hd, Bool.false_eq_true, if_false, e_mNil, e_mRet, e_mTup, k1, e_oAdd, List.length_cons, List.length_nil, Nat.zero_add, Nat.reduceAdd, sz2, if_true]
    exact hcut
end
end T

end
section
set_option Elab.async false
set_option linter.all false
set_option maxRecDepth 100000
set_option autoImplicit false
set_option exponentiation.threshold 5000
namespace T
open PySem PySem.Spec L2 Z
/-! ### while, by a measure -/
theorem wh_run {β : Type} {c : Ev Bool} {b : SM} (I : β → Slo → Sto → Prop) (μ : β → Nat)
    (step : ∀ a σ st, I a σ st → c σ st = some (false, st) ∨ (c σ st = some (true, st) ∧ ∃ a' σ' st', b σ st = some (.nx, σ', st') ∧ I a' σ' st' ∧ μ a' < μ a)) :
    ∀ (n : Nat) (a : β) (σ : Slo) (st : Sto), I a σ st → μ a < n → ∃ a' σ' st', mWh c b n σ st = some (.nx, σ', st') ∧ I a' σ' st' ∧ c σ' st' = some (false, st')
  | 0, a, σ, st, _, h => by omega
  | n + 1, a, σ, st, hI, h => by
    rcases step a σ st hI with hc | ⟨hc, a', σ', st', hb, hI', hm⟩
    · exact ⟨a, σ, st, by rw [e_mWh, hc]; rfl, hI, hc⟩
    · obtain ⟨a2, σ2, st2, h1, h2, h3⟩ := wh_run I μ step n a' σ' st' hI' (by omega)
      refine ⟨a2, σ2, st2, ?_, h2, h3⟩
      rw [e_mWh, hc]
      simp only [Option.bind_some, if_true, hb]
      exact h1
/-! ### programs as data -/
mutual
def dat : Pg → PyData
  | .log w => .tuple [.str "log", .str w]
  | .aw n => .tuple [.str "await", .int n]
  | .seq ps => .tuple [.str "seq", .tuple (dats ps)]
  | .fork p => .tuple [.str "fork", dat p]
  | .join ps => .tuple [.str "join", .tuple (dats ps)]
  | .race ps => .tuple [.str "race", .tuple (dats ps)]
  | .loop n b => .tuple [.str "loop", .int n, dat b]
def dats : List Pg → List PyData
  | [] => []
  | p :: ps => dat p :: dats ps
end
mutual
theorem py_enc : ∀ p : Pg, pyD (enc p) = some (dat p)
  | .log w => rfl
  | .aw n => rfl
  | .seq ps => by simp [enc, pyD, pyDs, py_encs ps, dat]
  | .fork p => by simp [enc, pyD, pyDs, py_enc p, dat]
  | .join ps => by simp [enc, pyD, pyDs, py_encs ps, dat]
  | .race ps => by simp [enc, pyD, pyDs, py_encs ps, dat]
  | .loop n b => by simp [enc, pyD, pyDs, py_enc b, dat]
theorem py_encs : ∀ ps : List Pg, pyDs (encs ps) = some (dats ps)
  | [] => rfl
  | p :: ps => by simp [encs, pyDs, py_enc p, py_encs ps, dats]
end
mutual
/-- its words are texts that a machine holds -/
def okTx : Pg → Bool
  | .log w => PyData.strOk w
  | .aw _ => true
  | .seq ps => okTxs ps
  | .fork p => okTx p
  | .join ps => okTxs ps
  | .race ps => okTxs ps
  | .loop _ b => okTx b
def okTxs : List Pg → Bool
  | [] => true
  | p :: ps => okTx p && okTxs ps
end
theorem okTxs_iff : ∀ {ps : List Pg}, okTxs ps = true ↔ ∀ p ∈ ps, okTx p = true
  | [] => by simp [okTxs]
  | p :: ps => by simp [okTxs, okTxs_iff]
mutual
theorem lay_enc : ∀ p : Pg, okTx p = true → PyData.canLay0 (dat p) = true
  | .log w, h => by simpa [dat, PyData.canLay0, PyData.canLayAll0, okk_log, okTx] using h
  | .aw n, h => by simp [dat, PyData.canLay0, PyData.canLayAll0, okk_await]
  | .seq ps, h => by simp [dat, PyData.canLay0, PyData.canLayAll0, okk_seq, lay_encs ps h]
  | .fork p, h => by simp [dat, PyData.canLay0, PyData.canLayAll0, okk_fork, lay_enc p h]
  | .join ps, h => by simp [dat, PyData.canLay0, PyData.canLayAll0, okk_join, lay_encs ps h]
  | .race ps, h => by simp [dat, PyData.canLay0, PyData.canLayAll0, okk_race, lay_encs ps h]
  | .loop n b, h => by simp [dat, PyData.canLay0, PyData.canLayAll0, okk_loop, lay_enc b h]
theorem lay_encs : ∀ ps : List Pg, okTxs ps = true → PyData.canLayAll0 (dats ps) = true
  | [], _ => by simp [dats, PyData.canLayAll0]
  | p :: ps, h => by
    have h : (okTx p && okTxs ps) = true := h
    rw [Bool.and_eq_true] at h
    simp [dats, PyData.canLayAll0, lay_enc p h.1, lay_encs ps h.2]
end
mutual
theorem depth_enc : ∀ p : Pg, PyData.depth (dat p) ≤ 2 * dep p
  | .log w => by simp [dat, PyData.depth, PyData.depthAll, dep]
  | .aw n => by simp [dat, PyData.depth, PyData.depthAll, dep]
  | .seq ps => by have := depth_encs ps; simp [dat, PyData.depth, PyData.depthAll, dep]; omega
  | .fork p => by have := depth_enc p; simp [dat, PyData.depth, PyData.depthAll, dep]; omega
  | .join ps => by have := depth_encs ps; simp [dat, PyData.depth, PyData.depthAll, dep]; omega
  | .race ps => by have := depth_encs ps; simp [dat, PyData.depth, PyData.depthAll, dep]; omega
  | .loop n b => by have := depth_enc b; simp [dat, PyData.depth, PyData.depthAll, dep]; omega
theorem depth_encs : ∀ ps : List Pg, PyData.depthAll (dats ps) ≤ 2 * deps ps
  | [] => by simp [dats, PyData.depthAll]
  | p :: ps => by have := depth_enc p; have := depth_encs ps; simp [dats, PyData.depthAll, deps]; omega
end
/-! ### all nodes with their levels -/
def encL (x : Pg × Int) : D := .tup [enc x.1, .int x.2]
mutual
def trav : Pg → Int → List (Pg × Int)
  | .log w, l => [(.log w, l)]
  | .aw n, l => [(.aw n, l)]
  | .seq ps, l => (.seq ps, l) :: travs ps (l + 1)
  | .fork p, l => (.fork p, l) :: trav p (l + 1)
  | .join ps, l => (.join ps, l) :: travs ps (l + 1)
  | .race ps, l => (.race ps, l) :: travs ps (l + 1)
  | .loop n b, l => (.loop n b, l) :: trav b (l + 1)
/-- the last one first -/
def travs : List Pg → Int → List (Pg × Int)
  | [], _ => []
  | p :: ps, l => travs ps l ++ trav p l
end
mutual
theorem trav_len : ∀ (p : Pg) (l : Int), (trav p l).length = nodes p
  | .log w, l => rfl
  | .aw n, l => rfl
  | .seq ps, l => by simp [trav, nodes, travs_len ps]; omega
  | .fork p, l => by simp [trav, nodes, trav_len p]; omega
  | .join ps, l => by simp [trav, nodes, travs_len ps]; omega
  | .race ps, l => by simp [trav, nodes, travs_len ps]; omega
  | .loop n b, l => by simp [trav, nodes, trav_len b]; omega
theorem travs_len : ∀ (ps : List Pg) (l : Int), (travs ps l).length = nodess ps
  | [], _ => rfl
  | p :: ps, l => by simp [travs, nodess, travs_len ps, trav_len p]; omega
end
theorem trav_kids (p : Pg) (l : Int) : trav p l = (p, l) :: travs (kidsT p) (l + 1) := by
  cases p <;> simp [trav, travs, kidsT]
/-- what a stack still gives -/
def leftL (s : List (Pg × Int)) : List (Pg × Int) := (s.reverse.map fun x => trav x.1 x.2).flatten
theorem leftL_snoc (s : List (Pg × Int)) (x : Pg × Int) : leftL (s ++ [x]) = trav x.1 x.2 ++ leftL s := by
  simp [leftL]
theorem leftL_app (s t : List (Pg × Int)) : leftL (s ++ t) = leftL t ++ leftL s := by simp [leftL]
theorem leftL_kids (ps : List Pg) (l : Int) : leftL (ps.map fun q => (q, l)) = travs ps l := by
  induction ps with
  | nil => rfl
  | cons p ps ih =>
    have : (p :: ps).map (fun q => (q, l)) = [(p, l)] ++ ps.map fun q => (q, l) := rfl
    rw [this, leftL_app, ih]
    simp [leftL, travs]
end T

end
section
set_option Elab.async false
set_option linter.all false
set_option maxRecDepth 100000
set_option autoImplicit false
set_option exponentiation.threshold 5000
namespace T
open PySem PySem.Spec L2 Z
section
variable {st : Sto} {σ : Slo}
theorem in2_log0 : inL (.str "log") [.str "log", .str "await"] = some true := by decide +kernel
theorem in2_log : oIn (.str "log") (.tup [.str "log", .str "await"]) st = some (.bl true, st) := by
  show ((inL (.str "log") [.str "log", .str "await"]).bind _) = _
  rw [in2_log0]; rfl
theorem in3_log0 : inL (.str "log") [.str "seq", .str "join", .str "race"] = some false := by decide +kernel
theorem in3_log : oIn (.str "log") (.tup [.str "seq", .str "join", .str "race"]) st = some (.bl false, st) := by
  show ((inL (.str "log") [.str "seq", .str "join", .str "race"]).bind _) = _
  rw [in3_log0]; rfl
theorem in2_await0 : inL (.str "await") [.str "log", .str "await"] = some true := by decide +kernel
theorem in2_await : oIn (.str "await") (.tup [.str "log", .str "await"]) st = some (.bl true, st) := by
  show ((inL (.str "await") [.str "log", .str "await"]).bind _) = _
  rw [in2_await0]; rfl
theorem in3_await0 : inL (.str "await") [.str "seq", .str "join", .str "race"] = some false := by decide +kernel
theorem in3_await : oIn (.str "await") (.tup [.str "seq", .str "join", .str "race"]) st = some (.bl false, st) := by
  show ((inL (.str "await") [.str "seq", .str "join", .str "race"]).bind _) = _
  rw [in3_await0]; rfl
theorem in2_fork0 : inL (.str "fork") [.str "log", .str "await"] = some false := by decide +kernel
theorem in2_fork : oIn (.str "fork") (.tup [.str "log", .str "await"]) st = some (.bl false, st) := by
  show ((inL (.str "fork") [.str "log", .str "await"]).bind _) = _
  rw [in2_fork0]; rfl
theorem in3_fork0 : inL (.str "fork") [.str "seq", .str "join", .str "race"] = some false := by decide +kernel
theorem in3_fork : oIn (.str "fork") (.tup [.str "seq", .str "join", .str "race"]) st = some (.bl false, st) := by
  show ((inL (.str "fork") [.str "seq", .str "join", .str "race"]).bind _) = _
  rw [in3_fork0]; rfl
theorem in2_loop0 : inL (.str "loop") [.str "log", .str "await"] = some false := by decide +kernel
theorem in2_loop : oIn (.str "loop") (.tup [.str "log", .str "await"]) st = some (.bl false, st) := by
  show ((inL (.str "loop") [.str "log", .str "await"]).bind _) = _
  rw [in2_loop0]; rfl
theorem in3_loop0 : inL (.str "loop") [.str "seq", .str "join", .str "race"] = some false := by decide +kernel
theorem in3_loop : oIn (.str "loop") (.tup [.str "seq", .str "join", .str "race"]) st = some (.bl false, st) := by
  show ((inL (.str "loop") [.str "seq", .str "join", .str "race"]).bind _) = _
  rw [in3_loop0]; rfl
theorem in2_seq0 : inL (.str "seq") [.str "log", .str "await"] = some false := by decide +kernel
theorem in2_seq : oIn (.str "seq") (.tup [.str "log", .str "await"]) st = some (.bl false, st) := by
  show ((inL (.str "seq") [.str "log", .str "await"]).bind _) = _
  rw [in2_seq0]; rfl
theorem in3_seq0 : inL (.str "seq") [.str "seq", .str "join", .str "race"] = some true := by decide +kernel
theorem in3_seq : oIn (.str "seq") (.tup [.str "seq", .str "join", .str "race"]) st = some (.bl true, st) := by
  show ((inL (.str "seq") [.str "seq", .str "join", .str "race"]).bind _) = _
  rw [in3_seq0]; rfl
theorem in2_join0 : inL (.str "join") [.str "log", .str "await"] = some false := by decide +kernel
theorem in2_join : oIn (.str "join") (.tup [.str "log", .str "await"]) st = some (.bl false, st) := by
  show ((inL (.str "join") [.str "log", .str "await"]).bind _) = _
  rw [in2_join0]; rfl
theorem in3_join0 : inL (.str "join") [.str "seq", .str "join", .str "race"] = some true := by decide +kernel
theorem in3_join : oIn (.str "join") (.tup [.str "seq", .str "join", .str "race"]) st = some (.bl true, st) := by
  show ((inL (.str "join") [.str "seq", .str "join", .str "race"]).bind _) = _
  rw [in3_join0]; rfl
theorem in2_race0 : inL (.str "race") [.str "log", .str "await"] = some false := by decide +kernel
theorem in2_race : oIn (.str "race") (.tup [.str "log", .str "await"]) st = some (.bl false, st) := by
  show ((inL (.str "race") [.str "log", .str "await"]).bind _) = _
  rw [in2_race0]; rfl
theorem in3_race0 : inL (.str "race") [.str "seq", .str "join", .str "race"] = some true := by decide +kernel
theorem in3_race : oIn (.str "race") (.tup [.str "seq", .str "join", .str "race"]) st = some (.bl true, st) := by
  show ((inL (.str "race") [.str "seq", .str "join", .str "race"]).bind _) = _
  rw [in3_race0]; rfl
theorem sl2 (a b : D) : oSl (.tup [a, b]) (some (-1)) none st = some (.tup [b], st) := rfl
theorem sl3 (a b c : D) : oSl (.tup [a, b, c]) (some (-1)) none st = some (.tup [c], st) := rfl
theorem e_oSo1 {s : Sto} : oSo (mU oNeg (ck (.int 1))) σ s = some (some (-1), s) := rfl
theorem lkids_c {p : Pg} (hw : WfS st) : SH.F__law_kids [enc p] st = some (.tup ((kidsT p).map enc), st) := by
  cases p with
  | log w =>
    have hcut := cut_ok (d := .tup ([])) (n := st.length) rfl (show belows st.length ([]) = true from by first | rfl | (have := (kids_below (n := st.length) (.log w)).2; simpa [kidsT, encs_map] using this)) hw
    show (mSeq _ _ [some (.tup [.str "log", .str w])] st).bind _ = _
    simp only [e_mSeq, e_mSet, e_mB, e_mIfS, e_toB, e_ck, e_mRet, e_mC, e_aCons, e_aNil, e_mNil, Option.bind_some, List.set_cons_succ, List.set_cons_zero, Bool.false_eq_true, if_false, if_true, e_mIf, e_mTup, List.length_nil, List.length_cons, Nat.zero_le, Nat.zero_add, Nat.reduceAdd, e_mSl, e_oNo, e_oSo1, gv0, ix2_0, ix2_1, in2_log, in3_log, sz1, sz2, sz3, sl2, sl3]
    rw [show (kidsT (.log w)).map enc = [] from by simp [kidsT, encs_map]]
    exact hcut
  | aw m =>
    have hcut := cut_ok (d := .tup ([])) (n := st.length) rfl (show belows st.length ([]) = true from by first | rfl | (have := (kids_below (n := st.length) (.aw m)).2; simpa [kidsT, encs_map] using this)) hw
    show (mSeq _ _ [some (.tup [.str "await", .int m])] st).bind _ = _
    simp only [e_mSeq, e_mSet, e_mB, e_mIfS, e_toB, e_ck, e_mRet, e_mC, e_aCons, e_aNil, e_mNil, Option.bind_some, List.set_cons_succ, List.set_cons_zero, Bool.false_eq_true, if_false, if_true, e_mIf, e_mTup, List.length_nil, List.length_cons, Nat.zero_le, Nat.zero_add, Nat.reduceAdd, e_mSl, e_oNo, e_oSo1, gv0, ix2_0, ix2_1, in2_await, in3_await, sz1, sz2, sz3, sl2, sl3]
    rw [show (kidsT (.aw m)).map enc = [] from by simp [kidsT, encs_map]]
    exact hcut
  | seq ps =>
    have hcut := cut_ok (d := .tup (encs ps)) (n := st.length) rfl (show belows st.length (encs ps) = true from by first | rfl | (have := (kids_below (n := st.length) (.seq ps)).2; simpa [kidsT, encs_map] using this)) hw
    show (mSeq _ _ [some (.tup [.str "seq", .tup (encs ps)])] st).bind _ = _
    simp only [e_mSeq, e_mSet, e_mB, e_mIfS, e_toB, e_ck, e_mRet, e_mC, e_aCons, e_aNil, e_mNil, Option.bind_some, List.set_cons_succ, List.set_cons_zero, Bool.false_eq_true, if_false, if_true, e_mIf, e_mTup, List.length_nil, List.length_cons, Nat.zero_le, Nat.zero_add, Nat.reduceAdd, e_mSl, e_oNo, e_oSo1, gv0, ix2_0, ix2_1, in2_seq, in3_seq, sz1, sz2, sz3, sl2, sl3]
    rw [show (kidsT (.seq ps)).map enc = encs ps from by simp [kidsT, encs_map]]
    exact hcut
  | fork q =>
    have hcut := cut_ok (d := .tup ([enc q])) (n := st.length) rfl (show belows st.length ([enc q]) = true from by first | rfl | (have := (kids_below (n := st.length) (.fork q)).2; simpa [kidsT, encs_map] using this)) hw
    show (mSeq _ _ [some (.tup [.str "fork", enc q])] st).bind _ = _
    simp only [e_mSeq, e_mSet, e_mB, e_mIfS, e_toB, e_ck, e_mRet, e_mC, e_aCons, e_aNil, e_mNil, Option.bind_some, List.set_cons_succ, List.set_cons_zero, Bool.false_eq_true, if_false, if_true, e_mIf, e_mTup, List.length_nil, List.length_cons, Nat.zero_le, Nat.zero_add, Nat.reduceAdd, e_mSl, e_oNo, e_oSo1, gv0, ix2_0, ix2_1, in2_fork, in3_fork, sz1, sz2, sz3, sl2, sl3]
    rw [show (kidsT (.fork q)).map enc = [enc q] from by simp [kidsT, encs_map]]
    exact hcut
  | join ps =>
    have hcut := cut_ok (d := .tup (encs ps)) (n := st.length) rfl (show belows st.length (encs ps) = true from by first | rfl | (have := (kids_below (n := st.length) (.join ps)).2; simpa [kidsT, encs_map] using this)) hw
    show (mSeq _ _ [some (.tup [.str "join", .tup (encs ps)])] st).bind _ = _
    simp only [e_mSeq, e_mSet, e_mB, e_mIfS, e_toB, e_ck, e_mRet, e_mC, e_aCons, e_aNil, e_mNil, Option.bind_some, List.set_cons_succ, List.set_cons_zero, Bool.false_eq_true, if_false, if_true, e_mIf, e_mTup, List.length_nil, List.length_cons, Nat.zero_le, Nat.zero_add, Nat.reduceAdd, e_mSl, e_oNo, e_oSo1, gv0, ix2_0, ix2_1, in2_join, in3_join, sz1, sz2, sz3, sl2, sl3]
    rw [show (kidsT (.join ps)).map enc = encs ps from by simp [kidsT, encs_map]]
    exact hcut
  | race ps =>
    have hcut := cut_ok (d := .tup (encs ps)) (n := st.length) rfl (show belows st.length (encs ps) = true from by first | rfl | (have := (kids_below (n := st.length) (.race ps)).2; simpa [kidsT, encs_map] using this)) hw
    show (mSeq _ _ [some (.tup [.str "race", .tup (encs ps)])] st).bind _ = _
    simp only [e_mSeq, e_mSet, e_mB, e_mIfS, e_toB, e_ck, e_mRet, e_mC, e_aCons, e_aNil, e_mNil, Option.bind_some, List.set_cons_succ, List.set_cons_zero, Bool.false_eq_true, if_false, if_true, e_mIf, e_mTup, List.length_nil, List.length_cons, Nat.zero_le, Nat.zero_add, Nat.reduceAdd, e_mSl, e_oNo, e_oSo1, gv0, ix2_0, ix2_1, in2_race, in3_race, sz1, sz2, sz3, sl2, sl3]
    rw [show (kidsT (.race ps)).map enc = encs ps from by simp [kidsT, encs_map]]
    exact hcut
  | loop m q =>
    have hcut := cut_ok (d := .tup ([enc q])) (n := st.length) rfl (show belows st.length ([enc q]) = true from by first | rfl | (have := (kids_below (n := st.length) (.loop m q)).2; simpa [kidsT, encs_map] using this)) hw
    show (mSeq _ _ [some (.tup [.str "loop", .int m, enc q])] st).bind _ = _
    simp only [e_mSeq, e_mSet, e_mB, e_mIfS, e_toB, e_ck, e_mRet, e_mC, e_aCons, e_aNil, e_mNil, Option.bind_some, List.set_cons_succ, List.set_cons_zero, Bool.false_eq_true, if_false, if_true, e_mIf, e_mTup, List.length_nil, List.length_cons, Nat.zero_le, Nat.zero_add, Nat.reduceAdd, e_mSl, e_oNo, e_oSo1, gv0, ix3_0, ix3_1, ix3_2, in2_loop, in3_loop, sz1, sz2, sz3, sl2, sl3]
    rw [show (kidsT (.loop m q)).map enc = [enc q] from by simp [kidsT, encs_map]]
    exact hcut

/-! ### the walk over all nodes -/
theorem py_L : ∀ xs : List (Pg × Int), pyDs (xs.map encL) = some (xs.map fun x => .tuple [dat x.1, .int x.2])
  | [] => rfl
  | x :: xs => by simp [pyDs, encL, pyD, py_enc, py_L xs]
theorem lay_L : ∀ xs : List (Pg × Int), (∀ x ∈ xs, okTx x.1 = true ∧ dep x.1 ≤ 28) → PyData.canLayAll0 (xs.map fun x => PyData.tuple [dat x.1, .int x.2]) = true ∧ PyData.depthAll (xs.map fun x => PyData.tuple [dat x.1, .int x.2]) ≤ 57
  | [], _ => ⟨by simp [PyData.canLayAll0], by simp [PyData.depthAll]⟩
  | x :: xs, h => by
    obtain ⟨h1, h2⟩ := h x List.mem_cons_self
    obtain ⟨h3, h4⟩ := lay_L xs fun y hy => h y (List.mem_cons_of_mem _ hy)
    have := depth_enc x.1
    refine ⟨by simp [PyData.canLayAll0, PyData.canLay0, lay_enc x.1 h1, h3], ?_⟩
    simp [PyData.depthAll, PyData.depth]; omega
theorem ne_nil {xs : List (Pg × Int)} {o : O} (h : ∀ x ∈ xs, okTx x.1 = true ∧ dep x.1 ≤ 28) : oNe (.ref (st.length + 1)) (.lst []) (st ++ [o, .lst (xs.map encL)]) = some (.bl (!xs.isEmpty), st ++ [o, .lst (xs.map encL)]) := by
  obtain ⟨h1, h2⟩ := lay_L xs h
  have s1 : SeqAt.shaped (.list (xs.map fun x => PyData.tuple [dat x.1, .int x.2])) = true := by
    simp [SeqAt.shaped, PyData.canLay0, PyData.depth, h1]; omega
  have s2 : SeqAt.shaped (.list []) = true := by decide +kernel
  have e : PyData.eqv (.list (xs.map fun x => PyData.tuple [dat x.1, .int x.2])) (.list []) = xs.isEmpty := by
    cases xs <;> simp [PyData.eqv, PyData.eqvAll]
  simp only [oNe, pyT, snoc2_1, py_L, Option.bind_some]
  simp only [pyD, pyDs, Option.bind_some, s1, s2, Bool.and_self, if_true, e]
def stL (st : Sto) (a b : List (Pg × Int)) : Sto := st ++ [.lst (a.map encL), .lst (b.map encL)]
theorem encL_below (n : Nat) : ∀ xs : List (Pg × Int), belows n (xs.map encL) = true
  | [] => rfl
  | x :: xs => by simp [belows, encL, below, enc_below, encL_below n xs]
theorem wfL (hw : WfS st) (a b : List (Pg × Int)) : WfS (stL st a b) := by
  have := (hw.add (o := .lst (a.map encL)) (by simp [belowO, encL_below])).add (o := .lst (b.map encL)) (by simp [belowO, encL_below])
  rwa [List.append_assoc] at this
structure NInv (st : Sto) (p : Pg) (a : List (Pg × Int) × List (Pg × Int)) (σ : Slo) (s : Sto) : Prop where
  s : s = stL st a.1 a.2
  l : ∃ x y z w, σ = [x, some (.ref st.length), some (.ref (st.length + 1)), y, z, w]
  o : ∀ x ∈ a.2, okTx x.1 = true ∧ dep x.1 ≤ 28 ∧ fitA x.1 = true ∧ nodes x.1 ≤ 190
  t : a.1 ++ leftL a.2 = trav p 1
theorem lpop {a s : List (Pg × Int)} {x : Pg × Int} : oPop (.ref (st.length + 1)) [] (stL st a (s ++ [x])) = some (encL x, stL st a s) := by
  simp [oPop, stL, snoc2_1, snoc2_s1]
theorem lapp {a s : List (Pg × Int)} {x : Pg × Int} (h : a.length < 1000) : oApp (.ref st.length) [encL x] (stL st a s) = some (.non, stL st (a ++ [x]) s) := by
  have h2 : a.length < sizeLine := Nat.lt_of_lt_of_le h (by decide +kernel)
  simp [oApp, stL, snoc2_0, snoc2_s0, h2]
theorem lext {a s t : List (Pg × Int)} (h : s.length + t.length ≤ 1000000) : oExt (.ref (st.length + 1)) [.lst (t.map encL)] (stL st a s) = some (.non, stL st a (s ++ t)) := by
  have := ext2_1 (st := st) (acc := s.map encL) (ds := t.map encL) (p := .lst (a.map encL)) (by simp; omega)
  rw [← List.map_append] at this
  exact this
theorem trav_pos (p : Pg) (l : Int) : 1 ≤ (trav p l).length := by rw [trav_len]; exact nodes_pos p
theorem leftL_cons (x : Pg × Int) (s : List (Pg × Int)) : leftL (x :: s) = leftL s ++ trav x.1 x.2 := by simp [leftL]
theorem leftL_len : ∀ s : List (Pg × Int), s.length ≤ (leftL s).length
  | [] => Nat.le_refl _
  | x :: s => by
    have := leftL_len s
    have := trav_pos x.1 x.2
    rw [leftL_cons, List.length_append, List.length_cons]
    omega
theorem nodes_step (hw : WfS st) {p : Pg} (hn : nodes p ≤ 190) (a : List (Pg × Int) × List (Pg × Int)) (σ : Slo) (s : Sto) (h : NInv st p a σ s) :
    toB (mB oNe (gv 2) (mLst aNil)) σ s = some (false, s) ∨ (toB (mB oNe (gv 2) (mLst aNil)) σ s = some (true, s) ∧ ∃ a' σ' s', (mSeq (mAsg (mM okL oPop (gv 2) aNil) (gT 2 (gsCons (gN 3) (gsCons (gN 4) gsNil)))) (mSeq (mEx (mM okL oApp (gv 1) (aCons (mTup (aCons (gv 3) (aCons (gv 4) aNil))) aNil))) (mEx (mM okL oExt (gv 2) (aCons (mLcL (ilAny (mC SH.F__law_kids (aCons (gv 3) aNil))) (gN 5) bYes (mTup (aCons (gv 5) (aCons (mB oAdd (gv 4) (ck (.int 1))) aNil))) [5]) aNil))))) σ s = some (.nx, σ', s') ∧ NInv st p a' σ' s' ∧ (leftL a'.2).length < (leftL a.2).length) := by
  obtain ⟨f, q⟩ := a
  obtain ⟨hs, ⟨u, y, z, w, rfl⟩, o, t⟩ := h
  subst hs
  have hne := ne_nil (st := st) (xs := q) (o := .lst (f.map encL)) (fun x hx => ⟨(o x hx).1, (o x hx).2.1⟩)
  have g2 : ∀ s, gv 2 [u, some (.ref st.length), some (.ref (st.length + 1)), y, z, w] s = some (.ref (st.length + 1), s) := fun s => rfl
  have hc : toB (mB oNe (gv 2) (mLst aNil)) [u, some (.ref st.length), some (.ref (st.length + 1)), y, z, w] (stL st f q) = some (!q.isEmpty, stL st f q) := by
    simp only [e_toB, e_mB, g2, Option.bind_some, e_mLst, e_aNil, List.length_nil, Nat.zero_le, if_true]
    rw [show oNe (.ref (st.length + 1)) (.lst []) (stL st f q) = _ from hne]; rfl
  rcases List.eq_nil_or_concat q with rfl | ⟨q', x, rfl⟩
  · exact .inl hc
  · rw [List.concat_eq_append] at *
    refine .inr ⟨by rw [hc]; simp, ?_⟩
    obtain ⟨pp, l⟩ := x
    obtain ⟨o1, o2, o3, o4⟩ : okTx pp = true ∧ dep pp ≤ 28 ∧ fitA pp = true ∧ nodes pp ≤ 190 := o (pp, l) (by simp)
    have hlen : f.length + (leftL (q' ++ [(pp, l)])).length = nodes p := by rw [← trav_len p 1, ← t, List.length_append]
    have hql := leftL_len (q' ++ [(pp, l)])
    simp only [List.length_append, List.length_singleton] at hql
    have hp1 := trav_kids pp l
    have wf := wfL hw (f ++ [(pp, l)]) q'
    have hk := lkids_c (p := pp) wf
    have kf := kids_fit ((c_fit pp).mp o3).1
    have lc := lc_enc (it := ilAny (mC SH.F__law_kids (aCons (gv 3) aNil))) (gm := gN 5) (me := mTup (aCons (gv 5) (aCons (mB oAdd (gv 4) (ck (.int 1))) aNil))) (vs := [5]) (σ := [u, some (.ref st.length), some (.ref (st.length + 1)), some (enc pp), some (.int l), w]) (st := stL st (f ++ [(pp, l)]) q') (st1 := stL st (f ++ [(pp, l)]) q') enc (fun r => encL (r, l + 1)) (kidsT pp)
      (walk_tup (by simp [gv, hk])) (fun r hr => ⟨[u, some (.ref st.length), some (.ref (st.length + 1)), some (enc pp), some (.int l), some (enc r)], rfl, by simp [gv, encL, sz2]⟩) (sz (by omega))
    have hkn : nodess (kidsT pp) ≤ 190 := by have := c_nodes pp; omega
    have hkl := len_nodess (kidsT pp)
    have ex := lext (st := st) (a := f ++ [(pp, l)]) (s := q') (t := (kidsT pp).map fun r => (r, l + 1)) (by simp; omega)
    have ap := lapp (st := st) (a := f) (s := q') (x := (pp, l)) (by omega)
    have hpop := lpop (st := st) (a := f) (s := q') (x := (pp, l))
    have okq : ∀ a b, okL (.ref (st.length + 1)) (stL st a b) = true := fun a b => okL2_1
    have okf : ∀ a b, okL (.ref st.length) (stL st a b) = true := fun a b => okL2_0
    rw [List.map_map] at ex
    refine ⟨(f ++ [(pp, l)], q' ++ (kidsT pp).map fun r => (r, l + 1)), [u, some (.ref st.length), some (.ref (st.length + 1)), some (enc pp), some (.int l), w], stL st (f ++ [(pp, l)]) (q' ++ (kidsT pp).map fun r => (r, l + 1)), ?_, ⟨rfl, ⟨_, _, _, _, rfl⟩, fun r hr => ?_, ?_⟩, ?_⟩
    · have gg2 : ∀ a b s, gv 2 [u, some (.ref st.length), some (.ref (st.length + 1)), a, b, w] s = some (.ref (st.length + 1), s) := fun a b s => rfl
      have gg1 : ∀ a b s, gv 1 [u, some (.ref st.length), some (.ref (st.length + 1)), a, b, w] s = some (.ref st.length, s) := fun a b s => rfl
      have gg3 : ∀ a b s, gv 3 [u, some (.ref st.length), some (.ref (st.length + 1)), some a, b, w] s = some (a, s) := fun a b s => rfl
      have gg4 : ∀ a b s, gv 4 [u, some (.ref st.length), some (.ref (st.length + 1)), a, some b, w] s = some (b, s) := fun a b s => rfl
      rw [show encL (pp, l) = .tup [enc pp, .int l] from rfl] at hpop ap
      simp only [e_mSeq, e_mAsg, e_mM, gg2, Option.bind_some, okq, if_true, e_aNil, hpop]
      rw [gT2]
      simp only [e_gsCons, e_gsNil, e_gN, Option.bind_some, List.set_cons_succ, List.set_cons_zero, e_mEx, e_mM, gg1, okf, if_true, e_aCons, e_mTup, gg3, gg4, e_aNil, List.length_cons, List.length_nil, Nat.zero_add, Nat.reduceAdd, sz2, ap, gg2, okq, lc]
      rw [show (List.map (fun r => encL (r, l + 1)) (kidsT pp)) = List.map (encL ∘ fun r => (r, l + 1)) (kidsT pp) from rfl, ex]
      rfl
    · rcases List.mem_append.mp hr with hr | hr
      · exact o r (by simp [hr])
      · obtain ⟨z', hz, rfl⟩ := List.mem_map.mp hr
        have h1 := nodess_mem hz
        have h2 : dep z' ≤ 28 := by
          obtain ⟨n, hn'⟩ : ∃ n, dep pp = n + 1 := ⟨dep pp - 1, by have := dep_pos pp; omega⟩
          have := (c_dep pp n).mp (by omega) z' hz
          omega
        have h3 : okTx z' = true := by
          cases pp <;> simp [kidsT] at hz <;> simp [okTx, okTxs_iff] at o1
          · exact o1 _ hz
          · subst hz; exact o1
          · exact o1 _ hz
          · exact o1 _ hz
          · subst hz; exact o1
        have h4 : fitA z' = true := ((c_fit pp).mp o3).2 z' hz
        have h5 : nodes z' ≤ 190 := by omega
        exact ⟨h3, h2, h4, h5⟩
    · show (f ++ [(pp, l)]) ++ leftL (q' ++ (kidsT pp).map fun r => (r, l + 1)) = trav p 1
      rw [← t, leftL_snoc, hp1, leftL_app, leftL_kids]
      simp
    · show (leftL (q' ++ (kidsT pp).map fun r => (r, l + 1))).length < (leftL (q' ++ [(pp, l)])).length
      rw [leftL_snoc, leftL_app, leftL_kids, hp1]
      simp
theorem lnodes_c (hw : WfS st) {p : Pg} (hn : nodes p ≤ 190) (hd : dep p ≤ 28) (hs : okTx p = true) (hf : fitA p = true) : SH.F__law_nodes [enc p] st = some (.lst ((trav p 1).map encL), st) := by
  have l1 : (st ++ [O.lst []]).length = st.length + 1 := by simp
  have start : NInv st p ([], [(p, 1)]) [some (enc p), some (.ref st.length), some (.ref (st.length + 1)), none, none, none] (stL st [] [(p, 1)]) :=
    ⟨rfl, ⟨_, _, _, _, rfl⟩, (fun x hx => by simp at hx; subst hx; exact ⟨hs, hd, hf, hn⟩), by simp [leftL]⟩
  obtain ⟨a, σ', s', h1, ⟨hs', ⟨u, y, z, w, rfl⟩, o, t⟩, h3⟩ := wh_run (NInv st p) (fun a => (leftL a.2).length) (nodes_step hw hn) 200 _ _ _ start (by simp [leftL, trav_len]; omega)
  subst hs'
  have hq : a.2 = [] := by
    have hne := ne_nil (st := st) (xs := a.2) (o := .lst (a.1.map encL)) (fun x hx => ⟨(o x hx).1, (o x hx).2.1⟩)
    have g2 : ∀ s, gv 2 [u, some (.ref st.length), some (.ref (st.length + 1)), y, z, w] s = some (.ref (st.length + 1), s) := fun s => rfl
    simp only [e_toB, e_mB, g2, Option.bind_some, e_mLst, e_aNil, List.length_nil, Nat.zero_le, if_true] at h3
    rw [show oNe (.ref (st.length + 1)) (.lst []) (stL st a.1 a.2) = _ from hne] at h3
    have h3 : some (!a.2.isEmpty, stL st a.1 a.2) = some (false, stL st a.1 a.2) := h3
    cases h : a.2 with
    | nil => rfl
    | cons x xs => rw [h] at h3; simp at h3
  rw [hq] at t
  have ht : a.1 = trav p 1 := by rw [← t]; simp [leftL]
  have hi : ∀ xs : List (Pg × Int), ∀ s : Sto, iceL (iceD 2) (xs.map encL) s = some (xs.map encL, s) := fun xs s => by
    induction xs with
    | nil => rfl
    | cons x r ih => simp only [List.map_cons, iceL]; rw [show iceD 2 (encL x) s = some (encL x, s) from rfl]; simp [ih]
  have hice : iceD 3 (.ref st.length) (stL st a.1 a.2) = some (.lst (a.1.map encL), st ++ [.dead, .lst (a.2.map encL)]) := by
    rw [ice_lst (show (stL st a.1 a.2)[st.length]? = some (.lst (a.1.map encL)) from snoc2_0)]
    rw [show (stL st a.1 a.2).set st.length .dead = st ++ [.dead, .lst (a.2.map encL)] from snoc2_s0, hi]
    rfl
  have hcut := cut_dead2 (st := st) (d := .lst ((trav p 1).map encL)) (n := st.length) (os := [.dead, .lst (a.2.map encL)]) rfl hw (encL_below _ _)
  show (mSeq _ _ [some (enc p), none, none, none, none, none] st).bind _ = _
  simp only [e_mSeq, e_mPar, e_aCons, e_mNew, e_aNil, Option.bind_some, List.length_nil, Nat.zero_le, if_true, l1, e_mTup, gv0, e_ck, List.length_cons, Nat.zero_add, Nat.reduceAdd, sz2, sz1, List.append_assoc, List.cons_append, List.nil_append, List.set_cons_succ, List.set_cons_zero]
  rw [show st ++ [O.lst [], O.lst [D.tup [enc p, D.int 1]]] = stL st [] [(p, 1)] from rfl, h1]
  have g1 : gv 1 [u, some (.ref st.length), some (.ref (st.length + 1)), y, z, w] (stL st a.1 a.2) = some (.ref st.length, stL st a.1 a.2) := rfl
  simp only [Option.bind_some, e_mRet, e_mIceD, g1, hice]
  rw [ht]
  exact hcut
end
end T

end
section
set_option Elab.async false
set_option linter.all false
set_option maxRecDepth 100000
set_option maxHeartbeats 4000000
set_option autoImplicit false
namespace GK02
open PySem PySem.Spec L2 Z
def topS (i : Nat) : Stmt := PySem.Challenge.pw_awaitrounds_k02_programs_at_the_limits.main.body.getD i (.Pass ⟨0, 0, 0, 0⟩)
def clsB : Stmt → List Stmt
  | .ClassDef (body := b) .. => b
  | _ => []
def clsS (i j : Nat) : Stmt := (clsB (topS i)).getD j (.Pass ⟨0, 0, 0, 0⟩)
abbrev st__law_pot : Stmt := topS 39
theorem sc__law_pot : FnScope ["script", "k", "cell", "own"] ["script", "k"] (defScope st__law_pot) := ⟨rfl, rfl, rfl, by decide +kernel, rfl, by decide +kernel, by decide +kernel⟩
abbrev st__law_take : Stmt := topS 40
theorem sc__law_take : FnScope ["pot", "bound", "digit", "prime", "mixed"] ["pot", "bound"] (defScope st__law_take) := ⟨rfl, rfl, rfl, by decide +kernel, rfl, by decide +kernel, by decide +kernel⟩
abbrev st__law_bodies : Stmt := topS 50
theorem sc__law_bodies : FnScope ["pot", "word", "wait", "logs", "late", "found"] ["pot", "word"] (defScope st__law_bodies) := ⟨rfl, rfl, rfl, by decide +kernel, rfl, by decide +kernel, by decide +kernel⟩
abbrev st__law_of : Stmt := topS 41
theorem sc__law_of : FnScope ["pot", "some"] ["pot", "some"] (defScope st__law_of) := ⟨rfl, rfl, rfl, by decide +kernel, rfl, by decide +kernel, by decide +kernel⟩
abbrev st__law_word : Stmt := topS 42
theorem sc__law_word : FnScope ["pot"] ["pot"] (defScope st__law_word) := ⟨rfl, rfl, rfl, by decide +kernel, rfl, by decide +kernel, by decide +kernel⟩
abbrev st__law_leaf : Stmt := topS 43
theorem sc__law_leaf : FnScope ["pot"] ["pot"] (defScope st__law_leaf) := ⟨rfl, rfl, rfl, by decide +kernel, rfl, by decide +kernel, by decide +kernel⟩
abbrev st__law_deep : Stmt := topS 48
theorem sc__law_deep : FnScope ["pot", "levels", "found", "turn"] ["pot", "levels"] (defScope st__law_deep) := ⟨rfl, rfl, rfl, by decide +kernel, rfl, by decide +kernel, by decide +kernel⟩
abbrev st__law_of_nodes : Stmt := topS 46
theorem sc__law_of_nodes : FnScope ["pot", "many", "rows", "left", "size", "part"] ["pot", "many"] (defScope st__law_of_nodes) := ⟨rfl, rfl, rfl, by decide +kernel, rfl, by decide +kernel, by decide +kernel⟩
abbrev st__law_kids : Stmt := topS 44
theorem sc__law_kids : FnScope ["tree"] ["tree"] (defScope st__law_kids) := ⟨rfl, rfl, rfl, by decide +kernel, rfl, by decide +kernel, by decide +kernel⟩
abbrev st__law_nodes : Stmt := topS 45
theorem sc__law_nodes : FnScope ["tree", "found", "left", "here", "level", "kid"] ["tree"] (defScope st__law_nodes) := ⟨rfl, rfl, rfl, by decide +kernel, rfl, by decide +kernel, by decide +kernel⟩
abbrev st__law_size : Stmt := topS 47
theorem sc__law_size : FnScope ["tree"] ["tree"] (defScope st__law_size) := ⟨rfl, rfl, rfl, by decide +kernel, rfl, by decide +kernel, by decide +kernel⟩
abbrev st__law_with_body : Stmt := topS 49
theorem sc__law_with_body : FnScope ["pot", "body", "found"] ["pot", "body"] (defScope st__law_with_body) := ⟨rfl, rfl, rfl, by decide +kernel, rfl, by decide +kernel, by decide +kernel⟩
abbrev st_children : Stmt := topS 37
theorem sc_children : FnScope ["program", "kind"] ["program"] (defScope st_children) := ⟨rfl, rfl, rfl, by decide +kernel, rfl, by decide +kernel, by decide +kernel⟩
abbrev st_Course_all_strands : Stmt := clsS 3 1
theorem sc_Course_all_strands : FnScope ["self"] ["self"] (defScope st_Course_all_strands) := ⟨rfl, rfl, rfl, by decide +kernel, rfl, by decide +kernel, by decide +kernel⟩
abbrev st_Course_last_round : Stmt := clsS 3 3
theorem sc_Course_last_round : FnScope ["self", "strand"] ["self"] (defScope st_Course_last_round) := ⟨rfl, rfl, rfl, by decide +kernel, rfl, by decide +kernel, by decide +kernel⟩
abbrev st_Course_total : Stmt := clsS 3 2
theorem sc_Course_total : FnScope ["self", "strand"] ["self"] (defScope st_Course_total) := ⟨rfl, rfl, rfl, by decide +kernel, rfl, by decide +kernel, by decide +kernel⟩
abbrev st_Course___init__ : Stmt := clsS 3 0
theorem sc_Course___init__ : FnScope ["self", "finish", "ahead", "behind"] ["self", "finish", "ahead", "behind"] (defScope st_Course___init__) := ⟨rfl, rfl, rfl, by decide +kernel, rfl, by decide +kernel, by decide +kernel⟩
abbrev st_detached_course : Stmt := topS 7
theorem sc_detached_course : FnScope ["part"] ["part"] (defScope st_detached_course) := ⟨rfl, rfl, rfl, by decide +kernel, rfl, by decide +kernel, by decide +kernel⟩
abbrev st_beside_course : Stmt := topS 13
theorem sc_beside_course : FnScope ["parts", "finish", "carrier", "ahead", "behind", "index", "part"] ["parts", "finish", "carrier"] (defScope st_beside_course) := ⟨rfl, rfl, rfl, by decide +kernel, rfl, by decide +kernel, by decide +kernel⟩
abbrev st_last_to_finish : Stmt := topS 10
theorem sc_last_to_finish : FnScope ["parts", "index", "part"] ["parts"] (defScope st_last_to_finish) := ⟨rfl, rfl, rfl, by decide +kernel, rfl, by decide +kernel, by decide +kernel⟩
abbrev st_joined_course : Stmt := topS 9
theorem sc_joined_course : FnScope ["parts", "finish", "carrier"] ["parts"] (defScope st_joined_course) := ⟨rfl, rfl, rfl, by decide +kernel, rfl, by decide +kernel, by decide +kernel⟩
abbrev st_first_to_finish : Stmt := topS 12
theorem sc_first_to_finish : FnScope ["parts", "index", "part"] ["parts"] (defScope st_first_to_finish) := ⟨rfl, rfl, rfl, by decide +kernel, rfl, by decide +kernel, by decide +kernel⟩
abbrev st_raced_course : Stmt := topS 11
theorem sc_raced_course : FnScope ["parts", "finish", "carrier"] ["parts"] (defScope st_raced_course) := ⟨rfl, rfl, rfl, by decide +kernel, rfl, by decide +kernel, by decide +kernel⟩
abbrev st_Strand___init__ : Stmt := clsS 2 0
theorem sc_Strand___init__ : FnScope ["self", "word", "first", "step", "many"] ["self", "word", "first", "step", "many"] (defScope st_Strand___init__) := ⟨rfl, rfl, rfl, by decide +kernel, rfl, by decide +kernel, by decide +kernel⟩
abbrev st_over_and_over : Stmt := topS 16
theorem sc_over_and_over : FnScope ["singles", "step", "count", "single"] ["singles", "step", "count"] (defScope st_over_and_over) := ⟨rfl, rfl, rfl, by decide +kernel, rfl, by decide +kernel, by decide +kernel⟩
abbrev st_once : Stmt := topS 4
theorem sc_once : FnScope ["word", "at"] ["word", "at"] (defScope st_once) := ⟨rfl, rfl, rfl, by decide +kernel, rfl, by decide +kernel, by decide +kernel⟩
abbrev st_Strand_singles : Stmt := clsS 2 5
theorem sc_Strand_singles : FnScope ["self", "at"] ["self"] (defScope st_Strand_singles) := ⟨rfl, rfl, rfl, by decide +kernel, rfl, by decide +kernel, by decide +kernel⟩
abbrev st_single_strands : Stmt := topS 15
theorem sc_single_strands : FnScope ["strands", "strand", "single"] ["strands"] (defScope st_single_strands) := ⟨rfl, rfl, rfl, by decide +kernel, rfl, by decide +kernel, by decide +kernel⟩
abbrev st_repeated_course : Stmt := topS 14
theorem sc_repeated_course : FnScope ["body", "count", "step", "ahead", "behind"] ["body", "count"] (defScope st_repeated_course) := ⟨rfl, rfl, rfl, by decide +kernel, rfl, by decide +kernel, by decide +kernel⟩
abbrev st_silent_course : Stmt := topS 6
theorem sc_silent_course : FnScope ["rounds"] ["rounds"] (defScope st_silent_course) := ⟨rfl, rfl, rfl, by decide +kernel, rfl, by decide +kernel, by decide +kernel⟩
abbrev st_Strand_moved : Stmt := clsS 2 4
theorem sc_Strand_moved : FnScope ["self", "by"] ["self", "by"] (defScope st_Strand_moved) := ⟨rfl, rfl, rfl, by decide +kernel, rfl, by decide +kernel, by decide +kernel⟩
abbrev st_turned_course : Stmt := topS 8
theorem sc_turned_course : FnScope ["parts", "start", "ahead", "behind", "part", "strand"] ["parts"] (defScope st_turned_course) := ⟨rfl, rfl, rfl, by decide +kernel, rfl, by decide +kernel, by decide +kernel⟩
abbrev st_word_course : Stmt := topS 5
theorem sc_word_course : FnScope ["word"] ["word"] (defScope st_word_course) := ⟨rfl, rfl, rfl, by decide +kernel, rfl, by decide +kernel, by decide +kernel⟩
abbrev st_course_of : Stmt := topS 17
theorem sc_course_of : FnScope ["program", "kind", "parts", "part"] ["program"] (defScope st_course_of) := ⟨rfl, rfl, rfl, by decide +kernel, rfl, by decide +kernel, by decide +kernel⟩
abbrev st_is_body : Stmt := topS 36
theorem sc_is_body : FnScope ["program", "course"] ["program"] (defScope st_is_body) := ⟨rfl, rfl, rfl, by decide +kernel, rfl, by decide +kernel, by decide +kernel⟩
abbrev st_are_parts : Stmt := topS 35
theorem sc_are_parts : FnScope ["value", "least", "most"] ["value", "least", "most"] (defScope st_are_parts) := ⟨rfl, rfl, rfl, by decide +kernel, rfl, by decide +kernel, by decide +kernel⟩
abbrev st_is_integer : Stmt := topS 20
theorem sc_is_integer : FnScope ["value"] ["value"] (defScope st_is_integer) := ⟨rfl, rfl, rfl, by decide +kernel, rfl, by decide +kernel, by decide +kernel⟩
abbrev st_is_count : Stmt := topS 34
theorem sc_is_count : FnScope ["value", "least"] ["value", "least"] (defScope st_is_count) := ⟨rfl, rfl, rfl, by decide +kernel, rfl, by decide +kernel, by decide +kernel⟩
abbrev st_is_word : Stmt := topS 21
theorem sc_is_word : FnScope ["value", "letter"] ["value"] (defScope st_is_word) := ⟨rfl, rfl, rfl, by decide +kernel, rfl, by decide +kernel, by decide +kernel⟩
abbrev st_is_node : Stmt := topS 33
theorem sc_is_node : FnScope ["value", "kind"] ["value"] (defScope st_is_node) := ⟨rfl, rfl, rfl, by decide +kernel, rfl, by decide +kernel, by decide +kernel⟩
abbrev st_is_program : Stmt := topS 32
theorem sc_is_program : FnScope ["value", "waiting", "bodies", "nodes", "node", "level", "in_loop", "below", "child", "body"] ["value"] (defScope st_is_program) := ⟨rfl, rfl, rfl, by decide +kernel, rfl, by decide +kernel, by decide +kernel⟩
abbrev st__law_right : Stmt := topS 51
theorem sc__law_right : FnScope ["pot", "word", "size", "tree", "levels", "many", "kind", "most", "told", "body", "is_good", "counts", "loops", "letters", "part", "number"] ["pot"] (defScope st__law_right) := ⟨rfl, rfl, rfl, by decide +kernel, rfl, by decide +kernel, by decide +kernel⟩
abbrev st_law : Stmt := topS 52
theorem sc_law : FnScope ["script", "k"] ["script"] (defScope st_law) := ⟨rfl, rfl, rfl, by decide +kernel, rfl, by decide +kernel, by decide +kernel⟩
/-! ### what the defs do -/
abbrev F__law_pot := SH.F__law_pot
abbrev F__law_take := SH.F__law_take
def F__law_bodies : FM := mkF 6 2 0 (mSeq (mSet 2 (mTup (aCons (ck (.str "await")) (aCons (mB oAdd (ck (.int 1)) (mC F__law_take (aCons (gv 0) (aCons (ck (.int 6)) aNil)))) aNil)))) (mSeq (mSet 3 (mB oMul (mLst (aCons (mTup (aCons (ck (.str "log")) (aCons (gv 1) aNil))) aNil)) (ck (.int 12)))) (mSeq (mSet 4 (mTup (aCons (ck (.str "fork")) (aCons (mTup (aCons (ck (.str "seq")) (aCons (mTup (aCons (mTup (aCons (ck (.str "await")) (aCons (ck (.int 30)) aNil))) (aCons (mTup (aCons (ck (.str "log")) (aCons (gv 1) aNil))) aNil))) aNil))) aNil)))) (mSeq (mSet 5 (mNew (aCons (mTup (aCons (mTup (aCons (ck (.str "log")) (aCons (gv 1) aNil))) (aCons (ck (.bl false)) aNil))) (aCons (mTup (aCons (gv 2) (aCons (ck (.bl true)) aNil))) (aCons (mTup (aCons (mTup (aCons (ck (.str "await")) (aCons (ck (.int 6)) aNil))) (aCons (ck (.bl true)) aNil))) (aCons (mTup (aCons (mTup (aCons (ck (.str "await")) (aCons (ck (.int 7)) aNil))) (aCons (ck (.bl false)) aNil))) aNil)))))) (mSeq (mEx (mM okL oApp (gv 5) (aCons (mTup (aCons (mTup (aCons (ck (.str "seq")) (aCons (mTup (aCons (mTup (aCons (ck (.str "seq")) (aCons (mC bTuple (aCons (gv 3) aNil)) aNil))) (aCons (gv 2) aNil))) aNil))) (aCons (ck (.bl true)) aNil))) aNil))) (mSeq (mEx (mM okL oApp (gv 5) (aCons (mTup (aCons (mTup (aCons (ck (.str "seq")) (aCons (mTup (aCons (mTup (aCons (ck (.str "seq")) (aCons (mC bTuple (aCons (gv 3) aNil)) aNil))) (aCons (mTup (aCons (ck (.str "log")) (aCons (gv 1) aNil))) (aCons (gv 2) aNil)))) aNil))) (aCons (ck (.bl false)) aNil))) aNil))) (mSeq (mEx (mM okL oApp (gv 5) (aCons (mTup (aCons (mTup (aCons (ck (.str "seq")) (aCons (mTup (aCons (gv 4) (aCons (gv 2) aNil))) aNil))) (aCons (ck (.bl true)) aNil))) aNil))) (mSeq (mEx (mM okL oApp (gv 5) (aCons (mTup (aCons (mTup (aCons (ck (.str "seq")) (aCons (mTup (aCons (mTup (aCons (ck (.str "fork")) (aCons (mTup (aCons (ck (.str "seq")) (aCons (mTup (aCons (mTup (aCons (ck (.str "await")) (aCons (ck (.int 31)) aNil))) (aCons (mTup (aCons (ck (.str "log")) (aCons (gv 1) aNil))) aNil))) aNil))) aNil))) (aCons (gv 2) aNil))) aNil))) (aCons (ck (.bl false)) aNil))) aNil))) (mSeq (mEx (mM okL oApp (gv 5) (aCons (mTup (aCons (mTup (aCons (ck (.str "seq")) (aCons (mTup (aCons (mTup (aCons (ck (.str "fork")) (aCons (mTup (aCons (ck (.str "seq")) (aCons (mTup (aCons (mTup (aCons (ck (.str "await")) (aCons (ck (.int 30)) aNil))) (aCons (mTup (aCons (ck (.str "await")) (aCons (ck (.int 1)) aNil))) aNil))) aNil))) aNil))) (aCons (gv 2) aNil))) aNil))) (aCons (ck (.bl true)) aNil))) aNil))) (mSeq (mEx (mM okL oApp (gv 5) (aCons (mTup (aCons (mTup (aCons (ck (.str "race")) (aCons (mTup (aCons (mTup (aCons (ck (.str "await")) (aCons (mB oPow (ck (.int 10)) (ck (.int 18))) aNil))) (aCons (gv 2) aNil))) aNil))) (aCons (ck (.bl true)) aNil))) aNil))) (mSeq (mEx (mM okL oApp (gv 5) (aCons (mTup (aCons (mTup (aCons (ck (.str "join")) (aCons (mTup (aCons (mTup (aCons (ck (.str "await")) (aCons (ck (.int 7)) aNil))) (aCons (gv 2) aNil))) aNil))) (aCons (ck (.bl false)) aNil))) aNil))) (mSeq (mEx (mM okL oApp (gv 5) (aCons (mTup (aCons (mTup (aCons (ck (.str "seq")) (aCons (mTup (aCons (mTup (aCons (ck (.str "join")) (aCons (mB oMul (mTup (aCons (mTup (aCons (ck (.str "await")) (aCons (ck (.int 1)) aNil))) aNil)) (ck (.int 6))) aNil))) (aCons (gv 2) aNil))) aNil))) (aCons (mB oLt (mB oIx (gv 2) (ck (.int 1))) (ck (.int 6))) aNil))) aNil))) (mSeq (mEx (mM okL oApp (gv 5) (aCons (mTup (aCons (mTup (aCons (ck (.str "seq")) (aCons (mTup (aCons (mTup (aCons (ck (.str "join")) (aCons (mB oMul (mTup (aCons (mTup (aCons (ck (.str "await")) (aCons (ck (.int 1)) aNil))) aNil)) (ck (.int 7))) aNil))) (aCons (gv 2) aNil))) aNil))) (aCons (ck (.bl false)) aNil))) aNil))) (mSeq (mEx (mM okL oApp (gv 5) (aCons (mTup (aCons (mTup (aCons (ck (.str "seq")) (aCons (mTup (aCons (mTup (aCons (ck (.str "seq")) (aCons (mB oMul (mTup (aCons (mTup (aCons (ck (.str "seq")) (aCons (mTup aNil) aNil))) aNil)) (ck (.int 13))) aNil))) (aCons (gv 2) aNil))) aNil))) (aCons (ck (.bl false)) aNil))) aNil))) (mSeq (mEx (mM okL oApp (gv 5) (aCons (mTup (aCons (mTup (aCons (ck (.str "seq")) (aCons (mTup (aCons (mTup (aCons (ck (.str "loop")) (aCons (ck (.int 1)) (aCons (gv 2) aNil)))) aNil)) aNil))) (aCons (ck (.bl false)) aNil))) aNil))) (mRet (mB oAdd (gv 5) (mLst (aCons (mTup (aCons (mTup (aCons (ck (.str "fork")) (aCons (gv 2) aNil))) (aCons (ck (.bl false)) aNil))) (aCons (mTup (aCons (mTup (aCons (ck (.str "seq")) (aCons (mTup (aCons (gv 2) (aCons (mTup (aCons (ck (.str "fork")) (aCons (gv 4) aNil))) aNil))) aNil))) (aCons (mB oEqE (mB oIx (gv 2) (ck (.int 1))) (ck (.int 0))) aNil))) aNil))))))))))))))))))))
abbrev F__law_of := SH.F__law_of
abbrev F__law_word := SH.F__law_word
abbrev F__law_leaf := SH.F__law_leaf
def F__law_deep : FM := mkF 4 2 0 (mSeq (mSet 2 (mC F__law_leaf (aCons (gv 0) aNil))) (mSeq (mForL (ilOf (iRg1 (aCons (mB oSub (gv 1) (ck (.int 1))) aNil))) (gN 3) (mSet 2 (mC F__law_of (aCons (gv 0) (aCons (mLst (aCons (mTup (aCons (ck (.str "fork")) (aCons (gv 2) aNil))) (aCons (mTup (aCons (ck (.str "seq")) (aCons (mTup (aCons (gv 2) aNil)) aNil))) (aCons (mTup (aCons (ck (.str "join")) (aCons (mTup (aCons (mTup (aCons (ck (.str "log")) (aCons (ck (.str "a")) aNil))) (aCons (gv 2) aNil))) aNil))) (aCons (mTup (aCons (ck (.str "race")) (aCons (mTup (aCons (gv 2) aNil)) aNil))) aNil))))) aNil))))) (mRet (gv 2))))
def F__law_of_nodes : FM := mkF 6 2 0 (mSeq (mPar 2 3 (aCons (mNew aNil) (aCons (mB oSub (gv 1) (ck (.int 1))) aNil))) (mSeq (mWh (toB (mB oGt (gv 3) (ck (.int 0)))) (mSeq (mSet 4 (mC bMin2 (aCons (gv 3) (aCons (mB oAdd (ck (.int 8)) (mC F__law_take (aCons (gv 0) (aCons (ck (.int 6)) aNil)))) aNil)))) (mSeq (mEx (mM okL oApp (gv 2) (aCons (mTup (aCons (ck (.str "seq")) (aCons (mC bTuple (aCons (mLcL (ilOf (iRg1 (aCons (mB oSub (gv 4) (ck (.int 1))) aNil))) (gN 5) bYes (mC F__law_leaf (aCons (gv 0) aNil)) [5]) aNil)) aNil))) aNil))) (mSet 3 (mB oSub (gv 3) (gv 4))))) 100) (mRet (mTup (aCons (ck (.str "seq")) (aCons (mC bTuple (aCons (gv 2) aNil)) aNil))))))
abbrev F__law_kids := SH.F__law_kids
abbrev F__law_nodes := SH.F__law_nodes
def F__law_size : FM := mkF 1 1 0 (mRet (mC bLen (aCons (mC F__law_nodes (aCons (gv 0) aNil)) aNil)))
def F__law_with_body : FM := mkF 3 2 0 (mSeq (mSet 2 (mTup (aCons (ck (.str "loop")) (aCons (mC F__law_of (aCons (gv 0) (aCons (mLst (aCons (ck (.int 0)) (aCons (ck (.int 1)) (aCons (mB oPow (ck (.int 10)) (ck (.int 18))) (aCons (mC F__law_take (aCons (gv 0) (aCons (mB oPow (ck (.int 10)) (ck (.int 18))) aNil))) aNil))))) aNil))) (aCons (gv 1) aNil))))) (mRet (mC F__law_of (aCons (gv 0) (aCons (mLst (aCons (gv 2) (aCons (mTup (aCons (ck (.str "seq")) (aCons (mTup (aCons (gv 2) (aCons (mTup (aCons (ck (.str "log")) (aCons (ck (.str "z")) aNil))) aNil))) aNil))) (aCons (mTup (aCons (ck (.str "fork")) (aCons (gv 2) aNil))) (aCons (mTup (aCons (ck (.str "join")) (aCons (mTup (aCons (mTup (aCons (ck (.str "await")) (aCons (ck (.int 2)) aNil))) (aCons (gv 2) aNil))) aNil))) aNil))))) aNil)))))
abbrev F_children := SH.F_children
abbrev F_Course_all_strands := SH.F_Course_all_strands
abbrev F_Course_last_round := SH.F_Course_last_round
abbrev F_Course_total := SH.F_Course_total
abbrev F_Course___init__ := SH.F_Course___init__
abbrev F_detached_course := SH.F_detached_course
abbrev F_beside_course := SH.F_beside_course
abbrev F_last_to_finish := SH.F_last_to_finish
abbrev F_joined_course := SH.F_joined_course
abbrev F_first_to_finish := SH.F_first_to_finish
abbrev F_raced_course := SH.F_raced_course
abbrev F_Strand___init__ := SH.F_Strand___init__
abbrev F_over_and_over := SH.F_over_and_over
abbrev F_once := SH.F_once
abbrev F_Strand_singles := SH.F_Strand_singles
abbrev F_single_strands := SH.F_single_strands
abbrev F_repeated_course := SH.F_repeated_course
abbrev F_silent_course := SH.F_silent_course
abbrev F_Strand_moved := SH.F_Strand_moved
abbrev F_turned_course := SH.F_turned_course
abbrev F_word_course := SH.F_word_course
abbrev F_course_of := SH.F_course_of
abbrev F_is_body := SH.F_is_body
abbrev F_are_parts := SH.F_are_parts
abbrev F_is_integer := SH.F_is_integer
abbrev F_is_count := SH.F_is_count
abbrev F_is_word := SH.F_is_word
abbrev F_is_node := SH.F_is_node
abbrev F_is_program := SH.F_is_program
def F__law_right : FM := mkF 16 1 0 (mSeq (mSet 1 (mC F__law_word (aCons (gv 0) aNil))) (mSeq (mForL (ilAny (mTup (aCons (ck (.int 79)) (aCons (ck (.int 80)) (aCons (ck (.int 81)) (aCons (ck (.int 82)) aNil)))))) (gN 2) (mSeq (mSet 3 (mC F__law_of_nodes (aCons (gv 0) (aCons (gv 2) aNil)))) (mIfS (toB (mB oNe (mC F_is_program (aCons (gv 3) aNil)) (mB oLt (mC F__law_size (aCons (gv 3) aNil)) (ck (.int 81))))) (mRet (ck (.bl false))) mNil))) (mSeq (mForL (ilAny (mTup (aCons (ck (.int 11)) (aCons (ck (.int 12)) (aCons (ck (.int 13)) aNil))))) (gN 4) (mIfS (toB (mB oNe (mC F_is_program (aCons (mC F__law_deep (aCons (gv 0) (aCons (gv 4) aNil))) aNil)) (mB oLt (gv 4) (ck (.int 13))))) (mRet (ck (.bl false))) mNil)) (mSeq (mForL (ilAny (mTup (aCons (ck (.int 8)) (aCons (ck (.int 9)) aNil)))) (gN 5) (mIfS (toB (mB oNe (mC F_is_program (aCons (mTup (aCons (ck (.str "seq")) (aCons (mC bTuple (aCons (mLcL (ilOf (iRg1 (aCons (gv 5) aNil))) (gN 14) bYes (mC F__law_with_body (aCons (gv 0) (aCons (mTup (aCons (ck (.str "await")) (aCons (ck (.int 1)) aNil))) aNil))) [14]) aNil)) aNil))) aNil)) (mB oLt (gv 5) (ck (.int 9))))) (mRet (ck (.bl false))) mNil)) (mSeq (mForL (ilAny (mTup (aCons (mTup (aCons (ck (.str "seq")) (aCons (ck (.int 12)) aNil))) (aCons (mTup (aCons (ck (.str "join")) (aCons (ck (.int 6)) aNil))) (aCons (mTup (aCons (ck (.str "race")) (aCons (ck (.int 6)) aNil))) aNil))))) (gT 2 (gsCons (gN 6) (gsCons (gN 7) gsNil))) (mSeq (mSet 8 (mLcL (ilAny (mTup (aCons (ck (.int 0)) (aCons (ck (.int 1)) (aCons (gv 7) (aCons (mB oAdd (gv 7) (ck (.int 1))) aNil)))))) (gN 5) bYes (mC F_is_program (aCons (mTup (aCons (gv 6) (aCons (mB oMul2 (mTup (aCons (mTup (aCons (ck (.str "log")) (aCons (gv 1) aNil))) aNil)) (gv 5)) aNil))) aNil)) [5])) (mIfS (toB (mB oNe (gv 8) (mLst (aCons (mB oEqE (gv 6) (ck (.str "seq"))) (aCons (ck (.bl true)) (aCons (ck (.bl true)) (aCons (ck (.bl false)) aNil))))))) (mRet (ck (.bl false))) mNil))) (mSeq (mForL (ilAny (mC F__law_bodies (aCons (gv 0) (aCons (gv 1) aNil)))) (gT 2 (gsCons (gN 9) (gsCons (gN 10) gsNil))) (mIfS (toB (mB oNe (mC F_is_program (aCons (mC F__law_with_body (aCons (gv 0) (aCons (gv 9) aNil))) aNil)) (gv 10))) (mRet (ck (.bl false))) mNil)) (mSeq (mSet 11 (mLcL (ilAny (mTup (aCons (ck (.int 0)) (aCons (ck (.int 1)) (aCons (mB oPow (ck (.int 10)) (ck (.int 18))) (aCons (mB oAdd (mB oPow (ck (.int 10)) (ck (.int 18))) (ck (.int 1))) aNil)))))) (gN 15) bYes (mC F_is_program (aCons (mTup (aCons (ck (.str "await")) (aCons (gv 15) aNil))) aNil)) [15])) (mSeq (mSet 12 (mLcL (ilAny (mTup (aCons (mU oNeg (ck (.int 1))) (aCons (ck (.int 0)) (aCons (mB oPow (ck (.int 10)) (ck (.int 18))) (aCons (mB oAdd (mB oPow (ck (.int 10)) (ck (.int 18))) (ck (.int 1))) aNil)))))) (gN 15) bYes (mC F_is_program (aCons (mTup (aCons (ck (.str "loop")) (aCons (gv 15) (aCons (mTup (aCons (ck (.str "await")) (aCons (ck (.int 1)) aNil))) aNil)))) aNil)) [15])) (mSeq (mSet 13 (mLcL (ilAny (mTup (aCons (ck (.str "a")) (aCons (ck (.str "abcdefgh")) (aCons (ck (.str "abcdefghi")) (aCons (ck (.str "")) (aCons (ck (.str "aB")) aNil))))))) (gN 1) bYes (mC F_is_program (aCons (mTup (aCons (ck (.str "log")) (aCons (gv 1) aNil))) aNil)) [1])) (mRet (vAnd (mB oEqE (mLst (aCons (gv 11) (aCons (gv 12) aNil))) (mB oMul2 (mLst (aCons (mLst (aCons (ck (.bl false)) (aCons (ck (.bl true)) (aCons (ck (.bl true)) (aCons (ck (.bl false)) aNil))))) aNil)) (ck (.int 2)))) (mB oEqE (gv 13) (mLst (aCons (ck (.bl true)) (aCons (ck (.bl true)) (aCons (ck (.bl false)) (aCons (ck (.bl false)) (aCons (ck (.bl false)) aNil))))))))))))))))))
def F_law : FM := mkF 2 1 0 (mSeq (mForL (ilOf (iRg1 (aCons (mC bMax2 (aCons (ck (.int 1)) (aCons (mC bMin2 (aCons (ck (.int 3)) (aCons (mC bLen (aCons (gv 0) aNil)) aNil))) aNil))) aNil))) (gN 1) (mIfS (bNot (bTru (mC F__law_right (aCons (mC F__law_pot (aCons (gv 0) (aCons (gv 1) aNil))) aNil)))) (mRet (ck (.bl false))) mNil)) (mRet (ck (.bl true))))
/-! ### what the text has written -/
structure Fx (K : PySem.W.Frag) (mg : Str → Option Value) (base : Heap) (C : Nat → Addr) where
  sy : ∃ o, base.get? sysModules = some o
  f__law_pot : Addr
  fd__law_pot : FuncData
  Fn__law_pot : Fun K "_law_pot" "_law_pot" st__law_pot f__law_pot fd__law_pot
  m__law_pot : mg "_law_pot" = some (.ref f__law_pot)
  b__law_pot : Binds K fd__law_pot ["script", "k"] []
  f__law_take : Addr
  fd__law_take : FuncData
  Fn__law_take : Fun K "_law_take" "_law_take" st__law_take f__law_take fd__law_take
  m__law_take : mg "_law_take" = some (.ref f__law_take)
  b__law_take : Binds K fd__law_take ["pot", "bound"] []
  f__law_bodies : Addr
  fd__law_bodies : FuncData
  Fn__law_bodies : Fun K "_law_bodies" "_law_bodies" st__law_bodies f__law_bodies fd__law_bodies
  m__law_bodies : mg "_law_bodies" = some (.ref f__law_bodies)
  b__law_bodies : Binds K fd__law_bodies ["pot", "word"] []
  f__law_of : Addr
  fd__law_of : FuncData
  Fn__law_of : Fun K "_law_of" "_law_of" st__law_of f__law_of fd__law_of
  m__law_of : mg "_law_of" = some (.ref f__law_of)
  b__law_of : Binds K fd__law_of ["pot", "some"] []
  f__law_word : Addr
  fd__law_word : FuncData
  Fn__law_word : Fun K "_law_word" "_law_word" st__law_word f__law_word fd__law_word
  m__law_word : mg "_law_word" = some (.ref f__law_word)
  b__law_word : Binds K fd__law_word ["pot"] []
  f__law_leaf : Addr
  fd__law_leaf : FuncData
  Fn__law_leaf : Fun K "_law_leaf" "_law_leaf" st__law_leaf f__law_leaf fd__law_leaf
  m__law_leaf : mg "_law_leaf" = some (.ref f__law_leaf)
  b__law_leaf : Binds K fd__law_leaf ["pot"] []
  f__law_deep : Addr
  fd__law_deep : FuncData
  Fn__law_deep : Fun K "_law_deep" "_law_deep" st__law_deep f__law_deep fd__law_deep
  m__law_deep : mg "_law_deep" = some (.ref f__law_deep)
  b__law_deep : Binds K fd__law_deep ["pot", "levels"] []
  f__law_of_nodes : Addr
  fd__law_of_nodes : FuncData
  Fn__law_of_nodes : Fun K "_law_of_nodes" "_law_of_nodes" st__law_of_nodes f__law_of_nodes fd__law_of_nodes
  m__law_of_nodes : mg "_law_of_nodes" = some (.ref f__law_of_nodes)
  b__law_of_nodes : Binds K fd__law_of_nodes ["pot", "many"] []
  f__law_kids : Addr
  fd__law_kids : FuncData
  Fn__law_kids : Fun K "_law_kids" "_law_kids" st__law_kids f__law_kids fd__law_kids
  m__law_kids : mg "_law_kids" = some (.ref f__law_kids)
  b__law_kids : Binds K fd__law_kids ["tree"] []
  f__law_nodes : Addr
  fd__law_nodes : FuncData
  Fn__law_nodes : Fun K "_law_nodes" "_law_nodes" st__law_nodes f__law_nodes fd__law_nodes
  m__law_nodes : mg "_law_nodes" = some (.ref f__law_nodes)
  b__law_nodes : Binds K fd__law_nodes ["tree"] []
  f__law_size : Addr
  fd__law_size : FuncData
  Fn__law_size : Fun K "_law_size" "_law_size" st__law_size f__law_size fd__law_size
  m__law_size : mg "_law_size" = some (.ref f__law_size)
  b__law_size : Binds K fd__law_size ["tree"] []
  f__law_with_body : Addr
  fd__law_with_body : FuncData
  Fn__law_with_body : Fun K "_law_with_body" "_law_with_body" st__law_with_body f__law_with_body fd__law_with_body
  m__law_with_body : mg "_law_with_body" = some (.ref f__law_with_body)
  b__law_with_body : Binds K fd__law_with_body ["pot", "body"] []
  f_children : Addr
  fd_children : FuncData
  Fn_children : Fun K "children" "children" st_children f_children fd_children
  m_children : mg "children" = some (.ref f_children)
  b_children : Binds K fd_children ["program"] []
  f_Course_all_strands : Addr
  fd_Course_all_strands : FuncData
  Fn_Course_all_strands : Fun K "all_strands" "Course.all_strands" st_Course_all_strands f_Course_all_strands fd_Course_all_strands
  b_Course_all_strands : Binds K fd_Course_all_strands ["self"] []
  f_Course_last_round : Addr
  fd_Course_last_round : FuncData
  Fn_Course_last_round : Fun K "last_round" "Course.last_round" st_Course_last_round f_Course_last_round fd_Course_last_round
  b_Course_last_round : Binds K fd_Course_last_round ["self"] []
  f_Course_total : Addr
  fd_Course_total : FuncData
  Fn_Course_total : Fun K "total" "Course.total" st_Course_total f_Course_total fd_Course_total
  b_Course_total : Binds K fd_Course_total ["self"] []
  f_Course___init__ : Addr
  fd_Course___init__ : FuncData
  Fn_Course___init__ : Fun K "__init__" "Course.__init__" st_Course___init__ f_Course___init__ fd_Course___init__
  b_Course___init__ : Binds K fd_Course___init__ ["self", "finish", "ahead", "behind"] []
  f_detached_course : Addr
  fd_detached_course : FuncData
  Fn_detached_course : Fun K "detached_course" "detached_course" st_detached_course f_detached_course fd_detached_course
  m_detached_course : mg "detached_course" = some (.ref f_detached_course)
  b_detached_course : Binds K fd_detached_course ["part"] []
  f_beside_course : Addr
  fd_beside_course : FuncData
  Fn_beside_course : Fun K "beside_course" "beside_course" st_beside_course f_beside_course fd_beside_course
  m_beside_course : mg "beside_course" = some (.ref f_beside_course)
  b_beside_course : Binds K fd_beside_course ["parts", "finish", "carrier"] []
  f_last_to_finish : Addr
  fd_last_to_finish : FuncData
  Fn_last_to_finish : Fun K "last_to_finish" "last_to_finish" st_last_to_finish f_last_to_finish fd_last_to_finish
  m_last_to_finish : mg "last_to_finish" = some (.ref f_last_to_finish)
  b_last_to_finish : Binds K fd_last_to_finish ["parts"] []
  f_joined_course : Addr
  fd_joined_course : FuncData
  Fn_joined_course : Fun K "joined_course" "joined_course" st_joined_course f_joined_course fd_joined_course
  m_joined_course : mg "joined_course" = some (.ref f_joined_course)
  b_joined_course : Binds K fd_joined_course ["parts"] []
  f_first_to_finish : Addr
  fd_first_to_finish : FuncData
  Fn_first_to_finish : Fun K "first_to_finish" "first_to_finish" st_first_to_finish f_first_to_finish fd_first_to_finish
  m_first_to_finish : mg "first_to_finish" = some (.ref f_first_to_finish)
  b_first_to_finish : Binds K fd_first_to_finish ["parts"] []
  f_raced_course : Addr
  fd_raced_course : FuncData
  Fn_raced_course : Fun K "raced_course" "raced_course" st_raced_course f_raced_course fd_raced_course
  m_raced_course : mg "raced_course" = some (.ref f_raced_course)
  b_raced_course : Binds K fd_raced_course ["parts"] []
  f_Strand___init__ : Addr
  fd_Strand___init__ : FuncData
  Fn_Strand___init__ : Fun K "__init__" "Strand.__init__" st_Strand___init__ f_Strand___init__ fd_Strand___init__
  b_Strand___init__ : Binds K fd_Strand___init__ ["self", "word", "first", "step", "many"] []
  f_over_and_over : Addr
  fd_over_and_over : FuncData
  Fn_over_and_over : Fun K "over_and_over" "over_and_over" st_over_and_over f_over_and_over fd_over_and_over
  m_over_and_over : mg "over_and_over" = some (.ref f_over_and_over)
  b_over_and_over : Binds K fd_over_and_over ["singles", "step", "count"] []
  f_once : Addr
  fd_once : FuncData
  Fn_once : Fun K "once" "once" st_once f_once fd_once
  m_once : mg "once" = some (.ref f_once)
  b_once : Binds K fd_once ["word", "at"] []
  f_Strand_singles : Addr
  fd_Strand_singles : FuncData
  Fn_Strand_singles : Fun K "singles" "Strand.singles" st_Strand_singles f_Strand_singles fd_Strand_singles
  b_Strand_singles : Binds K fd_Strand_singles ["self"] []
  f_single_strands : Addr
  fd_single_strands : FuncData
  Fn_single_strands : Fun K "single_strands" "single_strands" st_single_strands f_single_strands fd_single_strands
  m_single_strands : mg "single_strands" = some (.ref f_single_strands)
  b_single_strands : Binds K fd_single_strands ["strands"] []
  f_repeated_course : Addr
  fd_repeated_course : FuncData
  Fn_repeated_course : Fun K "repeated_course" "repeated_course" st_repeated_course f_repeated_course fd_repeated_course
  m_repeated_course : mg "repeated_course" = some (.ref f_repeated_course)
  b_repeated_course : Binds K fd_repeated_course ["body", "count"] []
  f_silent_course : Addr
  fd_silent_course : FuncData
  Fn_silent_course : Fun K "silent_course" "silent_course" st_silent_course f_silent_course fd_silent_course
  m_silent_course : mg "silent_course" = some (.ref f_silent_course)
  b_silent_course : Binds K fd_silent_course ["rounds"] []
  f_Strand_moved : Addr
  fd_Strand_moved : FuncData
  Fn_Strand_moved : Fun K "moved" "Strand.moved" st_Strand_moved f_Strand_moved fd_Strand_moved
  b_Strand_moved : Binds K fd_Strand_moved ["self", "by"] []
  f_turned_course : Addr
  fd_turned_course : FuncData
  Fn_turned_course : Fun K "turned_course" "turned_course" st_turned_course f_turned_course fd_turned_course
  m_turned_course : mg "turned_course" = some (.ref f_turned_course)
  b_turned_course : Binds K fd_turned_course ["parts"] []
  f_word_course : Addr
  fd_word_course : FuncData
  Fn_word_course : Fun K "word_course" "word_course" st_word_course f_word_course fd_word_course
  m_word_course : mg "word_course" = some (.ref f_word_course)
  b_word_course : Binds K fd_word_course ["word"] []
  f_course_of : Addr
  fd_course_of : FuncData
  Fn_course_of : Fun K "course_of" "course_of" st_course_of f_course_of fd_course_of
  m_course_of : mg "course_of" = some (.ref f_course_of)
  b_course_of : Binds K fd_course_of ["program"] []
  f_is_body : Addr
  fd_is_body : FuncData
  Fn_is_body : Fun K "is_body" "is_body" st_is_body f_is_body fd_is_body
  m_is_body : mg "is_body" = some (.ref f_is_body)
  b_is_body : Binds K fd_is_body ["program"] []
  f_are_parts : Addr
  fd_are_parts : FuncData
  Fn_are_parts : Fun K "are_parts" "are_parts" st_are_parts f_are_parts fd_are_parts
  m_are_parts : mg "are_parts" = some (.ref f_are_parts)
  b_are_parts : Binds K fd_are_parts ["value", "least", "most"] []
  f_is_integer : Addr
  fd_is_integer : FuncData
  Fn_is_integer : Fun K "is_integer" "is_integer" st_is_integer f_is_integer fd_is_integer
  m_is_integer : mg "is_integer" = some (.ref f_is_integer)
  b_is_integer : Binds K fd_is_integer ["value"] []
  f_is_count : Addr
  fd_is_count : FuncData
  Fn_is_count : Fun K "is_count" "is_count" st_is_count f_is_count fd_is_count
  m_is_count : mg "is_count" = some (.ref f_is_count)
  b_is_count : Binds K fd_is_count ["value", "least"] []
  f_is_word : Addr
  fd_is_word : FuncData
  Fn_is_word : Fun K "is_word" "is_word" st_is_word f_is_word fd_is_word
  m_is_word : mg "is_word" = some (.ref f_is_word)
  b_is_word : Binds K fd_is_word ["value"] []
  f_is_node : Addr
  fd_is_node : FuncData
  Fn_is_node : Fun K "is_node" "is_node" st_is_node f_is_node fd_is_node
  m_is_node : mg "is_node" = some (.ref f_is_node)
  b_is_node : Binds K fd_is_node ["value"] []
  f_is_program : Addr
  fd_is_program : FuncData
  Fn_is_program : Fun K "is_program" "is_program" st_is_program f_is_program fd_is_program
  m_is_program : mg "is_program" = some (.ref f_is_program)
  b_is_program : Binds K fd_is_program ["value"] []
  f__law_right : Addr
  fd__law_right : FuncData
  Fn__law_right : Fun K "_law_right" "_law_right" st__law_right f__law_right fd__law_right
  m__law_right : mg "_law_right" = some (.ref f__law_right)
  b__law_right : Binds K fd__law_right ["pot"] []
  f_law : Addr
  fd_law : FuncData
  Fn_law : Fun K "law" "law" st_law f_law fd_law
  m_law : mg "law" = some (.ref f_law)
  b_law : Binds K fd_law ["script"] []
  z_abs : mg "abs" = none
  z_all : mg "all" = none
  z_bool : mg "bool" = none
  z_enumerate : mg "enumerate" = none
  z_int : mg "int" = none
  z_isinstance : mg "isinstance" = none
  z_len : mg "len" = none
  z_max : mg "max" = none
  z_min : mg "min" = none
  z_range : mg "range" = none
  z_sorted : mg "sorted" = none
  z_str : mg "str" = none
  z_sum : mg "sum" = none
  z_tuple : mg "tuple" = none
  tk_MOST_BESIDE : Tok
  c_MOST_BESIDE : mg "MOST_BESIDE" = some (.int 6 tk_MOST_BESIDE)
  tk_MOST_BODY_FINISH : Tok
  c_MOST_BODY_FINISH : mg "MOST_BODY_FINISH" = some (.int 6 tk_MOST_BODY_FINISH)
  tk_MOST_BODY_ROUND : Tok
  c_MOST_BODY_ROUND : mg "MOST_BODY_ROUND" = some (.int 30 tk_MOST_BODY_ROUND)
  tk_MOST_BODY_WORDS : Tok
  c_MOST_BODY_WORDS : mg "MOST_BODY_WORDS" = some (.int 12 tk_MOST_BODY_WORDS)
  tk_MOST_COUNT : Tok
  c_MOST_COUNT : mg "MOST_COUNT" = some (.int 1000000000000000000 tk_MOST_COUNT)
  tk_MOST_DEPTH : Tok
  c_MOST_DEPTH : mg "MOST_DEPTH" = some (.int 12 tk_MOST_DEPTH)
  tk_MOST_LETTERS : Tok
  c_MOST_LETTERS : mg "MOST_LETTERS" = some (.int 8 tk_MOST_LETTERS)
  tk_MOST_LOOPS : Tok
  c_MOST_LOOPS : mg "MOST_LOOPS" = some (.int 8 tk_MOST_LOOPS)
  tk_MOST_NODES : Tok
  c_MOST_NODES : mg "MOST_NODES" = some (.int 80 tk_MOST_NODES)
  tk_MOST_PARTS : Tok
  c_MOST_PARTS : mg "MOST_PARTS" = some (.int 12 tk_MOST_PARTS)
  m_Course : mg "Course" = some (.ref (C 1))
  m_Strand : mg "Strand" = some (.ref (C 0))
  M_Course : Mk K (C 1) f_Course___init__
  M_Strand : Mk K (C 0) f_Strand___init__
  fl_ahead : ∀ c ∈ ([1] : List Nat), Cls K (C c) ∧ NoAttr K (C c) "ahead"
  fl_behind : ∀ c ∈ ([1] : List Nat), Cls K (C c) ∧ NoAttr K (C c) "behind"
  fl_finish : ∀ c ∈ ([1] : List Nat), Cls K (C c) ∧ NoAttr K (C c) "finish"
  fl_first : ∀ c ∈ ([0] : List Nat), Cls K (C c) ∧ NoAttr K (C c) "first"
  fl_last : ∀ c ∈ ([0] : List Nat), Cls K (C c) ∧ NoAttr K (C c) "last"
  fl_many : ∀ c ∈ ([0] : List Nat), Cls K (C c) ∧ NoAttr K (C c) "many"
  fl_step : ∀ c ∈ ([0] : List Nat), Cls K (C c) ∧ NoAttr K (C c) "step"
  fl_word : ∀ c ∈ ([0] : List Nat), Cls K (C c) ∧ NoAttr K (C c) "word"
  cl_Course : Cls K (C 1)
  cl_Strand : Cls K (C 0)
  me_Course_all_strands : Meth K (C 1) "all_strands" f_Course_all_strands
  me_Course_last_round : Meth K (C 1) "last_round" f_Course_last_round
  me_Course_total : Meth K (C 1) "total" f_Course_total
  me_Strand_moved : Meth K (C 0) "moved" f_Strand_moved
  me_Strand_singles : Meth K (C 0) "singles" f_Strand_singles
  cc : Addr
  lc : fd_repeated_course.code = .ref cc
  tne : C 1000 ≠ C 1001
  tbB : LamX.TabB base mg cc (C 1000)
section
variable {P : Program} {w : World} {K : PySem.W.Frag} {mg : Str → Option Value} {base : Heap} {C : Nat → Addr}
theorem ok__law_pot (X : Fx K mg base C) {l : Nat} (hl : 1 ≤ l) : FnG P w K mg base CX0 l X.f__law_pot X.fd__law_pot ["script", "k"] (spF K C F__law_pot) := by
  obtain ⟨k, rfl⟩ : ∃ k, l = k + 1 := ⟨l - 1, by omega⟩
  refine (fnG_of (K := K) (C := C) 1 X.Fn__law_pot sc__law_pot fun cdv A outer s H E hr => ?_)
  have h64 := hr.u64
  have h65 := hr.u65
  have h1 := hr.u1
  exact (b_cons (st_set 2 sc__law_pot.nd (s_if (t_cmp sLt (sv 1) (s_callB cLen (by rfl) X.z_len (by rfl) (sa_cons (sv 0) sa_nil))) (s_ix (sIx h1) (sv 0) (sv 1)) (s_op sAdd (s_op sMul s_int (sv 1)) s_int))) (b_cons (st_set 3 sc__law_pot.nd (s_op sMul (s_op sMod (s_callB cAbs (by rfl) X.z_abs (by rfl) (sa_cons (sv 2) sa_nil)) (s_op sPow (s_op sPow s_int s_int) s_int)) (s_callTy cToInt (by rfl) X.z_int (by rfl) (sa_cons (s_cmp sGe (s_callB cAbs (by rfl) X.z_abs (by rfl) (sa_cons (sv 2) sa_nil)) (s_op sPow s_int s_int)) sa_nil)))) (b_one (st_ret (s_new (sa_cons (sv 3) (sa_cons (s_op sMod (s_op sAdd (s_op sAdd (s_op sMul (s_op sMod (sv 2) s_int) s_int) (s_op sMul (s_op sMul s_int (sv 1)) (sv 1))) s_int) s_int) (sa_cons s_int sa_nil))))))))
theorem ok__law_take (X : Fx K mg base C) {l : Nat} (hl : 1 ≤ l) : FnG P w K mg base CX0 l X.f__law_take X.fd__law_take ["pot", "bound"] (spF K C F__law_take) := by
  obtain ⟨k, rfl⟩ : ∃ k, l = k + 1 := ⟨l - 1, by omega⟩
  refine (fnG_of (K := K) (C := C) 0 X.Fn__law_take sc__law_take fun cdv A outer s H E hr => ?_)
  have h64 := hr.u64
  have h65 := hr.u65
  have h1 := hr.u1
  exact (b_cons (st_if (t_cmp sGt (s_ix (sIx h1) (sv 0) s_int) s_int) (b_cons (st_set 2 sc__law_take.nd (s_op sMod (s_ix (sIx h1) (sv 0) s_int) (sv 1))) (b_cons (st_asg (s_op sDiv (s_ix (sIx h1) (sv 0) s_int) (sv 1)) (g_put h1 (sv 0) s_int)) (b_one (st_ret (sv 2))))) b_nil) (b_cons (st_asg (s_op sAdd (s_ix (sIx h1) (sv 0) s_int) s_int) (g_put h1 (sv 0) s_int)) (b_cons (st_set 3 sc__law_take.nd (s_ix (sIx h1) (s_lst (sa_cons s_int (sa_cons s_int (sa_cons s_int (sa_cons s_int (sa_cons s_int sa_nil)))))) (s_op sMod (s_ix (sIx h1) (sv 0) s_int) s_int))) (b_cons (st_set 4 sc__law_take.nd (s_op sMod (s_op sPow (s_op sAdd (s_op sAdd (s_ix (sIx h1) (sv 0) s_int) (s_op sMul (s_op sMul s_int (s_ix (sIx h1) (sv 0) s_int)) (s_ix (sIx h1) (sv 0) s_int))) s_int) s_int) (sv 3))) (b_one (st_ret (s_op sMod (s_op sDiv (s_op sMod (s_op sMul (sv 4) (s_op sAdd (s_op sMod (sv 4) s_int) (s_op sMul s_int (s_ix (sIx h1) (sv 0) s_int)))) s_int) s_int) (sv 1))))))))
theorem ok__law_bodies (X : Fx K mg base C) {l : Nat} (hl : 2 ≤ l) : FnG P w K mg base CX0 l X.f__law_bodies X.fd__law_bodies ["pot", "word"] (spF K C F__law_bodies) := by
  obtain ⟨k, rfl⟩ : ∃ k, l = k + 1 := ⟨l - 1, by omega⟩
  refine (fnG_of (K := K) (C := C) 0 X.Fn__law_bodies sc__law_bodies fun cdv A outer s H E hr => ?_)
  have h64 := hr.u64
  have h65 := hr.u65
  have h1 := hr.u1
  exact (b_cons (st_set 2 sc__law_bodies.nd (s_tup (sa_cons s_str (sa_cons (s_op sAdd s_int (s_call (ok__law_take X (by omega)) hr X.m__law_take X.Fn__law_take.kp X.b__law_take pass0 (sa_cons (sv 0) (sa_cons s_int sa_nil)))) sa_nil)))) (b_cons (st_set 3 sc__law_bodies.nd (s_op sMul (s_lst (sa_cons (s_tup (sa_cons s_str (sa_cons (sv 1) sa_nil))) sa_nil)) s_int)) (b_cons (st_set 4 sc__law_bodies.nd (s_tup (sa_cons s_str (sa_cons (s_tup (sa_cons s_str (sa_cons (s_tup (sa_cons (s_tup (sa_cons s_str (sa_cons s_int sa_nil))) (sa_cons (s_tup (sa_cons s_str (sa_cons (sv 1) sa_nil))) sa_nil))) sa_nil))) sa_nil)))) (b_cons (st_set 5 sc__law_bodies.nd (s_new (sa_cons (s_tup (sa_cons (s_tup (sa_cons s_str (sa_cons (sv 1) sa_nil))) (sa_cons s_bl sa_nil))) (sa_cons (s_tup (sa_cons (sv 2) (sa_cons s_bl sa_nil))) (sa_cons (s_tup (sa_cons (s_tup (sa_cons s_str (sa_cons s_int sa_nil))) (sa_cons s_bl sa_nil))) (sa_cons (s_tup (sa_cons (s_tup (sa_cons s_str (sa_cons s_int sa_nil))) (sa_cons s_bl sa_nil))) sa_nil)))))) (b_cons (st_ex (s_bm PySem.F.plainAttrs_list PySem.F.slot_list_append PySem.F.type_list_append mApp (sv 5) (sa_cons (s_tup (sa_cons (s_tup (sa_cons s_str (sa_cons (s_tup (sa_cons (s_tup (sa_cons s_str (sa_cons (s_callTy cTuple (by rfl) X.z_tuple (by rfl) (sa_cons (sv 3) sa_nil)) sa_nil))) (sa_cons (sv 2) sa_nil))) sa_nil))) (sa_cons s_bl sa_nil))) sa_nil) tyL)) (b_cons (st_ex (s_bm PySem.F.plainAttrs_list PySem.F.slot_list_append PySem.F.type_list_append mApp (sv 5) (sa_cons (s_tup (sa_cons (s_tup (sa_cons s_str (sa_cons (s_tup (sa_cons (s_tup (sa_cons s_str (sa_cons (s_callTy cTuple (by rfl) X.z_tuple (by rfl) (sa_cons (sv 3) sa_nil)) sa_nil))) (sa_cons (s_tup (sa_cons s_str (sa_cons (sv 1) sa_nil))) (sa_cons (sv 2) sa_nil)))) sa_nil))) (sa_cons s_bl sa_nil))) sa_nil) tyL)) (b_cons (st_ex (s_bm PySem.F.plainAttrs_list PySem.F.slot_list_append PySem.F.type_list_append mApp (sv 5) (sa_cons (s_tup (sa_cons (s_tup (sa_cons s_str (sa_cons (s_tup (sa_cons (sv 4) (sa_cons (sv 2) sa_nil))) sa_nil))) (sa_cons s_bl sa_nil))) sa_nil) tyL)) (b_cons (st_ex (s_bm PySem.F.plainAttrs_list PySem.F.slot_list_append PySem.F.type_list_append mApp (sv 5) (sa_cons (s_tup (sa_cons (s_tup (sa_cons s_str (sa_cons (s_tup (sa_cons (s_tup (sa_cons s_str (sa_cons (s_tup (sa_cons s_str (sa_cons (s_tup (sa_cons (s_tup (sa_cons s_str (sa_cons s_int sa_nil))) (sa_cons (s_tup (sa_cons s_str (sa_cons (sv 1) sa_nil))) sa_nil))) sa_nil))) sa_nil))) (sa_cons (sv 2) sa_nil))) sa_nil))) (sa_cons s_bl sa_nil))) sa_nil) tyL)) (b_cons (st_ex (s_bm PySem.F.plainAttrs_list PySem.F.slot_list_append PySem.F.type_list_append mApp (sv 5) (sa_cons (s_tup (sa_cons (s_tup (sa_cons s_str (sa_cons (s_tup (sa_cons (s_tup (sa_cons s_str (sa_cons (s_tup (sa_cons s_str (sa_cons (s_tup (sa_cons (s_tup (sa_cons s_str (sa_cons s_int sa_nil))) (sa_cons (s_tup (sa_cons s_str (sa_cons s_int sa_nil))) sa_nil))) sa_nil))) sa_nil))) (sa_cons (sv 2) sa_nil))) sa_nil))) (sa_cons s_bl sa_nil))) sa_nil) tyL)) (b_cons (st_ex (s_bm PySem.F.plainAttrs_list PySem.F.slot_list_append PySem.F.type_list_append mApp (sv 5) (sa_cons (s_tup (sa_cons (s_tup (sa_cons s_str (sa_cons (s_tup (sa_cons (s_tup (sa_cons s_str (sa_cons (s_op sPow s_int s_int) sa_nil))) (sa_cons (sv 2) sa_nil))) sa_nil))) (sa_cons s_bl sa_nil))) sa_nil) tyL)) (b_cons (st_ex (s_bm PySem.F.plainAttrs_list PySem.F.slot_list_append PySem.F.type_list_append mApp (sv 5) (sa_cons (s_tup (sa_cons (s_tup (sa_cons s_str (sa_cons (s_tup (sa_cons (s_tup (sa_cons s_str (sa_cons s_int sa_nil))) (sa_cons (sv 2) sa_nil))) sa_nil))) (sa_cons s_bl sa_nil))) sa_nil) tyL)) (b_cons (st_ex (s_bm PySem.F.plainAttrs_list PySem.F.slot_list_append PySem.F.type_list_append mApp (sv 5) (sa_cons (s_tup (sa_cons (s_tup (sa_cons s_str (sa_cons (s_tup (sa_cons (s_tup (sa_cons s_str (sa_cons (s_op sMul (s_tup (sa_cons (s_tup (sa_cons s_str (sa_cons s_int sa_nil))) sa_nil)) s_int) sa_nil))) (sa_cons (sv 2) sa_nil))) sa_nil))) (sa_cons (s_cmp sLt (s_ix (sIx h1) (sv 2) s_int) s_int) sa_nil))) sa_nil) tyL)) (b_cons (st_ex (s_bm PySem.F.plainAttrs_list PySem.F.slot_list_append PySem.F.type_list_append mApp (sv 5) (sa_cons (s_tup (sa_cons (s_tup (sa_cons s_str (sa_cons (s_tup (sa_cons (s_tup (sa_cons s_str (sa_cons (s_op sMul (s_tup (sa_cons (s_tup (sa_cons s_str (sa_cons s_int sa_nil))) sa_nil)) s_int) sa_nil))) (sa_cons (sv 2) sa_nil))) sa_nil))) (sa_cons s_bl sa_nil))) sa_nil) tyL)) (b_cons (st_ex (s_bm PySem.F.plainAttrs_list PySem.F.slot_list_append PySem.F.type_list_append mApp (sv 5) (sa_cons (s_tup (sa_cons (s_tup (sa_cons s_str (sa_cons (s_tup (sa_cons (s_tup (sa_cons s_str (sa_cons (s_op sMul (s_tup (sa_cons (s_tup (sa_cons s_str (sa_cons (s_tup sa_nil) sa_nil))) sa_nil)) s_int) sa_nil))) (sa_cons (sv 2) sa_nil))) sa_nil))) (sa_cons s_bl sa_nil))) sa_nil) tyL)) (b_cons (st_ex (s_bm PySem.F.plainAttrs_list PySem.F.slot_list_append PySem.F.type_list_append mApp (sv 5) (sa_cons (s_tup (sa_cons (s_tup (sa_cons s_str (sa_cons (s_tup (sa_cons (s_tup (sa_cons s_str (sa_cons s_int (sa_cons (sv 2) sa_nil)))) sa_nil)) sa_nil))) (sa_cons s_bl sa_nil))) sa_nil) tyL)) (b_one (st_ret (s_op sAdd (sv 5) (s_lst (sa_cons (s_tup (sa_cons (s_tup (sa_cons s_str (sa_cons (sv 2) sa_nil))) (sa_cons s_bl sa_nil))) (sa_cons (s_tup (sa_cons (s_tup (sa_cons s_str (sa_cons (s_tup (sa_cons (sv 2) (sa_cons (s_tup (sa_cons s_str (sa_cons (sv 4) sa_nil))) sa_nil))) sa_nil))) (sa_cons (s_cmp (sEqE h64) (s_ix (sIx h1) (sv 2) s_int) s_int) sa_nil))) sa_nil)))))))))))))))))))))
theorem ok__law_of (X : Fx K mg base C) {l : Nat} (hl : 2 ≤ l) : FnG P w K mg base CX0 l X.f__law_of X.fd__law_of ["pot", "some"] (spF K C F__law_of) := by
  obtain ⟨k, rfl⟩ : ∃ k, l = k + 1 := ⟨l - 1, by omega⟩
  refine (fnG_of (K := K) (C := C) 0 X.Fn__law_of sc__law_of fun cdv A outer s H E hr => ?_)
  have h64 := hr.u64
  have h65 := hr.u65
  have h1 := hr.u1
  exact (b_one (st_ret (s_ix (sIx h1) (sv 1) (s_call (ok__law_take X (by omega)) hr X.m__law_take X.Fn__law_take.kp X.b__law_take pass0 (sa_cons (sv 0) (sa_cons (s_callB cLen (by rfl) X.z_len (by rfl) (sa_cons (sv 1) sa_nil)) sa_nil))))))
theorem ok__law_word (X : Fx K mg base C) {l : Nat} (hl : 3 ≤ l) : FnG P w K mg base CX0 l X.f__law_word X.fd__law_word ["pot"] (spF K C F__law_word) := by
  obtain ⟨k, rfl⟩ : ∃ k, l = k + 1 := ⟨l - 1, by omega⟩
  refine (fnG_of (K := K) (C := C) 0 X.Fn__law_word sc__law_word fun cdv A outer s H E hr => ?_)
  have h64 := hr.u64
  have h65 := hr.u65
  have h1 := hr.u1
  exact (b_one (st_ret (s_call (ok__law_of X (by omega)) hr X.m__law_of X.Fn__law_of.kp X.b__law_of pass0 (sa_cons (sv 0) (sa_cons (s_lst (sa_cons s_str (sa_cons s_str (sa_cons s_str (sa_cons s_str (sa_cons s_str (sa_cons s_str (sa_cons s_str (sa_cons s_str sa_nil))))))))) sa_nil)))))
theorem ok__law_leaf (X : Fx K mg base C) {l : Nat} (hl : 4 ≤ l) : FnG P w K mg base CX0 l X.f__law_leaf X.fd__law_leaf ["pot"] (spF K C F__law_leaf) := by
  obtain ⟨k, rfl⟩ : ∃ k, l = k + 1 := ⟨l - 1, by omega⟩
  refine (fnG_of (K := K) (C := C) 0 X.Fn__law_leaf sc__law_leaf fun cdv A outer s H E hr => ?_)
  have h64 := hr.u64
  have h65 := hr.u65
  have h1 := hr.u1
  exact (b_cons (st_if (t_cmp sLt (s_call (ok__law_take X (by omega)) hr X.m__law_take X.Fn__law_take.kp X.b__law_take pass0 (sa_cons (sv 0) (sa_cons s_int sa_nil))) s_int) (b_one (st_ret (s_tup (sa_cons s_str (sa_cons (s_call (ok__law_word X (by omega)) hr X.m__law_word X.Fn__law_word.kp X.b__law_word pass0 (sa_cons (sv 0) sa_nil)) sa_nil))))) b_nil) (b_one (st_ret (s_tup (sa_cons s_str (sa_cons (s_op sAdd s_int (s_call (ok__law_take X (by omega)) hr X.m__law_take X.Fn__law_take.kp X.b__law_take pass0 (sa_cons (sv 0) (sa_cons s_int sa_nil)))) sa_nil))))))
theorem ok__law_deep (X : Fx K mg base C) {l : Nat} (hl : 5 ≤ l) : FnG P w K mg base CX0 l X.f__law_deep X.fd__law_deep ["pot", "levels"] (spF K C F__law_deep) := by
  obtain ⟨k, rfl⟩ : ∃ k, l = k + 1 := ⟨l - 1, by omega⟩
  refine (fnG_of (K := K) (C := C) 0 X.Fn__law_deep sc__law_deep fun cdv A outer s H E hr => ?_)
  have h64 := hr.u64
  have h65 := hr.u65
  have h1 := hr.u1
  exact (b_cons (st_set 2 sc__law_deep.nd (s_call (ok__law_leaf X (by omega)) hr X.m__law_leaf X.Fn__law_leaf.kp X.b__law_leaf pass0 (sa_cons (sv 0) sa_nil))) (b_cons (st_forL PassesOwn.never rfl (sil_of (si_range1 (by rfl) X.z_range (sa_cons (s_op sSub (sv 1) s_int) sa_nil))) (g_name 3 sc__law_deep.nd) (b_one (st_set 2 sc__law_deep.nd (s_call (ok__law_of X (by omega)) hr X.m__law_of X.Fn__law_of.kp X.b__law_of pass0 (sa_cons (sv 0) (sa_cons (s_lst (sa_cons (s_tup (sa_cons s_str (sa_cons (sv 2) sa_nil))) (sa_cons (s_tup (sa_cons s_str (sa_cons (s_tup (sa_cons (sv 2) sa_nil)) sa_nil))) (sa_cons (s_tup (sa_cons s_str (sa_cons (s_tup (sa_cons (s_tup (sa_cons s_str (sa_cons s_str sa_nil))) (sa_cons (sv 2) sa_nil))) sa_nil))) (sa_cons (s_tup (sa_cons s_str (sa_cons (s_tup (sa_cons (sv 2) sa_nil)) sa_nil))) sa_nil))))) sa_nil)))))) (b_one (st_ret (sv 2)))))
theorem ok__law_of_nodes (X : Fx K mg base C) {l : Nat} (hl : 5 ≤ l) : FnG P w K mg base CX0 l X.f__law_of_nodes X.fd__law_of_nodes ["pot", "many"] (spF K C F__law_of_nodes) := by
  obtain ⟨k, rfl⟩ : ∃ k, l = k + 1 := ⟨l - 1, by omega⟩
  refine (fnG_of (K := K) (C := C) 0 X.Fn__law_of_nodes sc__law_of_nodes fun cdv A outer s H E hr => ?_)
  have h64 := hr.u64
  have h65 := hr.u65
  have h1 := hr.u1
  exact (b_cons (st_par 2 3 rfl sc__law_of_nodes.nd (sa_cons (s_new sa_nil) (sa_cons (s_op sSub (sv 1) s_int) sa_nil))) (b_cons (st_wh 100 PassesOwn.never (t_cmp sGt (sv 3) s_int) (b_cons (st_set 4 sc__law_of_nodes.nd (s_callB (cMin2 rfl) (by rfl) X.z_min (by rfl) (sa_cons (sv 3) (sa_cons (s_op sAdd s_int (s_call (ok__law_take X (by omega)) hr X.m__law_take X.Fn__law_take.kp X.b__law_take pass0 (sa_cons (sv 0) (sa_cons s_int sa_nil)))) sa_nil)))) (b_cons (st_ex (s_bm PySem.F.plainAttrs_list PySem.F.slot_list_append PySem.F.type_list_append mApp (sv 2) (sa_cons (s_tup (sa_cons s_str (sa_cons (s_callTy cTuple (by rfl) X.z_tuple (by rfl) (sa_cons (s_lcL (own := [(("part" : PySem.Str), 5)]) rfl sc__law_of_nodes.nd (sil_of (si_range1 (by rfl) X.z_range (sa_cons (s_op sSub (sv 4) s_int) sa_nil))) (blk_ok (by kernel_rfl)) (fun _ _ _ _ _ => (g_name 5 sc__law_of_nodes.nd)) (fun _ _ _ _ _ => if_no) (fun _ _ _ _ _ => (s_call (ok__law_leaf X (by omega)) hr X.m__law_leaf X.Fn__law_leaf.kp X.b__law_leaf pass0 (sa_cons (sv 0) sa_nil)))) sa_nil)) sa_nil))) sa_nil) tyL)) (b_one (st_set 3 sc__law_of_nodes.nd (s_op sSub (sv 3) (sv 4))))))) (b_one (st_ret (s_tup (sa_cons s_str (sa_cons (s_callTy cTuple (by rfl) X.z_tuple (by rfl) (sa_cons (sv 2) sa_nil)) sa_nil)))))))
theorem ok__law_kids (X : Fx K mg base C) {l : Nat} (hl : 1 ≤ l) : FnG P w K mg base CX0 l X.f__law_kids X.fd__law_kids ["tree"] (spF K C F__law_kids) := by
  obtain ⟨k, rfl⟩ : ∃ k, l = k + 1 := ⟨l - 1, by omega⟩
  refine (fnG_of (K := K) (C := C) 0 X.Fn__law_kids sc__law_kids fun cdv A outer s H E hr => ?_)
  have h64 := hr.u64
  have h65 := hr.u65
  have h1 := hr.u1
  exact (b_cons (st_if (t_cmp (sIn h65) (s_ix (sIx h1) (sv 0) s_int) (s_tup (sa_cons s_str (sa_cons s_str sa_nil)))) (b_one (st_ret (s_tup sa_nil))) b_nil) (b_one (st_ret (s_if (t_cmp (sIn h65) (s_ix (sIx h1) (sv 0) s_int) (s_tup (sa_cons s_str (sa_cons s_str (sa_cons s_str sa_nil))))) (s_ix (sIx h1) (sv 0) s_int) (s_sl (sv 0) (so_so (s_un sNeg s_int)) so_no)))))
theorem ok__law_nodes (X : Fx K mg base C) {l : Nat} (hl : 2 ≤ l) : FnG P w K mg base CX0 l X.f__law_nodes X.fd__law_nodes ["tree"] (spF K C F__law_nodes) := by
  obtain ⟨k, rfl⟩ : ∃ k, l = k + 1 := ⟨l - 1, by omega⟩
  refine (fnG_of (K := K) (C := C) 0 X.Fn__law_nodes sc__law_nodes fun cdv A outer s H E hr => ?_)
  have h64 := hr.u64
  have h65 := hr.u65
  have h1 := hr.u1
  exact (b_cons (st_par 1 2 rfl sc__law_nodes.nd (sa_cons (s_new sa_nil) (sa_cons (s_new (sa_cons (s_tup (sa_cons (sv 0) (sa_cons s_int sa_nil))) sa_nil)) sa_nil))) (b_cons (st_wh 200 PassesOwn.never (t_cmp (sNe h64) (sv 2) (s_lst sa_nil)) (b_cons (st_asg (s_bm0 PySem.F.plainAttrs_list PySem.F.slot_list_pop PySem.F.type_list_pop mPop (sv 2) tyL) (g_tup rfl (gs_cons (g_name 3 sc__law_nodes.nd) (gs_cons (g_name 4 sc__law_nodes.nd) gs_nil)))) (b_cons (st_ex (s_bm PySem.F.plainAttrs_list PySem.F.slot_list_append PySem.F.type_list_append mApp (sv 1) (sa_cons (s_tup (sa_cons (sv 3) (sa_cons (sv 4) sa_nil))) sa_nil) tyL)) (b_one (st_ex (s_bm PySem.F.plainAttrs_list PySem.F.slot_list_extend PySem.F.type_list_extend mExt (sv 2) (sa_cons (s_lcL (own := [(("kid" : PySem.Str), 5)]) rfl sc__law_nodes.nd (sil_any (s_call (ok__law_kids X (by omega)) hr X.m__law_kids X.Fn__law_kids.kp X.b__law_kids pass0 (sa_cons (sv 3) sa_nil))) (blk_ok (by kernel_rfl)) (fun _ _ _ _ _ => (g_name 5 sc__law_nodes.nd)) (fun _ _ _ _ _ => if_no) (fun _ _ _ _ _ => (s_tup (sa_cons (sv 5) (sa_cons (s_op sAdd (sv 4) s_int) sa_nil))))) sa_nil) tyL)))))) (b_one (st_ret (s_iceD 3 (sv 1))))))
theorem ok__law_size (X : Fx K mg base C) {l : Nat} (hl : 3 ≤ l) : FnG P w K mg base CX0 l X.f__law_size X.fd__law_size ["tree"] (spF K C F__law_size) := by
  obtain ⟨k, rfl⟩ : ∃ k, l = k + 1 := ⟨l - 1, by omega⟩
  refine (fnG_of (K := K) (C := C) 0 X.Fn__law_size sc__law_size fun cdv A outer s H E hr => ?_)
  have h64 := hr.u64
  have h65 := hr.u65
  have h1 := hr.u1
  exact (b_one (st_ret (s_callB cLen (by rfl) X.z_len (by rfl) (sa_cons (s_call (ok__law_nodes X (by omega)) hr X.m__law_nodes X.Fn__law_nodes.kp X.b__law_nodes pass0 (sa_cons (sv 0) sa_nil)) sa_nil))))
theorem ok__law_with_body (X : Fx K mg base C) {l : Nat} (hl : 3 ≤ l) : FnG P w K mg base CX0 l X.f__law_with_body X.fd__law_with_body ["pot", "body"] (spF K C F__law_with_body) := by
  obtain ⟨k, rfl⟩ : ∃ k, l = k + 1 := ⟨l - 1, by omega⟩
  refine (fnG_of (K := K) (C := C) 0 X.Fn__law_with_body sc__law_with_body fun cdv A outer s H E hr => ?_)
  have h64 := hr.u64
  have h65 := hr.u65
  have h1 := hr.u1
  exact (b_cons (st_set 2 sc__law_with_body.nd (s_tup (sa_cons s_str (sa_cons (s_call (ok__law_of X (by omega)) hr X.m__law_of X.Fn__law_of.kp X.b__law_of pass0 (sa_cons (sv 0) (sa_cons (s_lst (sa_cons s_int (sa_cons s_int (sa_cons (s_op sPow s_int s_int) (sa_cons (s_call (ok__law_take X (by omega)) hr X.m__law_take X.Fn__law_take.kp X.b__law_take pass0 (sa_cons (sv 0) (sa_cons (s_op sPow s_int s_int) sa_nil))) sa_nil))))) sa_nil))) (sa_cons (sv 1) sa_nil))))) (b_one (st_ret (s_call (ok__law_of X (by omega)) hr X.m__law_of X.Fn__law_of.kp X.b__law_of pass0 (sa_cons (sv 0) (sa_cons (s_lst (sa_cons (sv 2) (sa_cons (s_tup (sa_cons s_str (sa_cons (s_tup (sa_cons (sv 2) (sa_cons (s_tup (sa_cons s_str (sa_cons s_str sa_nil))) sa_nil))) sa_nil))) (sa_cons (s_tup (sa_cons s_str (sa_cons (sv 2) sa_nil))) (sa_cons (s_tup (sa_cons s_str (sa_cons (s_tup (sa_cons (s_tup (sa_cons s_str (sa_cons s_int sa_nil))) (sa_cons (sv 2) sa_nil))) sa_nil))) sa_nil))))) sa_nil))))))
theorem ok_children (X : Fx K mg base C) {l : Nat} (hl : 1 ≤ l) : FnG P w K mg base CX0 l X.f_children X.fd_children ["program"] (spF K C F_children) := by
  obtain ⟨k, rfl⟩ : ∃ k, l = k + 1 := ⟨l - 1, by omega⟩
  refine (fnG_of (K := K) (C := C) 0 X.Fn_children sc_children fun cdv A outer s H E hr => ?_)
  have h64 := hr.u64
  have h65 := hr.u65
  have h1 := hr.u1
  exact (b_cons (st_set 1 sc_children.nd (s_ix (sIx h1) (sv 0) s_int)) (b_cons (st_if (t_w (w_or (t_cmp (sEqE h64) (sv 1) s_str) (w_or1 (t_cmp (sEqE h64) (sv 1) s_str)))) (b_one (st_ret (s_tup sa_nil))) b_nil) (b_cons (st_if (t_cmp (sEqE h64) (sv 1) s_str) (b_one (st_ret (s_tup (sa_cons (s_ix (sIx h1) (sv 0) s_int) sa_nil)))) b_nil) (b_cons (st_if (t_cmp (sEqE h64) (sv 1) s_str) (b_one (st_ret (s_tup (sa_cons (s_ix (sIx h1) (sv 0) s_int) sa_nil)))) b_nil) (b_one (st_ret (s_ix (sIx h1) (sv 0) s_int)))))))
theorem ok_Course_all_strands (X : Fx K mg base C) {l : Nat} (hl : 1 ≤ l) : FnG P w K mg base CX0 l X.f_Course_all_strands X.fd_Course_all_strands ["self"] (spF K C F_Course_all_strands) := by
  obtain ⟨k, rfl⟩ : ∃ k, l = k + 1 := ⟨l - 1, by omega⟩
  refine (fnG_of (K := K) (C := C) 0 X.Fn_Course_all_strands sc_Course_all_strands fun cdv A outer s H E hr => ?_)
  have h64 := hr.u64
  have h65 := hr.u65
  have h1 := hr.u1
  exact (b_one (st_ret (s_op sAdd (s_fld X.fl_ahead (sv 0)) (s_fld X.fl_behind (sv 0)))))
theorem ok_Course_last_round (X : Fx K mg base C) {l : Nat} (hl : 2 ≤ l) : FnG P w K mg base CX0 l X.f_Course_last_round X.fd_Course_last_round ["self"] (spF K C F_Course_last_round) := by
  obtain ⟨k, rfl⟩ : ∃ k, l = k + 1 := ⟨l - 1, by omega⟩
  refine (fnG_of (K := K) (C := C) 0 X.Fn_Course_last_round sc_Course_last_round fun cdv A outer s H E hr => ?_)
  have h64 := hr.u64
  have h65 := hr.u65
  have h1 := hr.u1
  exact (b_one (st_ret (s_callBK (cMaxD rfl) (by rfl) X.z_max (by rfl) (sa_cons (s_lcL (own := [(("strand" : PySem.Str), 1)]) rfl sc_Course_last_round.nd (sil_any (s_meth0 (mt_cons X.cl_Course X.me_Course_all_strands (ok_Course_all_strands X (by omega)) X.b_Course_all_strands mt_nil) hr (sv 0))) (blk_ok (by kernel_rfl)) (fun _ _ _ _ _ => (g_name 1 sc_Course_last_round.nd)) (fun _ _ _ _ _ => if_no) (fun _ _ _ _ _ => (s_fld X.fl_last (sv 1)))) sa_nil) (sk_cons s_non sk_nil))))
theorem ok_Course_total (X : Fx K mg base C) {l : Nat} (hl : 2 ≤ l) : FnG P w K mg base CX0 l X.f_Course_total X.fd_Course_total ["self"] (spF K C F_Course_total) := by
  obtain ⟨k, rfl⟩ : ∃ k, l = k + 1 := ⟨l - 1, by omega⟩
  refine (fnG_of (K := K) (C := C) 0 X.Fn_Course_total sc_Course_total fun cdv A outer s H E hr => ?_)
  have h64 := hr.u64
  have h65 := hr.u65
  have h1 := hr.u1
  exact (b_one (st_ret (s_callB (cSum rfl) (by rfl) X.z_sum (by rfl) (sa_cons (s_lcL (own := [(("strand" : PySem.Str), 1)]) rfl sc_Course_total.nd (sil_any (s_meth0 (mt_cons X.cl_Course X.me_Course_all_strands (ok_Course_all_strands X (by omega)) X.b_Course_all_strands mt_nil) hr (sv 0))) (blk_ok (by kernel_rfl)) (fun _ _ _ _ _ => (g_name 1 sc_Course_total.nd)) (fun _ _ _ _ _ => if_no) (fun _ _ _ _ _ => (s_fld X.fl_many (sv 1)))) sa_nil))))
theorem ok_Course___init__ (X : Fx K mg base C) {l : Nat} (hl : 1 ≤ l) : FnG P w K mg base CX0 l X.f_Course___init__ X.fd_Course___init__ ["self", "finish", "ahead", "behind"] (spF K C F_Course___init__) := by
  obtain ⟨k, rfl⟩ : ∃ k, l = k + 1 := ⟨l - 1, by omega⟩
  refine (fnG_of (K := K) (C := C) 0 X.Fn_Course___init__ sc_Course___init__ fun cdv A outer s H E hr => ?_)
  have h64 := hr.u64
  have h65 := hr.u65
  have h1 := hr.u1
  exact (b_cons (st_fld X.fl_finish (sv 0) (sv 1)) (b_cons (st_fld X.fl_ahead (sv 0) (sv 2)) (b_one (st_fld X.fl_behind (sv 0) (sv 3)))))
theorem ok_detached_course (X : Fx K mg base C) {l : Nat} (hl : 3 ≤ l) : FnG P w K mg base CX0 l X.f_detached_course X.fd_detached_course ["part"] (spF K C F_detached_course) := by
  obtain ⟨k, rfl⟩ : ∃ k, l = k + 1 := ⟨l - 1, by omega⟩
  refine (fnG_of (K := K) (C := C) 0 X.Fn_detached_course sc_detached_course fun cdv A outer s H E hr => ?_)
  have h64 := hr.u64
  have h65 := hr.u65
  have h1 := hr.u1
  exact (b_one (st_ret (s_iceD 3 (s_make 1 (k := 1) X.M_Course (ok_Course___init__ X (Nat.le_refl _)) (hr.mono (by omega)) X.m_Course X.b_Course___init__ pass0 (sa_cons s_int (sa_cons (s_meth0 (mt_cons X.cl_Course X.me_Course_all_strands (ok_Course_all_strands X (by omega)) X.b_Course_all_strands mt_nil) hr (sv 0)) (sa_cons (s_lst sa_nil) sa_nil)))))))
theorem ok_beside_course (X : Fx K mg base C) {l : Nat} (hl : 3 ≤ l) : FnG P w K mg base CX0 l X.f_beside_course X.fd_beside_course ["parts", "finish", "carrier"] (spF K C F_beside_course) := by
  obtain ⟨k, rfl⟩ : ∃ k, l = k + 1 := ⟨l - 1, by omega⟩
  refine (fnG_of (K := K) (C := C) 0 X.Fn_beside_course sc_beside_course fun cdv A outer s H E hr => ?_)
  have h64 := hr.u64
  have h65 := hr.u65
  have h1 := hr.u1
  exact (b_cons (st_par 3 4 rfl sc_beside_course.nd (sa_cons (s_new sa_nil) (sa_cons (s_new sa_nil) sa_nil))) (b_cons (st_forL PassesOwn.never rfl (sil_enumA (by rfl) X.z_enumerate (sv 0)) (g_tup rfl (gs_cons (g_name 5 sc_beside_course.nd) (gs_cons (g_name 6 sc_beside_course.nd) gs_nil))) (b_one (st_if (t_cmp sLt (sv 5) (sv 2)) (b_one (st_ex (s_bm PySem.F.plainAttrs_list PySem.F.slot_list_extend PySem.F.type_list_extend mExt (sv 3) (sa_cons (s_meth0 (mt_cons X.cl_Course X.me_Course_all_strands (ok_Course_all_strands X (by omega)) X.b_Course_all_strands mt_nil) hr (sv 6)) sa_nil) tyL))) (b_one (st_if (t_cmp (sEqE h64) (sv 5) (sv 2)) (b_cons (st_ex (s_bm PySem.F.plainAttrs_list PySem.F.slot_list_extend PySem.F.type_list_extend mExt (sv 3) (sa_cons (s_fld X.fl_ahead (sv 6)) sa_nil) tyL)) (b_one (st_ex (s_bm PySem.F.plainAttrs_list PySem.F.slot_list_extend PySem.F.type_list_extend mExt (sv 4) (sa_cons (s_fld X.fl_behind (sv 6)) sa_nil) tyL)))) (b_one (st_ex (s_bm PySem.F.plainAttrs_list PySem.F.slot_list_extend PySem.F.type_list_extend mExt (sv 4) (sa_cons (s_meth0 (mt_cons X.cl_Course X.me_Course_all_strands (ok_Course_all_strands X (by omega)) X.b_Course_all_strands mt_nil) hr (sv 6)) sa_nil) tyL)))))))) (b_one (st_ret (s_iceD 3 (s_make 1 (k := 1) X.M_Course (ok_Course___init__ X (Nat.le_refl _)) (hr.mono (by omega)) X.m_Course X.b_Course___init__ pass0 (sa_cons (sv 1) (sa_cons (sv 3) (sa_cons (sv 4) sa_nil)))))))))
theorem ok_last_to_finish (X : Fx K mg base C) {l : Nat} (hl : 1 ≤ l) : FnG P w K mg base CX0 l X.f_last_to_finish X.fd_last_to_finish ["parts"] (spF K C F_last_to_finish) := by
  obtain ⟨k, rfl⟩ : ∃ k, l = k + 1 := ⟨l - 1, by omega⟩
  refine (fnG_of (K := K) (C := C) 0 X.Fn_last_to_finish sc_last_to_finish fun cdv A outer s H E hr => ?_)
  have h64 := hr.u64
  have h65 := hr.u65
  have h1 := hr.u1
  exact (b_one (st_ret (s_callBK (cMaxX hr X.sy rfl) (by rfl) X.z_max (by rfl) (sa_cons (s_lcL (own := [(("index" : PySem.Str), 1), (("part" : PySem.Str), 2)]) rfl sc_last_to_finish.nd (sil_enumA (by rfl) X.z_enumerate (sv 0)) (blk_ok (by kernel_rfl)) (fun _ _ _ _ _ => (g_tup rfl (gs_cons (g_name 1 sc_last_to_finish.nd) (gs_cons (g_name 2 sc_last_to_finish.nd) gs_nil)))) (fun _ _ _ _ _ => if_no) (fun _ _ _ _ _ => (s_tup (sa_cons (s_fld X.fl_finish (sv 2)) (sa_cons (sv 1) sa_nil))))) sa_nil) (sk_cons (s_tup (sa_cons s_int (sa_cons s_int sa_nil))) sk_nil))))
theorem ok_joined_course (X : Fx K mg base C) {l : Nat} (hl : 4 ≤ l) : FnG P w K mg base CX0 l X.f_joined_course X.fd_joined_course ["parts"] (spF K C F_joined_course) := by
  obtain ⟨k, rfl⟩ : ∃ k, l = k + 1 := ⟨l - 1, by omega⟩
  refine (fnG_of (K := K) (C := C) 0 X.Fn_joined_course sc_joined_course fun cdv A outer s H E hr => ?_)
  have h64 := hr.u64
  have h65 := hr.u65
  have h1 := hr.u1
  exact (b_cons (st_asg (s_call (ok_last_to_finish X (by omega)) hr X.m_last_to_finish X.Fn_last_to_finish.kp X.b_last_to_finish pass0 (sa_cons (sv 0) sa_nil)) (g_tup rfl (gs_cons (g_name 1 sc_joined_course.nd) (gs_cons (g_name 2 sc_joined_course.nd) gs_nil)))) (b_one (st_ret (s_call (ok_beside_course X (by omega)) hr X.m_beside_course X.Fn_beside_course.kp X.b_beside_course pass0 (sa_cons (sv 0) (sa_cons (sv 1) (sa_cons (sv 2) sa_nil)))))))
theorem ok_first_to_finish (X : Fx K mg base C) {l : Nat} (hl : 1 ≤ l) : FnG P w K mg base CX0 l X.f_first_to_finish X.fd_first_to_finish ["parts"] (spF K C F_first_to_finish) := by
  obtain ⟨k, rfl⟩ : ∃ k, l = k + 1 := ⟨l - 1, by omega⟩
  refine (fnG_of (K := K) (C := C) 0 X.Fn_first_to_finish sc_first_to_finish fun cdv A outer s H E hr => ?_)
  have h64 := hr.u64
  have h65 := hr.u65
  have h1 := hr.u1
  exact (b_one (st_ret (s_callBK (cMinX hr X.sy rfl) (by rfl) X.z_min (by rfl) (sa_cons (s_lcL (own := [(("index" : PySem.Str), 1), (("part" : PySem.Str), 2)]) rfl sc_first_to_finish.nd (sil_enumA (by rfl) X.z_enumerate (sv 0)) (blk_ok (by kernel_rfl)) (fun _ _ _ _ _ => (g_tup rfl (gs_cons (g_name 1 sc_first_to_finish.nd) (gs_cons (g_name 2 sc_first_to_finish.nd) gs_nil)))) (fun _ _ _ _ _ => if_no) (fun _ _ _ _ _ => (s_tup (sa_cons (s_fld X.fl_finish (sv 2)) (sa_cons (sv 1) sa_nil))))) sa_nil) (sk_cons (s_tup (sa_cons s_int (sa_cons s_int sa_nil))) sk_nil))))
theorem ok_raced_course (X : Fx K mg base C) {l : Nat} (hl : 4 ≤ l) : FnG P w K mg base CX0 l X.f_raced_course X.fd_raced_course ["parts"] (spF K C F_raced_course) := by
  obtain ⟨k, rfl⟩ : ∃ k, l = k + 1 := ⟨l - 1, by omega⟩
  refine (fnG_of (K := K) (C := C) 0 X.Fn_raced_course sc_raced_course fun cdv A outer s H E hr => ?_)
  have h64 := hr.u64
  have h65 := hr.u65
  have h1 := hr.u1
  exact (b_cons (st_asg (s_call (ok_first_to_finish X (by omega)) hr X.m_first_to_finish X.Fn_first_to_finish.kp X.b_first_to_finish pass0 (sa_cons (sv 0) sa_nil)) (g_tup rfl (gs_cons (g_name 1 sc_raced_course.nd) (gs_cons (g_name 2 sc_raced_course.nd) gs_nil)))) (b_one (st_ret (s_call (ok_beside_course X (by omega)) hr X.m_beside_course X.Fn_beside_course.kp X.b_beside_course pass0 (sa_cons (sv 0) (sa_cons (sv 1) (sa_cons (sv 2) sa_nil)))))))
theorem ok_Strand___init__ (X : Fx K mg base C) {l : Nat} (hl : 1 ≤ l) : FnG P w K mg base CX0 l X.f_Strand___init__ X.fd_Strand___init__ ["self", "word", "first", "step", "many"] (spF K C F_Strand___init__) := by
  obtain ⟨k, rfl⟩ : ∃ k, l = k + 1 := ⟨l - 1, by omega⟩
  refine (fnG_of (K := K) (C := C) 0 X.Fn_Strand___init__ sc_Strand___init__ fun cdv A outer s H E hr => ?_)
  have h64 := hr.u64
  have h65 := hr.u65
  have h1 := hr.u1
  exact (b_cons (st_fld X.fl_word (sv 0) (sv 1)) (b_cons (st_fld X.fl_first (sv 0) (sv 2)) (b_cons (st_fld X.fl_step (sv 0) (sv 3)) (b_cons (st_fld X.fl_many (sv 0) (sv 4)) (b_one (st_fld X.fl_last (sv 0) (s_op sAdd (sv 2) (s_op sMul (s_op sSub (sv 4) s_int) (sv 3)))))))))
theorem ok_over_and_over (X : Fx K mg base C) {l : Nat} (hl : 3 ≤ l) : FnG P w K mg base CX0 l X.f_over_and_over X.fd_over_and_over ["singles", "step", "count"] (spF K C F_over_and_over) := by
  obtain ⟨k, rfl⟩ : ∃ k, l = k + 1 := ⟨l - 1, by omega⟩
  refine (fnG_of (K := K) (C := C) 0 X.Fn_over_and_over sc_over_and_over fun cdv A outer s H E hr => ?_)
  have h64 := hr.u64
  have h65 := hr.u65
  have h1 := hr.u1
  exact (b_one (st_ret (s_lcL (own := [(("single" : PySem.Str), 3)]) rfl sc_over_and_over.nd (sil_any (sv 0)) (blk_ok (by kernel_rfl)) (fun _ _ _ _ _ => (g_name 3 sc_over_and_over.nd)) (fun _ _ _ _ _ => if_no) (fun _ _ _ _ _ => (s_iceD 3 (s_make 0 (k := 1) X.M_Strand (ok_Strand___init__ X (Nat.le_refl _)) (hr.mono (by omega)) X.m_Strand X.b_Strand___init__ pass0 (sa_cons (s_fld X.fl_word (sv 3)) (sa_cons (s_fld X.fl_first (sv 3)) (sa_cons (sv 1) (sa_cons (sv 2) sa_nil))))))))))
theorem ok_once (X : Fx K mg base C) {l : Nat} (hl : 3 ≤ l) : FnG P w K mg base CX0 l X.f_once X.fd_once ["word", "at"] (spF K C F_once) := by
  obtain ⟨k, rfl⟩ : ∃ k, l = k + 1 := ⟨l - 1, by omega⟩
  refine (fnG_of (K := K) (C := C) 0 X.Fn_once sc_once fun cdv A outer s H E hr => ?_)
  have h64 := hr.u64
  have h65 := hr.u65
  have h1 := hr.u1
  exact (b_one (st_ret (s_iceD 3 (s_make 0 (k := 1) X.M_Strand (ok_Strand___init__ X (Nat.le_refl _)) (hr.mono (by omega)) X.m_Strand X.b_Strand___init__ pass0 (sa_cons (sv 0) (sa_cons (sv 1) (sa_cons s_int (sa_cons s_int sa_nil))))))))
theorem ok_Strand_singles (X : Fx K mg base C) {l : Nat} (hl : 4 ≤ l) : FnG P w K mg base CX0 l X.f_Strand_singles X.fd_Strand_singles ["self"] (spF K C F_Strand_singles) := by
  obtain ⟨k, rfl⟩ : ∃ k, l = k + 1 := ⟨l - 1, by omega⟩
  refine (fnG_of (K := K) (C := C) 0 X.Fn_Strand_singles sc_Strand_singles fun cdv A outer s H E hr => ?_)
  have h64 := hr.u64
  have h65 := hr.u65
  have h1 := hr.u1
  exact (b_one (st_ret (s_lcL (own := [(("at" : PySem.Str), 1)]) rfl sc_Strand_singles.nd (sil_of (si_range3 (by rfl) X.z_range (sa_cons (s_fld X.fl_first (sv 0)) (sa_cons (s_op sAdd (s_fld X.fl_last (sv 0)) s_int) (sa_cons (s_fld X.fl_step (sv 0)) sa_nil))))) (blk_ok (by kernel_rfl)) (fun _ _ _ _ _ => (g_name 1 sc_Strand_singles.nd)) (fun _ _ _ _ _ => if_no) (fun _ _ _ _ _ => (s_call (ok_once X (by omega)) hr X.m_once X.Fn_once.kp X.b_once pass0 (sa_cons (s_fld X.fl_word (sv 0)) (sa_cons (sv 1) sa_nil)))))))
theorem ok_single_strands (X : Fx K mg base C) {l : Nat} (hl : 5 ≤ l) : FnG P w K mg base CX0 l X.f_single_strands X.fd_single_strands ["strands"] (spF K C F_single_strands) := by
  obtain ⟨k, rfl⟩ : ∃ k, l = k + 1 := ⟨l - 1, by omega⟩
  refine (fnG_of (K := K) (C := C) 0 X.Fn_single_strands sc_single_strands fun cdv A outer s H E hr => ?_)
  have h64 := hr.u64
  have h65 := hr.u65
  have h1 := hr.u1
  exact (b_one (st_ret (s_lc2L (own := [(("strand" : PySem.Str), 1), (("single" : PySem.Str), 2)]) (vs1 := [2]) rfl sc_single_strands.nd (sil_any (sv 0)) (blk_ok (by kernel_rfl)) (fun _ _ _ _ _ => (g_name 1 sc_single_strands.nd)) (fun _ _ _ _ _ => if_no) (fun _ _ _ _ _ => (si_any (s_meth0 (mt_cons X.cl_Strand X.me_Strand_singles (ok_Strand_singles X (by omega)) X.b_Strand_singles mt_nil) hr (sv 1)))) (fun _ _ _ _ _ => (g_name 2 sc_single_strands.nd)) (fun _ _ _ _ _ => if_no) (fun _ _ _ _ _ => (sv 2)))))
theorem ok_repeated_course (X : Fx K mg base C) {l : Nat} (hl : 6 ≤ l) : FnG P w K mg base CX0 l X.f_repeated_course X.fd_repeated_course ["body", "count"] (spF K C F_repeated_course) := by
  obtain ⟨k, rfl⟩ : ∃ k, l = k + 1 := ⟨l - 1, by omega⟩
  refine (fnG_ofC (K := K) (C := C) 0 X.Fn_repeated_course sc_repeated_course fun cdv A outer s H E hcv hr => ?_)
  have h64 := hr.u64
  have h65 := hr.u65
  have h1 := hr.u1
  exact (b_cons (st_set 2 sc_repeated_course.nd (s_fld X.fl_finish (sv 0))) (b_cons (st_if (t_w (w_or (t_cmp (sEqE h64) (sv 2) s_int) (w_or1 (t_cmp (sEqE h64) (sv 1) s_int)))) (b_one (st_ret (s_iceD 3 (s_make 1 (k := 1) X.M_Course (ok_Course___init__ X (Nat.le_refl _)) (hr.mono (by omega)) X.m_Course X.b_Course___init__ pass0 (sa_cons s_int (sa_cons (s_op sMul (s_fld X.fl_ahead (sv 0)) (sv 1)) (sa_cons (s_op sMul (s_fld X.fl_behind (sv 0)) (sv 1)) sa_nil))))))) b_nil) (b_cons (st_set 3 sc_repeated_course.nd (s_sortK (neg := true) X.fl_first X.tne X.tbB (hcv.symm.trans X.lc) qLam_eq hr.room (by rfl) X.z_sorted (s_call (ok_single_strands X (by omega)) hr X.m_single_strands X.Fn_single_strands.kp X.b_single_strands pass0 (sa_cons (s_fld X.fl_ahead (sv 0)) sa_nil)) (by decide) (fun _ _ _ _ _ => rfl) (fun _ => rfl))) (b_cons (st_set 4 sc_repeated_course.nd (s_sortK (neg := false) (p3 := ⟨0, 0, 0, 0⟩) X.fl_first X.tne X.tbB (hcv.symm.trans X.lc) qLam_eq hr.room (by rfl) X.z_sorted (s_call (ok_single_strands X (by omega)) hr X.m_single_strands X.Fn_single_strands.kp X.b_single_strands pass0 (sa_cons (s_fld X.fl_behind (sv 0)) sa_nil)) (by decide) (fun _ _ _ _ _ => rfl) (fun _ => rfl))) (b_one (st_ret (s_iceD 3 (s_make 1 (k := 1) X.M_Course (ok_Course___init__ X (Nat.le_refl _)) (hr.mono (by omega)) X.m_Course X.b_Course___init__ pass0 (sa_cons (s_op sMul (sv 1) (sv 2)) (sa_cons (s_call (ok_over_and_over X (by omega)) hr X.m_over_and_over X.Fn_over_and_over.kp X.b_over_and_over pass0 (sa_cons (sv 3) (sa_cons (sv 2) (sa_cons (sv 1) sa_nil)))) (sa_cons (s_call (ok_over_and_over X (by omega)) hr X.m_over_and_over X.Fn_over_and_over.kp X.b_over_and_over pass0 (sa_cons (sv 4) (sa_cons (sv 2) (sa_cons (sv 1) sa_nil)))) sa_nil)))))))))))
theorem ok_silent_course (X : Fx K mg base C) {l : Nat} (hl : 3 ≤ l) : FnG P w K mg base CX0 l X.f_silent_course X.fd_silent_course ["rounds"] (spF K C F_silent_course) := by
  obtain ⟨k, rfl⟩ : ∃ k, l = k + 1 := ⟨l - 1, by omega⟩
  refine (fnG_of (K := K) (C := C) 0 X.Fn_silent_course sc_silent_course fun cdv A outer s H E hr => ?_)
  have h64 := hr.u64
  have h65 := hr.u65
  have h1 := hr.u1
  exact (b_one (st_ret (s_iceD 3 (s_make 1 (k := 1) X.M_Course (ok_Course___init__ X (Nat.le_refl _)) (hr.mono (by omega)) X.m_Course X.b_Course___init__ pass0 (sa_cons (sv 0) (sa_cons (s_lst sa_nil) (sa_cons (s_lst sa_nil) sa_nil)))))))
theorem ok_Strand_moved (X : Fx K mg base C) {l : Nat} (hl : 3 ≤ l) : FnG P w K mg base CX0 l X.f_Strand_moved X.fd_Strand_moved ["self", "by"] (spF K C F_Strand_moved) := by
  obtain ⟨k, rfl⟩ : ∃ k, l = k + 1 := ⟨l - 1, by omega⟩
  refine (fnG_of (K := K) (C := C) 0 X.Fn_Strand_moved sc_Strand_moved fun cdv A outer s H E hr => ?_)
  have h64 := hr.u64
  have h65 := hr.u65
  have h1 := hr.u1
  exact (b_one (st_ret (s_iceD 3 (s_make 0 (k := 1) X.M_Strand (ok_Strand___init__ X (Nat.le_refl _)) (hr.mono (by omega)) X.m_Strand X.b_Strand___init__ pass0 (sa_cons (s_fld X.fl_word (sv 0)) (sa_cons (s_op sAdd (s_fld X.fl_first (sv 0)) (sv 1)) (sa_cons (s_fld X.fl_step (sv 0)) (sa_cons (s_fld X.fl_many (sv 0)) sa_nil))))))))
theorem ok_turned_course (X : Fx K mg base C) {l : Nat} (hl : 4 ≤ l) : FnG P w K mg base CX0 l X.f_turned_course X.fd_turned_course ["parts"] (spF K C F_turned_course) := by
  obtain ⟨k, rfl⟩ : ∃ k, l = k + 1 := ⟨l - 1, by omega⟩
  refine (fnG_of (K := K) (C := C) 0 X.Fn_turned_course sc_turned_course fun cdv A outer s H E hr => ?_)
  have h64 := hr.u64
  have h65 := hr.u65
  have h1 := hr.u1
  exact (b_cons (st_set 1 sc_turned_course.nd s_int) (b_cons (st_par 2 3 rfl sc_turned_course.nd (sa_cons (s_new sa_nil) (sa_cons (s_lst sa_nil) sa_nil))) (b_cons (st_forL PassesOwn.never rfl (sil_any (sv 0)) (g_name 4 sc_turned_course.nd) (b_cons (st_ex (s_bm PySem.F.plainAttrs_list PySem.F.slot_list_extend PySem.F.type_list_extend mExt (sv 2) (sa_cons (s_lcL (own := [(("strand" : PySem.Str), 5)]) rfl sc_turned_course.nd (sil_any (s_fld X.fl_ahead (sv 4))) (blk_ok (by kernel_rfl)) (fun _ _ _ _ _ => (g_name 5 sc_turned_course.nd)) (fun _ _ _ _ _ => if_no) (fun _ _ _ _ _ => (s_meth (mt_cons X.cl_Strand X.me_Strand_moved (ok_Strand_moved X (by omega)) X.b_Strand_moved mt_nil) hr (sv 5) (sa_cons (sv 1) sa_nil)))) sa_nil) tyL)) (b_cons (st_set 3 sc_turned_course.nd (s_op sAdd (s_lcL (own := [(("strand" : PySem.Str), 5)]) rfl sc_turned_course.nd (sil_any (s_fld X.fl_behind (sv 4))) (blk_ok (by kernel_rfl)) (fun _ _ _ _ _ => (g_name 5 sc_turned_course.nd)) (fun _ _ _ _ _ => if_no) (fun _ _ _ _ _ => (s_meth (mt_cons X.cl_Strand X.me_Strand_moved (ok_Strand_moved X (by omega)) X.b_Strand_moved mt_nil) hr (sv 5) (sa_cons (sv 1) sa_nil)))) (sv 3))) (b_one (st_set 1 sc_turned_course.nd (s_op sAdd (sv 1) (s_fld X.fl_finish (sv 4)))))))) (b_one (st_ret (s_iceD 3 (s_make 1 (k := 1) X.M_Course (ok_Course___init__ X (Nat.le_refl _)) (hr.mono (by omega)) X.m_Course X.b_Course___init__ pass0 (sa_cons (sv 1) (sa_cons (sv 2) (sa_cons (sv 3) sa_nil))))))))))
theorem ok_word_course (X : Fx K mg base C) {l : Nat} (hl : 4 ≤ l) : FnG P w K mg base CX0 l X.f_word_course X.fd_word_course ["word"] (spF K C F_word_course) := by
  obtain ⟨k, rfl⟩ : ∃ k, l = k + 1 := ⟨l - 1, by omega⟩
  refine (fnG_of (K := K) (C := C) 0 X.Fn_word_course sc_word_course fun cdv A outer s H E hr => ?_)
  have h64 := hr.u64
  have h65 := hr.u65
  have h1 := hr.u1
  exact (b_one (st_ret (s_iceD 3 (s_make 1 (k := 1) X.M_Course (ok_Course___init__ X (Nat.le_refl _)) (hr.mono (by omega)) X.m_Course X.b_Course___init__ pass0 (sa_cons s_int (sa_cons (s_lst (sa_cons (s_call (ok_once X (by omega)) hr X.m_once X.Fn_once.kp X.b_once pass0 (sa_cons (sv 0) (sa_cons s_int sa_nil))) sa_nil)) (sa_cons (s_lst sa_nil) sa_nil)))))))
theorem ok_course_of (X : Fx K mg base C) : ∀ (n : Nat) {l : Nat}, 6 + n ≤ l → FnG P w K mg base CX0 l X.f_course_of X.fd_course_of ["program"] (spF K C (F_course_of n))
  | 0, l, _ => FnG.none
  | n + 1, l, hl => by
    obtain ⟨k, rfl⟩ : ∃ k, l = k + 1 := ⟨l - 1, by omega⟩
    have IH : FnG P w K mg base CX0 k X.f_course_of X.fd_course_of ["program"] (spF K C (F_course_of n)) := ok_course_of X n (by omega)
    refine (fnG_of (K := K) (C := C) 0 X.Fn_course_of sc_course_of fun cdv A outer s H E hr => ?_)
    have h64 := hr.u64
    have h65 := hr.u65
    have h1 := hr.u1
    exact (b_cons (st_set 1 sc_course_of.nd (s_ix (sIx h1) (sv 0) s_int)) (b_cons (st_if (t_cmp (sEqE h64) (sv 1) s_str) (b_one (st_ret (s_call (ok_word_course X (by omega)) hr X.m_word_course X.Fn_word_course.kp X.b_word_course pass0 (sa_cons (s_ix (sIx h1) (sv 0) s_int) sa_nil)))) b_nil) (b_cons (st_if (t_cmp (sEqE h64) (sv 1) s_str) (b_one (st_ret (s_call (ok_silent_course X (by omega)) hr X.m_silent_course X.Fn_silent_course.kp X.b_silent_course pass0 (sa_cons (s_ix (sIx h1) (sv 0) s_int) sa_nil)))) b_nil) (b_cons (st_if (t_cmp (sEqE h64) (sv 1) s_str) (b_one (st_ret (s_call (ok_detached_course X (by omega)) hr X.m_detached_course X.Fn_detached_course.kp X.b_detached_course pass0 (sa_cons (s_call IH hr X.m_course_of X.Fn_course_of.kp X.b_course_of pass0 (sa_cons (s_ix (sIx h1) (sv 0) s_int) sa_nil)) sa_nil)))) b_nil) (b_cons (st_if (t_cmp (sEqE h64) (sv 1) s_str) (b_one (st_ret (s_call (ok_repeated_course X (by omega)) hr X.m_repeated_course X.Fn_repeated_course.kp X.b_repeated_course pass0 (sa_cons (s_call IH hr X.m_course_of X.Fn_course_of.kp X.b_course_of pass0 (sa_cons (s_ix (sIx h1) (sv 0) s_int) sa_nil)) (sa_cons (s_ix (sIx h1) (sv 0) s_int) sa_nil))))) b_nil) (b_cons (st_setLcL 2 (own := [(("part" : PySem.Str), 3)]) rfl sc_course_of.nd (sil_any (s_ix (sIx h1) (sv 0) s_int)) (blk_ok (by kernel_rfl)) (fun _ _ _ _ _ => (g_name 3 sc_course_of.nd)) (fun _ _ _ _ _ => if_no) (fun _ _ _ _ _ => (s_call IH hr X.m_course_of X.Fn_course_of.kp X.b_course_of pass0 (sa_cons (sv 3) sa_nil))) (by rfl)) (b_cons (st_if (t_cmp (sEqE h64) (sv 1) s_str) (b_one (st_ret (s_call (ok_turned_course X (by omega)) hr X.m_turned_course X.Fn_turned_course.kp X.b_turned_course pass0 (sa_cons (sv 2) sa_nil)))) b_nil) (b_cons (st_if (t_cmp (sEqE h64) (sv 1) s_str) (b_one (st_ret (s_call (ok_joined_course X (by omega)) hr X.m_joined_course X.Fn_joined_course.kp X.b_joined_course pass0 (sa_cons (sv 2) sa_nil)))) b_nil) (b_one (st_ret (s_call (ok_raced_course X (by omega)) hr X.m_raced_course X.Fn_raced_course.kp X.b_raced_course pass0 (sa_cons (sv 2) sa_nil))))))))))))
theorem ok_is_body (X : Fx K mg base C) {l : Nat} (hl : 27 ≤ l) : FnG P w K mg base CX0 l X.f_is_body X.fd_is_body ["program"] (spF K C F_is_body) := by
  obtain ⟨k, rfl⟩ : ∃ k, l = k + 1 := ⟨l - 1, by omega⟩
  refine (fnG_of (K := K) (C := C) 0 X.Fn_is_body sc_is_body fun cdv A outer s H E hr => ?_)
  have h64 := hr.u64
  have h65 := hr.u65
  have h1 := hr.u1
  exact (b_cons (st_set 1 sc_is_body.nd (s_call (ok_course_of X 20 (by omega)) hr X.m_course_of X.Fn_course_of.kp X.b_course_of pass0 (sa_cons (sv 0) sa_nil))) (b_cons (st_if (t_w (w_or (t_not (t_ch sLe sLe s_int (s_fld X.fl_finish (sv 1)) (s_gint (by rfl) X.c_MOST_BODY_FINISH))) (w_or1 (t_cmp sGt (s_meth0 (mt_cons X.cl_Course X.me_Course_total (ok_Course_total X (by omega)) X.b_Course_total mt_nil) hr (sv 1)) (s_gint (by rfl) X.c_MOST_BODY_WORDS))))) (b_one (st_ret s_bl)) b_nil) (b_one (st_ret (s_or (s_cmp (sEqE h64) (s_meth0 (mt_cons X.cl_Course X.me_Course_total (ok_Course_total X (by omega)) X.b_Course_total mt_nil) hr (sv 1)) s_int) (s_one (s_cmp sLe (s_meth0 (mt_cons X.cl_Course X.me_Course_last_round (ok_Course_last_round X (by omega)) X.b_Course_last_round mt_nil) hr (sv 1)) (s_gint (by rfl) X.c_MOST_BODY_ROUND))))))))
theorem ok_are_parts (X : Fx K mg base C) {l : Nat} (hl : 1 ≤ l) : FnG P w K mg base CX0 l X.f_are_parts X.fd_are_parts ["value", "least", "most"] (spF K C F_are_parts) := by
  obtain ⟨k, rfl⟩ : ∃ k, l = k + 1 := ⟨l - 1, by omega⟩
  refine (fnG_of (K := K) (C := C) 0 X.Fn_are_parts sc_are_parts fun cdv A outer s H E hr => ?_)
  have h64 := hr.u64
  have h65 := hr.u65
  have h1 := hr.u1
  exact (b_one (st_ret (s_and (s_isi .tup (by rfl) X.z_isinstance (by rfl) X.z_tuple (by rfl) (sv 0)) (s_one (s_ch sLe sLe (sv 1) (s_callB cLen (by rfl) X.z_len (by rfl) (sa_cons (sv 0) sa_nil)) (sv 2))))))
theorem ok_is_integer (X : Fx K mg base C) {l : Nat} (hl : 1 ≤ l) : FnG P w K mg base CX0 l X.f_is_integer X.fd_is_integer ["value"] (spF K C F_is_integer) := by
  obtain ⟨k, rfl⟩ : ∃ k, l = k + 1 := ⟨l - 1, by omega⟩
  refine (fnG_of (K := K) (C := C) 0 X.Fn_is_integer sc_is_integer fun cdv A outer s H E hr => ?_)
  have h64 := hr.u64
  have h65 := hr.u65
  have h1 := hr.u1
  exact (b_one (st_ret (s_and (s_isi .int (by rfl) X.z_isinstance (by rfl) X.z_int (by rfl) (sv 0)) (s_one (s_not (s_isi .bl (by rfl) X.z_isinstance (by rfl) X.z_bool (by rfl) (sv 0)))))))
theorem ok_is_count (X : Fx K mg base C) {l : Nat} (hl : 2 ≤ l) : FnG P w K mg base CX0 l X.f_is_count X.fd_is_count ["value", "least"] (spF K C F_is_count) := by
  obtain ⟨k, rfl⟩ : ∃ k, l = k + 1 := ⟨l - 1, by omega⟩
  refine (fnG_of (K := K) (C := C) 0 X.Fn_is_count sc_is_count fun cdv A outer s H E hr => ?_)
  have h64 := hr.u64
  have h65 := hr.u65
  have h1 := hr.u1
  exact (b_one (st_ret (s_and (s_call (ok_is_integer X (by omega)) hr X.m_is_integer X.Fn_is_integer.kp X.b_is_integer pass0 (sa_cons (sv 0) sa_nil)) (s_one (s_ch sLe sLe (sv 1) (sv 0) (s_gint (by rfl) X.c_MOST_COUNT))))))
theorem ok_is_word (X : Fx K mg base C) {l : Nat} (hl : 1 ≤ l) : FnG P w K mg base CX0 l X.f_is_word X.fd_is_word ["value"] (spF K C F_is_word) := by
  obtain ⟨k, rfl⟩ : ∃ k, l = k + 1 := ⟨l - 1, by omega⟩
  refine (fnG_of (K := K) (C := C) 0 X.Fn_is_word sc_is_word fun cdv A outer s H E hr => ?_)
  have h64 := hr.u64
  have h65 := hr.u65
  have h1 := hr.u1
  exact (b_cons (st_if (t_w (w_or (t_not (t_tru (s_isi .str (by rfl) X.z_isinstance (by rfl) X.z_str (by rfl) (sv 0)))) (w_or1 (t_not (t_ch sLe sLe s_int (s_callB cLen (by rfl) X.z_len (by rfl) (sa_cons (sv 0) sa_nil)) (s_gint (by rfl) X.c_MOST_LETTERS)))))) (b_one (st_ret s_bl)) b_nil) (b_one (st_ret (s_callB (cAll rfl) (by rfl) X.z_all (by rfl) (sa_cons (s_lcL (own := [(("letter" : PySem.Str), 1)]) rfl sc_is_word.nd (sil_any (sv 0)) (blk_ok (by kernel_rfl)) (fun _ _ _ _ _ => (g_name 1 sc_is_word.nd)) (fun _ _ _ _ _ => if_no) (fun _ _ _ _ _ => (s_ch sLe sLe s_str (sv 1) s_str))) sa_nil)))))
theorem ok_is_node (X : Fx K mg base C) {l : Nat} (hl : 3 ≤ l) : FnG P w K mg base CX0 l X.f_is_node X.fd_is_node ["value"] (spF K C F_is_node) := by
  obtain ⟨k, rfl⟩ : ∃ k, l = k + 1 := ⟨l - 1, by omega⟩
  refine (fnG_of (K := K) (C := C) 0 X.Fn_is_node sc_is_node fun cdv A outer s H E hr => ?_)
  have h64 := hr.u64
  have h65 := hr.u65
  have h1 := hr.u1
  exact (b_cons (st_if (t_w (w_or (t_not (t_tru (s_isi .tup (by rfl) X.z_isinstance (by rfl) X.z_tuple (by rfl) (sv 0)))) (w_or1 (t_cmp (sEqE h64) (sv 0) (s_tup sa_nil))))) (b_one (st_ret s_bl)) b_nil) (b_cons (st_set 1 sc_is_node.nd (s_ix (sIx h1) (sv 0) s_int)) (b_cons (st_if (t_cmp (sEqE h64) (sv 1) s_str) (b_one (st_ret (s_and (s_cmp (sEqE h64) (s_callB cLen (by rfl) X.z_len (by rfl) (sa_cons (sv 0) sa_nil)) s_int) (s_one (s_call (ok_is_count X (by omega)) hr X.m_is_count X.Fn_is_count.kp X.b_is_count pass0 (sa_cons (s_ix (sIx h1) (sv 0) s_int) (sa_cons s_int sa_nil))))))) b_nil) (b_cons (st_if (t_cmp (sNe h64) (s_callB cLen (by rfl) X.z_len (by rfl) (sa_cons (sv 0) sa_nil)) s_int) (b_one (st_ret s_bl)) b_nil) (b_cons (st_if (t_cmp (sEqE h64) (sv 1) s_str) (b_one (st_ret (s_call (ok_is_word X (by omega)) hr X.m_is_word X.Fn_is_word.kp X.b_is_word pass0 (sa_cons (s_ix (sIx h1) (sv 0) s_int) sa_nil)))) b_nil) (b_cons (st_if (t_cmp (sEqE h64) (sv 1) s_str) (b_one (st_ret (s_call (ok_is_count X (by omega)) hr X.m_is_count X.Fn_is_count.kp X.b_is_count pass0 (sa_cons (s_ix (sIx h1) (sv 0) s_int) (sa_cons s_int sa_nil))))) b_nil) (b_cons (st_if (t_cmp (sEqE h64) (sv 1) s_str) (b_one (st_ret (s_call (ok_are_parts X (by omega)) hr X.m_are_parts X.Fn_are_parts.kp X.b_are_parts pass0 (sa_cons (s_ix (sIx h1) (sv 0) s_int) (sa_cons s_int (sa_cons (s_gint (by rfl) X.c_MOST_PARTS) sa_nil)))))) b_nil) (b_cons (st_if (t_w (w_or (t_cmp (sEqE h64) (sv 1) s_str) (w_or1 (t_cmp (sEqE h64) (sv 1) s_str)))) (b_one (st_ret (s_call (ok_are_parts X (by omega)) hr X.m_are_parts X.Fn_are_parts.kp X.b_are_parts pass0 (sa_cons (s_ix (sIx h1) (sv 0) s_int) (sa_cons s_int (sa_cons (s_gint (by rfl) X.c_MOST_BESIDE) sa_nil)))))) b_nil) (b_one (st_ret (s_cmp (sEqE h64) (sv 1) s_str)))))))))))
theorem ok_is_program (X : Fx K mg base C) {l : Nat} (hl : 28 ≤ l) : FnG P w K mg base CX0 l X.f_is_program X.fd_is_program ["value"] (spF K C F_is_program) := by
  obtain ⟨k, rfl⟩ : ∃ k, l = k + 1 := ⟨l - 1, by omega⟩
  refine (fnG_of (K := K) (C := C) 0 X.Fn_is_program sc_is_program fun cdv A outer s H E hr => ?_)
  have h64 := hr.u64
  have h65 := hr.u65
  have h1 := hr.u1
  exact (b_cons (st_set 1 sc_is_program.nd (s_new (sa_cons (s_tup (sa_cons (sv 0) (sa_cons s_int (sa_cons s_bl sa_nil)))) sa_nil))) (b_cons (st_set 2 sc_is_program.nd (s_new sa_nil)) (b_cons (st_set 3 sc_is_program.nd s_int) (b_cons (st_wh 200 PassesOwn.never (t_tru (sv 1)) (b_cons (st_asg (s_bm0 PySem.F.plainAttrs_list PySem.F.slot_list_pop PySem.F.type_list_pop mPop (sv 1) tyL) (g_tup rfl (gs_cons (g_name 4 sc_is_program.nd) (gs_cons (g_name 5 sc_is_program.nd) (gs_cons (g_name 6 sc_is_program.nd) gs_nil))))) (b_cons (st_set 3 sc_is_program.nd (s_op sAdd (sv 3) s_int)) (b_cons (st_if (t_w (w_or (t_cmp sGt (sv 3) (s_gint (by rfl) X.c_MOST_NODES)) (w_or (t_cmp sGt (sv 5) (s_gint (by rfl) X.c_MOST_DEPTH)) (w_or1 (t_not (t_tru (s_call (ok_is_node X (by omega)) hr X.m_is_node X.Fn_is_node.kp X.b_is_node pass0 (sa_cons (sv 4) sa_nil)))))))) (b_one (st_ret s_bl)) b_nil) (b_cons (st_if (t_cmp (sEqE h64) (s_ix (sIx h1) (sv 4) s_int) s_str) (b_cons (st_if (t_w (w_or (t_tru (sv 6)) (w_or1 (t_cmp (sEqE h64) (s_callB cLen (by rfl) X.z_len (by rfl) (sa_cons (sv 2) sa_nil)) (s_gint (by rfl) X.c_MOST_LOOPS))))) (b_one (st_ret s_bl)) b_nil) (b_one (st_ex (s_bm PySem.F.plainAttrs_list PySem.F.slot_list_append PySem.F.type_list_append mApp (sv 2) (sa_cons (s_ix (sIx h1) (sv 4) s_int) sa_nil) tyL)))) b_nil) (b_cons (st_set 7 sc_is_program.nd (s_or (sv 6) (s_one (s_cmp (sEqE h64) (s_ix (sIx h1) (sv 4) s_int) s_str)))) (b_one (st_ex (s_bm PySem.F.plainAttrs_list PySem.F.slot_list_extend PySem.F.type_list_extend mExt (sv 1) (sa_cons (s_lcL (own := [(("child" : PySem.Str), 8)]) rfl sc_is_program.nd (sil_any (s_call (ok_children X (by omega)) hr X.m_children X.Fn_children.kp X.b_children pass0 (sa_cons (sv 4) sa_nil))) (blk_ok (by kernel_rfl)) (fun _ _ _ _ _ => (g_name 8 sc_is_program.nd)) (fun _ _ _ _ _ => if_no) (fun _ _ _ _ _ => (s_tup (sa_cons (sv 8) (sa_cons (s_op sAdd (sv 5) s_int) (sa_cons (sv 7) sa_nil)))))) sa_nil) tyL))))))))) (b_one (st_ret (s_callB (cAll rfl) (by rfl) X.z_all (by rfl) (sa_cons (s_lcL (own := [(("body" : PySem.Str), 9)]) rfl sc_is_program.nd (sil_any (sv 2)) (blk_ok (by kernel_rfl)) (fun _ _ _ _ _ => (g_name 9 sc_is_program.nd)) (fun _ _ _ _ _ => if_no) (fun _ _ _ _ _ => (s_call (ok_is_body X (by omega)) hr X.m_is_body X.Fn_is_body.kp X.b_is_body pass0 (sa_cons (sv 9) sa_nil)))) sa_nil))))))))
theorem ok__law_right (X : Fx K mg base C) {l : Nat} (hl : 29 ≤ l) : FnG P w K mg base CX0 l X.f__law_right X.fd__law_right ["pot"] (spF K C F__law_right) := by
  obtain ⟨k, rfl⟩ : ∃ k, l = k + 1 := ⟨l - 1, by omega⟩
  refine (fnG_of (K := K) (C := C) 0 X.Fn__law_right sc__law_right fun cdv A outer s H E hr => ?_)
  have h64 := hr.u64
  have h65 := hr.u65
  have h1 := hr.u1
  exact (b_cons (st_set 1 sc__law_right.nd (s_call (ok__law_word X (by omega)) hr X.m__law_word X.Fn__law_word.kp X.b__law_word pass0 (sa_cons (sv 0) sa_nil))) (b_cons (st_forL PassesOwn.never rfl (sil_any (s_tup (sa_cons s_int (sa_cons s_int (sa_cons s_int (sa_cons s_int sa_nil)))))) (g_name 2 sc__law_right.nd) (b_cons (st_set 3 sc__law_right.nd (s_call (ok__law_of_nodes X (by omega)) hr X.m__law_of_nodes X.Fn__law_of_nodes.kp X.b__law_of_nodes pass0 (sa_cons (sv 0) (sa_cons (sv 2) sa_nil)))) (b_one (st_if (t_cmp (sNe h64) (s_call (ok_is_program X (by omega)) hr X.m_is_program X.Fn_is_program.kp X.b_is_program pass0 (sa_cons (sv 3) sa_nil)) (s_cmp sLt (s_call (ok__law_size X (by omega)) hr X.m__law_size X.Fn__law_size.kp X.b__law_size pass0 (sa_cons (sv 3) sa_nil)) s_int)) (b_one (st_ret s_bl)) b_nil)))) (b_cons (st_forL PassesOwn.never rfl (sil_any (s_tup (sa_cons s_int (sa_cons s_int (sa_cons s_int sa_nil))))) (g_name 4 sc__law_right.nd) (b_one (st_if (t_cmp (sNe h64) (s_call (ok_is_program X (by omega)) hr X.m_is_program X.Fn_is_program.kp X.b_is_program pass0 (sa_cons (s_call (ok__law_deep X (by omega)) hr X.m__law_deep X.Fn__law_deep.kp X.b__law_deep pass0 (sa_cons (sv 0) (sa_cons (sv 4) sa_nil))) sa_nil)) (s_cmp sLt (sv 4) s_int)) (b_one (st_ret s_bl)) b_nil))) (b_cons (st_forL PassesOwn.never rfl (sil_any (s_tup (sa_cons s_int (sa_cons s_int sa_nil)))) (g_name 5 sc__law_right.nd) (b_one (st_if (t_cmp (sNe h64) (s_call (ok_is_program X (by omega)) hr X.m_is_program X.Fn_is_program.kp X.b_is_program pass0 (sa_cons (s_tup (sa_cons s_str (sa_cons (s_callTy cTuple (by rfl) X.z_tuple (by rfl) (sa_cons (s_lcL (own := [(("part" : PySem.Str), 14)]) rfl sc__law_right.nd (sil_of (si_range1 (by rfl) X.z_range (sa_cons (sv 5) sa_nil))) (blk_ok (by kernel_rfl)) (fun _ _ _ _ _ => (g_name 14 sc__law_right.nd)) (fun _ _ _ _ _ => if_no) (fun _ _ _ _ _ => (s_call (ok__law_with_body X (by omega)) hr X.m__law_with_body X.Fn__law_with_body.kp X.b__law_with_body pass0 (sa_cons (sv 0) (sa_cons (s_tup (sa_cons s_str (sa_cons s_int sa_nil))) sa_nil))))) sa_nil)) sa_nil))) sa_nil)) (s_cmp sLt (sv 5) s_int)) (b_one (st_ret s_bl)) b_nil))) (b_cons (st_forL PassesOwn.never rfl (sil_any (s_tup (sa_cons (s_tup (sa_cons s_str (sa_cons s_int sa_nil))) (sa_cons (s_tup (sa_cons s_str (sa_cons s_int sa_nil))) (sa_cons (s_tup (sa_cons s_str (sa_cons s_int sa_nil))) sa_nil))))) (g_tup rfl (gs_cons (g_name 6 sc__law_right.nd) (gs_cons (g_name 7 sc__law_right.nd) gs_nil))) (b_cons (st_setLcL 8 (own := [(("many" : PySem.Str), 5)]) rfl sc__law_right.nd (sil_any (s_tup (sa_cons s_int (sa_cons s_int (sa_cons (sv 7) (sa_cons (s_op sAdd (sv 7) s_int) sa_nil)))))) (blk_ok (by kernel_rfl)) (fun _ _ _ _ _ => (g_name 5 sc__law_right.nd)) (fun _ _ _ _ _ => if_no) (fun _ _ _ _ _ => (s_call (ok_is_program X (by omega)) hr X.m_is_program X.Fn_is_program.kp X.b_is_program pass0 (sa_cons (s_tup (sa_cons (sv 6) (sa_cons (s_op sMul2 (s_tup (sa_cons (s_tup (sa_cons s_str (sa_cons (sv 1) sa_nil))) sa_nil)) (sv 5)) sa_nil))) sa_nil))) (by rfl)) (b_one (st_if (t_cmp (sNe h64) (sv 8) (s_lst (sa_cons (s_cmp (sEqE h64) (sv 6) s_str) (sa_cons s_bl (sa_cons s_bl (sa_cons s_bl sa_nil)))))) (b_one (st_ret s_bl)) b_nil)))) (b_cons (st_forL PassesOwn.never rfl (sil_any (s_call (ok__law_bodies X (by omega)) hr X.m__law_bodies X.Fn__law_bodies.kp X.b__law_bodies pass0 (sa_cons (sv 0) (sa_cons (sv 1) sa_nil)))) (g_tup rfl (gs_cons (g_name 9 sc__law_right.nd) (gs_cons (g_name 10 sc__law_right.nd) gs_nil))) (b_one (st_if (t_cmp (sNe h64) (s_call (ok_is_program X (by omega)) hr X.m_is_program X.Fn_is_program.kp X.b_is_program pass0 (sa_cons (s_call (ok__law_with_body X (by omega)) hr X.m__law_with_body X.Fn__law_with_body.kp X.b__law_with_body pass0 (sa_cons (sv 0) (sa_cons (sv 9) sa_nil))) sa_nil)) (sv 10)) (b_one (st_ret s_bl)) b_nil))) (b_cons (st_setLcL 11 (own := [(("number" : PySem.Str), 15)]) rfl sc__law_right.nd (sil_any (s_tup (sa_cons s_int (sa_cons s_int (sa_cons (s_op sPow s_int s_int) (sa_cons (s_op sAdd (s_op sPow s_int s_int) s_int) sa_nil)))))) (blk_ok (by kernel_rfl)) (fun _ _ _ _ _ => (g_name 15 sc__law_right.nd)) (fun _ _ _ _ _ => if_no) (fun _ _ _ _ _ => (s_call (ok_is_program X (by omega)) hr X.m_is_program X.Fn_is_program.kp X.b_is_program pass0 (sa_cons (s_tup (sa_cons s_str (sa_cons (sv 15) sa_nil))) sa_nil))) (by rfl)) (b_cons (st_setLcL 12 (own := [(("number" : PySem.Str), 15)]) rfl sc__law_right.nd (sil_any (s_tup (sa_cons (s_un sNeg s_int) (sa_cons s_int (sa_cons (s_op sPow s_int s_int) (sa_cons (s_op sAdd (s_op sPow s_int s_int) s_int) sa_nil)))))) (blk_ok (by kernel_rfl)) (fun _ _ _ _ _ => (g_name 15 sc__law_right.nd)) (fun _ _ _ _ _ => if_no) (fun _ _ _ _ _ => (s_call (ok_is_program X (by omega)) hr X.m_is_program X.Fn_is_program.kp X.b_is_program pass0 (sa_cons (s_tup (sa_cons s_str (sa_cons (sv 15) (sa_cons (s_tup (sa_cons s_str (sa_cons s_int sa_nil))) sa_nil)))) sa_nil))) (by rfl)) (b_cons (st_setLcL 13 (own := [(("word" : PySem.Str), 1)]) rfl sc__law_right.nd (sil_any (s_tup (sa_cons s_str (sa_cons s_str (sa_cons s_str (sa_cons s_str (sa_cons s_str sa_nil))))))) (blk_ok (by kernel_rfl)) (fun _ _ _ _ _ => (g_name 1 sc__law_right.nd)) (fun _ _ _ _ _ => if_no) (fun _ _ _ _ _ => (s_call (ok_is_program X (by omega)) hr X.m_is_program X.Fn_is_program.kp X.b_is_program pass0 (sa_cons (s_tup (sa_cons s_str (sa_cons (sv 1) sa_nil))) sa_nil))) (by rfl)) (b_one (st_ret (s_and (s_cmp (sEqE h64) (s_lst (sa_cons (sv 11) (sa_cons (sv 12) sa_nil))) (s_op sMul2 (s_lst (sa_cons (s_lst (sa_cons s_bl (sa_cons s_bl (sa_cons s_bl (sa_cons s_bl sa_nil))))) sa_nil)) s_int)) (s_one (s_cmp (sEqE h64) (sv 13) (s_lst (sa_cons s_bl (sa_cons s_bl (sa_cons s_bl (sa_cons s_bl (sa_cons s_bl sa_nil))))))))))))))))))))
theorem ok_law (X : Fx K mg base C) {l : Nat} (hl : 30 ≤ l) : FnG P w K mg base CX0 l X.f_law X.fd_law ["script"] (spF K C F_law) := by
  obtain ⟨k, rfl⟩ : ∃ k, l = k + 1 := ⟨l - 1, by omega⟩
  refine (fnG_of (K := K) (C := C) 0 X.Fn_law sc_law fun cdv A outer s H E hr => ?_)
  have h64 := hr.u64
  have h65 := hr.u65
  have h1 := hr.u1
  exact (b_cons (st_forL PassesOwn.never rfl (sil_of (si_range1 (by rfl) X.z_range (sa_cons (s_callB (cMax2 rfl) (by rfl) X.z_max (by rfl) (sa_cons s_int (sa_cons (s_callB (cMin2 rfl) (by rfl) X.z_min (by rfl) (sa_cons s_int (sa_cons (s_callB cLen (by rfl) X.z_len (by rfl) (sa_cons (sv 0) sa_nil)) sa_nil))) sa_nil))) sa_nil))) (g_name 1 sc_law.nd) (b_one (st_if (t_not (t_tru (s_call (ok__law_right X (by omega)) hr X.m__law_right X.Fn__law_right.kp X.b__law_right pass0 (sa_cons (s_call (ok__law_pot X (by omega)) hr X.m__law_pot X.Fn__law_pot.kp X.b__law_pot pass0 (sa_cons (sv 0) (sa_cons (sv 1) sa_nil))) sa_nil)))) (b_one (st_ret s_bl)) b_nil))) (b_one (st_ret s_bl)))
end
theorem all_mk {l : PySem.W.OpenLaw} {w : World} {K : PySem.W.Frag} {h : Heap} {mg : Str → Option Value} {fa : Addr} (X : K.In h) (G : h.Ns mainGlobals mg) (hfa : mg "law" = some (.ref fa))
    {C_Strand : Addr}
    {C_Course : Addr}
    {f__law_pot : Addr} {od__law_pot an__law_pot : Option Addr} {sl__law_pot : Array (Option Value)} {oc__law_pot kV__law_pot dc__law_pot pm__law_pot cd__law_pot ct__law_pot : Value}
    {f__law_take : Addr} {od__law_take an__law_take : Option Addr} {sl__law_take : Array (Option Value)} {oc__law_take kV__law_take dc__law_take pm__law_take cd__law_take ct__law_take : Value}
    {f__law_bodies : Addr} {od__law_bodies an__law_bodies : Option Addr} {sl__law_bodies : Array (Option Value)} {oc__law_bodies kV__law_bodies dc__law_bodies pm__law_bodies cd__law_bodies ct__law_bodies : Value}
    {f__law_of : Addr} {od__law_of an__law_of : Option Addr} {sl__law_of : Array (Option Value)} {oc__law_of kV__law_of dc__law_of pm__law_of cd__law_of ct__law_of : Value}
    {f__law_word : Addr} {od__law_word an__law_word : Option Addr} {sl__law_word : Array (Option Value)} {oc__law_word kV__law_word dc__law_word pm__law_word cd__law_word ct__law_word : Value}
    {f__law_leaf : Addr} {od__law_leaf an__law_leaf : Option Addr} {sl__law_leaf : Array (Option Value)} {oc__law_leaf kV__law_leaf dc__law_leaf pm__law_leaf cd__law_leaf ct__law_leaf : Value}
    {f__law_deep : Addr} {od__law_deep an__law_deep : Option Addr} {sl__law_deep : Array (Option Value)} {oc__law_deep kV__law_deep dc__law_deep pm__law_deep cd__law_deep ct__law_deep : Value}
    {f__law_of_nodes : Addr} {od__law_of_nodes an__law_of_nodes : Option Addr} {sl__law_of_nodes : Array (Option Value)} {oc__law_of_nodes kV__law_of_nodes dc__law_of_nodes pm__law_of_nodes cd__law_of_nodes ct__law_of_nodes : Value}
    {f__law_kids : Addr} {od__law_kids an__law_kids : Option Addr} {sl__law_kids : Array (Option Value)} {oc__law_kids kV__law_kids dc__law_kids pm__law_kids cd__law_kids ct__law_kids : Value}
    {f__law_nodes : Addr} {od__law_nodes an__law_nodes : Option Addr} {sl__law_nodes : Array (Option Value)} {oc__law_nodes kV__law_nodes dc__law_nodes pm__law_nodes cd__law_nodes ct__law_nodes : Value}
    {f__law_size : Addr} {od__law_size an__law_size : Option Addr} {sl__law_size : Array (Option Value)} {oc__law_size kV__law_size dc__law_size pm__law_size cd__law_size ct__law_size : Value}
    {f__law_with_body : Addr} {od__law_with_body an__law_with_body : Option Addr} {sl__law_with_body : Array (Option Value)} {oc__law_with_body kV__law_with_body dc__law_with_body pm__law_with_body cd__law_with_body ct__law_with_body : Value}
    {f_children : Addr} {od_children an_children : Option Addr} {sl_children : Array (Option Value)} {oc_children kV_children dc_children pm_children cd_children ct_children : Value}
    {f_Course_all_strands : Addr} {od_Course_all_strands an_Course_all_strands : Option Addr} {sl_Course_all_strands : Array (Option Value)} {oc_Course_all_strands kV_Course_all_strands dc_Course_all_strands pm_Course_all_strands cd_Course_all_strands ct_Course_all_strands : Value}
    {f_Course_last_round : Addr} {od_Course_last_round an_Course_last_round : Option Addr} {sl_Course_last_round : Array (Option Value)} {oc_Course_last_round kV_Course_last_round dc_Course_last_round pm_Course_last_round cd_Course_last_round ct_Course_last_round : Value}
    {f_Course_total : Addr} {od_Course_total an_Course_total : Option Addr} {sl_Course_total : Array (Option Value)} {oc_Course_total kV_Course_total dc_Course_total pm_Course_total cd_Course_total ct_Course_total : Value}
    {f_Course___init__ : Addr} {od_Course___init__ an_Course___init__ : Option Addr} {sl_Course___init__ : Array (Option Value)} {oc_Course___init__ kV_Course___init__ dc_Course___init__ pm_Course___init__ cd_Course___init__ ct_Course___init__ : Value}
    {f_detached_course : Addr} {od_detached_course an_detached_course : Option Addr} {sl_detached_course : Array (Option Value)} {oc_detached_course kV_detached_course dc_detached_course pm_detached_course cd_detached_course ct_detached_course : Value}
    {f_beside_course : Addr} {od_beside_course an_beside_course : Option Addr} {sl_beside_course : Array (Option Value)} {oc_beside_course kV_beside_course dc_beside_course pm_beside_course cd_beside_course ct_beside_course : Value}
    {f_last_to_finish : Addr} {od_last_to_finish an_last_to_finish : Option Addr} {sl_last_to_finish : Array (Option Value)} {oc_last_to_finish kV_last_to_finish dc_last_to_finish pm_last_to_finish cd_last_to_finish ct_last_to_finish : Value}
    {f_joined_course : Addr} {od_joined_course an_joined_course : Option Addr} {sl_joined_course : Array (Option Value)} {oc_joined_course kV_joined_course dc_joined_course pm_joined_course cd_joined_course ct_joined_course : Value}
    {f_first_to_finish : Addr} {od_first_to_finish an_first_to_finish : Option Addr} {sl_first_to_finish : Array (Option Value)} {oc_first_to_finish kV_first_to_finish dc_first_to_finish pm_first_to_finish cd_first_to_finish ct_first_to_finish : Value}
    {f_raced_course : Addr} {od_raced_course an_raced_course : Option Addr} {sl_raced_course : Array (Option Value)} {oc_raced_course kV_raced_course dc_raced_course pm_raced_course cd_raced_course ct_raced_course : Value}
    {f_Strand___init__ : Addr} {od_Strand___init__ an_Strand___init__ : Option Addr} {sl_Strand___init__ : Array (Option Value)} {oc_Strand___init__ kV_Strand___init__ dc_Strand___init__ pm_Strand___init__ cd_Strand___init__ ct_Strand___init__ : Value}
    {f_over_and_over : Addr} {od_over_and_over an_over_and_over : Option Addr} {sl_over_and_over : Array (Option Value)} {oc_over_and_over kV_over_and_over dc_over_and_over pm_over_and_over cd_over_and_over ct_over_and_over : Value}
    {f_once : Addr} {od_once an_once : Option Addr} {sl_once : Array (Option Value)} {oc_once kV_once dc_once pm_once cd_once ct_once : Value}
    {f_Strand_singles : Addr} {od_Strand_singles an_Strand_singles : Option Addr} {sl_Strand_singles : Array (Option Value)} {oc_Strand_singles kV_Strand_singles dc_Strand_singles pm_Strand_singles cd_Strand_singles ct_Strand_singles : Value}
    {f_single_strands : Addr} {od_single_strands an_single_strands : Option Addr} {sl_single_strands : Array (Option Value)} {oc_single_strands kV_single_strands dc_single_strands pm_single_strands cd_single_strands ct_single_strands : Value}
    {f_repeated_course : Addr} {od_repeated_course an_repeated_course : Option Addr} {sl_repeated_course : Array (Option Value)} {oc_repeated_course kV_repeated_course dc_repeated_course pm_repeated_course cd_repeated_course ct_repeated_course : Value}
    {f_silent_course : Addr} {od_silent_course an_silent_course : Option Addr} {sl_silent_course : Array (Option Value)} {oc_silent_course kV_silent_course dc_silent_course pm_silent_course cd_silent_course ct_silent_course : Value}
    {f_Strand_moved : Addr} {od_Strand_moved an_Strand_moved : Option Addr} {sl_Strand_moved : Array (Option Value)} {oc_Strand_moved kV_Strand_moved dc_Strand_moved pm_Strand_moved cd_Strand_moved ct_Strand_moved : Value}
    {f_turned_course : Addr} {od_turned_course an_turned_course : Option Addr} {sl_turned_course : Array (Option Value)} {oc_turned_course kV_turned_course dc_turned_course pm_turned_course cd_turned_course ct_turned_course : Value}
    {f_word_course : Addr} {od_word_course an_word_course : Option Addr} {sl_word_course : Array (Option Value)} {oc_word_course kV_word_course dc_word_course pm_word_course cd_word_course ct_word_course : Value}
    {f_course_of : Addr} {od_course_of an_course_of : Option Addr} {sl_course_of : Array (Option Value)} {oc_course_of kV_course_of dc_course_of pm_course_of cd_course_of ct_course_of : Value}
    {f_is_body : Addr} {od_is_body an_is_body : Option Addr} {sl_is_body : Array (Option Value)} {oc_is_body kV_is_body dc_is_body pm_is_body cd_is_body ct_is_body : Value}
    {f_are_parts : Addr} {od_are_parts an_are_parts : Option Addr} {sl_are_parts : Array (Option Value)} {oc_are_parts kV_are_parts dc_are_parts pm_are_parts cd_are_parts ct_are_parts : Value}
    {f_is_integer : Addr} {od_is_integer an_is_integer : Option Addr} {sl_is_integer : Array (Option Value)} {oc_is_integer kV_is_integer dc_is_integer pm_is_integer cd_is_integer ct_is_integer : Value}
    {f_is_count : Addr} {od_is_count an_is_count : Option Addr} {sl_is_count : Array (Option Value)} {oc_is_count kV_is_count dc_is_count pm_is_count cd_is_count ct_is_count : Value}
    {f_is_word : Addr} {od_is_word an_is_word : Option Addr} {sl_is_word : Array (Option Value)} {oc_is_word kV_is_word dc_is_word pm_is_word cd_is_word ct_is_word : Value}
    {f_is_node : Addr} {od_is_node an_is_node : Option Addr} {sl_is_node : Array (Option Value)} {oc_is_node kV_is_node dc_is_node pm_is_node cd_is_node ct_is_node : Value}
    {f_is_program : Addr} {od_is_program an_is_program : Option Addr} {sl_is_program : Array (Option Value)} {oc_is_program kV_is_program dc_is_program pm_is_program cd_is_program ct_is_program : Value}
    {f__law_right : Addr} {od__law_right an__law_right : Option Addr} {sl__law_right : Array (Option Value)} {oc__law_right kV__law_right dc__law_right pm__law_right cd__law_right ct__law_right : Value}
    {f_law : Addr} {od_law an_law : Option Addr} {sl_law : Array (Option Value)} {oc_law kV_law dc_law pm_law cd_law ct_law : Value}
    {tk_MOST_BESIDE : Tok}
    {tk_MOST_BODY_FINISH : Tok}
    {tk_MOST_BODY_ROUND : Tok}
    {tk_MOST_BODY_WORDS : Tok}
    {tk_MOST_COUNT : Tok}
    {tk_MOST_DEPTH : Tok}
    {tk_MOST_LETTERS : Tok}
    {tk_MOST_LOOPS : Tok}
    {tk_MOST_NODES : Tok}
    {tk_MOST_PARTS : Tok}
    {ccA tP : Addr} {cdx : Option Addr} {cvs : Array Value} {csl : Array (Option Value)}
    (a_Strand : PySem.W.nsIn K mainGlobals "Strand" = some (some (.ref C_Strand)))
    (a_Course : PySem.W.nsIn K mainGlobals "Course" = some (some (.ref C_Course)))
    (a__law_pot : PySem.W.nsIn K mainGlobals "_law_pot" = some (some (.ref f__law_pot)))
    (l__law_pot : K.lookup f__law_pot = some ⟨oc__law_pot, od__law_pot, .func (PySem.W.fnOf "_law_pot" "_law_pot" (defArgs st__law_pot) (defBody st__law_pot) (defScope st__law_pot) .none kV__law_pot dc__law_pot pm__law_pot an__law_pot cd__law_pot ct__law_pot), sl__law_pot⟩)
    (c__law_pot : PySem.W.codeIn K cd__law_pot "_law_pot" = true)
    (k__law_pot : PySem.W.keepIn K (.ref f__law_pot) = true)
    (a__law_take : PySem.W.nsIn K mainGlobals "_law_take" = some (some (.ref f__law_take)))
    (l__law_take : K.lookup f__law_take = some ⟨oc__law_take, od__law_take, .func (PySem.W.fnOf "_law_take" "_law_take" (defArgs st__law_take) (defBody st__law_take) (defScope st__law_take) .none kV__law_take dc__law_take pm__law_take an__law_take cd__law_take ct__law_take), sl__law_take⟩)
    (c__law_take : PySem.W.codeIn K cd__law_take "_law_take" = true)
    (k__law_take : PySem.W.keepIn K (.ref f__law_take) = true)
    (a__law_bodies : PySem.W.nsIn K mainGlobals "_law_bodies" = some (some (.ref f__law_bodies)))
    (l__law_bodies : K.lookup f__law_bodies = some ⟨oc__law_bodies, od__law_bodies, .func (PySem.W.fnOf "_law_bodies" "_law_bodies" (defArgs st__law_bodies) (defBody st__law_bodies) (defScope st__law_bodies) .none kV__law_bodies dc__law_bodies pm__law_bodies an__law_bodies cd__law_bodies ct__law_bodies), sl__law_bodies⟩)
    (c__law_bodies : PySem.W.codeIn K cd__law_bodies "_law_bodies" = true)
    (k__law_bodies : PySem.W.keepIn K (.ref f__law_bodies) = true)
    (a__law_of : PySem.W.nsIn K mainGlobals "_law_of" = some (some (.ref f__law_of)))
    (l__law_of : K.lookup f__law_of = some ⟨oc__law_of, od__law_of, .func (PySem.W.fnOf "_law_of" "_law_of" (defArgs st__law_of) (defBody st__law_of) (defScope st__law_of) .none kV__law_of dc__law_of pm__law_of an__law_of cd__law_of ct__law_of), sl__law_of⟩)
    (c__law_of : PySem.W.codeIn K cd__law_of "_law_of" = true)
    (k__law_of : PySem.W.keepIn K (.ref f__law_of) = true)
    (a__law_word : PySem.W.nsIn K mainGlobals "_law_word" = some (some (.ref f__law_word)))
    (l__law_word : K.lookup f__law_word = some ⟨oc__law_word, od__law_word, .func (PySem.W.fnOf "_law_word" "_law_word" (defArgs st__law_word) (defBody st__law_word) (defScope st__law_word) .none kV__law_word dc__law_word pm__law_word an__law_word cd__law_word ct__law_word), sl__law_word⟩)
    (c__law_word : PySem.W.codeIn K cd__law_word "_law_word" = true)
    (k__law_word : PySem.W.keepIn K (.ref f__law_word) = true)
    (a__law_leaf : PySem.W.nsIn K mainGlobals "_law_leaf" = some (some (.ref f__law_leaf)))
    (l__law_leaf : K.lookup f__law_leaf = some ⟨oc__law_leaf, od__law_leaf, .func (PySem.W.fnOf "_law_leaf" "_law_leaf" (defArgs st__law_leaf) (defBody st__law_leaf) (defScope st__law_leaf) .none kV__law_leaf dc__law_leaf pm__law_leaf an__law_leaf cd__law_leaf ct__law_leaf), sl__law_leaf⟩)
    (c__law_leaf : PySem.W.codeIn K cd__law_leaf "_law_leaf" = true)
    (k__law_leaf : PySem.W.keepIn K (.ref f__law_leaf) = true)
    (a__law_deep : PySem.W.nsIn K mainGlobals "_law_deep" = some (some (.ref f__law_deep)))
    (l__law_deep : K.lookup f__law_deep = some ⟨oc__law_deep, od__law_deep, .func (PySem.W.fnOf "_law_deep" "_law_deep" (defArgs st__law_deep) (defBody st__law_deep) (defScope st__law_deep) .none kV__law_deep dc__law_deep pm__law_deep an__law_deep cd__law_deep ct__law_deep), sl__law_deep⟩)
    (c__law_deep : PySem.W.codeIn K cd__law_deep "_law_deep" = true)
    (k__law_deep : PySem.W.keepIn K (.ref f__law_deep) = true)
    (a__law_of_nodes : PySem.W.nsIn K mainGlobals "_law_of_nodes" = some (some (.ref f__law_of_nodes)))
    (l__law_of_nodes : K.lookup f__law_of_nodes = some ⟨oc__law_of_nodes, od__law_of_nodes, .func (PySem.W.fnOf "_law_of_nodes" "_law_of_nodes" (defArgs st__law_of_nodes) (defBody st__law_of_nodes) (defScope st__law_of_nodes) .none kV__law_of_nodes dc__law_of_nodes pm__law_of_nodes an__law_of_nodes cd__law_of_nodes ct__law_of_nodes), sl__law_of_nodes⟩)
    (c__law_of_nodes : PySem.W.codeIn K cd__law_of_nodes "_law_of_nodes" = true)
    (k__law_of_nodes : PySem.W.keepIn K (.ref f__law_of_nodes) = true)
    (a__law_kids : PySem.W.nsIn K mainGlobals "_law_kids" = some (some (.ref f__law_kids)))
    (l__law_kids : K.lookup f__law_kids = some ⟨oc__law_kids, od__law_kids, .func (PySem.W.fnOf "_law_kids" "_law_kids" (defArgs st__law_kids) (defBody st__law_kids) (defScope st__law_kids) .none kV__law_kids dc__law_kids pm__law_kids an__law_kids cd__law_kids ct__law_kids), sl__law_kids⟩)
    (c__law_kids : PySem.W.codeIn K cd__law_kids "_law_kids" = true)
    (k__law_kids : PySem.W.keepIn K (.ref f__law_kids) = true)
    (a__law_nodes : PySem.W.nsIn K mainGlobals "_law_nodes" = some (some (.ref f__law_nodes)))
    (l__law_nodes : K.lookup f__law_nodes = some ⟨oc__law_nodes, od__law_nodes, .func (PySem.W.fnOf "_law_nodes" "_law_nodes" (defArgs st__law_nodes) (defBody st__law_nodes) (defScope st__law_nodes) .none kV__law_nodes dc__law_nodes pm__law_nodes an__law_nodes cd__law_nodes ct__law_nodes), sl__law_nodes⟩)
    (c__law_nodes : PySem.W.codeIn K cd__law_nodes "_law_nodes" = true)
    (k__law_nodes : PySem.W.keepIn K (.ref f__law_nodes) = true)
    (a__law_size : PySem.W.nsIn K mainGlobals "_law_size" = some (some (.ref f__law_size)))
    (l__law_size : K.lookup f__law_size = some ⟨oc__law_size, od__law_size, .func (PySem.W.fnOf "_law_size" "_law_size" (defArgs st__law_size) (defBody st__law_size) (defScope st__law_size) .none kV__law_size dc__law_size pm__law_size an__law_size cd__law_size ct__law_size), sl__law_size⟩)
    (c__law_size : PySem.W.codeIn K cd__law_size "_law_size" = true)
    (k__law_size : PySem.W.keepIn K (.ref f__law_size) = true)
    (a__law_with_body : PySem.W.nsIn K mainGlobals "_law_with_body" = some (some (.ref f__law_with_body)))
    (l__law_with_body : K.lookup f__law_with_body = some ⟨oc__law_with_body, od__law_with_body, .func (PySem.W.fnOf "_law_with_body" "_law_with_body" (defArgs st__law_with_body) (defBody st__law_with_body) (defScope st__law_with_body) .none kV__law_with_body dc__law_with_body pm__law_with_body an__law_with_body cd__law_with_body ct__law_with_body), sl__law_with_body⟩)
    (c__law_with_body : PySem.W.codeIn K cd__law_with_body "_law_with_body" = true)
    (k__law_with_body : PySem.W.keepIn K (.ref f__law_with_body) = true)
    (a_children : PySem.W.nsIn K mainGlobals "children" = some (some (.ref f_children)))
    (l_children : K.lookup f_children = some ⟨oc_children, od_children, .func (PySem.W.fnOf "children" "children" (defArgs st_children) (defBody st_children) (defScope st_children) .none kV_children dc_children pm_children an_children cd_children ct_children), sl_children⟩)
    (c_children : PySem.W.codeIn K cd_children "children" = true)
    (k_children : PySem.W.keepIn K (.ref f_children) = true)
    (a_Course_all_strands : PySem.W.findIn K (.ref C_Course) "all_strands" = some (some (.ref f_Course_all_strands)))
    (l_Course_all_strands : K.lookup f_Course_all_strands = some ⟨oc_Course_all_strands, od_Course_all_strands, .func (PySem.W.fnOf "all_strands" "Course.all_strands" (defArgs st_Course_all_strands) (defBody st_Course_all_strands) (defScope st_Course_all_strands) .none kV_Course_all_strands dc_Course_all_strands pm_Course_all_strands an_Course_all_strands cd_Course_all_strands ct_Course_all_strands), sl_Course_all_strands⟩)
    (c_Course_all_strands : PySem.W.codeIn K cd_Course_all_strands "Course.all_strands" = true)
    (k_Course_all_strands : PySem.W.keepIn K (.ref f_Course_all_strands) = true)
    (a_Course_last_round : PySem.W.findIn K (.ref C_Course) "last_round" = some (some (.ref f_Course_last_round)))
    (l_Course_last_round : K.lookup f_Course_last_round = some ⟨oc_Course_last_round, od_Course_last_round, .func (PySem.W.fnOf "last_round" "Course.last_round" (defArgs st_Course_last_round) (defBody st_Course_last_round) (defScope st_Course_last_round) .none kV_Course_last_round dc_Course_last_round pm_Course_last_round an_Course_last_round cd_Course_last_round ct_Course_last_round), sl_Course_last_round⟩)
    (c_Course_last_round : PySem.W.codeIn K cd_Course_last_round "Course.last_round" = true)
    (k_Course_last_round : PySem.W.keepIn K (.ref f_Course_last_round) = true)
    (a_Course_total : PySem.W.findIn K (.ref C_Course) "total" = some (some (.ref f_Course_total)))
    (l_Course_total : K.lookup f_Course_total = some ⟨oc_Course_total, od_Course_total, .func (PySem.W.fnOf "total" "Course.total" (defArgs st_Course_total) (defBody st_Course_total) (defScope st_Course_total) .none kV_Course_total dc_Course_total pm_Course_total an_Course_total cd_Course_total ct_Course_total), sl_Course_total⟩)
    (c_Course_total : PySem.W.codeIn K cd_Course_total "Course.total" = true)
    (k_Course_total : PySem.W.keepIn K (.ref f_Course_total) = true)
    (a_Course___init__ : PySem.W.findIn K (.ref C_Course) "__init__" = some (some (.ref f_Course___init__)))
    (l_Course___init__ : K.lookup f_Course___init__ = some ⟨oc_Course___init__, od_Course___init__, .func (PySem.W.fnOf "__init__" "Course.__init__" (defArgs st_Course___init__) (defBody st_Course___init__) (defScope st_Course___init__) .none kV_Course___init__ dc_Course___init__ pm_Course___init__ an_Course___init__ cd_Course___init__ ct_Course___init__), sl_Course___init__⟩)
    (c_Course___init__ : PySem.W.codeIn K cd_Course___init__ "Course.__init__" = true)
    (k_Course___init__ : PySem.W.keepIn K (.ref f_Course___init__) = true)
    (a_detached_course : PySem.W.nsIn K mainGlobals "detached_course" = some (some (.ref f_detached_course)))
    (l_detached_course : K.lookup f_detached_course = some ⟨oc_detached_course, od_detached_course, .func (PySem.W.fnOf "detached_course" "detached_course" (defArgs st_detached_course) (defBody st_detached_course) (defScope st_detached_course) .none kV_detached_course dc_detached_course pm_detached_course an_detached_course cd_detached_course ct_detached_course), sl_detached_course⟩)
    (c_detached_course : PySem.W.codeIn K cd_detached_course "detached_course" = true)
    (k_detached_course : PySem.W.keepIn K (.ref f_detached_course) = true)
    (a_beside_course : PySem.W.nsIn K mainGlobals "beside_course" = some (some (.ref f_beside_course)))
    (l_beside_course : K.lookup f_beside_course = some ⟨oc_beside_course, od_beside_course, .func (PySem.W.fnOf "beside_course" "beside_course" (defArgs st_beside_course) (defBody st_beside_course) (defScope st_beside_course) .none kV_beside_course dc_beside_course pm_beside_course an_beside_course cd_beside_course ct_beside_course), sl_beside_course⟩)
    (c_beside_course : PySem.W.codeIn K cd_beside_course "beside_course" = true)
    (k_beside_course : PySem.W.keepIn K (.ref f_beside_course) = true)
    (a_last_to_finish : PySem.W.nsIn K mainGlobals "last_to_finish" = some (some (.ref f_last_to_finish)))
    (l_last_to_finish : K.lookup f_last_to_finish = some ⟨oc_last_to_finish, od_last_to_finish, .func (PySem.W.fnOf "last_to_finish" "last_to_finish" (defArgs st_last_to_finish) (defBody st_last_to_finish) (defScope st_last_to_finish) .none kV_last_to_finish dc_last_to_finish pm_last_to_finish an_last_to_finish cd_last_to_finish ct_last_to_finish), sl_last_to_finish⟩)
    (c_last_to_finish : PySem.W.codeIn K cd_last_to_finish "last_to_finish" = true)
    (k_last_to_finish : PySem.W.keepIn K (.ref f_last_to_finish) = true)
    (a_joined_course : PySem.W.nsIn K mainGlobals "joined_course" = some (some (.ref f_joined_course)))
    (l_joined_course : K.lookup f_joined_course = some ⟨oc_joined_course, od_joined_course, .func (PySem.W.fnOf "joined_course" "joined_course" (defArgs st_joined_course) (defBody st_joined_course) (defScope st_joined_course) .none kV_joined_course dc_joined_course pm_joined_course an_joined_course cd_joined_course ct_joined_course), sl_joined_course⟩)
    (c_joined_course : PySem.W.codeIn K cd_joined_course "joined_course" = true)
    (k_joined_course : PySem.W.keepIn K (.ref f_joined_course) = true)
    (a_first_to_finish : PySem.W.nsIn K mainGlobals "first_to_finish" = some (some (.ref f_first_to_finish)))
    (l_first_to_finish : K.lookup f_first_to_finish = some ⟨oc_first_to_finish, od_first_to_finish, .func (PySem.W.fnOf "first_to_finish" "first_to_finish" (defArgs st_first_to_finish) (defBody st_first_to_finish) (defScope st_first_to_finish) .none kV_first_to_finish dc_first_to_finish pm_first_to_finish an_first_to_finish cd_first_to_finish ct_first_to_finish), sl_first_to_finish⟩)
    (c_first_to_finish : PySem.W.codeIn K cd_first_to_finish "first_to_finish" = true)
    (k_first_to_finish : PySem.W.keepIn K (.ref f_first_to_finish) = true)
    (a_raced_course : PySem.W.nsIn K mainGlobals "raced_course" = some (some (.ref f_raced_course)))
    (l_raced_course : K.lookup f_raced_course = some ⟨oc_raced_course, od_raced_course, .func (PySem.W.fnOf "raced_course" "raced_course" (defArgs st_raced_course) (defBody st_raced_course) (defScope st_raced_course) .none kV_raced_course dc_raced_course pm_raced_course an_raced_course cd_raced_course ct_raced_course), sl_raced_course⟩)
    (c_raced_course : PySem.W.codeIn K cd_raced_course "raced_course" = true)
    (k_raced_course : PySem.W.keepIn K (.ref f_raced_course) = true)
    (a_Strand___init__ : PySem.W.findIn K (.ref C_Strand) "__init__" = some (some (.ref f_Strand___init__)))
    (l_Strand___init__ : K.lookup f_Strand___init__ = some ⟨oc_Strand___init__, od_Strand___init__, .func (PySem.W.fnOf "__init__" "Strand.__init__" (defArgs st_Strand___init__) (defBody st_Strand___init__) (defScope st_Strand___init__) .none kV_Strand___init__ dc_Strand___init__ pm_Strand___init__ an_Strand___init__ cd_Strand___init__ ct_Strand___init__), sl_Strand___init__⟩)
    (c_Strand___init__ : PySem.W.codeIn K cd_Strand___init__ "Strand.__init__" = true)
    (k_Strand___init__ : PySem.W.keepIn K (.ref f_Strand___init__) = true)
    (a_over_and_over : PySem.W.nsIn K mainGlobals "over_and_over" = some (some (.ref f_over_and_over)))
    (l_over_and_over : K.lookup f_over_and_over = some ⟨oc_over_and_over, od_over_and_over, .func (PySem.W.fnOf "over_and_over" "over_and_over" (defArgs st_over_and_over) (defBody st_over_and_over) (defScope st_over_and_over) .none kV_over_and_over dc_over_and_over pm_over_and_over an_over_and_over cd_over_and_over ct_over_and_over), sl_over_and_over⟩)
    (c_over_and_over : PySem.W.codeIn K cd_over_and_over "over_and_over" = true)
    (k_over_and_over : PySem.W.keepIn K (.ref f_over_and_over) = true)
    (a_once : PySem.W.nsIn K mainGlobals "once" = some (some (.ref f_once)))
    (l_once : K.lookup f_once = some ⟨oc_once, od_once, .func (PySem.W.fnOf "once" "once" (defArgs st_once) (defBody st_once) (defScope st_once) .none kV_once dc_once pm_once an_once cd_once ct_once), sl_once⟩)
    (c_once : PySem.W.codeIn K cd_once "once" = true)
    (k_once : PySem.W.keepIn K (.ref f_once) = true)
    (a_Strand_singles : PySem.W.findIn K (.ref C_Strand) "singles" = some (some (.ref f_Strand_singles)))
    (l_Strand_singles : K.lookup f_Strand_singles = some ⟨oc_Strand_singles, od_Strand_singles, .func (PySem.W.fnOf "singles" "Strand.singles" (defArgs st_Strand_singles) (defBody st_Strand_singles) (defScope st_Strand_singles) .none kV_Strand_singles dc_Strand_singles pm_Strand_singles an_Strand_singles cd_Strand_singles ct_Strand_singles), sl_Strand_singles⟩)
    (c_Strand_singles : PySem.W.codeIn K cd_Strand_singles "Strand.singles" = true)
    (k_Strand_singles : PySem.W.keepIn K (.ref f_Strand_singles) = true)
    (a_single_strands : PySem.W.nsIn K mainGlobals "single_strands" = some (some (.ref f_single_strands)))
    (l_single_strands : K.lookup f_single_strands = some ⟨oc_single_strands, od_single_strands, .func (PySem.W.fnOf "single_strands" "single_strands" (defArgs st_single_strands) (defBody st_single_strands) (defScope st_single_strands) .none kV_single_strands dc_single_strands pm_single_strands an_single_strands cd_single_strands ct_single_strands), sl_single_strands⟩)
    (c_single_strands : PySem.W.codeIn K cd_single_strands "single_strands" = true)
    (k_single_strands : PySem.W.keepIn K (.ref f_single_strands) = true)
    (a_repeated_course : PySem.W.nsIn K mainGlobals "repeated_course" = some (some (.ref f_repeated_course)))
    (l_repeated_course : K.lookup f_repeated_course = some ⟨oc_repeated_course, od_repeated_course, .func (PySem.W.fnOf "repeated_course" "repeated_course" (defArgs st_repeated_course) (defBody st_repeated_course) (defScope st_repeated_course) .none kV_repeated_course dc_repeated_course pm_repeated_course an_repeated_course cd_repeated_course ct_repeated_course), sl_repeated_course⟩)
    (c_repeated_course : PySem.W.codeIn K cd_repeated_course "repeated_course" = true)
    (k_repeated_course : PySem.W.keepIn K (.ref f_repeated_course) = true)
    (a_silent_course : PySem.W.nsIn K mainGlobals "silent_course" = some (some (.ref f_silent_course)))
    (l_silent_course : K.lookup f_silent_course = some ⟨oc_silent_course, od_silent_course, .func (PySem.W.fnOf "silent_course" "silent_course" (defArgs st_silent_course) (defBody st_silent_course) (defScope st_silent_course) .none kV_silent_course dc_silent_course pm_silent_course an_silent_course cd_silent_course ct_silent_course), sl_silent_course⟩)
    (c_silent_course : PySem.W.codeIn K cd_silent_course "silent_course" = true)
    (k_silent_course : PySem.W.keepIn K (.ref f_silent_course) = true)
    (a_Strand_moved : PySem.W.findIn K (.ref C_Strand) "moved" = some (some (.ref f_Strand_moved)))
    (l_Strand_moved : K.lookup f_Strand_moved = some ⟨oc_Strand_moved, od_Strand_moved, .func (PySem.W.fnOf "moved" "Strand.moved" (defArgs st_Strand_moved) (defBody st_Strand_moved) (defScope st_Strand_moved) .none kV_Strand_moved dc_Strand_moved pm_Strand_moved an_Strand_moved cd_Strand_moved ct_Strand_moved), sl_Strand_moved⟩)
    (c_Strand_moved : PySem.W.codeIn K cd_Strand_moved "Strand.moved" = true)
    (k_Strand_moved : PySem.W.keepIn K (.ref f_Strand_moved) = true)
    (a_turned_course : PySem.W.nsIn K mainGlobals "turned_course" = some (some (.ref f_turned_course)))
    (l_turned_course : K.lookup f_turned_course = some ⟨oc_turned_course, od_turned_course, .func (PySem.W.fnOf "turned_course" "turned_course" (defArgs st_turned_course) (defBody st_turned_course) (defScope st_turned_course) .none kV_turned_course dc_turned_course pm_turned_course an_turned_course cd_turned_course ct_turned_course), sl_turned_course⟩)
    (c_turned_course : PySem.W.codeIn K cd_turned_course "turned_course" = true)
    (k_turned_course : PySem.W.keepIn K (.ref f_turned_course) = true)
    (a_word_course : PySem.W.nsIn K mainGlobals "word_course" = some (some (.ref f_word_course)))
    (l_word_course : K.lookup f_word_course = some ⟨oc_word_course, od_word_course, .func (PySem.W.fnOf "word_course" "word_course" (defArgs st_word_course) (defBody st_word_course) (defScope st_word_course) .none kV_word_course dc_word_course pm_word_course an_word_course cd_word_course ct_word_course), sl_word_course⟩)
    (c_word_course : PySem.W.codeIn K cd_word_course "word_course" = true)
    (k_word_course : PySem.W.keepIn K (.ref f_word_course) = true)
    (a_course_of : PySem.W.nsIn K mainGlobals "course_of" = some (some (.ref f_course_of)))
    (l_course_of : K.lookup f_course_of = some ⟨oc_course_of, od_course_of, .func (PySem.W.fnOf "course_of" "course_of" (defArgs st_course_of) (defBody st_course_of) (defScope st_course_of) .none kV_course_of dc_course_of pm_course_of an_course_of cd_course_of ct_course_of), sl_course_of⟩)
    (c_course_of : PySem.W.codeIn K cd_course_of "course_of" = true)
    (k_course_of : PySem.W.keepIn K (.ref f_course_of) = true)
    (a_is_body : PySem.W.nsIn K mainGlobals "is_body" = some (some (.ref f_is_body)))
    (l_is_body : K.lookup f_is_body = some ⟨oc_is_body, od_is_body, .func (PySem.W.fnOf "is_body" "is_body" (defArgs st_is_body) (defBody st_is_body) (defScope st_is_body) .none kV_is_body dc_is_body pm_is_body an_is_body cd_is_body ct_is_body), sl_is_body⟩)
    (c_is_body : PySem.W.codeIn K cd_is_body "is_body" = true)
    (k_is_body : PySem.W.keepIn K (.ref f_is_body) = true)
    (a_are_parts : PySem.W.nsIn K mainGlobals "are_parts" = some (some (.ref f_are_parts)))
    (l_are_parts : K.lookup f_are_parts = some ⟨oc_are_parts, od_are_parts, .func (PySem.W.fnOf "are_parts" "are_parts" (defArgs st_are_parts) (defBody st_are_parts) (defScope st_are_parts) .none kV_are_parts dc_are_parts pm_are_parts an_are_parts cd_are_parts ct_are_parts), sl_are_parts⟩)
    (c_are_parts : PySem.W.codeIn K cd_are_parts "are_parts" = true)
    (k_are_parts : PySem.W.keepIn K (.ref f_are_parts) = true)
    (a_is_integer : PySem.W.nsIn K mainGlobals "is_integer" = some (some (.ref f_is_integer)))
    (l_is_integer : K.lookup f_is_integer = some ⟨oc_is_integer, od_is_integer, .func (PySem.W.fnOf "is_integer" "is_integer" (defArgs st_is_integer) (defBody st_is_integer) (defScope st_is_integer) .none kV_is_integer dc_is_integer pm_is_integer an_is_integer cd_is_integer ct_is_integer), sl_is_integer⟩)
    (c_is_integer : PySem.W.codeIn K cd_is_integer "is_integer" = true)
    (k_is_integer : PySem.W.keepIn K (.ref f_is_integer) = true)
    (a_is_count : PySem.W.nsIn K mainGlobals "is_count" = some (some (.ref f_is_count)))
    (l_is_count : K.lookup f_is_count = some ⟨oc_is_count, od_is_count, .func (PySem.W.fnOf "is_count" "is_count" (defArgs st_is_count) (defBody st_is_count) (defScope st_is_count) .none kV_is_count dc_is_count pm_is_count an_is_count cd_is_count ct_is_count), sl_is_count⟩)
    (c_is_count : PySem.W.codeIn K cd_is_count "is_count" = true)
    (k_is_count : PySem.W.keepIn K (.ref f_is_count) = true)
    (a_is_word : PySem.W.nsIn K mainGlobals "is_word" = some (some (.ref f_is_word)))
    (l_is_word : K.lookup f_is_word = some ⟨oc_is_word, od_is_word, .func (PySem.W.fnOf "is_word" "is_word" (defArgs st_is_word) (defBody st_is_word) (defScope st_is_word) .none kV_is_word dc_is_word pm_is_word an_is_word cd_is_word ct_is_word), sl_is_word⟩)
    (c_is_word : PySem.W.codeIn K cd_is_word "is_word" = true)
    (k_is_word : PySem.W.keepIn K (.ref f_is_word) = true)
    (a_is_node : PySem.W.nsIn K mainGlobals "is_node" = some (some (.ref f_is_node)))
    (l_is_node : K.lookup f_is_node = some ⟨oc_is_node, od_is_node, .func (PySem.W.fnOf "is_node" "is_node" (defArgs st_is_node) (defBody st_is_node) (defScope st_is_node) .none kV_is_node dc_is_node pm_is_node an_is_node cd_is_node ct_is_node), sl_is_node⟩)
    (c_is_node : PySem.W.codeIn K cd_is_node "is_node" = true)
    (k_is_node : PySem.W.keepIn K (.ref f_is_node) = true)
    (a_is_program : PySem.W.nsIn K mainGlobals "is_program" = some (some (.ref f_is_program)))
    (l_is_program : K.lookup f_is_program = some ⟨oc_is_program, od_is_program, .func (PySem.W.fnOf "is_program" "is_program" (defArgs st_is_program) (defBody st_is_program) (defScope st_is_program) .none kV_is_program dc_is_program pm_is_program an_is_program cd_is_program ct_is_program), sl_is_program⟩)
    (c_is_program : PySem.W.codeIn K cd_is_program "is_program" = true)
    (k_is_program : PySem.W.keepIn K (.ref f_is_program) = true)
    (a__law_right : PySem.W.nsIn K mainGlobals "_law_right" = some (some (.ref f__law_right)))
    (l__law_right : K.lookup f__law_right = some ⟨oc__law_right, od__law_right, .func (PySem.W.fnOf "_law_right" "_law_right" (defArgs st__law_right) (defBody st__law_right) (defScope st__law_right) .none kV__law_right dc__law_right pm__law_right an__law_right cd__law_right ct__law_right), sl__law_right⟩)
    (c__law_right : PySem.W.codeIn K cd__law_right "_law_right" = true)
    (k__law_right : PySem.W.keepIn K (.ref f__law_right) = true)
    (a_law : PySem.W.nsIn K mainGlobals "law" = some (some (.ref f_law)))
    (l_law : K.lookup f_law = some ⟨oc_law, od_law, .func (PySem.W.fnOf "law" "law" (defArgs st_law) (defBody st_law) (defScope st_law) .none kV_law dc_law pm_law an_law cd_law ct_law), sl_law⟩)
    (c_law : PySem.W.codeIn K cd_law "law" = true)
    (k_law : PySem.W.keepIn K (.ref f_law) = true)
    (z_abs : PySem.W.nsIn K mainGlobals "abs" = some none)
    (z_all : PySem.W.nsIn K mainGlobals "all" = some none)
    (z_bool : PySem.W.nsIn K mainGlobals "bool" = some none)
    (z_enumerate : PySem.W.nsIn K mainGlobals "enumerate" = some none)
    (z_int : PySem.W.nsIn K mainGlobals "int" = some none)
    (z_isinstance : PySem.W.nsIn K mainGlobals "isinstance" = some none)
    (z_len : PySem.W.nsIn K mainGlobals "len" = some none)
    (z_max : PySem.W.nsIn K mainGlobals "max" = some none)
    (z_min : PySem.W.nsIn K mainGlobals "min" = some none)
    (z_range : PySem.W.nsIn K mainGlobals "range" = some none)
    (z_sorted : PySem.W.nsIn K mainGlobals "sorted" = some none)
    (z_str : PySem.W.nsIn K mainGlobals "str" = some none)
    (z_sum : PySem.W.nsIn K mainGlobals "sum" = some none)
    (z_tuple : PySem.W.nsIn K mainGlobals "tuple" = some none)
    (v_MOST_BESIDE : PySem.W.nsIn K mainGlobals "MOST_BESIDE" = some (some (.int 6 tk_MOST_BESIDE)))
    (v_MOST_BODY_FINISH : PySem.W.nsIn K mainGlobals "MOST_BODY_FINISH" = some (some (.int 6 tk_MOST_BODY_FINISH)))
    (v_MOST_BODY_ROUND : PySem.W.nsIn K mainGlobals "MOST_BODY_ROUND" = some (some (.int 30 tk_MOST_BODY_ROUND)))
    (v_MOST_BODY_WORDS : PySem.W.nsIn K mainGlobals "MOST_BODY_WORDS" = some (some (.int 12 tk_MOST_BODY_WORDS)))
    (v_MOST_COUNT : mg "MOST_COUNT" = some (.int 1000000000000000000 tk_MOST_COUNT))
    (v_MOST_DEPTH : PySem.W.nsIn K mainGlobals "MOST_DEPTH" = some (some (.int 12 tk_MOST_DEPTH)))
    (v_MOST_LETTERS : PySem.W.nsIn K mainGlobals "MOST_LETTERS" = some (some (.int 8 tk_MOST_LETTERS)))
    (v_MOST_LOOPS : PySem.W.nsIn K mainGlobals "MOST_LOOPS" = some (some (.int 8 tk_MOST_LOOPS)))
    (v_MOST_NODES : PySem.W.nsIn K mainGlobals "MOST_NODES" = some (some (.int 80 tk_MOST_NODES)))
    (v_MOST_PARTS : PySem.W.nsIn K mainGlobals "MOST_PARTS" = some (some (.int 12 tk_MOST_PARTS)))
    (mk_Course : PySem.W.makesIn K C_Course = true)
    (in_Course : PySem.W.findIn K (.ref C_Course) "__init__" = some (some (.ref f_Course___init__)))
    (fn_Course : PySem.W.isFn K (.ref f_Course___init__) = true)
    (kc_Course : PySem.W.keepIn K (.ref C_Course) = true)
    (mk_Strand : PySem.W.makesIn K C_Strand = true)
    (in_Strand : PySem.W.findIn K (.ref C_Strand) "__init__" = some (some (.ref f_Strand___init__)))
    (fn_Strand : PySem.W.isFn K (.ref f_Strand___init__) = true)
    (kc_Strand : PySem.W.keepIn K (.ref C_Strand) = true)
    (fm_Course_all_strands : PySem.W.isFn K (.ref f_Course_all_strands) = true)
    (fm_Course_last_round : PySem.W.isFn K (.ref f_Course_last_round) = true)
    (fm_Course_total : PySem.W.isFn K (.ref f_Course_total) = true)
    (fm_Strand_moved : PySem.W.isFn K (.ref f_Strand_moved) = true)
    (fm_Strand_singles : PySem.W.isFn K (.ref f_Strand_singles) = true)
    (pg_Strand : PySem.W.plainGet K C_Strand Str.empty = true)
    (hd_Strand : PySem.W.hasDictIn K C_Strand = true)
    (po_Strand : PySem.W.plainOver K C_Strand = true)
    (sa_Strand : PySem.W.findIn K (.ref C_Strand) "__setattr__" = some (some (.builtin "object.__setattr__")))
    (pg_Course : PySem.W.plainGet K C_Course Str.empty = true)
    (hd_Course : PySem.W.hasDictIn K C_Course = true)
    (po_Course : PySem.W.plainOver K C_Course = true)
    (sa_Course : PySem.W.findIn K (.ref C_Course) "__setattr__" = some (some (.builtin "object.__setattr__")))
    (na_Course_ahead : PySem.W.findIn K (.ref C_Course) "ahead" = some none)
    (na_Course_behind : PySem.W.findIn K (.ref C_Course) "behind" = some none)
    (na_Course_finish : PySem.W.findIn K (.ref C_Course) "finish" = some none)
    (na_Strand_first : PySem.W.findIn K (.ref C_Strand) "first" = some none)
    (na_Strand_last : PySem.W.findIn K (.ref C_Strand) "last" = some none)
    (na_Strand_many : PySem.W.findIn K (.ref C_Strand) "many" = some none)
    (na_Strand_step : PySem.W.findIn K (.ref C_Strand) "step" = some none)
    (na_Strand_word : PySem.W.findIn K (.ref C_Strand) "word" = some none)
    (tl_ : cd_repeated_course = .ref ccA)
    (tq_ : K.lookup ccA = some ⟨.type "code", cdx, .fields cvs, csl⟩)
    (tv_ : cvs[11]? = some (.ref tP))
    (th_ : PySem.W.codeHdIn K ccA tP = true)
    (tk_ : K.lookup tP = none)
    (tt_ : h.get? tP = some { cls := .none, data := .fields #[] })
    : ∃ (C : Nat → Addr) (fd : FuncData) (cc : Addr), (C 1000 ≠ C 1001 → h.get? (C 1000) = some { cls := .none, data := .fields #[] } ∧ K.lookup (C 1000) = none ∧ PySem.W.CodeHd h cc (C 1000)) ∧ (∀ (s : Shared) (u : Value), BindsTo s fd ⟨[u], []⟩ [("script", u)]) ∧ ∀ base : Heap, K.In base → base.Ns mainGlobals mg → (∃ o, base.get? sysModules = some o) → (C 1000 ≠ C 1001 → LamX.TabB base mg cc (C 1000)) → FnG l.prog w K mg base CX0 30 fa fd ["script"] (spF K C F_law) := by
  have e := hfa.symm.trans (PySem.W.mg_of X G a_law)
  cases e
  have F__law_pot := fun_mk (st := st__law_pot) l__law_pot c__law_pot k__law_pot
  have F__law_take := fun_mk (st := st__law_take) l__law_take c__law_take k__law_take
  have F__law_bodies := fun_mk (st := st__law_bodies) l__law_bodies c__law_bodies k__law_bodies
  have F__law_of := fun_mk (st := st__law_of) l__law_of c__law_of k__law_of
  have F__law_word := fun_mk (st := st__law_word) l__law_word c__law_word k__law_word
  have F__law_leaf := fun_mk (st := st__law_leaf) l__law_leaf c__law_leaf k__law_leaf
  have F__law_deep := fun_mk (st := st__law_deep) l__law_deep c__law_deep k__law_deep
  have F__law_of_nodes := fun_mk (st := st__law_of_nodes) l__law_of_nodes c__law_of_nodes k__law_of_nodes
  have F__law_kids := fun_mk (st := st__law_kids) l__law_kids c__law_kids k__law_kids
  have F__law_nodes := fun_mk (st := st__law_nodes) l__law_nodes c__law_nodes k__law_nodes
  have F__law_size := fun_mk (st := st__law_size) l__law_size c__law_size k__law_size
  have F__law_with_body := fun_mk (st := st__law_with_body) l__law_with_body c__law_with_body k__law_with_body
  have F_children := fun_mk (st := st_children) l_children c_children k_children
  have F_Course_all_strands := fun_mk (st := st_Course_all_strands) l_Course_all_strands c_Course_all_strands k_Course_all_strands
  have F_Course_last_round := fun_mk (st := st_Course_last_round) l_Course_last_round c_Course_last_round k_Course_last_round
  have F_Course_total := fun_mk (st := st_Course_total) l_Course_total c_Course_total k_Course_total
  have F_Course___init__ := fun_mk (st := st_Course___init__) l_Course___init__ c_Course___init__ k_Course___init__
  have F_detached_course := fun_mk (st := st_detached_course) l_detached_course c_detached_course k_detached_course
  have F_beside_course := fun_mk (st := st_beside_course) l_beside_course c_beside_course k_beside_course
  have F_last_to_finish := fun_mk (st := st_last_to_finish) l_last_to_finish c_last_to_finish k_last_to_finish
  have F_joined_course := fun_mk (st := st_joined_course) l_joined_course c_joined_course k_joined_course
  have F_first_to_finish := fun_mk (st := st_first_to_finish) l_first_to_finish c_first_to_finish k_first_to_finish
  have F_raced_course := fun_mk (st := st_raced_course) l_raced_course c_raced_course k_raced_course
  have F_Strand___init__ := fun_mk (st := st_Strand___init__) l_Strand___init__ c_Strand___init__ k_Strand___init__
  have F_over_and_over := fun_mk (st := st_over_and_over) l_over_and_over c_over_and_over k_over_and_over
  have F_once := fun_mk (st := st_once) l_once c_once k_once
  have F_Strand_singles := fun_mk (st := st_Strand_singles) l_Strand_singles c_Strand_singles k_Strand_singles
  have F_single_strands := fun_mk (st := st_single_strands) l_single_strands c_single_strands k_single_strands
  have F_repeated_course := fun_mk (st := st_repeated_course) l_repeated_course c_repeated_course k_repeated_course
  have F_silent_course := fun_mk (st := st_silent_course) l_silent_course c_silent_course k_silent_course
  have F_Strand_moved := fun_mk (st := st_Strand_moved) l_Strand_moved c_Strand_moved k_Strand_moved
  have F_turned_course := fun_mk (st := st_turned_course) l_turned_course c_turned_course k_turned_course
  have F_word_course := fun_mk (st := st_word_course) l_word_course c_word_course k_word_course
  have F_course_of := fun_mk (st := st_course_of) l_course_of c_course_of k_course_of
  have F_is_body := fun_mk (st := st_is_body) l_is_body c_is_body k_is_body
  have F_are_parts := fun_mk (st := st_are_parts) l_are_parts c_are_parts k_are_parts
  have F_is_integer := fun_mk (st := st_is_integer) l_is_integer c_is_integer k_is_integer
  have F_is_count := fun_mk (st := st_is_count) l_is_count c_is_count k_is_count
  have F_is_word := fun_mk (st := st_is_word) l_is_word c_is_word k_is_word
  have F_is_node := fun_mk (st := st_is_node) l_is_node c_is_node k_is_node
  have F_is_program := fun_mk (st := st_is_program) l_is_program c_is_program k_is_program
  have F__law_right := fun_mk (st := st__law_right) l__law_right c__law_right k__law_right
  have F_law := fun_mk (st := st_law) l_law c_law k_law
  refine ⟨fun i => match i with | 0 => C_Strand | 1 => C_Course | 1000 => tP | 1001 => mainGlobals | _ => fa, PySem.W.fnOf "law" "law" (defArgs st_law) (defBody st_law) (defScope st_law) .none kV_law dc_law pm_law an_law cd_law ct_law, ccA, fun _ => ⟨tt_, tk_, PySem.W.codeHd_of_K X th_⟩, fun s v => .of_eq rfl, fun base _ _ hs hTB => ?_⟩
  have tne : tP ≠ mainGlobals := fun z => by
    obtain ⟨o, es, ep, e1, e2, _⟩ := G
    rw [z, e1] at tt_
    cases tt_
    cases e2
  exact ok_law (P := l.prog) (w := w) (l := 30) ({
    sy := hs
    cc := ccA
    lc := tl_
    tne := tne
    tbB := hTB tne
    f__law_pot := f__law_pot
    fd__law_pot := _
    Fn__law_pot := F__law_pot
    m__law_pot := PySem.W.mg_of X G a__law_pot
    b__law_pot := F__law_pot.binds (ps := ["script", "k"]) fun _ _ _ _ _ _ us hl => (match us, hl with | [_, _], _ => rfl)
    f__law_take := f__law_take
    fd__law_take := _
    Fn__law_take := F__law_take
    m__law_take := PySem.W.mg_of X G a__law_take
    b__law_take := F__law_take.binds (ps := ["pot", "bound"]) fun _ _ _ _ _ _ us hl => (match us, hl with | [_, _], _ => rfl)
    f__law_bodies := f__law_bodies
    fd__law_bodies := _
    Fn__law_bodies := F__law_bodies
    m__law_bodies := PySem.W.mg_of X G a__law_bodies
    b__law_bodies := F__law_bodies.binds (ps := ["pot", "word"]) fun _ _ _ _ _ _ us hl => (match us, hl with | [_, _], _ => rfl)
    f__law_of := f__law_of
    fd__law_of := _
    Fn__law_of := F__law_of
    m__law_of := PySem.W.mg_of X G a__law_of
    b__law_of := F__law_of.binds (ps := ["pot", "some"]) fun _ _ _ _ _ _ us hl => (match us, hl with | [_, _], _ => rfl)
    f__law_word := f__law_word
    fd__law_word := _
    Fn__law_word := F__law_word
    m__law_word := PySem.W.mg_of X G a__law_word
    b__law_word := F__law_word.binds (ps := ["pot"]) fun _ _ _ _ _ _ us hl => (match us, hl with | [_], _ => rfl)
    f__law_leaf := f__law_leaf
    fd__law_leaf := _
    Fn__law_leaf := F__law_leaf
    m__law_leaf := PySem.W.mg_of X G a__law_leaf
    b__law_leaf := F__law_leaf.binds (ps := ["pot"]) fun _ _ _ _ _ _ us hl => (match us, hl with | [_], _ => rfl)
    f__law_deep := f__law_deep
    fd__law_deep := _
    Fn__law_deep := F__law_deep
    m__law_deep := PySem.W.mg_of X G a__law_deep
    b__law_deep := F__law_deep.binds (ps := ["pot", "levels"]) fun _ _ _ _ _ _ us hl => (match us, hl with | [_, _], _ => rfl)
    f__law_of_nodes := f__law_of_nodes
    fd__law_of_nodes := _
    Fn__law_of_nodes := F__law_of_nodes
    m__law_of_nodes := PySem.W.mg_of X G a__law_of_nodes
    b__law_of_nodes := F__law_of_nodes.binds (ps := ["pot", "many"]) fun _ _ _ _ _ _ us hl => (match us, hl with | [_, _], _ => rfl)
    f__law_kids := f__law_kids
    fd__law_kids := _
    Fn__law_kids := F__law_kids
    m__law_kids := PySem.W.mg_of X G a__law_kids
    b__law_kids := F__law_kids.binds (ps := ["tree"]) fun _ _ _ _ _ _ us hl => (match us, hl with | [_], _ => rfl)
    f__law_nodes := f__law_nodes
    fd__law_nodes := _
    Fn__law_nodes := F__law_nodes
    m__law_nodes := PySem.W.mg_of X G a__law_nodes
    b__law_nodes := F__law_nodes.binds (ps := ["tree"]) fun _ _ _ _ _ _ us hl => (match us, hl with | [_], _ => rfl)
    f__law_size := f__law_size
    fd__law_size := _
    Fn__law_size := F__law_size
    m__law_size := PySem.W.mg_of X G a__law_size
    b__law_size := F__law_size.binds (ps := ["tree"]) fun _ _ _ _ _ _ us hl => (match us, hl with | [_], _ => rfl)
    f__law_with_body := f__law_with_body
    fd__law_with_body := _
    Fn__law_with_body := F__law_with_body
    m__law_with_body := PySem.W.mg_of X G a__law_with_body
    b__law_with_body := F__law_with_body.binds (ps := ["pot", "body"]) fun _ _ _ _ _ _ us hl => (match us, hl with | [_, _], _ => rfl)
    f_children := f_children
    fd_children := _
    Fn_children := F_children
    m_children := PySem.W.mg_of X G a_children
    b_children := F_children.binds (ps := ["program"]) fun _ _ _ _ _ _ us hl => (match us, hl with | [_], _ => rfl)
    f_Course_all_strands := f_Course_all_strands
    fd_Course_all_strands := _
    Fn_Course_all_strands := F_Course_all_strands
    b_Course_all_strands := F_Course_all_strands.binds (ps := ["self"]) fun _ _ _ _ _ _ us hl => (match us, hl with | [_], _ => rfl)
    f_Course_last_round := f_Course_last_round
    fd_Course_last_round := _
    Fn_Course_last_round := F_Course_last_round
    b_Course_last_round := F_Course_last_round.binds (ps := ["self"]) fun _ _ _ _ _ _ us hl => (match us, hl with | [_], _ => rfl)
    f_Course_total := f_Course_total
    fd_Course_total := _
    Fn_Course_total := F_Course_total
    b_Course_total := F_Course_total.binds (ps := ["self"]) fun _ _ _ _ _ _ us hl => (match us, hl with | [_], _ => rfl)
    f_Course___init__ := f_Course___init__
    fd_Course___init__ := _
    Fn_Course___init__ := F_Course___init__
    b_Course___init__ := F_Course___init__.binds (ps := ["self", "finish", "ahead", "behind"]) fun _ _ _ _ _ _ us hl => (match us, hl with | [_, _, _, _], _ => rfl)
    f_detached_course := f_detached_course
    fd_detached_course := _
    Fn_detached_course := F_detached_course
    m_detached_course := PySem.W.mg_of X G a_detached_course
    b_detached_course := F_detached_course.binds (ps := ["part"]) fun _ _ _ _ _ _ us hl => (match us, hl with | [_], _ => rfl)
    f_beside_course := f_beside_course
    fd_beside_course := _
    Fn_beside_course := F_beside_course
    m_beside_course := PySem.W.mg_of X G a_beside_course
    b_beside_course := F_beside_course.binds (ps := ["parts", "finish", "carrier"]) fun _ _ _ _ _ _ us hl => (match us, hl with | [_, _, _], _ => rfl)
    f_last_to_finish := f_last_to_finish
    fd_last_to_finish := _
    Fn_last_to_finish := F_last_to_finish
    m_last_to_finish := PySem.W.mg_of X G a_last_to_finish
    b_last_to_finish := F_last_to_finish.binds (ps := ["parts"]) fun _ _ _ _ _ _ us hl => (match us, hl with | [_], _ => rfl)
    f_joined_course := f_joined_course
    fd_joined_course := _
    Fn_joined_course := F_joined_course
    m_joined_course := PySem.W.mg_of X G a_joined_course
    b_joined_course := F_joined_course.binds (ps := ["parts"]) fun _ _ _ _ _ _ us hl => (match us, hl with | [_], _ => rfl)
    f_first_to_finish := f_first_to_finish
    fd_first_to_finish := _
    Fn_first_to_finish := F_first_to_finish
    m_first_to_finish := PySem.W.mg_of X G a_first_to_finish
    b_first_to_finish := F_first_to_finish.binds (ps := ["parts"]) fun _ _ _ _ _ _ us hl => (match us, hl with | [_], _ => rfl)
    f_raced_course := f_raced_course
    fd_raced_course := _
    Fn_raced_course := F_raced_course
    m_raced_course := PySem.W.mg_of X G a_raced_course
    b_raced_course := F_raced_course.binds (ps := ["parts"]) fun _ _ _ _ _ _ us hl => (match us, hl with | [_], _ => rfl)
    f_Strand___init__ := f_Strand___init__
    fd_Strand___init__ := _
    Fn_Strand___init__ := F_Strand___init__
    b_Strand___init__ := F_Strand___init__.binds (ps := ["self", "word", "first", "step", "many"]) fun _ _ _ _ _ _ us hl => (match us, hl with | [_, _, _, _, _], _ => rfl)
    f_over_and_over := f_over_and_over
    fd_over_and_over := _
    Fn_over_and_over := F_over_and_over
    m_over_and_over := PySem.W.mg_of X G a_over_and_over
    b_over_and_over := F_over_and_over.binds (ps := ["singles", "step", "count"]) fun _ _ _ _ _ _ us hl => (match us, hl with | [_, _, _], _ => rfl)
    f_once := f_once
    fd_once := _
    Fn_once := F_once
    m_once := PySem.W.mg_of X G a_once
    b_once := F_once.binds (ps := ["word", "at"]) fun _ _ _ _ _ _ us hl => (match us, hl with | [_, _], _ => rfl)
    f_Strand_singles := f_Strand_singles
    fd_Strand_singles := _
    Fn_Strand_singles := F_Strand_singles
    b_Strand_singles := F_Strand_singles.binds (ps := ["self"]) fun _ _ _ _ _ _ us hl => (match us, hl with | [_], _ => rfl)
    f_single_strands := f_single_strands
    fd_single_strands := _
    Fn_single_strands := F_single_strands
    m_single_strands := PySem.W.mg_of X G a_single_strands
    b_single_strands := F_single_strands.binds (ps := ["strands"]) fun _ _ _ _ _ _ us hl => (match us, hl with | [_], _ => rfl)
    f_repeated_course := f_repeated_course
    fd_repeated_course := _
    Fn_repeated_course := F_repeated_course
    m_repeated_course := PySem.W.mg_of X G a_repeated_course
    b_repeated_course := F_repeated_course.binds (ps := ["body", "count"]) fun _ _ _ _ _ _ us hl => (match us, hl with | [_, _], _ => rfl)
    f_silent_course := f_silent_course
    fd_silent_course := _
    Fn_silent_course := F_silent_course
    m_silent_course := PySem.W.mg_of X G a_silent_course
    b_silent_course := F_silent_course.binds (ps := ["rounds"]) fun _ _ _ _ _ _ us hl => (match us, hl with | [_], _ => rfl)
    f_Strand_moved := f_Strand_moved
    fd_Strand_moved := _
    Fn_Strand_moved := F_Strand_moved
    b_Strand_moved := F_Strand_moved.binds (ps := ["self", "by"]) fun _ _ _ _ _ _ us hl => (match us, hl with | [_, _], _ => rfl)
    f_turned_course := f_turned_course
    fd_turned_course := _
    Fn_turned_course := F_turned_course
    m_turned_course := PySem.W.mg_of X G a_turned_course
    b_turned_course := F_turned_course.binds (ps := ["parts"]) fun _ _ _ _ _ _ us hl => (match us, hl with | [_], _ => rfl)
    f_word_course := f_word_course
    fd_word_course := _
    Fn_word_course := F_word_course
    m_word_course := PySem.W.mg_of X G a_word_course
    b_word_course := F_word_course.binds (ps := ["word"]) fun _ _ _ _ _ _ us hl => (match us, hl with | [_], _ => rfl)
    f_course_of := f_course_of
    fd_course_of := _
    Fn_course_of := F_course_of
    m_course_of := PySem.W.mg_of X G a_course_of
    b_course_of := F_course_of.binds (ps := ["program"]) fun _ _ _ _ _ _ us hl => (match us, hl with | [_], _ => rfl)
    f_is_body := f_is_body
    fd_is_body := _
    Fn_is_body := F_is_body
    m_is_body := PySem.W.mg_of X G a_is_body
    b_is_body := F_is_body.binds (ps := ["program"]) fun _ _ _ _ _ _ us hl => (match us, hl with | [_], _ => rfl)
    f_are_parts := f_are_parts
    fd_are_parts := _
    Fn_are_parts := F_are_parts
    m_are_parts := PySem.W.mg_of X G a_are_parts
    b_are_parts := F_are_parts.binds (ps := ["value", "least", "most"]) fun _ _ _ _ _ _ us hl => (match us, hl with | [_, _, _], _ => rfl)
    f_is_integer := f_is_integer
    fd_is_integer := _
    Fn_is_integer := F_is_integer
    m_is_integer := PySem.W.mg_of X G a_is_integer
    b_is_integer := F_is_integer.binds (ps := ["value"]) fun _ _ _ _ _ _ us hl => (match us, hl with | [_], _ => rfl)
    f_is_count := f_is_count
    fd_is_count := _
    Fn_is_count := F_is_count
    m_is_count := PySem.W.mg_of X G a_is_count
    b_is_count := F_is_count.binds (ps := ["value", "least"]) fun _ _ _ _ _ _ us hl => (match us, hl with | [_, _], _ => rfl)
    f_is_word := f_is_word
    fd_is_word := _
    Fn_is_word := F_is_word
    m_is_word := PySem.W.mg_of X G a_is_word
    b_is_word := F_is_word.binds (ps := ["value"]) fun _ _ _ _ _ _ us hl => (match us, hl with | [_], _ => rfl)
    f_is_node := f_is_node
    fd_is_node := _
    Fn_is_node := F_is_node
    m_is_node := PySem.W.mg_of X G a_is_node
    b_is_node := F_is_node.binds (ps := ["value"]) fun _ _ _ _ _ _ us hl => (match us, hl with | [_], _ => rfl)
    f_is_program := f_is_program
    fd_is_program := _
    Fn_is_program := F_is_program
    m_is_program := PySem.W.mg_of X G a_is_program
    b_is_program := F_is_program.binds (ps := ["value"]) fun _ _ _ _ _ _ us hl => (match us, hl with | [_], _ => rfl)
    f__law_right := f__law_right
    fd__law_right := _
    Fn__law_right := F__law_right
    m__law_right := PySem.W.mg_of X G a__law_right
    b__law_right := F__law_right.binds (ps := ["pot"]) fun _ _ _ _ _ _ us hl => (match us, hl with | [_], _ => rfl)
    f_law := fa
    fd_law := _
    Fn_law := F_law
    m_law := PySem.W.mg_of X G a_law
    b_law := F_law.binds (ps := ["script"]) fun _ _ _ _ _ _ us hl => (match us, hl with | [_], _ => rfl)
    z_abs := PySem.W.mg_none_of X G z_abs
    z_all := PySem.W.mg_none_of X G z_all
    z_bool := PySem.W.mg_none_of X G z_bool
    z_enumerate := PySem.W.mg_none_of X G z_enumerate
    z_int := PySem.W.mg_none_of X G z_int
    z_isinstance := PySem.W.mg_none_of X G z_isinstance
    z_len := PySem.W.mg_none_of X G z_len
    z_max := PySem.W.mg_none_of X G z_max
    z_min := PySem.W.mg_none_of X G z_min
    z_range := PySem.W.mg_none_of X G z_range
    z_sorted := PySem.W.mg_none_of X G z_sorted
    z_str := PySem.W.mg_none_of X G z_str
    z_sum := PySem.W.mg_none_of X G z_sum
    z_tuple := PySem.W.mg_none_of X G z_tuple
    tk_MOST_BESIDE := tk_MOST_BESIDE
    c_MOST_BESIDE := PySem.W.mg_of X G v_MOST_BESIDE
    tk_MOST_BODY_FINISH := tk_MOST_BODY_FINISH
    c_MOST_BODY_FINISH := PySem.W.mg_of X G v_MOST_BODY_FINISH
    tk_MOST_BODY_ROUND := tk_MOST_BODY_ROUND
    c_MOST_BODY_ROUND := PySem.W.mg_of X G v_MOST_BODY_ROUND
    tk_MOST_BODY_WORDS := tk_MOST_BODY_WORDS
    c_MOST_BODY_WORDS := PySem.W.mg_of X G v_MOST_BODY_WORDS
    tk_MOST_COUNT := tk_MOST_COUNT
    c_MOST_COUNT := v_MOST_COUNT
    tk_MOST_DEPTH := tk_MOST_DEPTH
    c_MOST_DEPTH := PySem.W.mg_of X G v_MOST_DEPTH
    tk_MOST_LETTERS := tk_MOST_LETTERS
    c_MOST_LETTERS := PySem.W.mg_of X G v_MOST_LETTERS
    tk_MOST_LOOPS := tk_MOST_LOOPS
    c_MOST_LOOPS := PySem.W.mg_of X G v_MOST_LOOPS
    tk_MOST_NODES := tk_MOST_NODES
    c_MOST_NODES := PySem.W.mg_of X G v_MOST_NODES
    tk_MOST_PARTS := tk_MOST_PARTS
    c_MOST_PARTS := PySem.W.mg_of X G v_MOST_PARTS
    m_Course := PySem.W.mg_of X G a_Course
    m_Strand := PySem.W.mg_of X G a_Strand
    M_Course := ⟨mk_Course, in_Course, fn_Course, kc_Course⟩
    M_Strand := ⟨mk_Strand, in_Strand, fn_Strand, kc_Strand⟩
    cl_Course := ⟨pg_Course, hd_Course, po_Course, sa_Course⟩
    cl_Strand := ⟨pg_Strand, hd_Strand, po_Strand, sa_Strand⟩
    me_Course_all_strands := ⟨a_Course_all_strands, fm_Course_all_strands, k_Course_all_strands⟩
    me_Course_last_round := ⟨a_Course_last_round, fm_Course_last_round, k_Course_last_round⟩
    me_Course_total := ⟨a_Course_total, fm_Course_total, k_Course_total⟩
    me_Strand_moved := ⟨a_Strand_moved, fm_Strand_moved, k_Strand_moved⟩
    me_Strand_singles := ⟨a_Strand_singles, fm_Strand_singles, k_Strand_singles⟩
    fl_ahead := fun c hc => by (simp only [List.mem_cons, List.not_mem_nil, or_false] at hc; rcases hc with rfl; exact ⟨⟨pg_Course, hd_Course, po_Course, sa_Course⟩, na_Course_ahead⟩)
    fl_behind := fun c hc => by (simp only [List.mem_cons, List.not_mem_nil, or_false] at hc; rcases hc with rfl; exact ⟨⟨pg_Course, hd_Course, po_Course, sa_Course⟩, na_Course_behind⟩)
    fl_finish := fun c hc => by (simp only [List.mem_cons, List.not_mem_nil, or_false] at hc; rcases hc with rfl; exact ⟨⟨pg_Course, hd_Course, po_Course, sa_Course⟩, na_Course_finish⟩)
    fl_first := fun c hc => by (simp only [List.mem_cons, List.not_mem_nil, or_false] at hc; rcases hc with rfl; exact ⟨⟨pg_Strand, hd_Strand, po_Strand, sa_Strand⟩, na_Strand_first⟩)
    fl_last := fun c hc => by (simp only [List.mem_cons, List.not_mem_nil, or_false] at hc; rcases hc with rfl; exact ⟨⟨pg_Strand, hd_Strand, po_Strand, sa_Strand⟩, na_Strand_last⟩)
    fl_many := fun c hc => by (simp only [List.mem_cons, List.not_mem_nil, or_false] at hc; rcases hc with rfl; exact ⟨⟨pg_Strand, hd_Strand, po_Strand, sa_Strand⟩, na_Strand_many⟩)
    fl_step := fun c hc => by (simp only [List.mem_cons, List.not_mem_nil, or_false] at hc; rcases hc with rfl; exact ⟨⟨pg_Strand, hd_Strand, po_Strand, sa_Strand⟩, na_Strand_step⟩)
    fl_word := fun c hc => by (simp only [List.mem_cons, List.not_mem_nil, or_false] at hc; rcases hc with rfl; exact ⟨⟨pg_Strand, hd_Strand, po_Strand, sa_Strand⟩, na_Strand_word⟩) } : Fx K mg base (fun i => match i with | 0 => C_Strand | 1 => C_Course | 1000 => tP | 1001 => mainGlobals | _ => fa)) (Nat.le_refl _)
end GK02

end
section
set_option Elab.async false
set_option linter.all false
set_option maxRecDepth 100000
set_option autoImplicit false
set_option exponentiation.threshold 5000
namespace K02
open PySem PySem.Spec L2 Z T GK02
section
variable {i : Nat} {T : Int} {st : Sto} {σ : Slo}
theorem size_c {p : Pg} (hw : WfS st) (hn : nodes p ≤ 190) (hd : dep p ≤ 28) (hs : okTx p = true) (hf : fitA p = true) : F__law_size [enc p] st = some (.int (nodes p), st) := by
  have h := lnodes_c hw hn hd hs hf
  have hcut := cut_ok (d := .int (nodes p)) (n := st.length) rfl rfl hw
  have hl : bLen [.lst ((trav p 1).map encL)] st = some (.int (nodes p), st) := by
    simp [bLen, lenD, vL, trav_len]
  show (mRet _ [some (enc p)] st).bind _ = _
  simp only [e_mRet, e_mC, e_aCons, gv0, e_aNil, Option.bind_some]
  rw [show F__law_nodes [enc p] st = _ from h]
  simp only [Option.bind_some, hl]
  exact hcut
theorem tuple_lst {ds : List D} (h : ds.length ≤ 1000000) : bTuple [.lst ds] st = some (.tup ds, st) := by
  simp [bTuple, vL, sz h]
theorem app1 {ds : List D} {d : D} (h : ds.length < 1000) : oApp (.ref st.length) [d] (st ++ [.lst ds]) = some (.non, st ++ [.lst (ds ++ [d])]) := by
  have h2 : ds.length < sizeLine := Nat.lt_of_lt_of_le h (by decide +kernel)
  simp [oApp, snoc_get, snoc_set, h2]
theorem rg1 {a : Ev (List D)} {k : Int} {s s' : Sto} (ha : a σ s = some ([.int k], s')) (h1 : -1000 ≤ k) (h2 : k < 1000) : ilOf (iRg1 a) σ s = some ((rngD 0 k.toNat, some), s') := by
  have : (decide (-(2 ^ 62) ≤ k) && decide (k < 2 ^ 62)) = true := by simp; omega
  simp only [ilOf]
  unfold iRg1
  rw [ha, Option.bind_some]
  simp only []
  rw [if_pos this]; rfl
theorem rng_len (lo : Int) (n : Nat) : (rngD lo n).length = n := by simp [rngD]
def rowT (p : Pg) : Prop := ∃ ls, p = .seq ls ∧ ls.length ≤ 12 ∧ ∀ x ∈ ls, leafT x
structure RInv (i : Nat) (T : Int) (st : Sto) (m : Int) (a : List Pg × Int) (σ : Slo) (s' : Sto) : Prop where
  l : ∃ y z, σ = [some (.ref i), some (.int m), some (.ref st.length), some (.int a.2), y, z]
  s : ∃ s, s' = s ++ [.lst (a.1.map enc)] ∧ Drawn i (T + 2 * (m - 1 - a.2)) st s
  r : ∀ p ∈ a.1, rowT p
  n : (nodess a.1 : Int) + a.2 = m - 1
  p : 0 ≤ a.2
  c : 0 < a.2 → 8 * a.1.length ≤ nodess a.1
  d : 8 * a.1.length ≤ nodess a.1 + 7
theorem leaf_nodes {p : Pg} (h : leafT p) : nodes p = 1 := by cases p <;> first | rfl | exact h.elim
theorem leafs_nodes : ∀ {ls : List Pg}, (∀ x ∈ ls, leafT x) → nodess ls = ls.length
  | [], _ => rfl
  | p :: ls, h => by
    have h1 := leaf_nodes (h p List.mem_cons_self)
    have h2 := leafs_nodes fun x hx => h x (List.mem_cons_of_mem p hx)
    simp [nodess, h1, h2]; omega
theorem nodess_snoc (a : List Pg) (p : Pg) : nodess (a ++ [p]) = nodess a + nodes p := by rw [nodess_app]; simp [nodess]
theorem rows_step (hw : WfS st) (hi : i < st.length) {m : Int} (hm : m ≤ 200) (hT : T + 500 < BIG) (a : List Pg × Int) (σ : Slo) (s' : Sto) (h : RInv i T st m a σ s') :
    toB (mB oGt (gv 3) (ck (.int 0))) σ s' = some (false, s') ∨ (toB (mB oGt (gv 3) (ck (.int 0))) σ s' = some (true, s') ∧ ∃ a' σ' s2, (mSeq (mSet 4 (mC bMin2 (aCons (gv 3) (aCons (mB oAdd (ck (.int 8)) (mC F__law_take (aCons (gv 0) (aCons (ck (.int 6)) aNil)))) aNil)))) (mSeq (mEx (mM okL oApp (gv 2) (aCons (mTup (aCons (ck (.str "seq")) (aCons (mC bTuple (aCons (mLcL (ilOf (iRg1 (aCons (mB oSub (gv 4) (ck (.int 1))) aNil))) (gN 5) bYes (mC F__law_leaf (aCons (gv 0) aNil)) [5]) aNil)) aNil))) aNil))) (mSet 3 (mB oSub (gv 3) (gv 4))))) σ s' = some (.nx, σ', s2) ∧ RInv i T st m a' σ' s2 ∧ (a'.2).toNat < (a.2).toNat) := by
  obtain ⟨rows, left⟩ := a
  obtain ⟨⟨y, z, rfl⟩, ⟨s, rfl, dr⟩, hr, hn, hp, hc, hd⟩ := h
  simp only at *
  have g3 : ∀ s, gv 3 [some (.ref i), some (.int m), some (.ref st.length), some (.int left), y, z] s = some (.int left, s) := fun s => rfl
  have hcond : toB (mB oGt (gv 3) (ck (.int 0))) [some (.ref i), some (.int m), some (.ref st.length), some (.int left), y, z] (s ++ [.lst (rows.map enc)]) = some (decide (0 < left), s ++ [.lst (rows.map enc)]) := by
    simp only [e_toB, e_mB, g3, e_ck, Option.bind_some, e_oGt]
  by_cases h0 : 0 < left
  · refine .inr ⟨by rw [hcond, decide_eq_true h0], ?_⟩
    have hsl : s.length = st.length := dr.len
    have wf1 : WfS (s ++ [.lst (rows.map enc)]) := dr.wf.add (by simp [belowO, encs_below])
    obtain ⟨d, s1', t1, t2, t3, t4⟩ := take_d (b := 6) wf1 (pot_app dr.pot) (by omega) (by decide) (by decide)
    obtain ⟨s1, rfl, d1⟩ := drawn_app dr.wf (by omega) t4
    generalize hz : (if 8 + d < left then 8 + d else left) = size at *
    have z1 : 1 ≤ size := by rw [← hz]; split <;> omega
    have z2 : size ≤ 13 := by rw [← hz]; split <;> omega
    have z3 : size ≤ left := by rw [← hz]; split <;> omega
    have z4 : size = left ∨ 8 ≤ size := by rw [← hz]; split <;> omega
    have hmin : ∀ s : Sto, bMin2 [.int left, .int (8 + d)] s = some (.int size, s) := fun s => by rw [← hz]; rfl
    generalize hτ : [some (.ref i), some (.int m), some (.ref st.length), some (.int left), some (.int size), z] = τ
    have wf2 : WfS (s1 ++ [.lst (rows.map enc)]) := d1.wf.add (by simp [belowO, encs_below])
    have pot2 : Pot i (T + 2 * (m - 1 - left) + 1) (s1 ++ [.lst (rows.map enc)]) := pot_app d1.pot
    obtain ⟨ls, s2', u1, u2, u3, u4⟩ := lc_dr (σ := τ) (it := ilOf (iRg1 (aCons (mB oSub (gv 4) (ck (.int 1))) aNil))) (gm := gN 5) (me := mC F__law_leaf (aCons (gv 0) aNil)) (vs := [5]) enc leafT 2 (BIG - 1) (by decide) (rngD 0 (size - 1).toNat)
      (rg1 (k := size - 1) (by rw [← hτ]; simp [gv]) (by omega) (by omega))
      (fun dd s T hw hp hT => by
        obtain ⟨p, s', k1, k2, k3⟩ := leaf_dr hw hp hT
        refine ⟨_, p, s', rfl, ?_, k2, k3⟩
        have : ((wipeD τ [5]).set 5 (some dd))[0]? = some (some (.ref i)) := by rw [← hτ]; rfl
        simp only [e_mC, e_aCons, gvn this, e_aNil, Option.bind_some]
        exact k1) wf2 pot2 (by rw [rng_len]; omega) (by rw [rng_len]; exact sz (by omega))
    rw [rng_len] at u2 u4
    obtain ⟨s2, rfl, d2⟩ := drawn_app d1.wf (by rw [d1.len]; omega) u4
    have hs2 : s2.length = st.length := d2.len.trans (d1.len.trans hsl)
    have ap := app1 (st := s2) (ds := rows.map enc) (d := enc (.seq ls)) (by
      rw [List.length_map]
      have := leafs_nodes u3
      omega)
    rw [hs2] at ap
    have t0 : ∀ s, gv 0 τ s = some (.ref i, s) := fun s => by rw [← hτ]; rfl
    have tt2 : ∀ s, gv 2 τ s = some (.ref st.length, s) := fun s => by rw [← hτ]; rfl
    have tt3 : ∀ s, gv 3 τ s = some (.int left, s) := fun s => by rw [← hτ]; rfl
    have tt4 : ∀ s, gv 4 τ s = some (.int size, s) := fun s => by rw [← hτ]; rfl
    have ok2 : okL (.ref st.length) (s1 ++ [.lst (rows.map enc)]) = true := by
      have := okL_new (st := s1) (acc := rows.map enc)
      rwa [d1.len, hsl] at this
    have tl := tuple_lst (st := s2 ++ [.lst (rows.map enc)]) (ds := ls.map enc) (by rw [List.length_map]; omega)
    have hls := leafs_nodes u3
    refine ⟨(rows ++ [Pg.seq ls], left - size), τ.set 3 (some (.int (left - size))), s2 ++ [.lst ((rows ++ [Pg.seq ls]).map enc)], ?_, ⟨⟨some (.int size), z, by rw [← hτ]; rfl⟩, ⟨s2, rfl, ?_⟩, ?_, ?_, by simp only; omega, ?_, ?_⟩, by simp only; omega⟩
    · have g0 : ∀ s, gv 0 [some (.ref i), some (.int m), some (.ref st.length), some (.int left), y, z] s = some (.ref i, s) := fun s => rfl
      have t1' : F__law_take [.ref i, .int 6] (s ++ [.lst (rows.map enc)]) = some (.int d, s1 ++ [.lst (rows.map enc)]) := t1
      simp only [e_mSeq, e_mSet, e_mC, e_aCons, g3, e_mB, e_ck, g0, e_aNil, Option.bind_some, t1', e_oAdd, hmin, List.set_cons_succ, List.set_cons_zero, hτ, e_mEx, e_mM, tt2, ok2, if_true, e_mTup, u1, tl, List.length_cons, List.length_nil, Nat.zero_add, Nat.reduceAdd, sz2]
      rw [show D.tup [D.str "seq", D.tup (List.map enc ls)] = enc (.seq ls) from by rw [← encs_map]; rfl, ap]
      simp only [Option.bind_some, tt3, tt4, e_oSub, List.map_append, List.map_cons, List.map_nil]
    · have := dr.trans (d1.trans d2)
      refine drawn_le this ?_
      omega
    · intro p hp
      rcases List.mem_append.mp hp with hp | hp
      · exact hr p hp
      · rw [List.mem_singleton] at hp
        exact ⟨ls, hp, by omega, u3⟩
    · simp only [nodess_snoc, nodes, hls, u2]; omega
    · intro hl
      simp only [nodess_snoc, nodes, hls, u2, List.length_append, List.length_singleton] at hl ⊢
      have := hc h0
      omega
    · simp only [nodess_snoc, nodes, hls, u2, List.length_append, List.length_singleton]
      have := hc h0
      omega
  · exact .inl (by rw [hcond, decide_eq_false h0])
end
end K02

end
section
set_option Elab.async false
set_option linter.all false
set_option maxRecDepth 100000
set_option autoImplicit false
set_option exponentiation.threshold 5000
namespace K02
open PySem PySem.Spec L2 Z T GK02
section
variable {i : Nat} {T : Int} {st : Sto} {σ : Slo}
theorem of_nodes_dr (hw : WfS st) (hp : Pot i T st) {m : Int} (h1 : 2 ≤ m) (hm : m ≤ 99) (hT : T + 500 < BIG) :
    ∃ rows st', F__law_of_nodes [.ref i, .int m] st = some (enc (.seq rows), st') ∧ (nodess rows : Int) = m - 1 ∧ 8 * rows.length ≤ nodess rows + 7 ∧ (∀ p ∈ rows, rowT p) ∧ Drawn i (T + 2 * m) st st' := by
  have hi := pot_lt hp
  have start : RInv i T st m ([], m - 1) [some (.ref i), some (.int m), some (.ref st.length), some (.int (m - 1)), none, none] (st ++ [.lst []]) :=
    ⟨⟨_, _, rfl⟩, ⟨st, rfl, ⟨hw, rfl, fun _ _ => rfl, pot_le hp (by simp only; omega)⟩⟩, (fun p hp => nomatch hp), by simp [nodess], by simp only; omega, fun _ => by simp, by simp⟩
  obtain ⟨a, σ', s', e1, ⟨⟨y, z, rfl⟩, ⟨s, rfl, dr⟩, hr, hn, hp', hc, hd⟩, e3⟩ := wh_run (RInv i T st m) (fun a => a.2.toNat) (rows_step hw hi (m := m) (by omega) hT) 100 _ _ _ start (by simp only; omega)
  obtain ⟨rows, left⟩ := a
  simp only at *
  have hsl : s.length = st.length := dr.len
  have g3 : gv 3 [some (.ref i), some (.int m), some (.ref st.length), some (.int left), y, z] (s ++ [.lst (rows.map enc)]) = some (.int left, s ++ [.lst (rows.map enc)]) := rfl
  have hl : left = 0 := by
    simp only [e_toB, e_mB, g3, e_ck, Option.bind_some, e_oGt] at e3
    have e3 : some (decide (0 < left), s ++ [O.lst (rows.map enc)]) = some (false, s ++ [O.lst (rows.map enc)]) := e3
    have : decide (0 < left) = false := by injection e3 with e3; injection e3
    have := of_decide_eq_false this
    omega
  subst hl
  have hrl : rows.length ≤ 1000000 := by omega
  have bt : bTuple [.ref st.length] (s ++ [.lst (rows.map enc)]) = some (.tup (rows.map enc), s ++ [.lst (rows.map enc)]) := by
    have : (s ++ [O.lst (rows.map enc)])[st.length]? = some (.lst (rows.map enc)) := by rw [← hsl]; exact snoc_get
    simp only [bTuple, vL, this]; rfl
  have hcut := cut_dead2 (st := s) (d := enc (.seq rows)) (n := st.length) (os := [.lst (rows.map enc)]) hsl dr.wf (enc_below _ _)
  have l1 : (D.tup [D.str "seq", D.tup (rows.map enc)]) = enc (.seq rows) := by rw [← encs_map]; rfl
  have g2 : gv 2 [some (.ref i), some (.int m), some (.ref st.length), some (.int 0), y, z] (s ++ [.lst (rows.map enc)]) = some (.ref st.length, s ++ [.lst (rows.map enc)]) := rfl
  refine ⟨rows, s, ?_, by omega, hd, hr, drawn_le dr (by omega)⟩
  show (mSeq _ _ [some (.ref i), some (.int m), none, none, none, none] st).bind _ = _
  have g1 : ∀ s, gv 1 [some (.ref i), some (.int m), none, none, none, none] s = some (.int m, s) := fun s => rfl
  simp only [e_mSeq, e_mPar, e_aCons, e_mNew, e_aNil, Option.bind_some, List.length_nil, Nat.zero_le, if_true, e_mB, g1, e_ck, e_oSub, List.set_cons_succ, List.set_cons_zero]
  rw [e1]
  simp only [Option.bind_some, e_mRet, e_mTup, e_aCons, e_ck, e_mC, g2, e_aNil, bt, List.length_cons, List.length_nil, Nat.zero_add, Nat.reduceAdd, sz2, if_true, l1]
  exact hcut
/-! ### deep ones -/
/-- a chain of so many levels -/
structure Chain (m : Nat) (p : Pg) : Prop where
  d : dep p = m
  n : nodes p + 1 ≤ 2 * m
  a : allN p = true
  pl : plainP p = true
  f : fitA p = true
  s : okTx p = true
theorem w8_all : (W8.all fun w => wordT w && PyData.strOk w && decide (w.length ≤ 100000)) = true := by decide +kernel
theorem w8_mem {w : Str} (h : w ∈ W8) : wordT w = true ∧ PyData.strOk w = true ∧ w.length ≤ 100000 := by
  have := List.all_eq_true.mp w8_all w h
  simp only [Bool.and_eq_true, decide_eq_true_eq] at this
  exact ⟨this.1.1, this.1.2, this.2⟩
theorem leaf_chain {p : Pg} (h : leafT p) : Chain 1 p := by
  cases p with
  | log w =>
    obtain ⟨h1, h2, h3⟩ := w8_mem h
    exact ⟨rfl, by simp [nodes], h1, rfl, decide_eq_true h3, h2⟩
  | aw n =>
    have h : 1 ≤ n ∧ n ≤ 3 := h
    exact ⟨rfl, by simp [nodes], by simp [allN, countT]; omega, rfl, rfl, rfl⟩
  | _ => exact h.elim
theorem wa : wordT "a" = true := (w8_mem (w := "a") (by simp [W8])).1
theorem oka : PyData.strOk "a" = true := (w8_mem (w := "a") (by simp [W8])).2.1
theorem la : ("a" : Str).length ≤ 100000 := (w8_mem (w := "a") (by simp [W8])).2.2
theorem chain_fork {n : Nat} {p : Pg} (h : Chain n p) : Chain (n + 1) (.fork p) := ⟨by simp [dep, h.d]; omega, by have := h.n; simp [nodes]; omega, h.a, h.pl, h.f, h.s⟩
theorem chain_seq {n : Nat} {p : Pg} (h : Chain n p) : Chain (n + 1) (.seq [p]) := ⟨by simp [dep, deps, h.d]; omega, by have := h.n; simp [nodes, nodess]; omega, by simp [allN, allNs, h.a], by simp [plainP, plains, h.pl], by simp [fitA, fitAs, h.f], by simp [okTx, okTxs, h.s]⟩
theorem chain_race {n : Nat} {p : Pg} (h : Chain n p) : Chain (n + 1) (.race [p]) := ⟨by simp [dep, deps, h.d]; omega, by have := h.n; simp [nodes, nodess]; omega, by simp [allN, allNs, h.a], by simp [plainP, plains, h.pl], by simp [fitA, fitAs, h.f], by simp [okTx, okTxs, h.s]⟩
theorem chain_join {n : Nat} {p : Pg} (h : Chain n p) (hn : 1 ≤ n) : Chain (n + 1) (.join [.log "a", p]) := ⟨by simp [dep, deps, h.d]; omega, by have := h.n; simp [nodes, nodess]; omega, by simp [allN, allNs, h.a, wa], by simp [plainP, plains, h.pl], by simp [fitA, fitAs, h.f, la], by simp [okTx, okTxs, h.s, oka]⟩
structure DInv (i : Nat) (T : Int) (st : Sto) (lv : Int) (left : List Int) (n : Nat) (σ : Slo) (s : Sto) : Prop where
  l : ∃ p z, σ = [some (.ref i), some (.int lv), some (enc p), z] ∧ Chain n p
  d : Drawn i (T + 2 + n) st s
  n1 : 1 ≤ n
  t : n + left.length ≤ 100
theorem deep_step (hw : WfS st) (lv : Int) (hT : T + 500 < BIG) (x : Int) (xs : List Int) (n : Nat) (σ : Slo) (s : Sto) (h : DInv i T st lv (x :: xs) n σ s) : ∃ σ1 st1 σ2 st2, gN 3 (.int x) σ s = some (σ1, st1) ∧
    (mSet 2 (mC F__law_of (aCons (gv 0) (aCons (mLst (aCons (mTup (aCons (ck (.str "fork")) (aCons (gv 2) aNil))) (aCons (mTup (aCons (ck (.str "seq")) (aCons (mTup (aCons (gv 2) aNil)) aNil))) (aCons (mTup (aCons (ck (.str "join")) (aCons (mTup (aCons (mTup (aCons (ck (.str "log")) (aCons (ck (.str "a")) aNil))) (aCons (gv 2) aNil))) aNil))) (aCons (mTup (aCons (ck (.str "race")) (aCons (mTup (aCons (gv 2) aNil)) aNil))) aNil))))) aNil)))) σ1 st1 = some (.nx, σ2, st2) ∧ DInv i T st lv xs (n + 1) σ2 st2 := by
  obtain ⟨⟨p, z, rfl, hch⟩, hd, h1, ht⟩ := h
  simp only [List.length_cons] at ht
  obtain ⟨d, s', e1, e2, e3⟩ := of_d (i := i) (T := T + 2 + n) (st := s) (ds := [enc (.fork p), enc (.seq [p]), enc (.join [.log "a", p]), enc (.race [p])]) hd.wf hd.pot (by omega) (by simp) (by simp) (by
    have := encs_below s.length [.fork p, .seq [p], .join [.log "a", p], .race [p]]
    simpa using this)
  obtain ⟨q, rfl, hq⟩ : ∃ q, d = enc q ∧ Chain (n + 1) q := by
    simp only [List.mem_cons, List.not_mem_nil, or_false] at e2
    rcases e2 with rfl | rfl | rfl | rfl
    · exact ⟨_, rfl, chain_fork hch⟩
    · exact ⟨_, rfl, chain_seq hch⟩
    · exact ⟨_, rfl, chain_join hch h1⟩
    · exact ⟨_, rfl, chain_race hch⟩
  refine ⟨_, _, [some (.ref i), some (.int lv), some (enc q), some (.int x)], s', rfl, ?_, ⟨⟨q, some (.int x), rfl, hq⟩, drawn_le (hd.trans e3) (by omega), by omega, by omega⟩⟩
  have g0 : ∀ s, gv 0 [some (.ref i), some (.int lv), some (enc p), some (.int x)] s = some (.ref i, s) := fun s => rfl
  have g2 : ∀ s, gv 2 [some (.ref i), some (.int lv), some (enc p), some (.int x)] s = some (enc p, s) := fun s => rfl
  have sz4 : (4 : Nat) ≤ sizeLine := by decide
  have e1' : F__law_of [.ref i, .lst [.tup [.str "fork", enc p], .tup [.str "seq", .tup [enc p]], .tup [.str "join", .tup [.tup [.str "log", .str "a"], enc p]], .tup [.str "race", .tup [enc p]]]] s = some (enc q, s') := e1
  simp only [List.set_cons_succ, List.set_cons_zero, e_mSet, e_mC, e_aCons, g0, g2, e_mLst, e_mTup, e_ck, e_aNil, Option.bind_some, List.length_cons, List.length_nil, Nat.zero_add, Nat.reduceAdd, sz1, sz2, sz4, if_true, e1']
theorem deep_dr (hw : WfS st) (hp : Pot i T st) {lv : Nat} (h1 : 1 ≤ lv) (h2 : lv ≤ 99) (hT : T + 500 < BIG) :
    ∃ p st', F__law_deep [.ref i, .int lv] st = some (enc p, st') ∧ Chain lv p ∧ Drawn i (T + 200) st st' := by
  obtain ⟨p, s, e1, e2, e3⟩ := leaf_dr hw hp (by omega)
  have start : DInv i T st lv ((List.range (lv - 1)).map fun (k : Nat) => ((0 : Int) + (k : Int))) 1 [some (.ref i), some (.int lv), some (enc p), none] s :=
    ⟨⟨p, none, rfl, leaf_chain e2⟩, drawn_le e3 (by omega), by omega, by simp; omega⟩
  obtain ⟨σ', s', f1, f2⟩ := for_run D.int (fun (n : Nat) (_ : Int) => n + 1) (DInv i T st lv) (deep_step hw lv hT) _ _ _ _ start
  have hfold : ∀ (xs : List Int) (n : Nat), xs.foldl (fun (n : Nat) (_ : Int) => n + 1) n = n + xs.length := by
    intro xs
    induction xs with
    | nil => intro n; rfl
    | cons x xs ih => intro n; rw [List.foldl_cons, ih]; simp; omega
  rw [hfold] at f2
  have hlen : 1 + ((List.range (lv - 1)).map fun (k : Nat) => ((0 : Int) + (k : Int))).length = lv := by simp; omega
  rw [hlen] at f2
  obtain ⟨⟨q, z, rfl, hq⟩, hd, _, _⟩ := f2
  refine ⟨q, s', ?_, hq, drawn_le hd (by omega)⟩
  have hcut := cut_ok (d := enc q) (n := st.length) (st := s') hd.len (enc_below _ _) hd.wf
  have hit : ilOf (iRg1 (aCons (mB oSub (gv 1) (ck (.int 1))) aNil)) [some (.ref i), some (.int lv), some (enc p), none] s = some ((rngD 0 ((lv : Int) - 1).toNat, some), s) := rg1 (by simp [gv]) (by omega) (by omega)
  have hr : rngD 0 ((lv : Int) - 1).toNat = (((List.range (lv - 1)).map fun (k : Nat) => ((0 : Int) + (k : Int)))).map D.int := by
    have : ((lv : Int) - 1).toNat = lv - 1 := by omega
    rw [this, rngD, List.map_map]; rfl
  rw [hr] at hit
  show (mSeq _ _ [some (.ref i), some (.int lv), none, none] st).bind _ = _
  have e1' : F__law_leaf [.ref i] st = some (enc p, s) := e1
  have g0 : ∀ s, gv 0 [some (.ref i), some (.int lv), none, none] s = some (.ref i, s) := fun s => rfl
  simp only [e_mSeq, e_mSet, e_mC, e_aCons, g0, e_aNil, Option.bind_some, e1', List.set_cons_succ, List.set_cons_zero, e_mForL, hit, f1, e_mRet]
  exact hcut
end
end K02

end
section
set_option Elab.async false
set_option linter.all false
set_option maxRecDepth 100000
set_option autoImplicit false
set_option exponentiation.threshold 5000
namespace K02
open PySem PySem.Spec L2 Z T GK02
section
variable {i : Nat} {T : Int} {st : Sto} {σ : Slo}
theorem pow18 : oPow (.int 10) (.int 18) st = some (.int 1000000000000000000, st) := by
  rw [e_oPow (by decide +kernel)]
  rfl
def wraps (l : Pg) : List Pg := [l, .seq [l, .log "z"], .fork l, .join [.aw 2, l]]
theorem sz4 : (4 : Nat) ≤ sizeLine := by decide
theorem with_body_dr {b : Pg} (hw : WfS st) (hp : Pot i T st) (hT : T + 500 < BIG) :
    ∃ n q st', F__law_with_body [.ref i, enc b] st = some (enc q, st') ∧ 0 ≤ n ∧ n ≤ 1000000000000000000 ∧ q ∈ wraps (.loop n b) ∧ Drawn i (T + 3) st st' := by
  obtain ⟨d, s1, a1, a2, a3, a4⟩ := take_d (b := 1000000000000000000) hw hp (by omega) (by decide) (by decide)
  obtain ⟨e, s2, b1, b2, b3⟩ := of_d (ds := [.int 0, .int 1, .int 1000000000000000000, .int d]) a4.wf a4.pot (by omega) (by simp) (by simp) rfl
  obtain ⟨n, rfl, n0, n1⟩ : ∃ n, e = .int n ∧ 0 ≤ n ∧ n ≤ 1000000000000000000 := by
    simp only [List.mem_cons, List.not_mem_nil, or_false] at b2
    rcases b2 with rfl | rfl | rfl | rfl
    · exact ⟨0, rfl, by decide, by decide⟩
    · exact ⟨1, rfl, by decide, by decide⟩
    · exact ⟨_, rfl, by decide, by decide⟩
    · exact ⟨d, rfl, a2, by omega⟩
  obtain ⟨f, s3, c1, c2, c3⟩ := of_d (ds := (wraps (.loop n b)).map enc) b3.wf b3.pot (by omega) (by simp [wraps]) (by simp [wraps]) (encs_below _ _)
  obtain ⟨q, hq, rfl⟩ := List.mem_map.mp c2
  have dr := drawn_le (a4.trans (b3.trans c3)) (U := T + 3) (by omega)
  refine ⟨n, q, s3, ?_, n0, n1, hq, dr⟩
  have hcut := cut_ok (d := enc q) (n := st.length) (st := s3) dr.len (enc_below _ _) dr.wf
  have a1' : F__law_take [.ref i, .int 1000000000000000000] st = some (.int d, s1) := a1
  have b1' : F__law_of [.ref i, .lst [.int 0, .int 1, .int 1000000000000000000, .int d]] s1 = some (.int n, s2) := b1
  have c1' : F__law_of [.ref i, .lst [.tup [.str "loop", .int n, enc b], .tup [.str "seq", .tup [.tup [.str "loop", .int n, enc b], .tup [.str "log", .str "z"]]], .tup [.str "fork", .tup [.str "loop", .int n, enc b]], .tup [.str "join", .tup [.tup [.str "await", .int 2], .tup [.str "loop", .int n, enc b]]]]] s2 = some (enc q, s3) := c1
  have g0 : ∀ x y s, gv 0 [some (.ref i), x, y] s = some (.ref i, s) := fun x y s => rfl
  have g1 : ∀ x y s, gv 1 [x, some (enc b), y] s = some (enc b, s) := fun x y s => rfl
  have g2 : ∀ x y d s, gv 2 [x, y, some d] s = some (d, s) := fun x y d s => rfl
  show (mSeq _ _ [some (.ref i), some (enc b), none] st).bind _ = _
  simp only [e_mSeq, e_mSet, e_mTup, e_mC, e_mLst, e_aCons, e_aNil, e_ck, e_mB, pow18, g0, g1, Option.bind_some, a1', b1', List.length_cons, List.length_nil, Nat.zero_add, Nat.reduceAdd, sz1, sz2, sz3, sz4, if_true, List.set_cons_succ, List.set_cons_zero, e_mRet, g2, c1']
  exact hcut
/-! ### bodies -/
def encB (x : Pg × Bool) : D := .tup [enc x.1, .bl x.2]
def bodiesT (w : Str) (k : Int) : List (Pg × Bool) :=
  let W : Pg := .aw k
  let late : Pg := .fork (.seq [.aw 30, .log w])
  let logs : Pg := .seq (List.replicate 12 (.log w))
  [(.log w, false), (W, true), (.aw 6, true), (.aw 7, false), (.seq [logs, W], true), (.seq [logs, .log w, W], false), (.seq [late, W], true), (.seq [.fork (.seq [.aw 31, .log w]), W], false), (.seq [.fork (.seq [.aw 30, .aw 1]), W], true),
   (.race [.aw 1000000000000000000, W], true), (.join [.aw 7, W], false), (.seq [.join (List.replicate 6 (.aw 1)), W], decide (k < 6)), (.seq [.join (List.replicate 7 (.aw 1)), W], false), (.seq [.seq (List.replicate 13 (.seq [])), W], false), (.seq [.loop 1 W], false),
   (.fork W, false), (.seq [W, .fork late], decide (k = 0))]
theorem mulL12 {x : D} : oMul (.lst [x]) (.int 12) st = some (.lst [x, x, x, x, x, x, x, x, x, x, x, x], st) := by
  simp [oMul, pL]; decide
theorem mulT6 {x : D} : oMul (.tup [x]) (.int 6) st = some (.tup [x, x, x, x, x, x], st) := by
  simp [oMul, pL]
theorem mulT7 {x : D} : oMul (.tup [x]) (.int 7) st = some (.tup [x, x, x, x, x, x, x], st) := by
  simp [oMul, pL]
theorem mulT13 {x : D} : oMul (.tup [x]) (.int 13) st = some (.tup [x, x, x, x, x, x, x, x, x, x, x, x, x], st) := by
  simp [oMul, pL]
/-- one thing more in the list of the store -/
theorem seq_app {e : EM} {d : D} {ds : List D} {rest : SM} (h5 : ∀ s, gv 5 σ s = some (.ref st.length, s)) (he : ∀ s, e σ s = some (d, s)) (hl : ds.length < 1000) :
    mSeq (mEx (mM okL oApp (gv 5) (aCons e aNil))) rest σ (st ++ [.lst ds]) = rest σ (st ++ [.lst (ds ++ [d])]) := by
  have ap := app1 (st := st) (ds := ds) (d := d) hl
  simp only [e_mSeq, e_mEx, e_mM, h5, Option.bind_some, okL_new, if_true, e_aCons, he, e_aNil, ap]

/-- things put one after the other into the list of the store -/
def appsM (rest : SM) : List EM → SM
  | [] => rest
  | e :: es => mSeq (mEx (mM okL oApp (gv 5) (aCons e aNil))) (appsM rest es)
inductive All2 (σ : Slo) : List EM → List D → Prop
  | nil : All2 σ [] []
  | cons {e : EM} {d : D} {es : List EM} {ds : List D} : (∀ s, e σ s = some (d, s)) → All2 σ es ds → All2 σ (e :: es) (d :: ds)
theorem apps_ok {rest : SM} (h5 : ∀ s, gv 5 σ s = some (.ref st.length, s)) : ∀ {es : List EM} {ds : List D} (as : List D), All2 σ es ds → as.length + ds.length < 1000 → appsM rest es σ (st ++ [.lst as]) = rest σ (st ++ [.lst (as ++ ds)])
  | _, _, as, .nil, _ => by simp [appsM]
  | _, _, as, .cons (e := e) (d := d) (es := es) (ds := ds) he hr, hl => by
    have hl : as.length + (ds.length + 1) < 1000 := hl
    show mSeq _ _ σ _ = _
    rw [seq_app h5 he (by omega), apps_ok h5 (as ++ [d]) hr (by simp; omega)]
    simp
def bE0 : EM := (mTup (aCons (mTup (aCons (ck (.str "seq")) (aCons (mTup (aCons (mTup (aCons (ck (.str "seq")) (aCons (mC bTuple (aCons (gv 3) aNil)) aNil))) (aCons (gv 2) aNil))) aNil))) (aCons (ck (.bl true)) aNil)))
def bE1 : EM := (mTup (aCons (mTup (aCons (ck (.str "seq")) (aCons (mTup (aCons (mTup (aCons (ck (.str "seq")) (aCons (mC bTuple (aCons (gv 3) aNil)) aNil))) (aCons (mTup (aCons (ck (.str "log")) (aCons (gv 1) aNil))) (aCons (gv 2) aNil)))) aNil))) (aCons (ck (.bl false)) aNil)))
def bE2 : EM := (mTup (aCons (mTup (aCons (ck (.str "seq")) (aCons (mTup (aCons (gv 4) (aCons (gv 2) aNil))) aNil))) (aCons (ck (.bl true)) aNil)))
def bE3 : EM := (mTup (aCons (mTup (aCons (ck (.str "seq")) (aCons (mTup (aCons (mTup (aCons (ck (.str "fork")) (aCons (mTup (aCons (ck (.str "seq")) (aCons (mTup (aCons (mTup (aCons (ck (.str "await")) (aCons (ck (.int 31)) aNil))) (aCons (mTup (aCons (ck (.str "log")) (aCons (gv 1) aNil))) aNil))) aNil))) aNil))) (aCons (gv 2) aNil))) aNil))) (aCons (ck (.bl false)) aNil)))
def bE4 : EM := (mTup (aCons (mTup (aCons (ck (.str "seq")) (aCons (mTup (aCons (mTup (aCons (ck (.str "fork")) (aCons (mTup (aCons (ck (.str "seq")) (aCons (mTup (aCons (mTup (aCons (ck (.str "await")) (aCons (ck (.int 30)) aNil))) (aCons (mTup (aCons (ck (.str "await")) (aCons (ck (.int 1)) aNil))) aNil))) aNil))) aNil))) (aCons (gv 2) aNil))) aNil))) (aCons (ck (.bl true)) aNil)))
def bE5 : EM := (mTup (aCons (mTup (aCons (ck (.str "race")) (aCons (mTup (aCons (mTup (aCons (ck (.str "await")) (aCons (mB oPow (ck (.int 10)) (ck (.int 18))) aNil))) (aCons (gv 2) aNil))) aNil))) (aCons (ck (.bl true)) aNil)))
def bE6 : EM := (mTup (aCons (mTup (aCons (ck (.str "join")) (aCons (mTup (aCons (mTup (aCons (ck (.str "await")) (aCons (ck (.int 7)) aNil))) (aCons (gv 2) aNil))) aNil))) (aCons (ck (.bl false)) aNil)))
def bE7 : EM := (mTup (aCons (mTup (aCons (ck (.str "seq")) (aCons (mTup (aCons (mTup (aCons (ck (.str "join")) (aCons (mB oMul (mTup (aCons (mTup (aCons (ck (.str "await")) (aCons (ck (.int 1)) aNil))) aNil)) (ck (.int 6))) aNil))) (aCons (gv 2) aNil))) aNil))) (aCons (mB oLt (mB oIx (gv 2) (ck (.int 1))) (ck (.int 6))) aNil)))
def bE8 : EM := (mTup (aCons (mTup (aCons (ck (.str "seq")) (aCons (mTup (aCons (mTup (aCons (ck (.str "join")) (aCons (mB oMul (mTup (aCons (mTup (aCons (ck (.str "await")) (aCons (ck (.int 1)) aNil))) aNil)) (ck (.int 7))) aNil))) (aCons (gv 2) aNil))) aNil))) (aCons (ck (.bl false)) aNil)))
def bE9 : EM := (mTup (aCons (mTup (aCons (ck (.str "seq")) (aCons (mTup (aCons (mTup (aCons (ck (.str "seq")) (aCons (mB oMul (mTup (aCons (mTup (aCons (ck (.str "seq")) (aCons (mTup aNil) aNil))) aNil)) (ck (.int 13))) aNil))) (aCons (gv 2) aNil))) aNil))) (aCons (ck (.bl false)) aNil)))
def bE10 : EM := (mTup (aCons (mTup (aCons (ck (.str "seq")) (aCons (mTup (aCons (mTup (aCons (ck (.str "loop")) (aCons (ck (.int 1)) (aCons (gv 2) aNil)))) aNil)) aNil))) (aCons (ck (.bl false)) aNil)))
def bNew : Ev (List D) := (aCons (mTup (aCons (mTup (aCons (ck (.str "log")) (aCons (gv 1) aNil))) (aCons (ck (.bl false)) aNil))) (aCons (mTup (aCons (gv 2) (aCons (ck (.bl true)) aNil))) (aCons (mTup (aCons (mTup (aCons (ck (.str "await")) (aCons (ck (.int 6)) aNil))) (aCons (ck (.bl true)) aNil))) (aCons (mTup (aCons (mTup (aCons (ck (.str "await")) (aCons (ck (.int 7)) aNil))) (aCons (ck (.bl false)) aNil))) aNil))))
def bRet : SM := (mRet (mB oAdd (gv 5) (mLst (aCons (mTup (aCons (mTup (aCons (ck (.str "fork")) (aCons (gv 2) aNil))) (aCons (ck (.bl false)) aNil))) (aCons (mTup (aCons (mTup (aCons (ck (.str "seq")) (aCons (mTup (aCons (gv 2) (aCons (mTup (aCons (ck (.str "fork")) (aCons (gv 4) aNil))) aNil))) aNil))) (aCons (mB oEqE (mB oIx (gv 2) (ck (.int 1))) (ck (.int 0))) aNil))) aNil)))))
theorem bodies_eq : F__law_bodies = mkF 6 2 0 (mSeq (mSet 2 (mTup (aCons (ck (.str "await")) (aCons (mB oAdd (ck (.int 1)) (mC F__law_take (aCons (gv 0) (aCons (ck (.int 6)) aNil)))) aNil)))) (mSeq (mSet 3 (mB oMul (mLst (aCons (mTup (aCons (ck (.str "log")) (aCons (gv 1) aNil))) aNil)) (ck (.int 12)))) (mSeq (mSet 4 (mTup (aCons (ck (.str "fork")) (aCons (mTup (aCons (ck (.str "seq")) (aCons (mTup (aCons (mTup (aCons (ck (.str "await")) (aCons (ck (.int 30)) aNil))) (aCons (mTup (aCons (ck (.str "log")) (aCons (gv 1) aNil))) aNil))) aNil))) aNil)))) (mSeq (mSet 5 (mNew bNew)) (appsM bRet [bE0, bE1, bE2, bE3, bE4, bE5, bE6, bE7, bE8, bE9, bE10]))))) := rfl
/-- the slots of _law_bodies -/
structure BSl (w : Str) (k : Int) (r : Nat) (σ : Slo) : Prop where
  t1 : ∀ s, gv 1 σ s = some (.str w, s)
  t2 : ∀ s, gv 2 σ s = some (.tup [.str "await", .int k], s)
  t3 : ∀ s, gv 3 σ s = some (.lst (List.replicate 12 (D.tup [.str "log", .str w])), s)
  t4 : ∀ s, gv 4 σ s = some (enc (.fork (.seq [.aw 30, .log w])), s)
  t5 : ∀ s, gv 5 σ s = some (.ref r, s)
variable {w : Str} {k : Int} {r : Nat}
theorem bt12 {s : Sto} : bTuple [.lst (List.replicate 12 (D.tup [.str "log", .str w]))] s = some (.tup (List.replicate 12 (D.tup [.str "log", .str w])), s) := rfl
theorem bE0_ok (h : BSl w k r σ) (s : Sto) : bE0 σ s = some (encB (.seq [.seq (List.replicate 12 (.log w)), .aw k], true), s) := by
  simp only [bE0, e_mTup, e_aCons, e_ck, e_mC, e_mB, h.t1, h.t2, h.t3, h.t4, bt12, e_aNil, Option.bind_some, pow18, mulT6, mulT7, mulT13, ix2_1, e_oLt, List.length_cons, List.length_nil, Nat.zero_add, Nat.reduceAdd, Nat.zero_le, sz1, sz2, sz3, if_true]
  rfl
theorem bE1_ok (h : BSl w k r σ) (s : Sto) : bE1 σ s = some (encB (.seq [.seq (List.replicate 12 (.log w)), .log w, .aw k], false), s) := by
  simp only [bE1, e_mTup, e_aCons, e_ck, e_mC, e_mB, h.t1, h.t2, h.t3, h.t4, bt12, e_aNil, Option.bind_some, pow18, mulT6, mulT7, mulT13, ix2_1, e_oLt, List.length_cons, List.length_nil, Nat.zero_add, Nat.reduceAdd, Nat.zero_le, sz1, sz2, sz3, if_true]
  rfl
theorem bE2_ok (h : BSl w k r σ) (s : Sto) : bE2 σ s = some (encB (.seq [.fork (.seq [.aw 30, .log w]), .aw k], true), s) := by
  simp only [bE2, e_mTup, e_aCons, e_ck, e_mC, e_mB, h.t1, h.t2, h.t3, h.t4, bt12, e_aNil, Option.bind_some, pow18, mulT6, mulT7, mulT13, ix2_1, e_oLt, List.length_cons, List.length_nil, Nat.zero_add, Nat.reduceAdd, Nat.zero_le, sz1, sz2, sz3, if_true]
  rfl
theorem bE3_ok (h : BSl w k r σ) (s : Sto) : bE3 σ s = some (encB (.seq [.fork (.seq [.aw 31, .log w]), .aw k], false), s) := by
  simp only [bE3, e_mTup, e_aCons, e_ck, e_mC, e_mB, h.t1, h.t2, h.t3, h.t4, bt12, e_aNil, Option.bind_some, pow18, mulT6, mulT7, mulT13, ix2_1, e_oLt, List.length_cons, List.length_nil, Nat.zero_add, Nat.reduceAdd, Nat.zero_le, sz1, sz2, sz3, if_true]
  rfl
theorem bE4_ok (h : BSl w k r σ) (s : Sto) : bE4 σ s = some (encB (.seq [.fork (.seq [.aw 30, .aw 1]), .aw k], true), s) := by
  simp only [bE4, e_mTup, e_aCons, e_ck, e_mC, e_mB, h.t1, h.t2, h.t3, h.t4, bt12, e_aNil, Option.bind_some, pow18, mulT6, mulT7, mulT13, ix2_1, e_oLt, List.length_cons, List.length_nil, Nat.zero_add, Nat.reduceAdd, Nat.zero_le, sz1, sz2, sz3, if_true]
  rfl
theorem bE5_ok (h : BSl w k r σ) (s : Sto) : bE5 σ s = some (encB (.race [.aw 1000000000000000000, .aw k], true), s) := by
  simp only [bE5, e_mTup, e_aCons, e_ck, e_mC, e_mB, h.t1, h.t2, h.t3, h.t4, bt12, e_aNil, Option.bind_some, pow18, mulT6, mulT7, mulT13, ix2_1, e_oLt, List.length_cons, List.length_nil, Nat.zero_add, Nat.reduceAdd, Nat.zero_le, sz1, sz2, sz3, if_true]
  rfl
theorem bE6_ok (h : BSl w k r σ) (s : Sto) : bE6 σ s = some (encB (.join [.aw 7, .aw k], false), s) := by
  simp only [bE6, e_mTup, e_aCons, e_ck, e_mC, e_mB, h.t1, h.t2, h.t3, h.t4, bt12, e_aNil, Option.bind_some, pow18, mulT6, mulT7, mulT13, ix2_1, e_oLt, List.length_cons, List.length_nil, Nat.zero_add, Nat.reduceAdd, Nat.zero_le, sz1, sz2, sz3, if_true]
  rfl
theorem bE7_ok (h : BSl w k r σ) (s : Sto) : bE7 σ s = some (encB (.seq [.join (List.replicate 6 (.aw 1)), .aw k], decide (k < 6)), s) := by
  simp only [bE7, e_mTup, e_aCons, e_ck, e_mC, e_mB, h.t1, h.t2, h.t3, h.t4, bt12, e_aNil, Option.bind_some, pow18, mulT6, mulT7, mulT13, ix2_1, e_oLt, List.length_cons, List.length_nil, Nat.zero_add, Nat.reduceAdd, Nat.zero_le, sz1, sz2, sz3, if_true]
  rfl
theorem bE8_ok (h : BSl w k r σ) (s : Sto) : bE8 σ s = some (encB (.seq [.join (List.replicate 7 (.aw 1)), .aw k], false), s) := by
  simp only [bE8, e_mTup, e_aCons, e_ck, e_mC, e_mB, h.t1, h.t2, h.t3, h.t4, bt12, e_aNil, Option.bind_some, pow18, mulT6, mulT7, mulT13, ix2_1, e_oLt, List.length_cons, List.length_nil, Nat.zero_add, Nat.reduceAdd, Nat.zero_le, sz1, sz2, sz3, if_true]
  rfl
theorem bE9_ok (h : BSl w k r σ) (s : Sto) : bE9 σ s = some (encB (.seq [.seq (List.replicate 13 (.seq [])), .aw k], false), s) := by
  simp only [bE9, e_mTup, e_aCons, e_ck, e_mC, e_mB, h.t1, h.t2, h.t3, h.t4, bt12, e_aNil, Option.bind_some, pow18, mulT6, mulT7, mulT13, ix2_1, e_oLt, List.length_cons, List.length_nil, Nat.zero_add, Nat.reduceAdd, Nat.zero_le, sz1, sz2, sz3, if_true]
  rfl
theorem bE10_ok (h : BSl w k r σ) (s : Sto) : bE10 σ s = some (encB (.seq [.loop 1 (.aw k)], false), s) := by
  simp only [bE10, e_mTup, e_aCons, e_ck, e_mC, e_mB, h.t1, h.t2, h.t3, h.t4, bt12, e_aNil, Option.bind_some, pow18, mulT6, mulT7, mulT13, ix2_1, e_oLt, List.length_cons, List.length_nil, Nat.zero_add, Nat.reduceAdd, Nat.zero_le, sz1, sz2, sz3, if_true]
  rfl
theorem bEs (h : BSl w k r σ) : All2 σ [bE0, bE1, bE2, bE3, bE4, bE5, bE6, bE7, bE8, bE9, bE10] [encB (.seq [.seq (List.replicate 12 (.log w)), .aw k], true), encB (.seq [.seq (List.replicate 12 (.log w)), .log w, .aw k], false), encB (.seq [.fork (.seq [.aw 30, .log w]), .aw k], true), encB (.seq [.fork (.seq [.aw 31, .log w]), .aw k], false), encB (.seq [.fork (.seq [.aw 30, .aw 1]), .aw k], true), encB (.race [.aw 1000000000000000000, .aw k], true), encB (.join [.aw 7, .aw k], false), encB (.seq [.join (List.replicate 6 (.aw 1)), .aw k], decide (k < 6)), encB (.seq [.join (List.replicate 7 (.aw 1)), .aw k], false), encB (.seq [.seq (List.replicate 13 (.seq [])), .aw k], false), encB (.seq [.loop 1 (.aw k)], false)] := .cons (bE0_ok h) (.cons (bE1_ok h) (.cons (bE2_ok h) (.cons (bE3_ok h) (.cons (bE4_ok h) (.cons (bE5_ok h) (.cons (bE6_ok h) (.cons (bE7_ok h) (.cons (bE8_ok h) (.cons (bE9_ok h) (.cons (bE10_ok h) (.nil)))))))))))
theorem bNew_ok {a b c d : Option D} (s : Sto) : bNew [a, some (.str w), some (.tup [.str "await", .int k]), b, c, d] s = some ([encB (.log w, false), encB (.aw k, true), encB (.aw 6, true), encB (.aw 7, false)], s) := by
  have g1 : ∀ s, gv 1 [a, some (.str w), some (.tup [.str "await", .int k]), b, c, d] s = some (.str w, s) := fun s => rfl
  have g2 : ∀ s, gv 2 [a, some (.str w), some (.tup [.str "await", .int k]), b, c, d] s = some (.tup [.str "await", .int k], s) := fun s => rfl
  simp only [bNew, e_mTup, e_aCons, e_ck, g1, g2, e_aNil, Option.bind_some, List.length_cons, List.length_nil, Nat.zero_add, Nat.reduceAdd, sz2, if_true]
  rfl
theorem bRet_ok (h : BSl w k st.length σ) {xs : List D} (hl : xs.length ≤ 100) : bRet σ (st ++ [.lst xs]) = some (.rt (.lst (xs ++ [encB (.fork (.aw k), false), encB (.seq [.aw k, .fork (.fork (.seq [.aw 30, .log w]))], decide (k = 0))])), σ, st ++ [.lst xs]) := by
  have addN : ∀ xs ys : List D, xs.length + ys.length ≤ 1000000 → oAdd (.ref st.length) (.lst ys) (st ++ [.lst xs]) = some (.lst (xs ++ ys), st ++ [.lst xs]) := fun xs ys h => by
    simp [oAdd, pL, snoc_get, sz h]
  simp only [bRet, e_mRet, e_mB, h.t5, Option.bind_some, e_mLst, e_mTup, e_aCons, e_ck, h.t2, h.t4, e_aNil, ix2_1, eq_int, List.length_cons, List.length_nil, Nat.zero_add, Nat.reduceAdd, sz2, if_true]
  rw [addN _ _ (by simp; omega)]
  rfl
theorem seq_nx {a b : SM} {σ' : Slo} {s s' : Sto} (h : a σ s = some (.nx, σ', s')) : mSeq a b σ s = b σ' s' := by
  rw [e_mSeq, h]; rfl
theorem encB_below (n : Nat) : ∀ xs : List (Pg × Bool), belows n (xs.map encB) = true
  | [] => rfl
  | x :: xs => by simp [belows, encB, below, enc_below, encB_below n xs]
theorem bodies_dr (hw : WfS st) (hp : Pot i T st) {w : Str} (hT : T + 500 < BIG) : ∃ k st', F__law_bodies [.ref i, .str w] st = some (.lst ((bodiesT w k).map encB), st') ∧ 1 ≤ k ∧ k ≤ 6 ∧ Drawn i (T + 1) st st' := by
  obtain ⟨d, s, e1, e2, e3, e4⟩ := take_d (b := 6) hw hp (by omega) (by decide) (by decide)
  have hi := pot_lt hp
  refine ⟨1 + d, s, ?_, by omega, by omega, e4⟩
  have hsl : s.length = st.length := e4.len
  have e1' : F__law_take [.ref i, .int 6] st = some (.int d, s) := e1
  generalize hk : 1 + d = k
  have hcut := fun os => cut_dead2 (st := s) (d := .lst ((bodiesT w k).map encB)) (n := st.length) (os := os) hsl e4.wf (encB_below _ _)
  have rep : [D.tup [.str "log", .str w], D.tup [.str "log", .str w], D.tup [.str "log", .str w], D.tup [.str "log", .str w], D.tup [.str "log", .str w], D.tup [.str "log", .str w], D.tup [.str "log", .str w], D.tup [.str "log", .str w], D.tup [.str "log", .str w], D.tup [.str "log", .str w], D.tup [.str "log", .str w], D.tup [.str "log", .str w]] = List.replicate 12 (D.tup [.str "log", .str w]) := rfl
  have s2 : mSet 2 (mTup (aCons (ck (.str "await")) (aCons (mB oAdd (ck (.int 1)) (mC F__law_take (aCons (gv 0) (aCons (ck (.int 6)) aNil)))) aNil))) [some (.ref i), some (.str w), none, none, none, none] st = some (.nx, [some (.ref i), some (.str w), some (.tup [.str "await", .int k]), none, none, none], s) := by
    have g0 : gv 0 [some (.ref i), some (.str w), none, none, none, none] st = some (.ref i, st) := rfl
    simp only [e_mSet, e_mTup, e_aCons, e_ck, e_mB, e_mC, g0, e_aNil, Option.bind_some, e1', e_oAdd, hk, List.length_cons, List.length_nil, Nat.zero_add, Nat.reduceAdd, sz2, if_true, List.set_cons_succ, List.set_cons_zero]
  have s3 : mSet 3 (mB oMul (mLst (aCons (mTup (aCons (ck (.str "log")) (aCons (gv 1) aNil))) aNil)) (ck (.int 12))) [some (.ref i), some (.str w), some (.tup [.str "await", .int k]), none, none, none] s = some (.nx, [some (.ref i), some (.str w), some (.tup [.str "await", .int k]), some (.lst (List.replicate 12 (D.tup [.str "log", .str w]))), none, none], s) := by
    have g1 : ∀ s, gv 1 [some (.ref i), some (.str w), some (.tup [.str "await", .int k]), none, none, none] s = some (.str w, s) := fun s => rfl
    simp only [e_mSet, e_mTup, e_mLst, e_aCons, e_ck, e_mB, g1, e_aNil, Option.bind_some, mulL12, rep, List.length_cons, List.length_nil, Nat.zero_add, Nat.reduceAdd, sz2, sz1, if_true, List.set_cons_succ, List.set_cons_zero]
  have s4 : mSet 4 (mTup (aCons (ck (.str "fork")) (aCons (mTup (aCons (ck (.str "seq")) (aCons (mTup (aCons (mTup (aCons (ck (.str "await")) (aCons (ck (.int 30)) aNil))) (aCons (mTup (aCons (ck (.str "log")) (aCons (gv 1) aNil))) aNil))) aNil))) aNil))) [some (.ref i), some (.str w), some (.tup [.str "await", .int k]), some (.lst (List.replicate 12 (D.tup [.str "log", .str w]))), none, none] s = some (.nx, [some (.ref i), some (.str w), some (.tup [.str "await", .int k]), some (.lst (List.replicate 12 (D.tup [.str "log", .str w]))), some (enc (.fork (.seq [.aw 30, .log w]))), none], s) := by
    have g1 : ∀ s, gv 1 [some (.ref i), some (.str w), some (.tup [.str "await", .int k]), some (.lst (List.replicate 12 (D.tup [.str "log", .str w]))), none, none] s = some (.str w, s) := fun s => rfl
    simp only [e_mSet, e_mTup, e_aCons, e_ck, g1, e_aNil, Option.bind_some, List.length_cons, List.length_nil, Nat.zero_add, Nat.reduceAdd, sz2, sz1, if_true, List.set_cons_succ, List.set_cons_zero]
    rfl
  generalize hτ : [some (.ref i), some (.str w), some (.tup [.str "await", .int k]), some (.lst (List.replicate 12 (D.tup [.str "log", .str w]))), some (enc (.fork (.seq [.aw 30, .log w]))), some (.ref s.length)] = τ
  have s5 : mSet 5 (mNew bNew) [some (.ref i), some (.str w), some (.tup [.str "await", .int k]), some (.lst (List.replicate 12 (D.tup [.str "log", .str w]))), some (enc (.fork (.seq [.aw 30, .log w]))), none] s = some (.nx, τ, s ++ [.lst [encB (.log w, false), encB (.aw k, true), encB (.aw 6, true), encB (.aw 7, false)]]) := by
    simp only [e_mSet, e_mNew, bNew_ok, Option.bind_some, List.length_cons, List.length_nil, Nat.zero_add, Nat.reduceAdd, sz4, if_true, List.set_cons_succ, List.set_cons_zero, hτ]
  have hb : BSl w k s.length τ := ⟨fun s => by rw [← hτ]; rfl, fun s => by rw [← hτ]; rfl, fun s => by rw [← hτ]; rfl, fun s => by rw [← hτ]; rfl, fun s => by rw [← hτ]; rfl⟩
  have ap := apps_ok (rest := bRet) (st := s) hb.t5 [encB (.log w, false), encB (.aw k, true), encB (.aw 6, true), encB (.aw 7, false)] (bEs hb) (by simp)
  have rt := bRet_ok (st := s) hb (xs := [encB (.log w, false), encB (.aw k, true), encB (.aw 6, true), encB (.aw 7, false)] ++ [encB (.seq [.seq (List.replicate 12 (.log w)), .aw k], true), encB (.seq [.seq (List.replicate 12 (.log w)), .log w, .aw k], false), encB (.seq [.fork (.seq [.aw 30, .log w]), .aw k], true), encB (.seq [.fork (.seq [.aw 31, .log w]), .aw k], false), encB (.seq [.fork (.seq [.aw 30, .aw 1]), .aw k], true), encB (.race [.aw 1000000000000000000, .aw k], true), encB (.join [.aw 7, .aw k], false), encB (.seq [.join (List.replicate 6 (.aw 1)), .aw k], decide (k < 6)), encB (.seq [.join (List.replicate 7 (.aw 1)), .aw k], false), encB (.seq [.seq (List.replicate 13 (.seq [])), .aw k], false), encB (.seq [.loop 1 (.aw k)], false)]) (by simp)
  have hL : ([encB (.log w, false), encB (.aw k, true), encB (.aw 6, true), encB (.aw 7, false)] ++ [encB (.seq [.seq (List.replicate 12 (.log w)), .aw k], true), encB (.seq [.seq (List.replicate 12 (.log w)), .log w, .aw k], false), encB (.seq [.fork (.seq [.aw 30, .log w]), .aw k], true), encB (.seq [.fork (.seq [.aw 31, .log w]), .aw k], false), encB (.seq [.fork (.seq [.aw 30, .aw 1]), .aw k], true), encB (.race [.aw 1000000000000000000, .aw k], true), encB (.join [.aw 7, .aw k], false), encB (.seq [.join (List.replicate 6 (.aw 1)), .aw k], decide (k < 6)), encB (.seq [.join (List.replicate 7 (.aw 1)), .aw k], false), encB (.seq [.seq (List.replicate 13 (.seq [])), .aw k], false), encB (.seq [.loop 1 (.aw k)], false)]) ++ [encB (.fork (.aw k), false), encB (.seq [.aw k, .fork (.fork (.seq [.aw 30, .log w]))], decide (k = 0))] = (bodiesT w k).map encB := rfl
  rw [hL] at rt
  rw [bodies_eq]
  show (mSeq _ _ [some (.ref i), some (.str w), none, none, none, none] st).bind _ = _
  rw [seq_nx s2, seq_nx s3, seq_nx s4, seq_nx s5, ap, rt]
  exact hcut _
end
end K02

end
section
set_option Elab.async false
set_option linter.all false
set_option maxRecDepth 100000
set_option autoImplicit false
set_option exponentiation.threshold 5000
namespace K02
open PySem PySem.Spec L2 Z T GK02
mutual
theorem plain_facts : ∀ p : Pg, plainP p = true → nestOk p = true ∧ loops p = 0 ∧ bodiesOf p = []
  | .log w, _ => ⟨rfl, rfl, rfl⟩
  | .aw n, _ => ⟨rfl, rfl, rfl⟩
  | .seq ps, h => plains_facts ps h
  | .fork p, h => plain_facts p h
  | .join ps, h => plains_facts ps h
  | .race ps, h => plains_facts ps h
  | .loop _ _, h => by cases h
theorem plains_facts : ∀ ps : List Pg, plains ps = true → nestOks ps = true ∧ loopss ps = 0 ∧ bodiesOfs ps = []
  | [], _ => ⟨rfl, rfl, rfl⟩
  | p :: ps, h => by
    have h : (plainP p && plains ps) = true := h
    rw [Bool.and_eq_true] at h
    obtain ⟨a1, a2, a3⟩ := plain_facts p h.1
    obtain ⟨b1, b2, b3⟩ := plains_facts ps h.2
    exact ⟨by simp [nestOks, a1, b1], by simp [loopss, a2, b2], by simp [bodiesOfs, a3, b3]⟩
end
theorem prog_plain {p : Pg} (h : plainP p = true) : progT p = (allN p && decide (dep p ≤ 12) && decide (nodes p ≤ 80)) := by
  obtain ⟨h1, h2, h3⟩ := plain_facts p h
  simp [progT, h1, h2, h3]
theorem chain_prog {n : Nat} {p : Pg} (h : Chain n p) (hn : n ≤ 13) : progT p = decide ((n : Int) < 13) := by
  rw [prog_plain h.pl, h.a, h.d]
  have := h.n
  have h2 : decide (nodes p ≤ 80) = true := decide_eq_true (by omega)
  rw [h2, Bool.eq_iff_iff]
  simp; omega
theorem leaf_plain {p : Pg} (h : leafT p) : plainP p = true ∧ allN p = true ∧ dep p = 1 ∧ fitA p = true ∧ okTx p = true := by
  have := leaf_chain h
  exact ⟨this.pl, this.a, this.d, this.f, this.s⟩
theorem row_facts {p : Pg} (h : rowT p) : plainP p = true ∧ allN p = true ∧ dep p ≤ 2 ∧ fitA p = true ∧ okTx p = true := by
  obtain ⟨ls, rfl, hl, h⟩ := h
  refine ⟨plains_iff.mpr fun x hx => (leaf_plain (h x hx)).1, ?_, ?_, ?_, okTxs_iff.mpr fun x hx => (leaf_plain (h x hx)).2.2.2.2⟩
  · simp only [allN, Bool.and_eq_true, decide_eq_true_eq]
    exact ⟨hl, allNs_iff.mpr fun x hx => (leaf_plain (h x hx)).2.1⟩
  · simp only [dep]
    have : deps ls ≤ 1 := deps_iff.mpr fun x hx => by have := (leaf_plain (h x hx)).2.2.1; omega
    omega
  · simp only [fitA, Bool.and_eq_true, decide_eq_true_eq]
    exact ⟨by omega, fitAs_iff.mpr fun x hx => (leaf_plain (h x hx)).2.2.2.1⟩
theorem nodes_prog {rows : List Pg} {m : Int} (hr : ∀ p ∈ rows, rowT p) (hn : (nodess rows : Int) = m - 1) (hd : 8 * rows.length ≤ nodess rows + 7) (hm : m ≤ 82) :
    progT (.seq rows) = decide ((nodes (.seq rows) : Int) < 81) ∧ fitA (.seq rows) = true ∧ okTx (.seq rows) = true ∧ dep (.seq rows) ≤ 28 ∧ nodes (.seq rows) ≤ 190 := by
  have hp : plainP (.seq rows) = true := plains_iff.mpr fun x hx => (row_facts (hr x hx)).1
  have hdp : deps rows ≤ 2 := deps_iff.mpr fun x hx => (row_facts (hr x hx)).2.2.1
  have ha : allN (.seq rows) = true := by
    simp only [allN, Bool.and_eq_true, decide_eq_true_eq]
    exact ⟨by omega, allNs_iff.mpr fun x hx => (row_facts (hr x hx)).2.1⟩
  refine ⟨?_, ?_, okTxs_iff.mpr fun x hx => (row_facts (hr x hx)).2.2.2.2, by simp only [dep]; omega, by simp only [nodes]; omega⟩
  · rw [prog_plain hp, ha]
    have h2 : decide (dep (.seq rows) ≤ 12) = true := decide_eq_true (by simp only [dep]; omega)
    rw [h2, Bool.eq_iff_iff]
    simp; omega
  · simp only [fitA, Bool.and_eq_true, decide_eq_true_eq]
    exact ⟨by omega, fitAs_iff.mpr fun x hx => (row_facts (hr x hx)).2.2.2.1⟩
/-! ### wrapped loops -/
theorem count_ok {n : Int} (h0 : 0 ≤ n) (h1 : n ≤ 1000000000000000000) : countT n 0 = true := by simp [countT, h0, h1]
theorem wz : wordT "z" = true ∧ fitA (.log "z") = true := by decide +kernel
theorem wrap_facts {n : Int} {b q : Pg} (h : q ∈ wraps (.loop n b)) (h0 : 0 ≤ n) (h1 : n ≤ 1000000000000000000) :
    allN q = allN b ∧ dep q ≤ dep b + 3 ∧ nestOk q = plainP b ∧ nodes q ≤ nodes b + 4 ∧ loops q = 1 + loops b ∧ bodiesOf q = b :: bodiesOf b ∧ fitA q = fitA b := by
  have hc := count_ok h0 h1
  have hz := wz
  simp only [fitA] at hz
  simp only [wraps, List.mem_cons, List.not_mem_nil, or_false] at h
  rcases h with rfl | rfl | rfl | rfl
  · simp [allN, dep, nestOk, nodes, loops, bodiesOf, fitA, hc] <;> omega
  · have hz2 : ("z" : Str).length ≤ 100000 := of_decide_eq_true hz.2
    simp [allN, allNs, dep, deps, nestOk, nestOks, nodes, nodess, loops, loopss, bodiesOf, bodiesOfs, fitA, fitAs, hc, hz.1] <;> omega
  · simp [allN, dep, nestOk, nodes, loops, bodiesOf, fitA, hc] <;> omega
  · simp [allN, allNs, dep, deps, nestOk, nestOks, nodes, nodess, loops, loopss, bodiesOf, bodiesOfs, fitA, fitAs, hc, countT] <;> omega
theorem wrap_prog {n : Int} {b q : Pg} (h : q ∈ wraps (.loop n b)) (h0 : 0 ≤ n) (h1 : n ≤ 1000000000000000000) (hd : dep b ≤ 9) (hn : nodes b ≤ 70) : progT q = (allN b && plainP b && bodyT b) := by
  obtain ⟨a1, a2, a3, a4, a5, a6, _⟩ := wrap_facts h h0 h1
  have d1 : decide (dep q ≤ 12) = true := decide_eq_true (by omega)
  have d2 : decide (nodes q ≤ 80) = true := decide_eq_true (by omega)
  cases hp : plainP b with
  | false => simp [progT, a3, hp]
  | true =>
    obtain ⟨p1, p2, p3⟩ := plain_facts b hp
    have d3 : decide (loops q ≤ 8) = true := decide_eq_true (by omega)
    simp only [progT, a1, d1, a3, hp, d2, d3, a6, p3, List.all_cons, List.all_nil, Bool.and_true]
def chkB (x : Pg × Bool) : Bool := decide (dep x.1 ≤ 9) && decide (nodes x.1 ≤ 70) && fitA x.1 && ((allN x.1 && plainP x.1 && bodyT x.1) == x.2)
theorem bodies_all : (W8.all fun w => ([1, 2, 3, 4, 5, 6] : List Int).all fun k => (bodiesT w k).all chkB) = true := by decide +kernel
theorem bodies_mem {w : Str} {k : Int} {x : Pg × Bool} (hw : w ∈ W8) (h1 : 1 ≤ k) (h2 : k ≤ 6) (hx : x ∈ bodiesT w k) : dep x.1 ≤ 9 ∧ nodes x.1 ≤ 70 ∧ fitA x.1 = true ∧ (allN x.1 && plainP x.1 && bodyT x.1) = x.2 := by
  have hk : k ∈ ([1, 2, 3, 4, 5, 6] : List Int) := by
    have : k = 1 ∨ k = 2 ∨ k = 3 ∨ k = 4 ∨ k = 5 ∨ k = 6 := by omega
    simpa using this
  have := List.all_eq_true.mp (List.all_eq_true.mp (List.all_eq_true.mp bodies_all w hw) k hk) x hx
  simp only [chkB, Bool.and_eq_true, decide_eq_true_eq, beq_iff_eq] at this
  exact ⟨this.1.1.1, this.1.1.2, this.1.2, this.2⟩
/-! ### many loops -/
theorem aw1 : bodyT (.aw 1) = true := by decide +kernel
theorem many_facts : ∀ {qs : List Pg}, (∀ q ∈ qs, ∃ n : Int, 0 ≤ n ∧ n ≤ 1000000000000000000 ∧ q ∈ wraps (.loop n (.aw 1))) → allNs qs = true ∧ deps qs ≤ 4 ∧ nestOks qs = true ∧ nodess qs ≤ 5 * qs.length ∧ loopss qs = qs.length ∧ (bodiesOfs qs).all bodyT = true ∧ fitAs qs = true
  | [], _ => ⟨rfl, by simp [deps], rfl, by simp [nodess], rfl, rfl, rfl⟩
  | q :: qs, h => by
    obtain ⟨n, h0, h1, hq⟩ := h q List.mem_cons_self
    obtain ⟨a1, a2, a3, a4, a5, a6, a7⟩ := wrap_facts hq h0 h1
    obtain ⟨b1, b2, b3, b4, b5, b6, b7⟩ := many_facts fun x hx => h x (List.mem_cons_of_mem q hx)
    have e1 : allN (.aw 1) = true := by decide +kernel
    refine ⟨by simp [allNs, a1, b1, e1], ?_, by simp [nestOks, a3, b3, plainP], ?_, ?_, ?_, by simp [fitAs, a7, b7, fitA]⟩
    · simp only [dep] at a2; simp only [deps]; omega
    · simp only [nodes] at a4; simp only [nodess, List.length_cons]; omega
    · simp only [loops] at a5; simp only [loopss, List.length_cons]; omega
    · simp [bodiesOfs, a6, b6, bodiesOf, aw1]
theorem many_prog {qs : List Pg} {m : Nat} (h : ∀ q ∈ qs, ∃ n : Int, 0 ≤ n ∧ n ≤ 1000000000000000000 ∧ q ∈ wraps (.loop n (.aw 1))) (hl : qs.length = m) (hm : m ≤ 12) : progT (.seq qs) = decide ((m : Int) < 9) ∧ fitA (.seq qs) = true := by
  obtain ⟨b1, b2, b3, b4, b5, b6, b7⟩ := many_facts h
  have c1 : allN (.seq qs) = true := by simp [allN, b1]; omega
  have c2 : decide (dep (.seq qs) ≤ 12) = true := decide_eq_true (by simp only [dep]; omega)
  have c3 : nestOk (.seq qs) = true := b3
  have c4 : decide (nodes (.seq qs) ≤ 80) = true := decide_eq_true (by simp only [nodes]; omega)
  have c5 : (bodiesOf (.seq qs)).all bodyT = true := b6
  refine ⟨?_, by simp [fitA, b7]; omega⟩
  simp only [progT, c1, c2, c3, c4, c5, Bool.true_and, Bool.and_true]
  rw [Bool.eq_iff_iff]
  simp [loops, b5, hl]; omega
/-! ### kinds, counts, words -/
def kindT (k : Nat) (w : Str) (n : Nat) : Pg := match k with
  | 0 => .seq (List.replicate n (.log w))
  | 1 => .join (List.replicate n (.log w))
  | _ => .race (List.replicate n (.log w))
theorem kinds_all : (W8.all fun w => ([0, 1, 12, 13].map fun n => progT (kindT 0 w n)) == [true, true, true, false] && (([0, 1, 6, 7].map fun n => progT (kindT 1 w n)) == [false, true, true, false]) && (([0, 1, 6, 7].map fun n => progT (kindT 2 w n)) == [false, true, true, false])) = true := by decide +kernel
theorem counts_all : (([0, 1, 1000000000000000000, 1000000000000000001] : List Int).map fun n => progT (.aw n)) = [false, true, true, false] := by decide +kernel
theorem loops_all : (([-1, 0, 1000000000000000000, 1000000000000000001] : List Int).map fun n => progT (.loop n (.aw 1))) = [false, true, true, false] := by decide +kernel
theorem letters_all : ((["a", "abcdefgh", "abcdefghi", "", "aB"] : List Str).map fun w => progT (.log w)) = [true, true, false, false, false] := by decide +kernel
end K02

end
section
set_option Elab.async false
set_option linter.all false
set_option maxRecDepth 100000
set_option autoImplicit false
set_option exponentiation.threshold 5000
namespace K02
open PySem PySem.Spec L2 Z T GK02
section
variable {i : Nat} {T : Int} {st : Sto} {σ : Slo}
/-- a loop whose turns draw -/
theorem for_dr {α : Type} {g : GM} {b : SM} (enc : α → D) (J : Slo → Prop) (c B : Int) (hc : 0 ≤ c) : ∀ (xs : List α) (σ : Slo) (st : Sto) (T : Int),
    (∀ x ∈ xs, ∀ σ st T, J σ → WfS st → Pot i T st → T < B → ∃ σ1 st1 σ2 st2, g (enc x) σ st = some (σ1, st1) ∧ b σ1 st1 = some (.nx, σ2, st2) ∧ J σ2 ∧ Drawn i (T + c) st st2) →
    J σ → WfS st → Pot i T st → T + c * xs.length < B → ∃ σ' st', mFor g b (xs.map enc) σ st = some (.nx, σ', st') ∧ J σ' ∧ Drawn i (T + c * xs.length) st st'
  | [], σ, st, T, _, hj, hw, hp, _ => ⟨σ, st, rfl, hj, ⟨hw, rfl, fun _ _ => rfl, pot_le hp (by simp)⟩⟩
  | x :: xs, σ, st, T, step, hj, hw, hp, hT => by
    have hm : c * ((x :: xs).length : Int) = c + c * (xs.length : Int) := by
      rw [List.length_cons, Int.natCast_add, Int.mul_add]; simp; omega
    have hnn : 0 ≤ c * (xs.length : Int) := Int.mul_nonneg hc (by omega)
    rw [hm] at hT
    obtain ⟨σ1, st1, σ2, st2, h1, h2, h3, h4⟩ := step x List.mem_cons_self σ st T hj hw hp (by omega)
    obtain ⟨σ3, st3, h5, h6, h7⟩ := for_dr enc J c B hc xs σ2 st2 (T + c) (fun y hy => step y (List.mem_cons_of_mem _ hy)) h3 h4.wf h4.pot (by omega)
    refine ⟨σ3, st3, by simp [mFor, h1, h2, h5], h6, ?_⟩
    rw [hm, ← Int.add_assoc]; exact h4.trans h7
structure SI (i : Nat) (w : Str) (σ : Slo) : Prop where
  l : σ.length = 16
  a : σ[0]? = some (some (.ref i))
  b : σ[1]? = some (some (.str w))
theorem SI.set {w : Str} {j : Nat} {d : Option D} (h : SI i w σ) (h0 : j ≠ 0) (h1 : j ≠ 1) : SI i w (σ.set j d) :=
  ⟨by rw [List.length_set]; exact h.l, by rw [List.getElem?_set_ne h0]; exact h.a, by rw [List.getElem?_set_ne h1]; exact h.b⟩
theorem get_set {j : Nat} {d : D} {n : Nat} (hl : σ.length = n) (hj : j < n) : (σ.set j (some d))[j]? = some (some d) := List.getElem?_set_self (by omega)
theorem ne_bl (a b : Bool) : oNe (.bl a) (.bl b) st = some (.bl (!decide (a = b)), st) := by
  have h : ∀ x : Bool, SeqAt.shaped (.bool x) = true := fun x => by cases x <;> decide +kernel
  have e : PyData.eqv (.bool a) (.bool b) = decide (a = b) := by rw [Bool.eq_iff_iff]; simp [PyData.eqv]
  simp [oNe, pyT, pyD, h, e]
theorem ne_bl_same (a : Bool) : oNe (.bl a) (.bl a) st = some (.bl false, st) := by rw [ne_bl]; simp
variable {w : Str}
theorem st_sizes (hs : SI i w σ) (hw : WfS st) (hp : Pot i T st) (hT : T + 2000 < BIG) : ∃ σ' st', (mForL (ilAny (mTup (aCons (ck (.int 79)) (aCons (ck (.int 80)) (aCons (ck (.int 81)) (aCons (ck (.int 82)) aNil)))))) (gN 2)
    (mSeq (mSet 3 (mC F__law_of_nodes (aCons (gv 0) (aCons (gv 2) aNil)))) (mIfS (toB (mB oNe (mC F_is_program (aCons (gv 3) aNil)) (mB oLt (mC F__law_size (aCons (gv 3) aNil)) (ck (.int 81))))) (mRet (ck (.bl false))) mNil))) σ st = some (.nx, σ', st') ∧ SI i w σ' ∧ Drawn i (T + 1000) st st' := by
  obtain ⟨σ', st', h1, h2, h3⟩ := for_dr (i := i) (g := gN 2) (b := mSeq (mSet 3 (mC F__law_of_nodes (aCons (gv 0) (aCons (gv 2) aNil)))) (mIfS (toB (mB oNe (mC F_is_program (aCons (gv 3) aNil)) (mB oLt (mC F__law_size (aCons (gv 3) aNil)) (ck (.int 81))))) (mRet (ck (.bl false))) mNil)) D.int (SI i w) 200 (BIG - 1000) (by decide) [79, 80, 81, 82] σ st T (fun x hx σ st T hs hw hp hT => by
    have hx' : 79 ≤ x ∧ x ≤ 82 := by
      simp only [List.mem_cons, List.not_mem_nil, or_false] at hx
      omega
    obtain ⟨rows, s1, e1, e2, e3, e4, e5⟩ := of_nodes_dr (m := x) hw hp (by omega) (by omega) (by omega)
    obtain ⟨f1, f2, f3, f4, f5⟩ := nodes_prog e4 e2 e3 (by omega)
    have hs1 := hs.set (j := 2) (d := some (.int x)) (by decide) (by decide)
    have hs2 := hs1.set (j := 3) (d := some (enc (.seq rows))) (by decide) (by decide)
    refine ⟨_, _, _, s1, rfl, ?_, hs2, drawn_le e5 (by omega)⟩
    have g0 := gvn (s := st) hs1.a
    have g2 := gvn (s := st) (get_set (σ := σ) (j := 2) (d := .int x) hs.l (by decide))
    have g3 := fun s => gvn (s := s) (get_set (σ := σ.set 2 (some (.int x))) (j := 3) (d := enc (.seq rows)) hs1.l (by decide))
    have p1 : F_is_program [enc (.seq rows)] s1 = _ := program_c f2 e5.wf
    have p2 := size_c (st := s1) e5.wf f5 f4 f3 f2
    have q1 : mSet 3 (mC F__law_of_nodes (aCons (gv 0) (aCons (gv 2) aNil))) (σ.set 2 (some (.int x))) st = some (.nx, (σ.set 2 (some (.int x))).set 3 (some (enc (.seq rows))), s1) := by
      simp only [e_mSet, e_mC, e_aCons, g0, g2, e_aNil, Option.bind_some, e1]
    rw [seq_nx q1]
    simp only [e_mIfS, e_toB, e_mB, e_mC, e_aCons, g3, e_aNil, e_ck, Option.bind_some, p1, p2, e_oLt, f1, ne_bl_same, Bool.false_eq_true, if_false, e_mNil]) hs hw hp (by simp; omega)
  refine ⟨σ', st', ?_, h2, drawn_le h3 (by simp)⟩
  have hit : ilAny (mTup (aCons (ck (.int 79)) (aCons (ck (.int 80)) (aCons (ck (.int 81)) (aCons (ck (.int 82)) aNil))))) σ st = some ((([79, 80, 81, 82] : List Int).map D.int, some), st) := walk_tup (by simp [sz4])
  simp only [e_mForL, hit, Option.bind_some, h1]
theorem st_deep (hs : SI i w σ) (hw : WfS st) (hp : Pot i T st) (hT : T + 2000 < BIG) : ∃ σ' st', (mForL (ilAny (mTup (aCons (ck (.int 11)) (aCons (ck (.int 12)) (aCons (ck (.int 13)) aNil))))) (gN 4) (mIfS (toB (mB oNe (mC F_is_program (aCons (mC F__law_deep (aCons (gv 0) (aCons (gv 4) aNil))) aNil)) (mB oLt (gv 4) (ck (.int 13))))) (mRet (ck (.bl false))) mNil)) σ st = some (.nx, σ', st') ∧ SI i w σ' ∧ Drawn i (T + 1000) st st' := by
  obtain ⟨σ', st', h1, h2, h3⟩ := for_dr (i := i) (g := gN 4) (b := mIfS (toB (mB oNe (mC F_is_program (aCons (mC F__law_deep (aCons (gv 0) (aCons (gv 4) aNil))) aNil)) (mB oLt (gv 4) (ck (.int 13))))) (mRet (ck (.bl false))) mNil) (fun n : Nat => D.int n) (SI i w) 200 (BIG - 1000) (by decide) [11, 12, 13] σ st T (fun x hx σ st T hs hw hp hT => by
    have hx' : 11 ≤ x ∧ x ≤ 13 := by
      simp only [List.mem_cons, List.not_mem_nil, or_false] at hx
      omega
    obtain ⟨p, s1, e1, e2, e3⟩ := deep_dr (lv := x) hw hp (by omega) (by omega) (by omega)
    have hs1 := hs.set (j := 4) (d := some (.int x)) (by decide) (by decide)
    refine ⟨_, _, _, s1, rfl, ?_, hs1, e3⟩
    have g0 := gvn (s := st) hs1.a
    have g4 := fun s => gvn (s := s) (get_set (σ := σ) (j := 4) (d := .int x) hs.l (by decide))
    have p1 : F_is_program [enc p] s1 = _ := program_c e2.f e3.wf
    rw [chain_prog e2 (by omega)] at p1
    simp only [e_mIfS, e_toB, e_mB, e_mC, e_aCons, g0, g4, e_aNil, e_ck, Option.bind_some, e1, p1, e_oLt, ne_bl_same, Bool.false_eq_true, if_false, e_mNil]) hs hw hp (by simp; omega)
  refine ⟨σ', st', ?_, h2, drawn_le h3 (by simp)⟩
  have hit : ilAny (mTup (aCons (ck (.int 11)) (aCons (ck (.int 12)) (aCons (ck (.int 13)) aNil)))) σ st = some ((([11, 12, 13] : List Nat).map (fun n : Nat => D.int n), some), st) := walk_tup (by simp [sz3])
  simp only [e_mForL, hit, Option.bind_some, h1]
theorem aw1_enc : (D.tup [.str "await", .int 1]) = enc (.aw 1) := rfl
theorem st_many (hs : SI i w σ) (hw : WfS st) (hp : Pot i T st) (hT : T + 2000 < BIG) : ∃ σ' st', (mForL (ilAny (mTup (aCons (ck (.int 8)) (aCons (ck (.int 9)) aNil)))) (gN 5) (mIfS (toB (mB oNe (mC F_is_program (aCons (mTup (aCons (ck (.str "seq")) (aCons (mC bTuple (aCons (mLcL (ilOf (iRg1 (aCons (gv 5) aNil))) (gN 14) bYes (mC F__law_with_body (aCons (gv 0) (aCons (mTup (aCons (ck (.str "await")) (aCons (ck (.int 1)) aNil))) aNil))) [14]) aNil)) aNil))) aNil)) (mB oLt (gv 5) (ck (.int 9))))) (mRet (ck (.bl false))) mNil)) σ st = some (.nx, σ', st') ∧ SI i w σ' ∧ Drawn i (T + 1000) st st' := by
  obtain ⟨σ', st', h1, h2, h3⟩ := for_dr (i := i) (g := gN 5) (b := mIfS (toB (mB oNe (mC F_is_program (aCons (mTup (aCons (ck (.str "seq")) (aCons (mC bTuple (aCons (mLcL (ilOf (iRg1 (aCons (gv 5) aNil))) (gN 14) bYes (mC F__law_with_body (aCons (gv 0) (aCons (mTup (aCons (ck (.str "await")) (aCons (ck (.int 1)) aNil))) aNil))) [14]) aNil)) aNil))) aNil)) (mB oLt (gv 5) (ck (.int 9))))) (mRet (ck (.bl false))) mNil) (fun n : Nat => D.int n) (SI i w) 200 (BIG - 1000) (by decide) [8, 9] σ st T (fun x hx σ st T hs hw hp hT => by
    have hx' : 8 ≤ x ∧ x ≤ 9 := by
      simp only [List.mem_cons, List.not_mem_nil, or_false] at hx
      omega
    have hs1 := hs.set (j := 5) (d := some (.int x)) (by decide) (by decide)
    have g5 := fun s => gvn (s := s) (get_set (σ := σ) (j := 5) (d := .int x) hs.l (by decide))
    obtain ⟨qs, s1, e1, e2, e3, e4⟩ := lc_dr (σ := σ.set 5 (some (.int x))) (it := ilOf (iRg1 (aCons (gv 5) aNil))) (gm := gN 14) (me := mC F__law_with_body (aCons (gv 0) (aCons (mTup (aCons (ck (.str "await")) (aCons (ck (.int 1)) aNil))) aNil))) (vs := [14]) enc (fun q => ∃ n : Int, 0 ≤ n ∧ n ≤ 1000000000000000000 ∧ q ∈ wraps (.loop n (.aw 1))) 3 (BIG - 500) (by decide) (rngD 0 x)
      (by have := rg1 (σ := σ.set 5 (some (.int x))) (a := aCons (gv 5) aNil) (k := (x : Int)) (s := st) (s' := st) (by simp [g5]) (by omega) (by omega); simpa using this)
      (fun d s T hw hp hT => by
        obtain ⟨n, q, s', k1, k2, k3, k4, k5⟩ := with_body_dr (b := .aw 1) hw hp (by omega)
        refine ⟨_, q, s', rfl, ?_, ⟨n, k2, k3, k4⟩, k5⟩
        have : ((wipeD (σ.set 5 (some (D.int x))) [14]).set 14 (some d))[0]? = some (some (.ref i)) := by
          rw [List.getElem?_set_ne (by decide)]
          show ((σ.set 5 (some (D.int x))).set 14 none)[0]? = _
          rw [List.getElem?_set_ne (by decide)]; exact hs1.a
        simp only [e_mC, e_aCons, gvn this, e_mTup, e_ck, e_aNil, Option.bind_some, List.length_cons, List.length_nil, Nat.zero_add, Nat.reduceAdd, sz2, if_true, aw1_enc, k1]) hw hp (by rw [rng_len]; omega) (by rw [rng_len]; exact sz (by omega))
    rw [rng_len] at e2 e4
    obtain ⟨f1, f2⟩ := many_prog e3 e2 (by omega)
    refine ⟨_, _, _, s1, rfl, ?_, hs1, drawn_le e4 (by omega)⟩
    have p1 : F_is_program [enc (.seq qs)] s1 = _ := program_c f2 e4.wf
    rw [f1] at p1
    have tl := tuple_lst (st := s1) (ds := qs.map enc) (by simp; omega)
    have l1 : (D.tup [D.str "seq", D.tup (qs.map enc)]) = enc (.seq qs) := by rw [← encs_map]; rfl
    simp only [e_mIfS, e_toB, e_mB, e_mC, e_aCons, e_mTup, e_ck, e1, e_aNil, Option.bind_some, tl, List.length_cons, List.length_nil, Nat.zero_add, Nat.reduceAdd, sz2, if_true, l1, p1, g5, e_oLt, ne_bl_same, Bool.false_eq_true, if_false, e_mNil]) hs hw hp (by simp; omega)
  refine ⟨σ', st', ?_, h2, drawn_le h3 (by simp)⟩
  have hit : ilAny (mTup (aCons (ck (.int 8)) (aCons (ck (.int 9)) aNil))) σ st = some ((([8, 9] : List Nat).map (fun n : Nat => D.int n), some), st) := walk_tup (by simp [sz2])
  simp only [e_mForL, hit, Option.bind_some, h1]
theorem st_bodies (hs : SI i w σ) (hw8 : w ∈ W8) (hw : WfS st) (hp : Pot i T st) (hT : T + 2000 < BIG) : ∃ σ' st', (mForL (ilAny (mC F__law_bodies (aCons (gv 0) (aCons (gv 1) aNil)))) (gT 2 (gsCons (gN 9) (gsCons (gN 10) gsNil))) (mIfS (toB (mB oNe (mC F_is_program (aCons (mC F__law_with_body (aCons (gv 0) (aCons (gv 9) aNil))) aNil)) (gv 10))) (mRet (ck (.bl false))) mNil)) σ st = some (.nx, σ', st') ∧ SI i w σ' ∧ Drawn i (T + 1000) st st' := by
  obtain ⟨k, s0, a1, a2, a3, a4⟩ := bodies_dr (w := w) hw hp (by omega)
  obtain ⟨σ', st', h1, h2, h3⟩ := for_dr (i := i) (g := gT 2 (gsCons (gN 9) (gsCons (gN 10) gsNil))) (b := mIfS (toB (mB oNe (mC F_is_program (aCons (mC F__law_with_body (aCons (gv 0) (aCons (gv 9) aNil))) aNil)) (gv 10))) (mRet (ck (.bl false))) mNil) encB (SI i w) 3 (BIG - 1000) (by decide) (bodiesT w k) σ s0 (T + 1) (fun x hx σ st T hs hw hp hT => by
    obtain ⟨f1, f2, f3, f4⟩ := bodies_mem hw8 a2 a3 hx
    obtain ⟨n, q, s1, e1, e2, e3, e4, e5⟩ := with_body_dr (b := x.1) hw hp (by omega)
    have hs1 := hs.set (j := 9) (d := some (enc x.1)) (by decide) (by decide)
    have hs2 := hs1.set (j := 10) (d := some (.bl x.2)) (by decide) (by decide)
    refine ⟨(σ.set 9 (some (enc x.1))).set 10 (some (.bl x.2)), st, _, s1, rfl, ?_, hs2, e5⟩
    have g0 := gvn (s := st) hs2.a
    have g9 : gv 9 ((σ.set 9 (some (enc x.1))).set 10 (some (.bl x.2))) st = some (enc x.1, st) := gvn (by rw [List.getElem?_set_ne (by decide)]; exact get_set hs.l (by decide))
    have g10 := fun s => gvn (s := s) (get_set (σ := σ.set 9 (some (enc x.1))) (j := 10) (d := .bl x.2) hs1.l (by decide))
    have p1 : F_is_program [enc q] s1 = _ := program_c (by rw [(wrap_facts e4 e2 e3).2.2.2.2.2.2]; exact f3) e5.wf
    rw [wrap_prog e4 e2 e3 f1 f2, f4] at p1
    simp only [e_mIfS, e_toB, e_mB, e_mC, e_aCons, g0, g9, e_aNil, Option.bind_some, e1, p1, g10, ne_bl_same, Bool.false_eq_true, if_false, e_mNil]) hs a4.wf a4.pot (by
      have : (bodiesT w k).length = 17 := rfl
      rw [this]; omega)
  have hl : (bodiesT w k).length = 17 := rfl
  rw [hl] at h3
  refine ⟨σ', st', ?_, h2, drawn_le (a4.trans h3) (by omega)⟩
  have hit : ilAny (mC F__law_bodies (aCons (gv 0) (aCons (gv 1) aNil))) σ st = some (((bodiesT w k).map encB, some), s0) := by
    show (mC F__law_bodies (aCons (gv 0) (aCons (gv 1) aNil)) σ st).bind _ = _
    simp only [e_mC, e_aCons, gvn hs.a, gvn hs.b, e_aNil, Option.bind_some, a1]
    rfl
  simp only [e_mForL, hit, Option.bind_some, h1]
end
end K02

end
section
set_option Elab.async false
set_option linter.all false
set_option maxRecDepth 100000
set_option autoImplicit false
set_option exponentiation.threshold 5000
namespace K02
open PySem PySem.Spec L2 Z T GK02
section
variable {i : Nat} {T : Int} {st : Sto} {σ : Slo} {w : Str}
theorem rep_enc (n : Nat) (p : Pg) : encs (List.replicate n p) = List.replicate n (enc p) := by rw [encs_map, List.map_replicate]
theorem mul_n {x : D} {n : Nat} (hn : n ≤ 100) : oMul2 (.tup [x]) (.int n) st = some (.tup (List.replicate n x), st) := by
  match n, hn with
  | 0, _ => rfl
  | 1, _ => rfl
  | n + 2, hn =>
    have h2 : oMul2 (.tup [x]) (.int ((n + 2 : Nat) : Int)) st = oMul (.tup [x]) (.int ((n + 2 : Nat) : Int)) st := by
      unfold oMul2
      split
      · rename_i h; cases h
      · rename_i h; cases h
      · rfl
    rw [h2]
    have hc : (!([x] : List D).isEmpty && decide ((2 : Int) ≤ ((n + 2 : Nat) : Int)) && decide (((n + 2 : Nat) : Int) ≤ 1000) && decide (([x] : List D).length ≤ 1000)) = true := by
      simp; omega
    show (if (!([x] : List D).isEmpty && decide ((2 : Int) ≤ ((n + 2 : Nat) : Int)) && decide (((n + 2 : Nat) : Int) ≤ 1000) && decide (([x] : List D).length ≤ 1000)) = true then some (D.tup (List.replicate ((n + 2 : Nat) : Int).toNat [x]).flatten, st) else none) = _
    rw [if_pos hc]
    have : ((n + 2 : Nat) : Int).toNat = n + 2 := Int.toNat_natCast _
    rw [this]
    simp
theorem py_bls : ∀ bs : List Bool, pyDs (bs.map D.bl) = some (bs.map PyData.bool)
  | [] => rfl
  | b :: bs => by simp [pyDs, pyD, py_bls bs]
theorem lay_bls : ∀ bs : List Bool, PyData.canLayAll0 (bs.map PyData.bool) = true ∧ PyData.depthAll (bs.map PyData.bool) = 0
  | [] => ⟨by simp [PyData.canLayAll0], by simp [PyData.depthAll]⟩
  | b :: bs => by
    obtain ⟨h1, h2⟩ := lay_bls bs
    exact ⟨by simp [PyData.canLayAll0, PyData.canLay0, h1], by simp [PyData.depthAll, PyData.depth, h2]⟩
theorem eqv_bls : ∀ as : List Bool, PyData.eqvAll (as.map PyData.bool) (as.map PyData.bool) = true
  | [] => by simp [PyData.eqvAll]
  | a :: as => by simp [PyData.eqvAll, PyData.eqv, eqv_bls as]
theorem ne_bls (as : List Bool) : oNe (.lst (as.map D.bl)) (.lst (as.map D.bl)) st = some (.bl false, st) := by
  obtain ⟨h1, h2⟩ := lay_bls as
  have s1 : SeqAt.shaped (.list (as.map PyData.bool)) = true := by simp [SeqAt.shaped, PyData.canLay0, PyData.depth, h1, h2]
  have e : PyData.eqv (.list (as.map PyData.bool)) (.list (as.map PyData.bool)) = true := by simp [PyData.eqv, eqv_bls]
  simp [oNe, pyT, pyD, py_bls, s1, e]
def kName (j : Nat) : Str := match j with
  | 0 => "seq"
  | 1 => "join"
  | _ => "race"
def kMost (j : Nat) : Nat := match j with
  | 0 => 12
  | _ => 6
def encK (j : Nat) : D := .tup [.str (kName j), .int (kMost j)]
theorem kind_enc (j n : Nat) : enc (kindT j w n) = .tup [.str (kName j), .tup (List.replicate n (.tup [.str "log", .str w]))] := by
  match j with
  | 0 => simp only [kindT, enc, rep_enc]; rfl
  | 1 => simp only [kindT, enc, rep_enc]; rfl
  | j + 2 => simp only [kindT, enc, rep_enc]; rfl
theorem kind_fit (hw8 : w ∈ W8) (j n : Nat) (hn : n ≤ 100) : fitA (kindT j w n) = true := by
  have h : fitAs (List.replicate n (.log w)) = true := fitAs_iff.mpr fun p hp => by
    rw [List.eq_of_mem_replicate hp]; exact decide_eq_true (w8_mem hw8).2.2
  match j with
  | 0 => simp only [kindT, fitA, h, List.length_replicate, Bool.and_true, decide_eq_true_eq]; omega
  | 1 => simp only [kindT, fitA, h, List.length_replicate, Bool.and_true, decide_eq_true_eq]; omega
  | j + 2 => simp only [kindT, fitA, h, List.length_replicate, Bool.and_true, decide_eq_true_eq]; omega
theorem kind_told (hw8 : w ∈ W8) {j : Nat} (hj : j < 3) : ([0, 1, kMost j, kMost j + 1].map fun n => progT (kindT j w n)) = [decide (j = 0), true, true, false] := by
  have := List.all_eq_true.mp kinds_all w hw8
  simp only [Bool.and_eq_true, beq_iff_eq] at this
  match j, hj with
  | 0, _ => exact this.1.1
  | 1, _ => exact this.1.2
  | 2, _ => exact this.2
theorem kind_seq {j : Nat} (hj : j < 3) : oEqE (.str (kName j)) (.str "seq") st = some (.bl (decide (j = 0)), st) := by
  match j, hj with
  | 0, _ => exact k_seq_seq
  | 1, _ => exact k_join_seq
  | 2, _ => exact k_race_seq
def kBody : SM := (mSeq (mSet 8 (mLcL (ilAny (mTup (aCons (ck (.int 0)) (aCons (ck (.int 1)) (aCons (gv 7) (aCons (mB oAdd (gv 7) (ck (.int 1))) aNil)))))) (gN 5) bYes (mC F_is_program (aCons (mTup (aCons (gv 6) (aCons (mB oMul2 (mTup (aCons (mTup (aCons (ck (.str "log")) (aCons (gv 1) aNil))) aNil)) (gv 5)) aNil))) aNil)) [5])) (mIfS (toB (mB oNe (gv 8) (mLst (aCons (mB oEqE (gv 6) (ck (.str "seq"))) (aCons (ck (.bl true)) (aCons (ck (.bl true)) (aCons (ck (.bl false)) aNil))))))) (mRet (ck (.bl false))) mNil))
theorem st_kinds (hs : SI i w σ) (hw8 : w ∈ W8) (hw : WfS st) : ∃ σ', (mForL (ilAny (mTup (aCons (mTup (aCons (ck (.str "seq")) (aCons (ck (.int 12)) aNil))) (aCons (mTup (aCons (ck (.str "join")) (aCons (ck (.int 6)) aNil))) (aCons (mTup (aCons (ck (.str "race")) (aCons (ck (.int 6)) aNil))) aNil))))) (gT 2 (gsCons (gN 6) (gsCons (gN 7) gsNil))) kBody) σ st = some (.nx, σ', st) ∧ SI i w σ' := by
  obtain ⟨σ', st', h1, ⟨_, hst, hsi⟩⟩ := for_run (g := (gT 2 (gsCons (gN 6) (gsCons (gN 7) gsNil)))) (b := kBody) encK (fun (_ : Unit) (_ : Nat) => ()) (fun xs _ σ s => (∀ x ∈ xs, x < 3) ∧ s = st ∧ SI i w σ) (fun x xs a σ s hI => by
    obtain ⟨hx, rfl, hs⟩ := hI
    have hj := hx x List.mem_cons_self
    have hs1 := (hs.set (j := 6) (d := some (.str (kName x))) (by decide) (by decide)).set (j := 7) (d := some (.int (kMost x))) (by decide) (by decide)
    generalize hτ : (σ.set 6 (some (.str (kName x)))).set 7 (some (.int (kMost x))) = τ at hs1
    have l0 : (σ.set 6 (some (D.str (kName x)))).length = 16 := by rw [List.length_set]; exact hs.l
    have g7 : τ[7]? = some (some (.int (kMost x))) := by rw [← hτ]; exact get_set l0 (by decide)
    have g6 : τ[6]? = some (some (.str (kName x))) := by rw [← hτ, List.getElem?_set_ne (by decide)]; exact get_set hs.l (by decide)
    have lc := lc_enc (σ := τ) (st := s) (st1 := s) (it := ilAny (mTup (aCons (ck (.int 0)) (aCons (ck (.int 1)) (aCons (gv 7) (aCons (mB oAdd (gv 7) (ck (.int 1))) aNil)))))) (gm := gN 5) (me := (mC F_is_program (aCons (mTup (aCons (gv 6) (aCons (mB oMul2 (mTup (aCons (mTup (aCons (ck (.str "log")) (aCons (gv 1) aNil))) aNil)) (gv 5)) aNil))) aNil))) (vs := [5]) (fun n : Nat => D.int n) (fun n => .bl (progT (kindT x w n))) [0, 1, kMost x, kMost x + 1]
      (walk_tup (by simp [gvn g7, sz4])) (fun n hn => ⟨(wipeD τ [5]).set 5 (some (.int n)), rfl, by
        have hn' : n ≤ 100 := by
          have : kMost x ≤ 12 := by unfold kMost; split <;> omega
          simp only [List.mem_cons, List.not_mem_nil, or_false] at hn
          omega
        have u6 : ((wipeD τ [5]).set 5 (some (D.int n)))[6]? = some (some (.str (kName x))) := by
          rw [List.getElem?_set_ne (by decide)]
          show ((τ.set 5 none))[6]? = _
          rw [List.getElem?_set_ne (by decide)]; exact g6
        have u1 : ((wipeD τ [5]).set 5 (some (D.int n)))[1]? = some (some (.str w)) := by
          rw [List.getElem?_set_ne (by decide)]
          show ((τ.set 5 none))[1]? = _
          rw [List.getElem?_set_ne (by decide)]; exact hs1.b
        have u5 : ((wipeD τ [5]).set 5 (some (D.int n)))[5]? = some (some (.int n)) := List.getElem?_set_self (by simp [wipeD, hs1.l])
        have p1 : F_is_program [enc (kindT x w n)] s = _ := program_c (kind_fit hw8 x n hn') hw
        rw [kind_enc] at p1
        simp only [e_mC, e_aCons, e_mTup, gvn u6, e_mB, e_ck, gvn u1, gvn u5, e_aNil, Option.bind_some, List.length_cons, List.length_nil, Nat.zero_add, Nat.reduceAdd, sz1, sz2, if_true, mul_n hn', p1]⟩) sz4
    rw [show (List.map (fun n => D.bl (progT (kindT x w n))) [0, 1, kMost x, kMost x + 1]) = ([0, 1, kMost x, kMost x + 1].map fun n => progT (kindT x w n)).map D.bl from by rw [List.map_map]; rfl, kind_told hw8 hj] at lc
    have hs2 := hs1.set (j := 8) (d := some (.lst ([decide (x = 0), true, true, false].map D.bl))) (by decide) (by decide)
    have g8 := fun s => gvn (s := s) (get_set (σ := τ) (j := 8) (d := .lst ([decide (x = 0), true, true, false].map D.bl)) hs1.l (by decide))
    refine ⟨τ, s, τ.set 8 (some (.lst ([decide (x = 0), true, true, false].map D.bl))), s, by rw [← hτ, encK, gT2]; rfl, ?_, fun y hy => hx y (List.mem_cons_of_mem _ hy), rfl, hs2⟩
    have q1 : mSet 8 (mLcL (ilAny (mTup (aCons (ck (.int 0)) (aCons (ck (.int 1)) (aCons (gv 7) (aCons (mB oAdd (gv 7) (ck (.int 1))) aNil)))))) (gN 5) bYes (mC F_is_program (aCons (mTup (aCons (gv 6) (aCons (mB oMul2 (mTup (aCons (mTup (aCons (ck (.str "log")) (aCons (gv 1) aNil))) aNil)) (gv 5)) aNil))) aNil)) [5]) τ s = some (.nx, τ.set 8 (some (.lst ([decide (x = 0), true, true, false].map D.bl))), s) := by
      simp only [e_mSet, lc, Option.bind_some]
    unfold kBody
    rw [seq_nx q1]
    have u6 : (τ.set 8 (some (D.lst ([decide (x = 0), true, true, false].map D.bl))))[6]? = some (some (.str (kName x))) := by rw [List.getElem?_set_ne (by decide)]; exact g6
    simp only [e_mIfS, e_toB, e_mB, g8, e_mLst, e_aCons, gvn u6, e_ck, kind_seq hj, e_aNil, Option.bind_some, List.length_cons, List.length_nil, Nat.zero_add, Nat.reduceAdd, sz4, if_true]
    rw [show (D.lst [D.bl (decide (x = 0)), D.bl true, D.bl true, D.bl false]) = .lst ([decide (x = 0), true, true, false].map D.bl) from rfl, ne_bls]
    simp only [Option.bind_some, Bool.false_eq_true, if_false, e_mNil]) [0, 1, 2] () σ st ⟨by decide, rfl, hs⟩
  subst hst
  refine ⟨σ', ?_, hsi⟩
  have hit : (ilAny (mTup (aCons (mTup (aCons (ck (.str "seq")) (aCons (ck (.int 12)) aNil))) (aCons (mTup (aCons (ck (.str "join")) (aCons (ck (.int 6)) aNil))) (aCons (mTup (aCons (ck (.str "race")) (aCons (ck (.int 6)) aNil))) aNil))))) σ st' = some ((([0, 1, 2] : List Nat).map encK, some), st') := walk_tup (by simp [sz2, sz3, encK, kName, kMost])
  simp only [e_mForL, hit, Option.bind_some, h1]
/-! ### counts, loops, letters -/
theorem bls_lc {α : Type} {e : EM} {j : Nat} {me : EM} {xs : List α} {f : α → Pg} {enc' : α → D} (he : e σ st = some (.tup (xs.map enc'), st)) (hl : xs.length ≤ 100)
    (hm : ∀ x ∈ xs, me ((wipeD σ [j]).set j (some (enc' x))) st = some (.bl (progT (f x)), st)) :
    mLcL (ilAny e) (gN j) bYes me [j] σ st = some (.lst ((xs.map fun x => progT (f x)).map D.bl), st) := by
  rw [List.map_map]
  exact lc_enc enc' _ xs (walk_tup he) (fun x hx => ⟨_, rfl, hm x hx⟩) (sz (by omega))
theorem wiped {j : Nat} {d : D} (hs : SI i w σ) (hj : j < 16) : ((wipeD σ [j]).set j (some d))[j]? = some (some d) := List.getElem?_set_self (by simp [wipeD, hs.l, hj])
def B4 : List Bool := [false, true, true, false]
theorem st_counts (hs : SI i w σ) (hw : WfS st) : ∃ σ', (mSet 11 (mLcL (ilAny (mTup (aCons (ck (.int 0)) (aCons (ck (.int 1)) (aCons (mB oPow (ck (.int 10)) (ck (.int 18))) (aCons (mB oAdd (mB oPow (ck (.int 10)) (ck (.int 18))) (ck (.int 1))) aNil)))))) (gN 15) bYes (mC F_is_program (aCons (mTup (aCons (ck (.str "await")) (aCons (gv 15) aNil))) aNil)) [15])) σ st = some (.nx, σ', st) ∧ SI i w σ' ∧ σ'[11]? = some (some (.lst (B4.map D.bl))) := by
  have lc := bls_lc (σ := σ) (st := st) (j := 15) (me := (mC F_is_program (aCons (mTup (aCons (ck (.str "await")) (aCons (gv 15) aNil))) aNil))) (e := (mTup (aCons (ck (.int 0)) (aCons (ck (.int 1)) (aCons (mB oPow (ck (.int 10)) (ck (.int 18))) (aCons (mB oAdd (mB oPow (ck (.int 10)) (ck (.int 18))) (ck (.int 1))) aNil)))))) (xs := ([0, 1, 1000000000000000000, 1000000000000000001] : List Int)) (f := fun n => .aw n) (enc' := D.int) (by simp [pow18, sz4]) (by simp) (fun n hn => by
    have p1 : F_is_program [enc (.aw n)] st = _ := program_c rfl hw
    rw [show enc (.aw n) = .tup [.str "await", .int n] from rfl] at p1
    simp only [e_mC, e_aCons, e_mTup, e_ck, gvn (wiped (j := 15) hs (by decide)), e_aNil, Option.bind_some, List.length_cons, List.length_nil, Nat.zero_add, Nat.reduceAdd, sz2, if_true, p1])
  rw [counts_all, show ([false, true, true, false] : List Bool) = B4 from rfl] at lc
  refine ⟨_, by simp only [e_mSet, lc, Option.bind_some], hs.set (by decide) (by decide), get_set hs.l (by decide)⟩
theorem st_loops (hs : SI i w σ) (hw : WfS st) (h11 : σ[11]? = some (some (.lst (B4.map D.bl)))) : ∃ σ', (mSet 12 (mLcL (ilAny (mTup (aCons (mU oNeg (ck (.int 1))) (aCons (ck (.int 0)) (aCons (mB oPow (ck (.int 10)) (ck (.int 18))) (aCons (mB oAdd (mB oPow (ck (.int 10)) (ck (.int 18))) (ck (.int 1))) aNil)))))) (gN 15) bYes (mC F_is_program (aCons (mTup (aCons (ck (.str "loop")) (aCons (gv 15) (aCons (mTup (aCons (ck (.str "await")) (aCons (ck (.int 1)) aNil))) aNil)))) aNil)) [15])) σ st = some (.nx, σ', st) ∧ SI i w σ' ∧ σ'[11]? = some (some (.lst (B4.map D.bl))) ∧ σ'[12]? = some (some (.lst (B4.map D.bl))) := by
  have lc := bls_lc (σ := σ) (st := st) (j := 15) (me := (mC F_is_program (aCons (mTup (aCons (ck (.str "loop")) (aCons (gv 15) (aCons (mTup (aCons (ck (.str "await")) (aCons (ck (.int 1)) aNil))) aNil)))) aNil))) (e := (mTup (aCons (mU oNeg (ck (.int 1))) (aCons (ck (.int 0)) (aCons (mB oPow (ck (.int 10)) (ck (.int 18))) (aCons (mB oAdd (mB oPow (ck (.int 10)) (ck (.int 18))) (ck (.int 1))) aNil)))))) (xs := ([-1, 0, 1000000000000000000, 1000000000000000001] : List Int)) (f := fun n => .loop n (.aw 1)) (enc' := D.int) (by simp [pow18, sz4]) (by simp) (fun n hn => by
    have p1 : F_is_program [enc (.loop n (.aw 1))] st = _ := program_c rfl hw
    rw [show enc (.loop n (.aw 1)) = .tup [.str "loop", .int n, .tup [.str "await", .int 1]] from rfl] at p1
    simp only [e_mC, e_aCons, e_mTup, e_ck, gvn (wiped (j := 15) hs (by decide)), e_aNil, Option.bind_some, List.length_cons, List.length_nil, Nat.zero_add, Nat.reduceAdd, sz2, sz3, if_true, p1])
  rw [loops_all, show ([false, true, true, false] : List Bool) = B4 from rfl] at lc
  refine ⟨_, by simp only [e_mSet, lc, Option.bind_some], hs.set (by decide) (by decide), by rw [List.getElem?_set_ne (by decide)]; exact h11, get_set hs.l (by decide)⟩
def B5 : List Bool := [true, true, false, false, false]
theorem fit_letters : (([("a" : Str), "abcdefgh", "abcdefghi", "", "aB"] : List Str).all fun w => fitA (.log w)) = true := by decide +kernel
theorem st_letters (hs : SI i w σ) (hw : WfS st) (h11 : σ[11]? = some (some (.lst (B4.map D.bl)))) (h12 : σ[12]? = some (some (.lst (B4.map D.bl)))) : ∃ σ', (mSet 13 (mLcL (ilAny (mTup (aCons (ck (.str "a")) (aCons (ck (.str "abcdefgh")) (aCons (ck (.str "abcdefghi")) (aCons (ck (.str "")) (aCons (ck (.str "aB")) aNil))))))) (gN 1) bYes (mC F_is_program (aCons (mTup (aCons (ck (.str "log")) (aCons (gv 1) aNil))) aNil)) [1])) σ st = some (.nx, σ', st) ∧ σ'[11]? = some (some (.lst (B4.map D.bl))) ∧ σ'[12]? = some (some (.lst (B4.map D.bl))) ∧ σ'[13]? = some (some (.lst (B5.map D.bl))) := by
  have sz5 : (5 : Nat) ≤ sizeLine := by decide
  have lc := bls_lc (σ := σ) (st := st) (j := 1) (me := (mC F_is_program (aCons (mTup (aCons (ck (.str "log")) (aCons (gv 1) aNil))) aNil))) (e := (mTup (aCons (ck (.str "a")) (aCons (ck (.str "abcdefgh")) (aCons (ck (.str "abcdefghi")) (aCons (ck (.str "")) (aCons (ck (.str "aB")) aNil))))))) (xs := (["a", "abcdefgh", "abcdefghi", "", "aB"] : List Str)) (f := fun n => .log n) (enc' := D.str) (by simp [sz5]) (by simp) (fun n hn => by
    have p1 : F_is_program [enc (.log n)] st = _ := program_c (List.all_eq_true.mp fit_letters n hn) hw
    rw [show enc (.log n) = .tup [.str "log", .str n] from rfl] at p1
    simp only [e_mC, e_aCons, e_mTup, e_ck, gvn (wiped (j := 1) hs (by decide)), e_aNil, Option.bind_some, List.length_cons, List.length_nil, Nat.zero_add, Nat.reduceAdd, sz2, if_true, p1])
  rw [letters_all, show ([true, true, false, false, false] : List Bool) = B5 from rfl] at lc
  refine ⟨_, by simp only [e_mSet, lc, Option.bind_some], by rw [List.getElem?_set_ne (by decide)]; exact h11, by rw [List.getElem?_set_ne (by decide)]; exact h12, get_set hs.l (by decide)⟩
theorem eq_data {a b : D} {p : PyData} (h0 : oEqE a b st = oEq a b st) (ha : pyT a st = some p) (hb : pyT b st = some p) (hs : SeqAt.shaped p = true) (he : PyData.eqv p p = true) : oEqE a b st = some (.bl true, st) := by
  rw [h0]
  simp [oEq, ha, hb, hs, he]
theorem st_ret (h11 : σ[11]? = some (some (.lst (B4.map D.bl)))) (h12 : σ[12]? = some (some (.lst (B4.map D.bl)))) (h13 : σ[13]? = some (some (.lst (B5.map D.bl)))) : (mRet (vAnd (mB oEqE (mLst (aCons (gv 11) (aCons (gv 12) aNil))) (mB oMul2 (mLst (aCons (mLst (aCons (ck (.bl false)) (aCons (ck (.bl true)) (aCons (ck (.bl true)) (aCons (ck (.bl false)) aNil))))) aNil)) (ck (.int 2)))) (mB oEqE (gv 13) (mLst (aCons (ck (.bl true)) (aCons (ck (.bl true)) (aCons (ck (.bl false)) (aCons (ck (.bl false)) (aCons (ck (.bl false)) aNil))))))))) σ st = some (.rt (.bl true), σ, st) := by
  have sz5 : (5 : Nat) ≤ sizeLine := by decide
  have m2 : oMul2 (.lst [.lst [.bl false, .bl true, .bl true, .bl false]]) (.int 2) st = some (.lst [.lst (B4.map D.bl), .lst (B4.map D.bl)], st) := by
    simp only [oMul2, oMul, pL, Option.bind_some]
    rfl
  have q1 : oEqE (.lst [.lst (B4.map D.bl), .lst (B4.map D.bl)]) (.lst [.lst (B4.map D.bl), .lst (B4.map D.bl)]) st = some (.bl true, st) :=
    eq_data (p := .list [.list (B4.map PyData.bool), .list (B4.map PyData.bool)]) rfl rfl rfl (by decide +kernel) (by decide +kernel)
  have q2 : oEqE (.lst (B5.map D.bl)) (.lst [.bl true, .bl true, .bl false, .bl false, .bl false]) st = some (.bl true, st) :=
    eq_data (p := .list (B5.map PyData.bool)) rfl rfl rfl (by decide +kernel) (by decide +kernel)
  simp only [e_mRet, e_vAnd, e_mB, e_mLst, e_aCons, gvn h11, gvn h12, gvn h13, e_ck, e_aNil, Option.bind_some, List.length_cons, List.length_nil, Nat.zero_add, Nat.reduceAdd, sz1, sz2, sz4, sz5, if_true, m2, q1, q2]
theorem right_eq : F__law_right = mkF 16 1 0 ((mSeq (mSet 1 (mC F__law_word (aCons (gv 0) aNil))) (mSeq (mForL (ilAny (mTup (aCons (ck (.int 79)) (aCons (ck (.int 80)) (aCons (ck (.int 81)) (aCons (ck (.int 82)) aNil)))))) (gN 2) (mSeq (mSet 3 (mC F__law_of_nodes (aCons (gv 0) (aCons (gv 2) aNil)))) (mIfS (toB (mB oNe (mC F_is_program (aCons (gv 3) aNil)) (mB oLt (mC F__law_size (aCons (gv 3) aNil)) (ck (.int 81))))) (mRet (ck (.bl false))) mNil))) (mSeq (mForL (ilAny (mTup (aCons (ck (.int 11)) (aCons (ck (.int 12)) (aCons (ck (.int 13)) aNil))))) (gN 4) (mIfS (toB (mB oNe (mC F_is_program (aCons (mC F__law_deep (aCons (gv 0) (aCons (gv 4) aNil))) aNil)) (mB oLt (gv 4) (ck (.int 13))))) (mRet (ck (.bl false))) mNil)) (mSeq (mForL (ilAny (mTup (aCons (ck (.int 8)) (aCons (ck (.int 9)) aNil)))) (gN 5) (mIfS (toB (mB oNe (mC F_is_program (aCons (mTup (aCons (ck (.str "seq")) (aCons (mC bTuple (aCons (mLcL (ilOf (iRg1 (aCons (gv 5) aNil))) (gN 14) bYes (mC F__law_with_body (aCons (gv 0) (aCons (mTup (aCons (ck (.str "await")) (aCons (ck (.int 1)) aNil))) aNil))) [14]) aNil)) aNil))) aNil)) (mB oLt (gv 5) (ck (.int 9))))) (mRet (ck (.bl false))) mNil)) (mSeq (mForL (ilAny (mTup (aCons (mTup (aCons (ck (.str "seq")) (aCons (ck (.int 12)) aNil))) (aCons (mTup (aCons (ck (.str "join")) (aCons (ck (.int 6)) aNil))) (aCons (mTup (aCons (ck (.str "race")) (aCons (ck (.int 6)) aNil))) aNil))))) (gT 2 (gsCons (gN 6) (gsCons (gN 7) gsNil))) (mSeq (mSet 8 (mLcL (ilAny (mTup (aCons (ck (.int 0)) (aCons (ck (.int 1)) (aCons (gv 7) (aCons (mB oAdd (gv 7) (ck (.int 1))) aNil)))))) (gN 5) bYes (mC F_is_program (aCons (mTup (aCons (gv 6) (aCons (mB oMul2 (mTup (aCons (mTup (aCons (ck (.str "log")) (aCons (gv 1) aNil))) aNil)) (gv 5)) aNil))) aNil)) [5])) (mIfS (toB (mB oNe (gv 8) (mLst (aCons (mB oEqE (gv 6) (ck (.str "seq"))) (aCons (ck (.bl true)) (aCons (ck (.bl true)) (aCons (ck (.bl false)) aNil))))))) (mRet (ck (.bl false))) mNil))) (mSeq (mForL (ilAny (mC F__law_bodies (aCons (gv 0) (aCons (gv 1) aNil)))) (gT 2 (gsCons (gN 9) (gsCons (gN 10) gsNil))) (mIfS (toB (mB oNe (mC F_is_program (aCons (mC F__law_with_body (aCons (gv 0) (aCons (gv 9) aNil))) aNil)) (gv 10))) (mRet (ck (.bl false))) mNil)) (mSeq (mSet 11 (mLcL (ilAny (mTup (aCons (ck (.int 0)) (aCons (ck (.int 1)) (aCons (mB oPow (ck (.int 10)) (ck (.int 18))) (aCons (mB oAdd (mB oPow (ck (.int 10)) (ck (.int 18))) (ck (.int 1))) aNil)))))) (gN 15) bYes (mC F_is_program (aCons (mTup (aCons (ck (.str "await")) (aCons (gv 15) aNil))) aNil)) [15])) (mSeq (mSet 12 (mLcL (ilAny (mTup (aCons (mU oNeg (ck (.int 1))) (aCons (ck (.int 0)) (aCons (mB oPow (ck (.int 10)) (ck (.int 18))) (aCons (mB oAdd (mB oPow (ck (.int 10)) (ck (.int 18))) (ck (.int 1))) aNil)))))) (gN 15) bYes (mC F_is_program (aCons (mTup (aCons (ck (.str "loop")) (aCons (gv 15) (aCons (mTup (aCons (ck (.str "await")) (aCons (ck (.int 1)) aNil))) aNil)))) aNil)) [15])) (mSeq (mSet 13 (mLcL (ilAny (mTup (aCons (ck (.str "a")) (aCons (ck (.str "abcdefgh")) (aCons (ck (.str "abcdefghi")) (aCons (ck (.str "")) (aCons (ck (.str "aB")) aNil))))))) (gN 1) bYes (mC F_is_program (aCons (mTup (aCons (ck (.str "log")) (aCons (gv 1) aNil))) aNil)) [1])) (mRet (vAnd (mB oEqE (mLst (aCons (gv 11) (aCons (gv 12) aNil))) (mB oMul2 (mLst (aCons (mLst (aCons (ck (.bl false)) (aCons (ck (.bl true)) (aCons (ck (.bl true)) (aCons (ck (.bl false)) aNil))))) aNil)) (ck (.int 2)))) (mB oEqE (gv 13) (mLst (aCons (ck (.bl true)) (aCons (ck (.bl true)) (aCons (ck (.bl false)) (aCons (ck (.bl false)) (aCons (ck (.bl false)) aNil))))))))))))))))))) := rfl
theorem right_dr (hw : WfS st) (hp : Pot i T st) (hT : T + 20000 < BIG) : ∃ st', F__law_right [.ref i] st = some (.bl true, st') ∧ Drawn i (T + 10000) st st' := by
  obtain ⟨w, s1, a1, a2, a3⟩ := word_dr hw hp (by omega)
  have hs : SI i w [some (.ref i), some (.str w), none, none, none, none, none, none, none, none, none, none, none, none, none, none] := ⟨rfl, rfl, rfl⟩
  have a1' : F__law_word [.ref i] st = some (.str w, s1) := a1
  have q1 : (mSet 1 (mC F__law_word (aCons (gv 0) aNil))) [some (.ref i), none, none, none, none, none, none, none, none, none, none, none, none, none, none, none] st = some (.nx, [some (.ref i), some (.str w), none, none, none, none, none, none, none, none, none, none, none, none, none, none], s1) := by
    have g0 : gv 0 [some (.ref i), none, none, none, none, none, none, none, none, none, none, none, none, none, none, none] st = some (.ref i, st) := rfl
    simp only [e_mSet, e_mC, e_aCons, g0, e_aNil, Option.bind_some, a1', List.set_cons_succ, List.set_cons_zero]
  obtain ⟨σ2, s2, b1, b2, b3⟩ := st_sizes hs a3.wf a3.pot (by omega)
  obtain ⟨σ3, s3, c1, c2, c3⟩ := st_deep b2 b3.wf b3.pot (by omega)
  obtain ⟨σ4, s4, d1, d2, d3⟩ := st_many c2 c3.wf c3.pot (by omega)
  obtain ⟨σ5, e1, e2⟩ := st_kinds d2 a2 d3.wf
  unfold kBody at e1
  obtain ⟨σ6, s6, f1, f2, f3⟩ := st_bodies e2 a2 d3.wf d3.pot (by omega)
  obtain ⟨σ7, g1, g2, g3⟩ := st_counts f2 f3.wf
  obtain ⟨σ8, h1, h2, h3, h4⟩ := st_loops g2 f3.wf g3
  obtain ⟨σ9, k1, k2, k3, k4⟩ := st_letters h2 f3.wf h3 h4
  have k5 := st_ret (st := s6) k2 k3 k4
  have dr := drawn_le (a3.trans (b3.trans (c3.trans (d3.trans f3)))) (U := T + 10000) (by omega)
  refine ⟨s6, ?_, dr⟩
  have hcut := cut_ok (d := .bl true) (n := st.length) (st := s6) dr.len rfl dr.wf
  rw [right_eq]
  show (mSeq _ _ [some (.ref i), none, none, none, none, none, none, none, none, none, none, none, none, none, none, none] st).bind _ = _
  rw [seq_nx q1, seq_nx b1, seq_nx c1, seq_nx d1, seq_nx e1, seq_nx f1, seq_nx g1, seq_nx h1, seq_nx k1, k5]
  exact hcut
/-! ### the law -/
theorem law_step (ns : List Int) (x : Int) (xs : List Int) (n : Nat) (σ : Slo) (s : Sto) (h : (∃ z, σ = [some (.sq (ns.map D.int)), z]) ∧ WfS s ∧ (x :: xs) = (List.range (xs.length + 1)).map (fun (k : Nat) => (n : Int) + (k : Int)) ∧ n + (xs.length + 1) ≤ 3) : ∃ σ1 st1 σ2 st2, gN 1 (.int x) σ s = some (σ1, st1) ∧
    (mIfS (bNot (bTru (mC F__law_right (aCons (mC F__law_pot (aCons (gv 0) (aCons (gv 1) aNil))) aNil)))) (mRet (ck (.bl false))) mNil) σ1 st1 = some (.nx, σ2, st2) ∧ ((∃ z, σ2 = [some (.sq (ns.map D.int)), z]) ∧ WfS st2 ∧ xs = (List.range xs.length).map (fun (k : Nat) => ((n + 1 : Nat) : Int) + (k : Int)) ∧ (n + 1) + xs.length ≤ 3) := by
  obtain ⟨⟨z, rfl⟩, hw, hx, hn⟩ := h
  rw [List.range_succ_eq_map, List.map_cons, List.map_map] at hx
  injection hx with hx1 hx2
  have hxn : x = (n : Int) := by rw [hx1]; simp
  subst hxn
  obtain ⟨s1, p1, p2, p3, p4, p5⟩ := pot_ok (ns := ns) (k := n) hw (by omega)
  obtain ⟨s2, r1, r2⟩ := right_dr p2 p5 (by decide)
  refine ⟨_, _, [some (.sq (ns.map D.int)), some (.int n)], s2, rfl, ?_, ⟨_, rfl⟩, r2.wf, ?_, by omega⟩
  · have g0 : gv 0 [some (.sq (ns.map D.int)), some (.int n)] s = some (.sq (ns.map D.int), s) := rfl
    have g1 : gv 1 [some (.sq (ns.map D.int)), some (.int n)] s = some (.int n, s) := rfl
    have p1' : F__law_pot [.sq (ns.map D.int), .int n] s = some (.ref s.length, s1) := p1
    have tb : ∀ (b : Bool) (s : Sto), (truD (.bl b) s).bind (fun b => some (b, s)) = some (b, s) := fun b s => rfl
    simp only [List.set_cons_succ, List.set_cons_zero, e_mIfS, e_bNot, e_bTru, e_mC, e_aCons, g0, g1, e_aNil, Option.bind_some, p1', r1, tb, Bool.not_true, Bool.false_eq_true, if_false, e_mNil]
  · rw [hx2]
    simp only [List.length_map, List.length_range]
    apply List.map_congr_left
    intro a _
    simp; omega
theorem maths : ∀ ns : List Int, ns.length ≤ 63 → F_law [.sq (ns.map D.int)] [] = some (.bl true, []) := by
  intro ns _
  generalize hm : max 1 (min 3 ns.length) = m
  have m1 : m ≤ 3 := by omega
  have hmax : ∀ s : Sto, (mC bMax2 (aCons (ck (.int 1)) (aCons (mC bMin2 (aCons (ck (.int 3)) (aCons (mC bLen (aCons (gv 0) aNil)) aNil))) aNil))) [some (.sq (ns.map D.int)), none] s = some (.int m, s) := fun s => by
    have hl : bLen [.sq (ns.map D.int)] s = some (.int ns.length, s) := by simp [bLen, lenD, vL]
    have g0 : gv 0 [some (.sq (ns.map D.int)), none] s = some (.sq (ns.map D.int), s) := rfl
    have h2 : bMin2 [.int 3, .int ns.length] s = some (.int (min 3 ns.length : Nat), s) := by
      show some (D.int (if (ns.length : Int) < 3 then (ns.length : Int) else 3), s) = _
      congr 3
      split <;> omega
    have h3 : bMax2 [.int 1, .int (min 3 ns.length : Nat)] s = some (.int m, s) := by
      show some (D.int (if ((min 3 ns.length : Nat) : Int) > 1 then ((min 3 ns.length : Nat) : Int) else 1), s) = _
      congr 3
      split <;> omega
    simp only [e_mC, e_aCons, e_ck, g0, e_aNil, Option.bind_some, hl, h2, h3]
  have hit : ilOf (iRg1 (aCons (mC bMax2 (aCons (ck (.int 1)) (aCons (mC bMin2 (aCons (ck (.int 3)) (aCons (mC bLen (aCons (gv 0) aNil)) aNil))) aNil))) aNil)) [some (.sq (ns.map D.int)), none] [] = some ((rngD 0 m, some), []) := by
    have := rg1 (σ := [some (.sq (ns.map D.int)), none]) (s := []) (s' := []) (k := (m : Int)) (a := aCons (mC bMax2 (aCons (ck (.int 1)) (aCons (mC bMin2 (aCons (ck (.int 3)) (aCons (mC bLen (aCons (gv 0) aNil)) aNil))) aNil))) aNil) (by rw [e_aCons, hmax]; rfl) (by omega) (by omega)
    rwa [Int.toNat_natCast] at this
  have hr : rngD 0 m = ((List.range m).map fun (k : Nat) => ((0 : Nat) : Int) + (k : Int)).map D.int := by
    rw [rngD, List.map_map]; rfl
  rw [hr] at hit
  obtain ⟨σ', s', f1, ⟨z, rfl⟩, f3, _⟩ := for_run D.int (fun (n : Nat) (_ : Int) => n + 1) (fun xs n σ s => (∃ z, σ = [some (.sq (ns.map D.int)), z]) ∧ WfS s ∧ xs = (List.range xs.length).map (fun (k : Nat) => (n : Int) + (k : Int)) ∧ n + xs.length ≤ 3) (fun x xs n σ s h => law_step ns x xs n σ s h) ((List.range m).map fun (k : Nat) => ((0 : Nat) : Int) + (k : Int)) 0 [some (.sq (ns.map D.int)), none] [] ⟨⟨_, rfl⟩, (fun o ho => nomatch ho), by simp, by simp; omega⟩
  show (mSeq _ _ [some (.sq (ns.map D.int)), none] []).bind _ = _
  simp only [e_mSeq, e_mForL, hit, Option.bind_some, f1, e_mRet, e_ck]
  show cutSt 0 (.bl true) s' = _
  unfold cutSt
  rfl
end
end K02

end
section
namespace GK02
open PySem PySem.Spec L2 Z
theorem maths : ∀ ns : List Int, ns.length ≤ 63 → F_law [.sq (ns.map D.int)] [] = some (.bl true, []) := K02.maths
end GK02

end
section
open PySem PySem.W PyProof.Rows
set_option maxHeartbeats 0 in
theorem PySem.Challenge.cw_awaitrounds_k02_programs_at_the_limits_holds : PySem.Challenge.rw_awaitrounds_k02_programs_at_the_limits.Holds := by
  w_on; o_law; k_head; (case hw => w_witness2)
  k_fill
  refine Z.walkG (l := PySem.Challenge.rw_awaitrounds_k02_programs_at_the_limits) (n := 63) (k := 30) (x := "script") (m := GK02.F_law) (by decide +kernel) rfl (by decide) rfl ⟨⟨rfl, by decide, by decide⟩, rfl⟩ (fun w h Y => by first | exact PySem.W.kIn_of Y | exact PySem.W.km_in_of Y) ?F GK02.maths
  case F =>
    intro w mg fa h KX G hmg XX YY
    obtain ⟨tk_MOST_COUNT, hx_MOST_COUNT⟩ := Z.loose_int (n := "MOST_COUNT") (k := 1000000000000000000) XX (by repeat (first | exact List.mem_cons_self | apply List.mem_cons_of_mem))
    refine' GK02.all_mk KX G hmg ?a_Strand ?a_Course ?a__law_pot ?l__law_pot ?c__law_pot ?k__law_pot ?a__law_take ?l__law_take ?c__law_take ?k__law_take ?a__law_bodies ?l__law_bodies ?c__law_bodies ?k__law_bodies ?a__law_of ?l__law_of ?c__law_of ?k__law_of ?a__law_word ?l__law_word ?c__law_word ?k__law_word ?a__law_leaf ?l__law_leaf ?c__law_leaf ?k__law_leaf ?a__law_deep ?l__law_deep ?c__law_deep ?k__law_deep ?a__law_of_nodes ?l__law_of_nodes ?c__law_of_nodes ?k__law_of_nodes ?a__law_kids ?l__law_kids ?c__law_kids ?k__law_kids ?a__law_nodes ?l__law_nodes ?c__law_nodes ?k__law_nodes ?a__law_size ?l__law_size ?c__law_size ?k__law_size ?a__law_with_body ?l__law_with_body ?c__law_with_body ?k__law_with_body ?a_children ?l_children ?c_children ?k_children ?a_Course_all_strands ?l_Course_all_strands ?c_Course_all_strands ?k_Course_all_strands ?a_Course_last_round ?l_Course_last_round ?c_Course_last_round ?k_Course_last_round ?a_Course_total ?l_Course_total ?c_Course_total ?k_Course_total ?a_Course___init__ ?l_Course___init__ ?c_Course___init__ ?k_Course___init__ ?a_detached_course ?l_detached_course ?c_detached_course ?k_detached_course ?a_beside_course ?l_beside_course ?c_beside_course ?k_beside_course ?a_last_to_finish ?l_last_to_finish ?c_last_to_finish ?k_last_to_finish ?a_joined_course ?l_joined_course ?c_joined_course ?k_joined_course ?a_first_to_finish ?l_first_to_finish ?c_first_to_finish ?k_first_to_finish ?a_raced_course ?l_raced_course ?c_raced_course ?k_raced_course ?a_Strand___init__ ?l_Strand___init__ ?c_Strand___init__ ?k_Strand___init__ ?a_over_and_over ?l_over_and_over ?c_over_and_over ?k_over_and_over ?a_once ?l_once ?c_once ?k_once ?a_Strand_singles ?l_Strand_singles ?c_Strand_singles ?k_Strand_singles ?a_single_strands ?l_single_strands ?c_single_strands ?k_single_strands ?a_repeated_course ?l_repeated_course ?c_repeated_course ?k_repeated_course ?a_silent_course ?l_silent_course ?c_silent_course ?k_silent_course ?a_Strand_moved ?l_Strand_moved ?c_Strand_moved ?k_Strand_moved ?a_turned_course ?l_turned_course ?c_turned_course ?k_turned_course ?a_word_course ?l_word_course ?c_word_course ?k_word_course ?a_course_of ?l_course_of ?c_course_of ?k_course_of ?a_is_body ?l_is_body ?c_is_body ?k_is_body ?a_are_parts ?l_are_parts ?c_are_parts ?k_are_parts ?a_is_integer ?l_is_integer ?c_is_integer ?k_is_integer ?a_is_count ?l_is_count ?c_is_count ?k_is_count ?a_is_word ?l_is_word ?c_is_word ?k_is_word ?a_is_node ?l_is_node ?c_is_node ?k_is_node ?a_is_program ?l_is_program ?c_is_program ?k_is_program ?a__law_right ?l__law_right ?c__law_right ?k__law_right ?a_law ?l_law ?c_law ?k_law ?z_abs ?z_all ?z_bool ?z_enumerate ?z_int ?z_isinstance ?z_len ?z_max ?z_min ?z_range ?z_sorted ?z_str ?z_sum ?z_tuple ?v_MOST_BESIDE ?v_MOST_BODY_FINISH ?v_MOST_BODY_ROUND ?v_MOST_BODY_WORDS ?v_MOST_COUNT ?v_MOST_DEPTH ?v_MOST_LETTERS ?v_MOST_LOOPS ?v_MOST_NODES ?v_MOST_PARTS ?mk_Course ?in_Course ?fn_Course ?kc_Course ?mk_Strand ?in_Strand ?fn_Strand ?kc_Strand ?fm_Course_all_strands ?fm_Course_last_round ?fm_Course_total ?fm_Strand_moved ?fm_Strand_singles ?pg_Strand ?hd_Strand ?po_Strand ?sa_Strand ?pg_Course ?hd_Course ?po_Course ?sa_Course ?na_Course_ahead ?na_Course_behind ?na_Course_finish ?na_Strand_first ?na_Strand_last ?na_Strand_many ?na_Strand_step ?na_Strand_word ?tl_ ?tq_ ?tv_ ?th_ ?tk_ ?tt_
    (case a_Strand => k_is); (case a_Course => k_is); (case a__law_pot => k_is); (case l__law_pot => k_is); (case c__law_pot => k_is); (case k__law_pot => k_is); (case a__law_take => k_is); (case l__law_take => k_is); (case c__law_take => k_is); (case k__law_take => k_is); (case a__law_bodies => k_is); (case l__law_bodies => k_is); (case c__law_bodies => k_is); (case k__law_bodies => k_is); (case a__law_of => k_is); (case l__law_of => k_is); (case c__law_of => k_is); (case k__law_of => k_is); (case a__law_word => k_is); (case l__law_word => k_is); (case c__law_word => k_is); (case k__law_word => k_is); (case a__law_leaf => k_is); (case l__law_leaf => k_is); (case c__law_leaf => k_is); (case k__law_leaf => k_is); (case a__law_deep => k_is); (case l__law_deep => k_is); (case c__law_deep => k_is); (case k__law_deep => k_is); (case a__law_of_nodes => k_is); (case l__law_of_nodes => k_is); (case c__law_of_nodes => k_is); (case k__law_of_nodes => k_is); (case a__law_kids => k_is); (case l__law_kids => k_is); (case c__law_kids => k_is); (case k__law_kids => k_is); (case a__law_nodes => k_is); (case l__law_nodes => k_is); (case c__law_nodes => k_is); (case k__law_nodes => k_is); (case a__law_size => k_is); (case l__law_size => k_is); (case c__law_size => k_is); (case k__law_size => k_is); (case a__law_with_body => k_is); (case l__law_with_body => k_is); (case c__law_with_body => k_is); (case k__law_with_body => k_is); (case a_children => k_is); (case l_children => k_is); (case c_children => k_is); (case k_children => k_is); (case a_Course_all_strands => k_is); (case l_Course_all_strands => k_is); (case c_Course_all_strands => k_is); (case k_Course_all_strands => k_is); (case a_Course_last_round => k_is); (case l_Course_last_round => k_is); (case c_Course_last_round => k_is); (case k_Course_last_round => k_is); (case a_Course_total => k_is); (case l_Course_total => k_is); (case c_Course_total => k_is); (case k_Course_total => k_is); (case a_Course___init__ => k_is); (case l_Course___init__ => k_is); (case c_Course___init__ => k_is); (case k_Course___init__ => k_is); (case a_detached_course => k_is); (case l_detached_course => k_is); (case c_detached_course => k_is); (case k_detached_course => k_is); (case a_beside_course => k_is); (case l_beside_course => k_is); (case c_beside_course => k_is); (case k_beside_course => k_is); (case a_last_to_finish => k_is); (case l_last_to_finish => k_is); (case c_last_to_finish => k_is); (case k_last_to_finish => k_is); (case a_joined_course => k_is); (case l_joined_course => k_is); (case c_joined_course => k_is); (case k_joined_course => k_is); (case a_first_to_finish => k_is); (case l_first_to_finish => k_is); (case c_first_to_finish => k_is); (case k_first_to_finish => k_is); (case a_raced_course => k_is); (case l_raced_course => k_is); (case c_raced_course => k_is); (case k_raced_course => k_is); (case a_Strand___init__ => k_is); (case l_Strand___init__ => k_is); (case c_Strand___init__ => k_is); (case k_Strand___init__ => k_is); (case a_over_and_over => k_is); (case l_over_and_over => k_is); (case c_over_and_over => k_is); (case k_over_and_over => k_is); (case a_once => k_is); (case l_once => k_is); (case c_once => k_is); (case k_once => k_is); (case a_Strand_singles => k_is); (case l_Strand_singles => k_is); (case c_Strand_singles => k_is); (case k_Strand_singles => k_is); (case a_single_strands => k_is); (case l_single_strands => k_is); (case c_single_strands => k_is); (case k_single_strands => k_is); (case a_repeated_course => k_is); (case l_repeated_course => k_is); (case c_repeated_course => k_is); (case k_repeated_course => k_is); (case a_silent_course => k_is); (case l_silent_course => k_is); (case c_silent_course => k_is); (case k_silent_course => k_is); (case a_Strand_moved => k_is); (case l_Strand_moved => k_is); (case c_Strand_moved => k_is); (case k_Strand_moved => k_is); (case a_turned_course => k_is); (case l_turned_course => k_is); (case c_turned_course => k_is); (case k_turned_course => k_is); (case a_word_course => k_is); (case l_word_course => k_is); (case c_word_course => k_is); (case k_word_course => k_is); (case a_course_of => k_is); (case l_course_of => k_is); (case c_course_of => k_is); (case k_course_of => k_is); (case a_is_body => k_is); (case l_is_body => k_is); (case c_is_body => k_is); (case k_is_body => k_is); (case a_are_parts => k_is); (case l_are_parts => k_is); (case c_are_parts => k_is); (case k_are_parts => k_is); (case a_is_integer => k_is); (case l_is_integer => k_is); (case c_is_integer => k_is); (case k_is_integer => k_is); (case a_is_count => k_is); (case l_is_count => k_is); (case c_is_count => k_is); (case k_is_count => k_is); (case a_is_word => k_is); (case l_is_word => k_is); (case c_is_word => k_is); (case k_is_word => k_is); (case a_is_node => k_is); (case l_is_node => k_is); (case c_is_node => k_is); (case k_is_node => k_is); (case a_is_program => k_is); (case l_is_program => k_is); (case c_is_program => k_is); (case k_is_program => k_is); (case a__law_right => k_is); (case l__law_right => k_is); (case c__law_right => k_is); (case k__law_right => k_is); (case a_law => k_is); (case l_law => k_is); (case c_law => k_is); (case k_law => k_is); (case z_abs => k_is); (case z_all => k_is); (case z_bool => k_is); (case z_enumerate => k_is); (case z_int => k_is); (case z_isinstance => k_is); (case z_len => k_is); (case z_max => k_is); (case z_min => k_is); (case z_range => k_is); (case z_sorted => k_is); (case z_str => k_is); (case z_sum => k_is); (case z_tuple => k_is); (case v_MOST_BESIDE => k_is); (case v_MOST_BODY_FINISH => k_is); (case v_MOST_BODY_ROUND => k_is); (case v_MOST_BODY_WORDS => k_is); (case v_MOST_COUNT => exact hx_MOST_COUNT); (case v_MOST_DEPTH => k_is); (case v_MOST_LETTERS => k_is); (case v_MOST_LOOPS => k_is); (case v_MOST_NODES => k_is); (case v_MOST_PARTS => k_is); (case mk_Course => k_is); (case in_Course => k_is); (case fn_Course => k_is); (case kc_Course => k_is); (case mk_Strand => k_is); (case in_Strand => k_is); (case fn_Strand => k_is); (case kc_Strand => k_is); (case fm_Course_all_strands => k_is); (case fm_Course_last_round => k_is); (case fm_Course_total => k_is); (case fm_Strand_moved => k_is); (case fm_Strand_singles => k_is); (case pg_Strand => k_is); (case hd_Strand => k_is); (case po_Strand => k_is); (case sa_Strand => k_is); (case pg_Course => k_is); (case hd_Course => k_is); (case po_Course => k_is); (case sa_Course => k_is); (case na_Course_ahead => k_is); (case na_Course_behind => k_is); (case na_Course_finish => k_is); (case na_Strand_first => k_is); (case na_Strand_last => k_is); (case na_Strand_many => k_is); (case na_Strand_step => k_is); (case na_Strand_word => k_is); (case tl_ => exact rfl); (case tq_ => k_is); (case tv_ => exact rfl); (case th_ => kernel_rfl); (case tk_ => kernel_rfl); (case tt_ => exact PySem.W.km_tabs_of YY _ (by k_mem))

end
