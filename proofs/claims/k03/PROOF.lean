import PyProof.Rows.All
import Wide.All
import OpenK.AllK
import Wide.FinOn
import HandS.ForMost
import HandS.TupAny
import HandS.TupMul
import HandS.Flow
import HandS.Walk
import HandS.Zip
import HandS.RevRange
import HandS.IsInst
import HandS.Small
import KE.GoesEnum
import HandS.ForExc
import HandS.TryMany
import PySem.Challenge.RW_unwound_k03_whole_rows_of_two_words
import KE.KExcTry
import KE.KExcStr
set_option Elab.async false
set_option linter.all false
set_option maxRecDepth 100000
set_option maxHeartbeats 2000000
/-! A layer of plain data over the hand layer: what a slot holds is told by data (PyData); lists that a def has made itself and still changes are told apart (own); addresses that a def may not see as data are hidden. -/
namespace DL
open PySem PySem.Spec PyProof.Rows L2

/-- the heap without the addresses of l -/
def hide (H : Hp) (l : List Addr) : Hp := fun a => if a ∈ l then none else H a
theorem hide_in {H : Hp} {l : List Addr} {a : Addr} (h : a ∈ l) : hide H l a = none := if_pos h
theorem hide_out {H : Hp} {l : List Addr} {a : Addr} (h : a ∉ l) : hide H l a = H a := if_neg h
theorem hide_some {H : Hp} {l : List Addr} {a : Addr} {o : HO} (h : hide H l a = some o) : a ∉ l ∧ H a = some o := by
  by_cases c : a ∈ l
  · rw [hide_in c] at h; cases h
  · rw [hide_out c] at h; exact ⟨c, h⟩
theorem hide_same (H : Hp) (l : List Addr) : Same (hide H l) H := fun b o h => (hide_some h).2
theorem hide_mono {H H' : Hp} {l : List Addr} (e : Same H H') : Same (hide H l) (hide H' l) := fun b o h => by
  obtain ⟨c, h⟩ := hide_some h
  rw [hide_out c]; exact e _ _ h
theorem hide_sub {H : Hp} {l l' : List Addr} (e : ∀ a ∈ l', a ∈ l) : Same (hide H l) (hide H l') := fun b o h => by
  obtain ⟨c, h⟩ := hide_some h
  rw [hide_out fun z => c (e _ z)]; exact h
theorem hide_upd {H : Hp} {l : List Addr} {a : Addr} {o : HO} (h : a ∈ l) : hide (upd H a o) l = hide H l := by
  funext b
  by_cases c : b ∈ l
  · rw [hide_in c, hide_in c]
  · rw [hide_out c, hide_out c, upd_ne (fun z : b = a => c (by rw [z]; exact h))]
theorem same_new {H : Hp} {p : Addr} (h : H p = none) (o : HO) : Same H (upd H p o) := fun b u q => by rw [upd_ne (ne_of_none q h)]; exact q

theorem seqT {K : PySem.W.Frag} {H H' : Hp} {a : Addr} {xs : List V} (e : Same H H') (h : SqT K H a xs) : SqT K H' a xs := by
  rcases h with (h | ⟨o, h⟩) | h
  · exact .inl (.inl (e _ _ h))
  · exact .inl (.inr ⟨o, e _ _ h⟩)
  · exact .inr h
def keyD : Key → PyData
  | .inl i => .int i
  | .inr x => .str x
def dkD (kvs : List (Key × PyData)) : PyData := .dict (kvs.map fun p => (keyD p.1, p.2))
def dtD (kvs : List (List Key × PyData)) : PyData := .dict (kvs.map fun p => (.tuple (p.1.map keyD), p.2))
mutual
/-- what a value stands for -/
inductive Dq (K : PySem.W.Frag) (H : Hp) : V → PyData → Prop
  | non : Dq K H .non .none
  | bl (b : Bool) : Dq K H (.bl b) (.bool b)
  | int (i : Int) : Dq K H (.int i) (.int i)
  | str (x : Str) : Dq K H (.str x) (.str x)
  | lst {a : Addr} {xs : List V} {ds : List PyData} : SqL K H a xs → DqAll K H xs ds → Dq K H (.ref a) (.list ds)
  | tup {a : Addr} {xs : List V} {ds : List PyData} : SqT K H a xs → DqAll K H xs ds → Dq K H (.ref a) (.tuple ds)
  | dk {a : Addr} {kvs : List (Key × V)} {dvs : List (Key × PyData)} {ps : List (PyData × PyData)} {xs : List V} {ds : List PyData} : H a = some (.dK kvs) → kvs.map (·.1) = dvs.map (·.1) → kvs.map (·.2) = xs → dvs.map (·.2) = ds → DqAll K H xs ds → .dict ps = dkD dvs → Dq K H (.ref a) (.dict ps)
  | dt {a : Addr} {kvs : List (List Key × V)} {dvs : List (List Key × PyData)} {ps : List (PyData × PyData)} {xs : List V} {ds : List PyData} : H a = some (.dT kvs) → kvs.map (·.1) = dvs.map (·.1) → kvs.map (·.2) = xs → dvs.map (·.2) = ds → DqAll K H xs ds → dvs ≠ [] → .dict ps = dtD dvs → Dq K H (.ref a) (.dict ps)
inductive DqAll (K : PySem.W.Frag) (H : Hp) : List V → List PyData → Prop
  | nil : DqAll K H [] []
  | cons {v : V} {vs : List V} {d : PyData} {ds : List PyData} : Dq K H v d → DqAll K H vs ds → DqAll K H (v :: vs) (d :: ds)
end
mutual
theorem dq_dp {K : PySem.W.Frag} {H : Hp} {v : V} {d : PyData} (h : Dq K H v d) (c : d.canLay0 = true) : Dp K H v d := by
  cases h with
  | non => exact .non
  | bl b => exact .bl b
  | int i => exact .int i
  | str x => exact .str x
  | lst a b => exact .lst a (dqs_dps b (by simpa only [PyData.canLay0] using c))
  | tup a b => exact .tup a (dqs_dps b (by simpa only [PyData.canLay0] using c))
  | dk _ _ _ _ _ _ => simp [PyData.canLay0] at c
  | dt _ _ _ _ _ _ _ => simp [PyData.canLay0] at c
theorem dqs_dps {K : PySem.W.Frag} {H : Hp} {v : List V} {d : List PyData} (h : DqAll K H v d) (c : PyData.canLayAll0 d = true) : DpAll K H v d := by
  cases h with
  | nil => exact .nil
  | cons a b =>
    have c' := (Bool.and_eq_true _ _).mp (by simpa only [PyData.canLayAll0] using c)
    exact .cons (dq_dp a c'.1) (dqs_dps b c'.2)
end
theorem dp_mono {K : PySem.W.Frag} {H H' : Hp} (e : Same H H') {v : V} {d : PyData} (h : Dq K H v d) : Dq K H' v d :=
  Dq.rec (motive_1 := fun v d _ => Dq K H' v d) (motive_2 := fun vs ds _ => DqAll K H' vs ds) .non (fun b => .bl b) (fun i => .int i) (fun x => .str x) (fun a _ ih => .lst (e.seq a) ih) (fun a _ ih => .tup (seqT e a) ih)
    (fun a p q r _ s ih => .dk (e _ _ a) p q r ih s) (fun a p q r _ n s ih => .dt (e _ _ a) p q r ih n s) .nil (fun _ _ h t => .cons h t) h
theorem dps_mono {K : PySem.W.Frag} {H H' : Hp} (e : Same H H') : ∀ {v : List V} {d : List PyData}, DqAll K H v d → DqAll K H' v d
  | _, _, .nil => .nil
  | _, _, .cons a b => .cons (dp_mono e a) (dps_mono e b)
theorem dps_len {K : PySem.W.Frag} {H : Hp} : ∀ {vs : List V} {ds : List PyData}, DqAll K H vs ds → vs.length = ds.length
  | _, _, .nil => rfl
  | _, _, .cons _ t => congrArg (· + 1) (dps_len t)
theorem dps_append {K : PySem.W.Frag} {H : Hp} : ∀ {vs : List V} {ds : List PyData} {ws : List V} {es : List PyData}, DqAll K H vs ds → DqAll K H ws es → DqAll K H (vs ++ ws) (ds ++ es)
  | _, _, _, _, .nil, h => h
  | _, _, _, _, .cons a t, h => .cons a (dps_append t h)
theorem dps_get {K : PySem.W.Frag} {H : Hp} : ∀ {vs : List V} {ds : List PyData} {i : Nat} {d : PyData}, DqAll K H vs ds → ds[i]? = some d → ∃ v, vs[i]? = some v ∧ Dq K H v d
  | _, _, _, _, .nil, e => by simp at e
  | _, _, 0, _, .cons a t, e => by simp at e; subst e; exact ⟨_, rfl, a⟩
  | _, _, i + 1, _, .cons a t, e => by
    obtain ⟨v, h1, h2⟩ := dps_get (i := i) t (by simpa using e)
    exact ⟨v, by simpa using h1, h2⟩
theorem dps_get' {K : PySem.W.Frag} {H : Hp} : ∀ {vs : List V} {ds : List PyData} {i : Nat} {v : V}, DqAll K H vs ds → vs[i]? = some v → ∃ d, ds[i]? = some d ∧ Dq K H v d
  | _, _, _, _, .nil, e => by simp at e
  | _, _, 0, _, .cons a t, e => by simp at e; subst e; exact ⟨_, rfl, a⟩
  | _, _, i + 1, _, .cons a t, e => by
    obtain ⟨v, h1, h2⟩ := dps_get' (i := i) t (by simpa using e)
    exact ⟨v, by simpa using h1, h2⟩
theorem dps_take {K : PySem.W.Frag} {H : Hp} : ∀ {vs : List V} {ds : List PyData} (n : Nat), DqAll K H vs ds → DqAll K H (vs.take n) (ds.take n)
  | _, _, 0, _ => .nil
  | _, _, _ + 1, .nil => .nil
  | _, _, n + 1, .cons a t => .cons a (dps_take n t)
theorem dps_drop {K : PySem.W.Frag} {H : Hp} : ∀ {vs : List V} {ds : List PyData} (n : Nat), DqAll K H vs ds → DqAll K H (vs.drop n) (ds.drop n)
  | _, _, 0, r => r
  | _, _, _ + 1, .nil => .nil
  | _, _, n + 1, .cons _ t => dps_drop n t

/-! ### objects that a def has made itself -/
inductive OD where
  | lst (ds : List PyData)
  | dk (kvs : List (Key × PyData))
  | dt (kvs : List (List Key × PyData))
def odD : OD → PyData
  | .lst ds => .list ds
  | .dk kvs => dkD kvs
  | .dt kvs => dtD kvs
inductive OQ (K : PySem.W.Frag) (G : Hp) : HO → OD → Prop
  | lst {xs : List V} {ds : List PyData} : DqAll K G xs ds → OQ K G (.lst xs) (.lst ds)
  | dk {kvs : List (Key × V)} {dvs : List (Key × PyData)} : kvs.map (·.1) = dvs.map (·.1) → DqAll K G (kvs.map (·.2)) (dvs.map (·.2)) → OQ K G (.dK kvs) (.dk dvs)
  | dt {kvs : List (List Key × V)} {dvs : List (List Key × PyData)} : kvs.map (·.1) = dvs.map (·.1) → DqAll K G (kvs.map (·.2)) (dvs.map (·.2)) → OQ K G (.dT kvs) (.dt dvs)
theorem OQ.mono {K : PySem.W.Frag} {G G' : Hp} (e : Same G G') {ho : HO} {o : OD} (h : OQ K G ho o) : OQ K G' ho o := by
  cases h with
  | lst a => exact .lst (dps_mono e a)
  | dk a b => exact .dk a (dps_mono e b)
  | dt a b => exact .dt a (dps_mono e b)
/-- what may become data: no empty dict for tuples -/
def okO : OD → Prop
  | .dt kvs => kvs ≠ []
  | _ => True
theorem OQ.dq {K : PySem.W.Frag} {G : Hp} {ho : HO} {o : OD} {a : Addr} (h : OQ K G ho o) (e : G a = some ho) (n : okO o) : Dq K G (.ref a) (odD o) := by
  cases h with
  | lst q => exact .lst (SqL.of e) q
  | dk p q => exact .dk e p rfl rfl q rfl
  | dt p q => exact .dt e p rfl rfl q n rfl
/-! ### what a slot holds -/
inductive Slot where
  /-- nothing that matters -/
  | un
  /-- data -/
  | d (d : PyData)
  /-- an object that the def has made itself -/
  | obj (o : OD)
  /-- the list from which a law draws: at most n draws have been made -/
  | urn (n : Nat)
/-- a list that the def has made itself -/
abbrev Slot.own (ds : List PyData) : Slot := .obj (.lst ds)
abbrev Env := List Slot

/-- the draws' list: what is left of a great number, a seed, how many draws -/
def UrnAt (H : Hp) (u : Addr) (n : Nat) : Prop := ∃ (b s : Int) (k : Nat), H u = some (.lst [.int b, .int s, .int (k : Int)]) ∧ 0 ≤ b ∧ 0 ≤ s ∧ s < 2 ^ 62 ∧ k ≤ n

/-- slots and what they hold; as: the own lists' addresses; U: the draws' lists; G: the heap that data may see -/
inductive RepS (K : PySem.W.Frag) (G H : Hp) (U : List Addr) : List (Option V) → Env → List Addr → Prop
  | nil : RepS K G H U [] [] []
  | un {x σ ρ as} : RepS K G H U σ ρ as → RepS K G H U (x :: σ) (.un :: ρ) as
  | d {v d σ ρ as} : Dq K G v d → RepS K G H U σ ρ as → RepS K G H U (some v :: σ) (.d d :: ρ) as
  | obj {a ho o σ ρ as} : H a = some ho → OQ K G ho o → a ∉ as → RepS K G H U σ ρ as → RepS K G H U (some (.ref a) :: σ) (.obj o :: ρ) (a :: as)
  | urn {a n σ ρ as} : UrnAt H a n → a ∈ U → RepS K G H U σ ρ as → RepS K G H U (some (.ref a) :: σ) (.urn n :: ρ) as

/-- what stands fast in a def's run: hidden addresses N, the heap at its entry, the addresses U that it may change -/
structure Fx where
  N : List Addr
  He : Hp
  U : List Addr

def SameBut (U : List Addr) (H H' : Hp) : Prop := ∀ b o, b ∉ U → H b = some o → H' b = some o
theorem SameBut.trans {U : List Addr} {H H1 H2 : Hp} (a : SameBut U H H1) (b : SameBut U H1 H2) : SameBut U H H2 := fun c o z h => b c o z (a c o z h)

structure Rep (K : PySem.W.Frag) (C : Fx) (as : List Addr) (H : Hp) (σ : List (Option V)) (ρ : Env) : Prop where
  rep : RepS K (hide H (as ++ C.N)) H C.U σ ρ as
  ent : SameBut C.U C.He H
  own : ∀ a ∈ as, C.He a = none
  hid : ∀ a ∈ C.N, C.He a ≠ none
  unn : ∀ u ∈ C.U, u ∈ C.N ∧ H u ≠ none

/-- between two states of one run: what data may see is kept, nothing that stands is lost -/
structure Keep (l : List Addr) (H H' : Hp) : Prop where
  see : Same (hide H l) (hide H' l)
  all : ∀ a, H a ≠ none → H' a ≠ none
theorem Keep.refl (l : List Addr) (H : Hp) : Keep l H H := ⟨Same.refl _, fun _ h => h⟩
theorem Keep.trans {l : List Addr} {H H1 H2 : Hp} (a : Keep l H H1) (b : Keep l H1 H2) : Keep l H H2 := ⟨a.see.trans b.see, fun x h => b.all x (a.all x h)⟩
theorem Keep.new {l : List Addr} {H : Hp} {p : Addr} (h : H p = none) (o : HO) : Keep l H (upd H p o) := ⟨hide_mono (same_new h o), fun a z => by
  by_cases c : a = p
  · rw [c, upd_same]; exact fun q => by cases q
  · rw [upd_ne c]; exact z⟩
theorem Keep.of {l : List Addr} {H H' : Hp} (e : Same H H') : Keep l H H' := ⟨hide_mono e, fun a z => by
  cases q : H a with
  | none => exact absurd q z
  | some o => rw [e a o q]; exact fun z => by cases z⟩

section
variable {K : PySem.W.Frag} {G G' H H' : Hp} {U as : List Addr} {σ : List (Option V)} {ρ : Env}
theorem UrnAt.some {u : Addr} {n : Nat} (h : UrnAt H u n) : H u ≠ none := by
  obtain ⟨b, s, k, e, _⟩ := h
  rw [e]; exact fun z => by cases z
theorem UrnAt.move {u : Addr} {n : Nat} (h : UrnAt H u n) (e : H' u = H u) : UrnAt H' u n := by
  obtain ⟨b, s, k, e1, r⟩ := h
  exact ⟨b, s, k, e.trans e1, r⟩
theorem UrnAt.more {u : Addr} {n n' : Nat} (h : UrnAt H u n) (e : n ≤ n') : UrnAt H u n' := by
  obtain ⟨b, s, k, e1, h0, h1, h2, h3⟩ := h
  exact ⟨b, s, k, e1, h0, h1, h2, Nat.le_trans h3 e⟩
theorem RepS.len (r : RepS K G H U σ ρ as) : σ.length = ρ.length := by
  induction r with
  | nil => rfl
  | un _ ih => simp [ih]
  | d _ _ ih => simp [ih]
  | obj _ _ _ _ ih => simp [ih]
  | urn _ _ _ ih => simp [ih]
theorem RepS.mono (r : RepS K G H U σ ρ as) (e : Same G G') (ha : ∀ a ∈ as, H' a = H a) (hu : ∀ u n, u ∈ U → UrnAt H u n → UrnAt H' u n) : RepS K G' H' U σ ρ as := by
  induction r with
  | nil => exact .nil
  | un _ ih => exact .un (ih ha)
  | d h _ ih => exact .d (dp_mono e h) (ih ha)
  | obj h1 h2 h3 _ ih => exact .obj ((ha _ (List.mem_cons_self ..)).trans h1) (h2.mono e) h3 (ih fun a h => ha a (List.mem_cons_of_mem _ h))
  | urn h1 h2 _ ih => exact .urn (hu _ _ h2 h1) h2 (ih ha)
theorem RepS.nodup (r : RepS K G H U σ ρ as) : as.Nodup := by
  induction r with
  | nil => exact List.nodup_nil
  | un _ ih => exact ih
  | d _ _ ih => exact ih
  | obj _ _ h _ ih => exact List.nodup_cons.mpr ⟨h, ih⟩
  | urn _ _ _ ih => exact ih
theorem RepS.get (r : RepS K G H U σ ρ as) : ∀ {i : Nat} {d : PyData}, ρ[i]? = some (.d d) → ∃ v, σ[i]? = some (some v) ∧ Dq K G v d := by
  induction r with
  | nil => intro i d e; simp at e
  | un _ ih =>
    intro i d e
    cases i with
    | zero => simp at e
    | succ i => exact ih (i := i) (by simpa using e)
  | d h _ ih =>
    intro i d e
    cases i with
    | zero => simp at e; subst e; exact ⟨_, rfl, h⟩
    | succ i => exact ih (i := i) (by simpa using e)
  | obj _ _ _ _ ih =>
    intro i d e
    cases i with
    | zero => simp at e
    | succ i => exact ih (i := i) (by simpa using e)
  | urn _ _ _ ih =>
    intro i d e
    cases i with
    | zero => simp at e
    | succ i => exact ih (i := i) (by simpa using e)
theorem RepS.getObj (r : RepS K G H U σ ρ as) : ∀ {i : Nat} {o : OD}, ρ[i]? = some (.obj o) → ∃ a ho, σ[i]? = some (some (.ref a)) ∧ a ∈ as ∧ H a = some ho ∧ OQ K G ho o := by
  induction r with
  | nil => intro i d e; simp at e
  | un _ ih =>
    intro i d e
    cases i with
    | zero => simp at e
    | succ i => exact ih (i := i) (by simpa using e)
  | d h _ ih =>
    intro i d e
    cases i with
    | zero => simp at e
    | succ i => exact ih (i := i) (by simpa using e)
  | obj h1 h2 h3 _ ih =>
    intro i d e
    cases i with
    | zero => simp at e; subst e; exact ⟨_, _, rfl, List.mem_cons_self .., h1, h2⟩
    | succ i =>
      obtain ⟨a, xs, q1, q2, q3⟩ := ih (i := i) (by simpa using e)
      exact ⟨a, xs, by simpa using q1, List.mem_cons_of_mem _ q2, q3⟩
  | urn _ _ _ ih =>
    intro i d e
    cases i with
    | zero => simp at e
    | succ i => exact ih (i := i) (by simpa using e)
theorem RepS.getOwn (r : RepS K G H U σ ρ as) {i : Nat} {ds : List PyData} (e : ρ[i]? = some (.own ds)) : ∃ a xs, σ[i]? = some (some (.ref a)) ∧ a ∈ as ∧ H a = some (.lst xs) ∧ DqAll K G xs ds := by
  obtain ⟨a, ho, h1, h2, h3, h4⟩ := r.getObj e
  cases h4 with
  | lst q => exact ⟨a, _, h1, h2, h3, q⟩
theorem RepS.getUrn (r : RepS K G H U σ ρ as) : ∀ {i : Nat} {n : Nat}, ρ[i]? = some (.urn n) → ∃ u, σ[i]? = some (some (.ref u)) ∧ u ∈ U ∧ UrnAt H u n := by
  induction r with
  | nil => intro i d e; simp at e
  | un _ ih =>
    intro i d e
    cases i with
    | zero => simp at e
    | succ i => exact ih (i := i) (by simpa using e)
  | d h _ ih =>
    intro i d e
    cases i with
    | zero => simp at e
    | succ i => exact ih (i := i) (by simpa using e)
  | obj _ _ _ _ ih =>
    intro i d e
    cases i with
    | zero => simp at e
    | succ i => exact ih (i := i) (by simpa using e)
  | urn h1 h2 _ ih =>
    intro i d e
    cases i with
    | zero => simp at e; subst e; exact ⟨_, rfl, h2, h1⟩
    | succ i => exact ih (i := i) (by simpa using e)
/-- a slot is given anew -/
theorem RepS.set {x : Option V} {sl : Slot} {new : List Addr} (hs : ∀ {σ ρ as}, RepS K G H U σ ρ as → (∀ a ∈ new, a ∉ as) → RepS K G H U (x :: σ) (sl :: ρ) (new ++ as)) (r : RepS K G H U σ ρ as) :
    ∀ (i : Nat), (∀ a ∈ new, a ∉ as) → ∃ as', RepS K G H U (σ.set i x) (ρ.set i sl) as' ∧ ∀ a, a ∈ as' → a ∈ new ∨ a ∈ as := by
  induction r with
  | nil => intro i _; exact ⟨[], .nil, fun _ h => nomatch h⟩
  | @un y σ ρ as t ih =>
    intro i hn
    cases i with
    | zero => exact ⟨_, hs t hn, fun a h => List.mem_append.mp h⟩
    | succ i =>
      obtain ⟨as', q1, q2⟩ := ih i hn
      exact ⟨as', .un q1, q2⟩
  | @d v d σ ρ as h t ih =>
    intro i hn
    cases i with
    | zero => exact ⟨_, hs t hn, fun a h => List.mem_append.mp h⟩
    | succ i =>
      obtain ⟨as', q1, q2⟩ := ih i hn
      exact ⟨as', .d h q1, q2⟩
  | @obj b xs ds σ ρ as h1 h2 h3 t ih =>
    intro i hn
    have hn' : ∀ a ∈ new, a ∉ as := fun a ha z => hn a ha (List.mem_cons_of_mem _ z)
    cases i with
    | zero => exact ⟨_, hs t hn', fun a h => (List.mem_append.mp h).imp id (List.mem_cons_of_mem _)⟩
    | succ i =>
      obtain ⟨as', q1, q2⟩ := ih i hn'
      refine ⟨b :: as', .obj h1 h2 (fun z => ?_) q1, fun a h => ?_⟩
      · rcases q2 b z with z | z
        · exact hn b z (List.mem_cons_self ..)
        · exact h3 z
      · rcases List.mem_cons.mp h with h | h
        · subst h; exact .inr (List.mem_cons_self ..)
        · exact (q2 a h).imp id (List.mem_cons_of_mem _)
  | @urn b n σ ρ as h1 h2 t ih =>
    intro i hn
    cases i with
    | zero => exact ⟨_, hs t hn, fun a h => List.mem_append.mp h⟩
    | succ i =>
      obtain ⟨as', q1, q2⟩ := ih i hn
      exact ⟨as', .urn h1 h2 q1, q2⟩
/-- an own list is changed in its place -/
theorem RepS.updObj {b : Addr} {ho : HO} {o' : OD} (r : RepS K G H U σ ρ as) (hy : OQ K G ho o') (hu : ∀ u n, u ∈ U → UrnAt H u n → UrnAt (upd H b ho) u n) :
    ∀ (i : Nat) {ds : OD}, ρ[i]? = some (.obj ds) → σ[i]? = some (some (.ref b)) → RepS K G (upd H b ho) U σ (ρ.set i (.obj o')) as := by
  induction r with
  | nil => intro i ds e; simp at e
  | @un y σ ρ as t ih =>
    intro i ds e1 e2
    cases i with
    | zero => simp at e1
    | succ i => exact .un (ih i (by simpa using e1) (by simpa using e2))
  | @d v d σ ρ as h t ih =>
    intro i ds e1 e2
    cases i with
    | zero => simp at e1
    | succ i => exact .d h (ih i (by simpa using e1) (by simpa using e2))
  | @obj c xs ds' σ ρ as h1 h2 h3 t ih =>
    intro i ds e1 e2
    cases i with
    | zero =>
      simp at e2
      subst e2
      exact .obj upd_same hy h3 (t.mono (Same.refl _) (fun a ha => upd_ne fun (z : a = c) => h3 (z ▸ ha)) hu)
    | succ i =>
      have q := ih i (by simpa using e1) (by simpa using e2)
      refine .obj ?_ h2 h3 q
      rw [upd_ne]
      · exact h1
      · intro z
        subst z
        obtain ⟨a, zs, p1, p2, _⟩ := t.getObj (i := i) (o := ds) (by simpa using e1)
        have e2' : σ[i]? = some (some (V.ref c)) := by simpa using e2
        rw [p1] at e2'
        cases e2'
        exact h3 p2
  | @urn c n σ ρ as h1 h2 t ih =>
    intro i ds e1 e2
    cases i with
    | zero => simp at e1
    | succ i => exact .urn (hu _ _ h2 h1) h2 (ih i (by simpa using e1) (by simpa using e2))
theorem RepS.setUrn {b : Addr} {o : HO} {n' : Nat} (r : RepS K G H U σ ρ as) (hb : b ∉ as) (hn : UrnAt (upd H b o) b n') (hu : ∀ u n, u ∈ U → u ≠ b → UrnAt H u n → UrnAt (upd H b o) u n) :
    ∀ (i : Nat) {n : Nat}, ρ[i]? = some (.urn n) → σ[i]? = some (some (.ref b)) → (∀ j m, j ≠ i → ρ[j]? = some (.urn m) → σ[j]? ≠ some (some (.ref b))) → RepS K G (upd H b o) U σ (ρ.set i (.urn n')) as := by
  induction r with
  | nil => intro i n e; simp at e
  | @un y σ ρ as t ih =>
    intro i n e1 e2 e3
    cases i with
    | zero => simp at e1
    | succ i => exact .un (ih hb i (by simpa using e1) (by simpa using e2) fun j m hj q => by have := e3 (j + 1) m (by omega) (by simpa using q); simpa using this)
  | @d v d σ ρ as h t ih =>
    intro i n e1 e2 e3
    cases i with
    | zero => simp at e1
    | succ i => exact .d h (ih hb i (by simpa using e1) (by simpa using e2) fun j m hj q => by have := e3 (j + 1) m (by omega) (by simpa using q); simpa using this)
  | @obj c xs ds' σ ρ as h1 h2 h3 t ih =>
    intro i n e1 e2 e3
    cases i with
    | zero => simp at e1
    | succ i =>
      refine .obj (by rw [upd_ne fun (z : c = b) => hb (z ▸ List.mem_cons_self ..)]; exact h1) h2 h3 (ih (fun z => hb (List.mem_cons_of_mem _ z)) i (by simpa using e1) (by simpa using e2) fun j m hj q => by have := e3 (j + 1) m (by omega) (by simpa using q); simpa using this)
  | @urn c n0 σ ρ as h1 h2 t ih =>
    intro i n e1 e2 e3
    cases i with
    | zero =>
      simp at e2
      subst e2
      refine .urn hn h2 ?_
      have key : ∀ {σ' ρ' as'}, RepS K G H U σ' ρ' as' → c ∉ as' → (∀ (j m : Nat), ρ'[j]? = some (Slot.urn m) → σ'[j]? ≠ some (some (V.ref c))) → RepS K G (upd H c o) U σ' ρ' as' := by
        intro σ' ρ' as' r' hc' hj
        induction r' with
        | nil => exact .nil
        | un _ ih' => exact .un (ih' hc' fun j m q => by have := hj (j + 1) m (by simpa using q); simpa using this)
        | d h _ ih' => exact .d h (ih' hc' fun j m q => by have := hj (j + 1) m (by simpa using q); simpa using this)
        | @obj c' _ _ _ _ _ h1 h2 h3 _ ih' => exact .obj (by rw [upd_ne fun (z : c' = c) => hc' (z ▸ List.mem_cons_self ..)]; exact h1) h2 h3 (ih' (fun z => hc' (List.mem_cons_of_mem _ z)) fun j m q => by have := hj (j + 1) m (by simpa using q); simpa using this)
        | @urn c' n' _ _ _ h1 h2 _ ih' =>
          refine .urn (hu _ _ h2 (fun z => ?_) h1) h2 (ih' hc' fun j m q => by have := hj (j + 1) m (by simpa using q); simpa using this)
          subst z
          exact hj 0 n' rfl rfl
      exact key t hb fun j m q => by have := e3 (j + 1) m (by omega) (by simpa using q); simpa using this
    | succ i =>
      have hne : c ≠ b := fun z => by
        subst z
        exact e3 0 n0 (by omega) rfl rfl
      exact .urn (hu _ _ h2 hne h1) h2 (ih hb i (by simpa using e1) (by simpa using e2) fun j m hj q => by have := e3 (j + 1) m (by omega) (by simpa using q); simpa using this)
end
end DL
set_option Elab.async false
set_option linter.all false
set_option maxRecDepth 100000
set_option maxHeartbeats 2000000
/-! Expressions, tests and argument lists over plain data. -/
namespace DL
open PySem PySem.Spec PyProof.Rows L2

section
variable {K : PySem.W.Frag} {C : Fx} {as : List Addr} {H H' H1 H2 : Hp} {σ : List (Option V)} {ρ ρ' ρ1 ρ2 : Env}
theorem RepS.at {G : Hp} {U : List Addr} (r : RepS K G H U σ ρ as) : ∀ a ∈ as, ∃ o, H a = some o := by
  induction r with
  | nil => intro a h; cases h
  | un _ ih => exact ih
  | d _ _ ih => exact ih
  | obj h1 _ _ _ ih =>
    intro a h
    rcases List.mem_cons.mp h with rfl | h
    · exact ⟨_, h1⟩
    · exact ih a h
  | urn _ _ _ ih => exact ih
theorem Rep.same (r : Rep K C as H σ ρ) (e : Same H H') : Rep K C as H' σ ρ where
  rep := r.rep.mono (hide_mono e) (fun a ha => by
    obtain ⟨xs, q⟩ := r.rep.at a ha
    rw [q, e a _ q]) fun u n _ hu => by
      obtain ⟨b, s, k, q, z⟩ := hu
      exact ⟨b, s, k, e u _ q, z⟩
  ent := r.ent.trans fun b o _ q => e b o q
  own := r.own
  hid := r.hid
  unn := fun u hu => ⟨(r.unn u hu).1, (Keep.of (l := []) e).all u (r.unn u hu).2⟩

abbrev WD := Env → (PyData → Env → Prop) → Prop
abbrev WT := Env → (Bool → Env → Prop) → Prop
abbrev WA := Env → (List PyData → Env → Prop) → Prop
def tD (K : PySem.W.Frag) (C : Fx) (w : WD) : TE := fun σ H Q => ∃ as ρ k, Rep K C as H σ ρ ∧ w ρ k ∧
  ∀ d ρ' v H', k d ρ' → Rep K C as H' σ ρ' → Keep (as ++ C.N) H H' → Dq K (hide H' (as ++ C.N)) v d → Q v H'
def tDT (K : PySem.W.Frag) (C : Fx) (w : WT) : TT := fun σ H Q => ∃ as ρ k, Rep K C as H σ ρ ∧ w ρ k ∧
  ∀ b ρ' H', k b ρ' → Rep K C as H' σ ρ' → Keep (as ++ C.N) H H' → Q b H'
def tDA (K : PySem.W.Frag) (C : Fx) (w : WA) : TA := fun σ H Q => ∃ as ρ k, Rep K C as H σ ρ ∧ w ρ k ∧
  ∀ ds ρ' vs H', k ds ρ' → Rep K C as H' σ ρ' → Keep (as ++ C.N) H H' → DqAll K (hide H' (as ++ C.N)) vs ds → Q vs H'
end

variable {X : Cx} {C : Fx}
def PD (X : Cx) (C : Fx) (e : Expr) (w : WD) : Prop := PE X e (tD X.K C w)
def PDT (X : Cx) (C : Fx) (e : Expr) (w : WT) : Prop := PT X e (tDT X.K C w)
def PDA (X : Cx) (C : Fx) (es : List Expr) (w : WA) : Prop := PA X es (tDA X.K C w)
theorem pe_imp {e : Expr} {t t' : TE} (h : PE X e t) (i : ∀ σ H Q, t' σ H Q → t σ H Q) : PE X e t' := ⟨fun pins s σ H Q I q => h.run pins s σ H Q I (i σ H Q q)⟩
theorem pt_imp {e : Expr} {t t' : TT} (h : PT X e t) (i : ∀ σ H Q, t' σ H Q → t σ H Q) : PT X e t' := ⟨fun pins s σ H Q I q => h.run pins s σ H Q I (i σ H Q q)⟩
theorem pa_imp {e : List Expr} {t t' : TA} (h : PA X e t) (i : ∀ σ H Q, t' σ H Q → t σ H Q) : PA X e t' := ⟨fun pos pins s σ H Q I q => h.run pos pins s σ H Q I (i σ H Q q)⟩

/-! ### names and constants -/
def wVar (i : Nat) : WD := fun ρ k => ∃ d, ρ[i]? = some (.d d) ∧ k d ρ
def wC (d : PyData) : WD := fun ρ k => k d ρ
theorem pd_v (i : Nat) {x : Str} {pos : Pos} (hN : X.N[i]? = some x := by rfl) (hv : Vis X.env.scope x := by first | exact Or.inl rfl | exact Or.inr (Or.inl rfl) | exact Or.inr (Or.inr rfl)) (hd : (x == ("__debug__" : Str)) = false := by decide)
    (hcd : (x == ("__classdict__" : Str)) = false := by decide) : PD X C (.Name x pos) (wVar i) :=
  pe_imp (pe_var hN hv hd hcd) fun σ H Q ⟨as, ρ, k, r, ⟨d, e, q⟩, f⟩ => by
    obtain ⟨v, h1, h2⟩ := r.rep.get e
    exact ⟨v, h1, f d ρ v H q r (Keep.refl ..) h2⟩
theorem pd_c {e : Expr} {v : V} {d : PyData} (h : PE X e (tC v)) (hd : ∀ H, Dq X.K H v d) : PD X C e (wC d) :=
  pe_imp h fun σ H Q ⟨as, ρ, k, r, q, f⟩ => f d ρ v H q r (Keep.refl ..) (hd _)
theorem pd_int {i : Int} {j : Nat} {pos : Pos} : PD X C (.Constant (.int i) j pos) (wC (.int i)) := pd_c pe_int fun _ => .int i
theorem pd_bl {b : Bool} {j : Nat} {pos : Pos} : PD X C (.Constant (.bool b) j pos) (wC (.bool b)) := pd_c pe_bl fun _ => .bl b
theorem pd_non {j : Nat} {pos : Pos} : PD X C (.Constant .none j pos) (wC .none) := pd_c pe_non fun _ => .non
theorem pd_str {x : Str} {j : Nat} {pos : Pos} : PD X C (.Constant (.str x) j pos) (wC (.str x)) := pd_c pe_str fun _ => .str x

/-! ### argument lists, displays -/
def wNil : WA := fun ρ k => k [] ρ
def wCons (w : WD) (ws : WA) : WA := fun ρ k => w ρ fun d ρ1 => ws ρ1 fun ds ρ2 => k (d :: ds) ρ2
theorem pda_nil : PDA X C [] wNil := pa_imp pa_nil fun σ H Q ⟨as, ρ, k, r, q, f⟩ => f [] ρ [] H q r (Keep.refl ..) .nil
theorem pda_cons {e : Expr} {es : List Expr} {w : WD} {ws : WA} (he : PD X C e w) (hes : PDA X C es ws)
    (hs : starEach (e :: es) X.env = (false, eval e X.env) :: starEach es X.env := by rfl) : PDA X C (e :: es) (wCons w ws) :=
  pa_imp (pa_cons he hes hs) fun σ H Q ⟨as, ρ, k, r, q, f⟩ =>
    ⟨as, ρ, _, r, q, fun d ρ1 v H1 q1 r1 k1 d1 => ⟨as, ρ1, _, r1, q1, fun ds ρ2 vs H2 q2 r2 k2 d2 => f (d :: ds) ρ2 (v :: vs) H2 q2 r2 (k1.trans k2) (.cons (dp_mono k2.see d1) d2)⟩⟩
def wTup (ws : WA) : WD := fun ρ k => ws ρ fun ds ρ1 => k (.tuple ds) ρ1
def wLst (ws : WA) : WD := fun ρ k => ws ρ fun ds ρ1 => k (.list ds) ρ1
theorem rep_new {K : PySem.W.Frag} {as : List Addr} {H : Hp} {σ : List (Option V)} {ρ : Env} {p : Addr} {o : HO} (r : Rep K C as H σ ρ) (h : H p = none) : Rep K C as (upd H p o) σ ρ := r.same (same_new h o)
theorem not_hid {K : PySem.W.Frag} {as : List Addr} {H : Hp} {σ : List (Option V)} {ρ : Env} {p : Addr} (r : Rep K C as H σ ρ) (h : H p = none) : p ∉ as ++ C.N := fun z => by
  rcases List.mem_append.mp z with z | z
  · obtain ⟨xs, q⟩ := r.rep.at p z
    rw [q] at h; cases h
  · by_cases c : p ∈ C.U
    · exact (r.unn p c).2 h
    · cases q : C.He p with
      | none => exact r.hid p z q
      | some o =>
        have := r.ent p o c q
        rw [h] at this; cases this
theorem dp_tupNew {K : PySem.W.Frag} {as : List Addr} {H : Hp} {σ : List (Option V)} {ρ : Env} {p : Addr} {vs : List V} {ds : List PyData} (r : Rep K C as H σ ρ) (h : H p = none) (d : DqAll K (hide H (as ++ C.N)) vs ds) :
    Dq K (hide (upd H p (.tup vs)) (as ++ C.N)) (.ref p) (.tuple ds) :=
  .tup (SqT.of (by rw [hide_out (not_hid r h)]; exact upd_same)) (dps_mono (hide_mono (same_new h _)) d)
theorem dp_lstNew {K : PySem.W.Frag} {as : List Addr} {H : Hp} {σ : List (Option V)} {ρ : Env} {p : Addr} {vs : List V} {ds : List PyData} (r : Rep K C as H σ ρ) (h : H p = none) (d : DqAll K (hide H (as ++ C.N)) vs ds) :
    Dq K (hide (upd H p (.lst vs)) (as ++ C.N)) (.ref p) (.list ds) :=
  .lst (SqL.of (by rw [hide_out (not_hid r h)]; exact upd_same)) (dps_mono (hide_mono (same_new h _)) d)
/-- how many items a written display has -/
theorem le_line {n : Nat} (h : n ≤ 1000) : n ≤ sizeLine := Nat.le_of_lt (small1000 h)
def wTupN (n : Nat) (ws : WA) : WD := fun ρ k => ws ρ fun ds ρ1 => ds.length ≤ 1000 ∧ k (.tuple ds) ρ1
def wLstN (ws : WA) : WD := fun ρ k => ws ρ fun ds ρ1 => ds.length ≤ 1000 ∧ k (.list ds) ρ1
theorem pd_tup {es : List Expr} {j : Nat} {pos : Pos} {ws : WA} (h : PDA X C es ws) : PD X C (.Tuple es j pos) (wTupN 0 ws) :=
  pe_imp (pe_tup h) fun σ H Q ⟨as, ρ, k, r, q, f⟩ => ⟨as, ρ, _, r, q, fun ds ρ1 vs H1 ⟨l, q1⟩ r1 k1 d1 =>
    ⟨by rw [dps_len d1]; exact le_line l, fun p hp => f _ ρ1 _ _ q1 (rep_new r1 hp) (k1.trans (Keep.new hp _)) (dp_tupNew r1 hp d1)⟩⟩
theorem pd_lst {es : List Expr} {pos : Pos} {ws : WA} (h : PDA X C es ws) : PD X C (.List es pos) (wLstN ws) :=
  pe_imp (pe_lst h) fun σ H Q ⟨as, ρ, k, r, q, f⟩ => ⟨as, ρ, _, r, q, fun ds ρ1 vs H1 ⟨l, q1⟩ r1 k1 d1 =>
    ⟨by rw [dps_len d1]; exact le_line l, fun p hp => f _ ρ1 _ _ q1 (rep_new r1 hp) (k1.trans (Keep.new hp _)) (dp_lstNew r1 hp d1)⟩⟩

/-! ### operations of two values -/
/-- a reading by values keeps what its data say -/
def Two (K : PySem.W.Frag) (r : R2) (p : PyData → PyData → (PyData → Prop) → Prop) : Prop :=
  ∀ (H : Hp) (l : List Addr) (x y : V) (d1 d2 : PyData) (k : PyData → Prop) (Q : VK), (∀ q, H q = none → q ∉ l) → Dq K (hide H l) x d1 → Dq K (hide H l) y d2 → p d1 d2 k →
    (∀ d v H', k d → Same H H' → Dq K (hide H' l) v d → Q v H') → r x y H Q
def wOp (p : PyData → PyData → (PyData → Prop) → Prop) (wa wb : WD) : WD := fun ρ k => wa ρ fun d1 ρ1 => wb ρ1 fun d2 ρ2 => p d1 d2 fun d => k d ρ2
theorem two_imp {r : R2} {p : PyData → PyData → (PyData → Prop) → Prop} (h : Two X.K r p) {wa wb : WD} : ∀ σ H Q, tD X.K C (wOp p wa wb) σ H Q → tOp r (tD X.K C wa) (tD X.K C wb) σ H Q :=
  fun σ H Q ⟨as, ρ, k, re, q, f⟩ => ⟨as, ρ, _, re, q, fun d1 ρ1 x H1 q1 r1 k1 e1 => ⟨as, ρ1, _, r1, q1, fun d2 ρ2 y H2 q2 r2 k2 e2 =>
    h H2 (as ++ C.N) x y d1 d2 _ _ (fun q hq => not_hid r2 hq) (dp_mono k2.see e1) e2 q2 fun d v H3 q3 s3 e3 => f d ρ2 v H3 q3 (r2.same s3) ((k1.trans k2).trans (Keep.of s3)) e3⟩⟩
theorem pd_op {op : Operator} {r : R2} {p : PyData → PyData → (PyData → Prop) → Prop} {a b : Expr} {pos : Pos} {wa wb : WD} (ho : OpR X (binaryOp op) r) (h : Two X.K r p) (ha : PD X C a wa) (hb : PD X C b wb) :
    PD X C (.BinOp a op b pos) (wOp p wa wb) := pe_imp (pe_op ho ha hb) (two_imp h)
theorem pd_cmp {op : CmpOp} {r : R2} {p : PyData → PyData → (PyData → Prop) → Prop} {a b : Expr} {pos : Pos} {wa wb : WD} (ho : OpR X (compareOp op) r) (h : Two X.K r p) (ha : PD X C a wa) (hb : PD X C b wb) (hm : behindInMarks op b = false) :
    PD X C (.Compare a [op] [b] pos) (wOp p wa wb) := pe_imp (pe_cmpR ho ha hb hm) (two_imp h)
/-- a test: an expression that gives True or False -/
def wTest (w : WD) : WT := fun ρ k => w ρ fun d ρ1 => ∃ b, d = .bool b ∧ k b ρ1
theorem dp_bool {K : PySem.W.Frag} {H : Hp} {v : V} {b : Bool} (h : Dq K H v (.bool b)) : v = .bl b := by cases h; rfl
theorem dp_int {K : PySem.W.Frag} {H : Hp} {v : V} {i : Int} (h : Dq K H v (.int i)) : v = .int i := by cases h; rfl
theorem pdt_cmp {op : CmpOp} {r : R2} {p : PyData → PyData → (PyData → Prop) → Prop} {a b : Expr} {pos : Pos} {wa wb : WD} (ho : OpR X (compareOp op) r) (h : Two X.K r p) (ha : PD X C a wa) (hb : PD X C b wb) (hm : behindInMarks op b = false) :
    PDT X C (.Compare a [op] [b] pos) (wTest (wOp p wa wb)) :=
  pt_imp (pt_cmpR ho ha hb hm) fun σ H Q ⟨as, ρ, k, re, q, f⟩ => two_imp (C := C) h σ H _ ⟨as, ρ, _, re, q, fun d ρ1 v H1 ⟨b, e, q1⟩ r1 k1 d1 => by
    subst e
    exact ⟨b, dp_bool d1, f b ρ1 H1 q1 r1 k1⟩⟩
theorem pdt_val {e : Expr} {w : WD} (h : PD X C e w) (hp : PT X e (tTest (tD X.K C w))) : PDT X C e (wTest w) :=
  pt_imp hp fun σ H Q ⟨as, ρ, k, re, q, f⟩ => ⟨as, ρ, _, re, q, fun d ρ1 v H1 ⟨b, e, q1⟩ r1 k1 d1 => by
    subst e
    exact ⟨b, dp_bool d1, f b ρ1 H1 q1 r1 k1⟩⟩
end DL
set_option Elab.async false
set_option linter.all false
set_option maxRecDepth 100000
set_option maxHeartbeats 2000000
/-! Operators, truth, items, parts, built-ins over plain data. -/
namespace DL
open PySem PySem.Spec PyProof.Rows L2
section
variable {K : PySem.W.Frag} {H : Hp} {v : V}
theorem dq_tup {ds : List PyData} (h : Dq K H v (.tuple ds)) : ∃ a xs, v = .ref a ∧ SqT K H a xs ∧ DqAll K H xs ds := by cases h with | tup a b => exact ⟨_, _, rfl, a, b⟩
theorem dq_lst {ds : List PyData} (h : Dq K H v (.list ds)) : ∃ a xs, v = .ref a ∧ SqL K H a xs ∧ DqAll K H xs ds := by cases h with | lst a b => exact ⟨_, _, rfl, a, b⟩
theorem dq_str {x : Str} (h : Dq K H v (.str x)) : v = .str x := by cases h; rfl
theorem dqs_nil {vs : List V} (h : DqAll K H vs []) : vs = [] := by cases h; rfl
theorem dqs_ne {vs : List V} {ds : List PyData} (h : DqAll K H vs ds) (e : ds ≠ []) : vs ≠ [] := by
  cases h with
  | nil => exact absurd rfl e
  | cons _ _ => exact fun z => by cases z
theorem seqT_un {l : List Addr} {a : Addr} {xs : List V} (h : SqT K (hide H l) a xs) : SqT K H a xs := seqT (hide_same H l) h
theorem seqL_un {l : List Addr} {a : Addr} {xs : List V} (h : SqL K (hide H l) a xs) : SqL K H a xs := (hide_same H l).seq h
theorem lst_un {l : List Addr} {a : Addr} {o : HO} (h : hide H l a = some o) : H a = some o := (hide_some h).2
end
variable {X : Cx} {C : Fx}

/-! ### + -/
def pAdd : PyData → PyData → (PyData → Prop) → Prop
  | .int i, .int j, k => k (.int (i + j))
  | .tuple a, .tuple b, k => a.length + b.length ≤ 100000 ∧ k (.tuple (a ++ b))
  | .list a, .list b, k => a.length + b.length ≤ 100000 ∧ k (.list (a ++ b))
  | _, _, _ => False
theorem line5 {n : Nat} (h : n ≤ 100000) : n ≤ sizeLine := by rw [sizeLine_eq]; omega
/-- two lists, one behind the other, whatever else the objects carry -/
def rCatL (K : PySem.W.Frag) : R2 := fun x y H Q => ∃ l b xs zs, x = .ref l ∧ y = .ref b ∧ SqL K H l xs ∧ SqL K H b zs ∧ xs.length + zs.length ≤ sizeLine ∧ ∀ p, H p = none → Q (.ref p) (upd H p (.lst (xs ++ zs)))
theorem op_catL : OpR X (binaryOp .Add) (rCatL X.K) := by
  intro pins s σ H x y v u Q I rx ry h
  obtain ⟨l, b, xs, zs, rfl, rfl, h1, h2, hz, q⟩ := h
  cases rx
  cases ry
  obtain ⟨is1, r1, ⟨⟨c1, d1, t1, s1⟩, n1, ho1, hc1, _, hd1⟩, _⟩ := I.list h1
  obtain ⟨is2, r2, ⟨⟨c2, d2, t2, s2⟩, n2, ho2, hc2, _, hd2⟩, _⟩ := I.list h2
  dsimp only at hc1 hd1 hc2 hd2
  subst hc1 hd1 hc2 hd2
  have k1 := r1.length
  have k2 := r2.length
  have ea : is1.toArray ++ is2.toArray = (is1 ++ is2).toArray := by simp
  refine concat_meets ⟨_, ho1, rfl⟩ ⟨_, ho2, rfl⟩ noFill_list_add seq_list_add PySem.F.slot_list_add PySem.F.entry_list_add (PySem.F.args_list_add_2 _ _)
    (list_addW l b is1.toArray is2.toArray n1 n2 d1 d2 s1 s2 (by rw [List.size_toArray, List.size_toArray]; omega)) ⟨ho1, ho2, ?_⟩
  rw [ea]
  exact ⟨.ref _, _, I.lnew (t' := s.toks) (r1.append r2) (by rw [List.length_append]; omega), rfl, q _ I.fresh⟩
theorem op_addD : OpR X (binaryOp .Add) (fun x y H Q => (rI0 fun i j => .int (i + j)) x y H Q ∨ (rCatA X.K x y H Q ∨ rCatL X.K x y H Q)) := OpR.or op_add (OpR.or op_catA op_catL)
theorem two_add {K : PySem.W.Frag} : Two K (fun x y H Q => (rI0 fun i j => .int (i + j)) x y H Q ∨ (rCatA K x y H Q ∨ rCatL K x y H Q)) pAdd := by
  intro H l x y d1 d2 k Q hl h1 h2 p f
  cases d1 <;> cases d2 <;> first | exact p.elim | skip
  · rename_i i j
    obtain rfl := dp_int h1
    obtain rfl := dp_int h2
    exact .inl ⟨i, j, rfl, rfl, f _ _ H p (Same.refl _) (.int _)⟩
  · rename_i a b
    obtain ⟨p1, xs, rfl, s1, e1⟩ := dq_lst h1
    obtain ⟨p2, ys, rfl, s2, e2⟩ := dq_lst h2
    refine .inr (.inr ⟨p1, p2, xs, ys, rfl, rfl, seqL_un s1, seqL_un s2, line5 (by rw [dps_len e1, dps_len e2]; exact p.1), fun q hq => ?_⟩)
    refine f _ _ _ p.2 (same_new hq _) (.lst (SqL.of ?_) (dps_mono (hide_mono (same_new hq _)) (dps_append e1 e2)))
    rw [hide_out (hl q hq)]; exact upd_same
  · rename_i a b
    obtain ⟨p1, xs, rfl, s1, e1⟩ := dq_tup h1
    obtain ⟨p2, ys, rfl, s2, e2⟩ := dq_tup h2
    refine .inr (.inl ⟨p1, p2, xs, ys, rfl, rfl, seqT_un s1, seqT_un s2, line5 (by rw [dps_len e1, dps_len e2]; exact p.1), fun z => ?_, fun _ z => ?_, fun _ _ q hq => ?_⟩)
    · subst z
      have ea : a = [] := List.length_eq_zero_iff.mp (dps_len e1).symm
      subst ea
      exact f _ _ H p.2 (Same.refl _) (.tup s2 e2)
    · subst z
      have eb : b = [] := List.length_eq_zero_iff.mp (dps_len e2).symm
      subst eb
      exact f _ _ H p.2 (Same.refl _) (.tup s1 (by rw [List.append_nil]; exact e1))
    · refine f _ _ _ p.2 (same_new hq _) (.tup (SqT.of ?_) (dps_mono (hide_mono (same_new hq _)) (dps_append e1 e2)))
      rw [hide_out (hl q hq)]; exact upd_same
theorem pd_add {a b : Expr} {pos : Pos} {wa wb : WD} (ha : PD X C a wa) (hb : PD X C b wb) : PD X C (.BinOp a .Add b pos) (wOp pAdd wa wb) := pd_op op_addD two_add ha hb

/-! ### ints -/
def pI (cd : Int → Int → Prop) (g : Int → Int → PyData) : PyData → PyData → (PyData → Prop) → Prop := fun d1 d2 k => ∃ i j, d1 = .int i ∧ d2 = .int j ∧ cd i j ∧ k (g i j)
theorem two_I {K : PySem.W.Frag} {cd : Int → Int → Prop} {g : Int → Int → Int} : Two K (rI cd fun i j => .int (g i j)) (pI cd fun i j => .int (g i j)) := by
  intro H l x y d1 d2 k Q hl h1 h2 ⟨i, j, e1, e2, c, q⟩ f
  subst e1; subst e2
  obtain rfl := dp_int h1
  obtain rfl := dp_int h2
  exact ⟨i, j, rfl, rfl, c, f _ _ H q (Same.refl _) (.int _)⟩
theorem two_B {K : PySem.W.Frag} {g : Int → Int → Bool} : Two K (rI0 fun i j => .bl (g i j)) (pI (fun _ _ => True) fun i j => .bool (g i j)) := by
  intro H l x y d1 d2 k Q hl h1 h2 ⟨i, j, e1, e2, c, q⟩ f
  subst e1; subst e2
  obtain rfl := dp_int h1
  obtain rfl := dp_int h2
  exact ⟨i, j, rfl, rfl, f _ _ H q (Same.refl _) (.bl _)⟩
theorem two_I0 {K : PySem.W.Frag} {g : Int → Int → Int} : Two K (rI0 fun i j => .int (g i j)) (pI (fun _ _ => True) fun i j => .int (g i j)) := by
  intro H l x y d1 d2 k Q hl h1 h2 ⟨i, j, e1, e2, c, q⟩ f
  subst e1; subst e2
  obtain rfl := dp_int h1
  obtain rfl := dp_int h2
  exact ⟨i, j, rfl, rfl, f _ _ H q (Same.refl _) (.int _)⟩
section
variable {a b : Expr} {pos : Pos} {wa wb : WD}
theorem pd_sub (ha : PD X C a wa) (hb : PD X C b wb) : PD X C (.BinOp a .Sub b pos) (wOp (pI (fun _ _ => True) fun i j => .int (i - j)) wa wb) := pd_op op_sub two_I0 ha hb
theorem pd_mul (ha : PD X C a wa) (hb : PD X C b wb) : PD X C (.BinOp a .Mult b pos) (wOp (pI CMul fun i j => .int (i * j)) wa wb) := pd_op op_mul two_I ha hb
theorem pd_mod (ha : PD X C a wa) (hb : PD X C b wb) : PD X C (.BinOp a .Mod b pos) (wOp (pI (fun _ j => 0 < j) fun i j => .int (i % j)) wa wb) := pd_op op_mod two_I ha hb
theorem pd_div (ha : PD X C a wa) (hb : PD X C b wb) : PD X C (.BinOp a .FloorDiv b pos) (wOp (pI CDiv fun i j => .int (i / j)) wa wb) := pd_op op_fdiv two_I ha hb
theorem pd_lt (ha : PD X C a wa) (hb : PD X C b wb) : PD X C (.Compare a [.Lt] [b] pos) (wOp (pI (fun _ _ => True) fun i j => .bool (decide (i < j))) wa wb) := pd_cmp op_lt two_B ha hb (nomark _)
theorem pd_le (ha : PD X C a wa) (hb : PD X C b wb) : PD X C (.Compare a [.LtE] [b] pos) (wOp (pI (fun _ _ => True) fun i j => .bool (decide (i ≤ j))) wa wb) := pd_cmp op_le two_B ha hb (nomark _)
theorem pd_gt (ha : PD X C a wa) (hb : PD X C b wb) : PD X C (.Compare a [.Gt] [b] pos) (wOp (pI (fun _ _ => True) fun i j => .bool (decide (j < i))) wa wb) := pd_cmp op_gt two_B ha hb (nomark _)
theorem pd_ge (ha : PD X C a wa) (hb : PD X C b wb) : PD X C (.Compare a [.GtE] [b] pos) (wOp (pI (fun _ _ => True) fun i j => .bool (decide (j ≤ i))) wa wb) := pd_cmp op_ge two_B ha hb (nomark _)
/-! ### == and != -/
def pEq (neg : Bool) : PyData → PyData → (PyData → Prop) → Prop := fun d1 d2 k => SeqAt.shaped d1 = true ∧ SeqAt.shaped d2 = true ∧ k (.bool (neg != PyData.eqv d1 d2))
theorem two_eq {K : PySem.W.Frag} : Two K (rEqD K) (pEq false) := by
  intro H l x y d1 d2 k Q hl h1 h2 ⟨s1, s2, q⟩ f
  refine ⟨d1, d2, dq_dp (dp_mono (hide_same H l) h1) (SeqAt.canLay_of_shaped s1), dq_dp (dp_mono (hide_same H l) h2) (SeqAt.canLay_of_shaped s2), s1, s2, f _ _ H q (Same.refl _) ?_⟩
  have e : (false != PyData.eqv d1 d2) = PyData.eqv d1 d2 := by cases PyData.eqv d1 d2 <;> rfl
  rw [e]; exact .bl _
theorem two_ne {K : PySem.W.Frag} : Two K (rNeD K) (pEq true) := by
  intro H l x y d1 d2 k Q hl h1 h2 ⟨s1, s2, q⟩ f
  refine ⟨d1, d2, dq_dp (dp_mono (hide_same H l) h1) (SeqAt.canLay_of_shaped s1), dq_dp (dp_mono (hide_same H l) h2) (SeqAt.canLay_of_shaped s2), s1, s2, f _ _ H q (Same.refl _) ?_⟩
  have e : (true != PyData.eqv d1 d2) = !PyData.eqv d1 d2 := by cases PyData.eqv d1 d2 <;> rfl
  rw [e]; exact .bl _
theorem pd_eq (hu : X.A.units + 64 < cLine) (ha : PD X C a wa) (hb : PD X C b wb) : PD X C (.Compare a [.Eq] [b] pos) (wOp (pEq false) wa wb) := pd_cmp (op_eqD hu) two_eq ha hb (nomark _)
theorem pd_ne (hu : X.A.units + 64 < cLine) (ha : PD X C a wa) (hb : PD X C b wb) : PD X C (.Compare a [.NotEq] [b] pos) (wOp (pEq true) wa wb) := pd_cmp (op_neD hu) two_ne ha hb (nomark _)
theorem pdt_eq (hu : X.A.units + 64 < cLine) (ha : PD X C a wa) (hb : PD X C b wb) : PDT X C (.Compare a [.Eq] [b] pos) (wTest (wOp (pEq false) wa wb)) := pdt_cmp (op_eqD hu) two_eq ha hb (nomark _)
theorem pdt_ne (hu : X.A.units + 64 < cLine) (ha : PD X C a wa) (hb : PD X C b wb) : PDT X C (.Compare a [.NotEq] [b] pos) (wTest (wOp (pEq true) wa wb)) := pdt_cmp (op_neD hu) two_ne ha hb (nomark _)
theorem pdt_lt (ha : PD X C a wa) (hb : PD X C b wb) : PDT X C (.Compare a [.Lt] [b] pos) (wTest (wOp (pI (fun _ _ => True) fun i j => .bool (decide (i < j))) wa wb)) := pdt_cmp op_lt two_B ha hb (nomark _)
theorem pdt_le (ha : PD X C a wa) (hb : PD X C b wb) : PDT X C (.Compare a [.LtE] [b] pos) (wTest (wOp (pI (fun _ _ => True) fun i j => .bool (decide (i ≤ j))) wa wb)) := pdt_cmp op_le two_B ha hb (nomark _)
theorem pdt_gt (ha : PD X C a wa) (hb : PD X C b wb) : PDT X C (.Compare a [.Gt] [b] pos) (wTest (wOp (pI (fun _ _ => True) fun i j => .bool (decide (j < i))) wa wb)) := pdt_cmp op_gt two_B ha hb (nomark _)
theorem pdt_ge (ha : PD X C a wa) (hb : PD X C b wb) : PDT X C (.Compare a [.GtE] [b] pos) (wTest (wOp (pI (fun _ _ => True) fun i j => .bool (decide (j ≤ i))) wa wb)) := pdt_cmp op_ge two_B ha hb (nomark _)
end
/-! ### truth -/
def truD : PyData → Option Bool
  | .none => some false
  | .bool b => some b
  | .int i => some (i != 0)
  | .list xs => some (!xs.isEmpty)
  | .tuple xs => some (!xs.isEmpty)
  | _ => none
theorem tru_of {K : PySem.W.Frag} {H : Hp} {v : V} {d : PyData} {b : Bool} (h : Dq K H v d) (e : truD d = some b) : TruV K v H b := by
  cases h with
  | non => exact (Option.some.inj e).symm
  | bl c => exact (Option.some.inj e).symm
  | int i => exact (Option.some.inj e).symm
  | str x => cases e
  | dk _ _ _ _ _ _ => cases e
  | dt _ _ _ _ _ _ _ => cases e
  | lst a t =>
    refine .inl ⟨_, a, ?_⟩
    rw [← Option.some.inj e]
    cases t <;> rfl
  | tup a t =>
    refine .inr (.inl ⟨_, a, ?_⟩)
    rw [← Option.some.inj e]
    cases t <;> rfl
def wTru (w : WD) : WT := fun ρ k => w ρ fun d ρ1 => ∃ b, truD d = some b ∧ k b ρ1
theorem pdt_tru {e : Expr} {w : WD} (h : PD X C e w) (ht : ∀ whole : Sem Value, isTrue e X.env whole = (do let v ← whole; standAt e.pos; holding [v] (truthy v)) := by intro _; rfl) : PDT X C e (wTru w) :=
  pt_imp (pt_truth h ht) fun σ H Q ⟨as, ρ, k, re, q, f⟩ => ⟨as, ρ, _, re, q, fun d ρ1 v H1 ⟨b, e, q1⟩ r1 k1 d1 => ⟨b, tru_of (dp_mono (hide_same H1 _) d1) e, f b ρ1 H1 q1 r1 k1⟩⟩
def wNot (w : WT) : WT := fun ρ k => w ρ fun b ρ1 => k (!b) ρ1
theorem pdt_not {a : Expr} {pos : Pos} {w : WT} (h : PDT X C a w) : PDT X C (.UnaryOp .Not a pos) (wNot w) :=
  pt_imp (pt_not h) fun σ H Q ⟨as, ρ, k, re, q, f⟩ => ⟨as, ρ, _, re, q, fun b ρ1 H1 q1 r1 k1 => f (!b) ρ1 H1 q1 r1 k1⟩
def PDW (X : Cx) (C : Fx) (e : Expr) (w : WT) : Prop := PW X e (tDT X.K C w)
theorem pw_imp {e : Expr} {t t' : TT} (h : PW X e t) (i : ∀ σ H Q, t' σ H Q → t σ H Q) : PW X e t' := ⟨fun wh pins s σ H Q I q => h.run wh pins s σ H Q I (i σ H Q q)⟩
theorem PDW.pt {e : Expr} {w : WT} (h : PDW X C e w) : PDT X C e w := PW.pt h
def wAnd (w w' : WT) : WT := fun ρ k => w ρ fun b ρ1 => if b = true then w' ρ1 k else k false ρ1
def wOr (w w' : WT) : WT := fun ρ k => w ρ fun b ρ1 => if b = true then k true ρ1 else w' ρ1 k
section
variable {a b : Expr} {rest : List Expr} {pos : Pos} {w w' : WT}
theorem pdw_one {op : BoolOp} (h : PDT X C a w) (hw : PW X (.BoolOp op [a] pos) (tDT X.K C w)) : PDW X C (.BoolOp op [a] pos) w := hw
theorem pdw_and1 (h : PDT X C a w) : PDW X C (.BoolOp .And [a] pos) w := pw_and1 h
theorem pdw_or1 (h : PDT X C a w) : PDW X C (.BoolOp .Or [a] pos) w := pw_or1 h
theorem pdw_and (h : PDT X C a w) (h' : PDW X C (.BoolOp .And (b :: rest) pos) w') : PDW X C (.BoolOp .And (a :: b :: rest) pos) (wAnd w w') :=
  pw_imp (pw_and h h') fun σ H Q ⟨as, ρ, k, re, q, f⟩ => ⟨as, ρ, _, re, q, fun c ρ1 H1 q1 r1 k1 => by
    cases c with
    | true => exact iteT ⟨as, ρ1, k, r1, q1, fun b ρ2 H2 q2 r2 k2 => f b ρ2 H2 q2 r2 (k1.trans k2)⟩
    | false => exact iteF (f false ρ1 H1 q1 r1 k1)⟩
theorem pdw_or (h : PDT X C a w) (h' : PDW X C (.BoolOp .Or (b :: rest) pos) w') : PDW X C (.BoolOp .Or (a :: b :: rest) pos) (wOr w w') :=
  pw_imp (pw_or h h') fun σ H Q ⟨as, ρ, k, re, q, f⟩ => ⟨as, ρ, _, re, q, fun c ρ1 H1 q1 r1 k1 => by
    cases c with
    | true => exact iteT (f true ρ1 H1 q1 r1 k1)
    | false => exact iteF ⟨as, ρ1, k, r1, q1, fun b ρ2 H2 q2 r2 k2 => f b ρ2 H2 q2 r2 (k1.trans k2)⟩⟩
end
/-- a if t else b -/
def wIf (t : WT) (wa wb : WD) : WD := fun ρ k => t ρ fun b ρ1 => if b = true then wa ρ1 k else wb ρ1 k
theorem pd_if {c a b : Expr} {pos : Pos} {t : WT} {wa wb : WD} (hc : PDT X C c t) (ha : PD X C a wa) (hb : PD X C b wb) : PD X C (.IfExp c a b pos) (wIf t wa wb) :=
  pe_imp (pe_ifExp hc ha hb) fun σ H Q ⟨as, ρ, k, re, q, f⟩ => ⟨as, ρ, _, re, q, fun c ρ1 H1 q1 r1 k1 => by
    cases c with
    | true => exact iteT ⟨as, ρ1, k, r1, q1, fun d ρ2 v H2 q2 r2 k2 => f d ρ2 v H2 q2 r2 (k1.trans k2)⟩
    | false => exact iteF ⟨as, ρ1, k, r1, q1, fun d ρ2 v H2 q2 r2 k2 => f d ρ2 v H2 q2 r2 (k1.trans k2)⟩⟩
end DL
set_option Elab.async false
set_option linter.all false
set_option maxRecDepth 100000
set_option maxHeartbeats 2000000
/-! Items, parts, built-ins, calls of defs over plain data. -/
namespace DL
open PySem PySem.Spec PyProof.Rows L2
variable {X : Cx} {C : Fx}

/-! ### items -/
def seqOf : PyData → Option (List PyData)
  | .tuple ds => some ds
  | .list ds => some ds
  | _ => none
def pIx : PyData → PyData → (PyData → Prop) → Prop := fun d1 d2 k => ∃ ds i d, seqOf d1 = some ds ∧ d2 = .int i ∧ atI ds i = some d ∧ k d
theorem atI_dq {K : PySem.W.Frag} {H : Hp} {vs : List V} {ds : List PyData} {i : Int} {d : PyData} (h : DqAll K H vs ds) (e : atI ds i = some d) : ∃ v, atI vs i = some v ∧ Dq K H v d := by
  unfold atI at e ⊢
  rw [dps_len h]
  cases q : ixN ds.length i with
  | none => rw [q] at e; cases e
  | some j =>
    rw [q] at e
    exact dps_get h (i := j) e
theorem two_ix {K : PySem.W.Frag} : Two K (rIx K) pIx := by
  intro H l x y d1 d2 k Q hl h1 h2 ⟨ds, i, d, es, e2, ei, q⟩ f
  subst e2
  obtain rfl := dp_int h2
  cases h1 with
  | non => cases es
  | bl b => cases es
  | int i => cases es
  | str x => cases es
  | dk _ _ _ _ _ _ => cases es
  | dt _ _ _ _ _ _ _ => cases es
  | lst a t =>
    cases es
    obtain ⟨v, hv, dv⟩ := atI_dq t ei
    exact .inl ⟨_, _, i, v, rfl, rfl, seqL_un a, hv, f _ _ H q (Same.refl _) dv⟩
  | tup a t =>
    cases es
    obtain ⟨v, hv, dv⟩ := atI_dq t ei
    exact .inr (.inl ⟨_, _, i, v, rfl, rfl, seqT_un a, hv, f _ _ H q (Same.refl _) dv⟩)
theorem pd_ix {a b : Expr} {pos : Pos} {wa wb : WD} (ha : PD X C a wa) (hb : PD X C b wb) (hp : PlainIx b := by exact fun _ _ => rfl) : PD X C (.Subscript a b pos) (wOp pIx wa wb) := pe_imp (pe_ix ix_seq ha hb hp) (two_imp two_ix)

/-! ### parts -/
abbrev WO := Env → (Option Int → Env → Prop) → Prop
def tDO (K : PySem.W.Frag) (C : Fx) (w : WO) : TO := fun σ H Q => ∃ as ρ k, Rep K C as H σ ρ ∧ w ρ k ∧ ∀ b ρ' H', k b ρ' → Rep K C as H' σ ρ' → Keep (as ++ C.N) H H' → Q b H'
def PDO (X : Cx) (C : Fx) (e : Option Expr) (w : WO) : Prop := PO X e (tDO X.K C w)
theorem po_imp {e : Option Expr} {t t' : TO} (h : PO X e t) (i : ∀ σ H Q, t' σ H Q → t σ H Q) : PO X e t' := ⟨fun pins s σ H Q I q => h.run pins s σ H Q I (i σ H Q q)⟩
def wPart (w : WD) : WO := fun ρ k => w ρ fun d ρ1 => ∃ i, d = .int i ∧ k (some i) ρ1
def wNoPart : WO := fun ρ k => k none ρ
theorem pdo_some {e : Expr} {w : WD} (h : PD X C e w) : PDO X C (some e) (wPart w) :=
  po_imp (po_some h) fun σ H Q ⟨as, ρ, k, re, q, f⟩ => ⟨as, ρ, _, re, q, fun d ρ1 v H1 ⟨i, e, q1⟩ r1 k1 d1 => by
    subst e
    exact ⟨i, dp_int d1, f (some i) ρ1 H1 q1 r1 k1⟩⟩
theorem pdo_none : PDO X C none wNoPart := po_imp po_none fun σ H Q ⟨as, ρ, k, re, q, f⟩ => f none ρ H q re (Keep.refl ..)
def cut {α : Type} (xs : List α) (lo hi : Option Int) : List α := (xs.drop (HT.sIx xs.length 0 lo)).take (HT.sIx xs.length xs.length hi - HT.sIx xs.length 0 lo)
theorem cut_dq {K : PySem.W.Frag} {H : Hp} {vs : List V} {ds : List PyData} (h : DqAll K H vs ds) (lo hi : Option Int) : DqAll K H (cutV vs lo hi) (cut ds lo hi) := by
  have e := dps_len h
  unfold cutV cut
  rw [e]
  exact dps_take _ (dps_drop _ h)
def pCut : PyData → Option Int → Option Int → (PyData → Prop) → Prop
  | .tuple ds, lo, hi, k => k (.tuple (cut ds lo hi))
  | .list ds, lo, hi, k => k (.list (cut ds lo hi))
  | _, _, _, _ => False
theorem cut_all {ds : List PyData} {lo hi : Option Int} (h : HT.sIx ds.length 0 lo = 0 ∧ HT.sIx ds.length ds.length hi = ds.length) : cut ds lo hi = ds := by
  unfold cut
  rw [h.1, h.2, List.drop_zero, Nat.sub_zero, List.take_length]
def wSl (w : WD) (wl wh : WO) : WD := fun ρ k => w ρ fun d ρ1 => wl ρ1 fun lo ρ2 => wh ρ2 fun hi ρ3 => pCut d lo hi fun d' => k d' ρ3
theorem sl_D : SlR X (fun x lo hi H Q => rSlA X.K x lo hi H Q ∨ rSlL X.K x lo hi H Q) := SlR.or sl_tupA sl_list
theorem pd_sl {e : Expr} {lo hi : Option Expr} {pos p2 : Pos} {w : WD} {wl wh : WO} (he : PD X C e w) (hl : PDO X C lo wl) (hh : PDO X C hi wh) : PD X C (.Subscript e (.Slice lo hi none p2) pos) (wSl w wl wh) :=
  pe_imp (pe_slice sl_D he hl hh) fun σ H Q ⟨as, ρ, k, re, q, f⟩ => ⟨as, ρ, _, re, q, fun d ρ1 v H1 q1 r1 k1 d1 => ⟨as, ρ1, _, r1, q1, fun lo ρ2 H2 q2 r2 k2 => ⟨as, ρ2, _, r2, q2, fun hi ρ3 H3 q3 r3 k3 => by
    have d3 := dp_mono (k2.trans k3).see d1
    have kk := (k1.trans k2).trans k3
    cases d <;> first | exact q3.elim | skip
    · rename_i ds
      obtain ⟨a, xs, rfl, s, t⟩ := dq_lst d3
      refine .inr ⟨a, xs, rfl, seqL_un s, fun p hp => ?_⟩
      exact f _ ρ3 _ _ q3 (rep_new r3 hp) (kk.trans (Keep.new hp _)) (dp_lstNew r3 hp (cut_dq t lo hi))
    · rename_i ds
      obtain ⟨a, xs, rfl, s, t⟩ := dq_tup d3
      refine .inl ⟨a, xs, rfl, seqT_un s, fun z => ?_, fun _ p hp => ?_⟩
      · rw [dps_len t] at z
        exact f _ ρ3 _ _ q3 r3 kk (by rw [cut_all z]; exact .tup s t)
      · exact f _ ρ3 _ _ q3 (rep_new r3 hp) (kk.trans (Keep.new hp _)) (dp_tupNew r3 hp (cut_dq t lo hi))⟩⟩⟩

/-! ### built-ins by name -/
def One (K : PySem.W.Frag) (r : List V → Hp → VK → Prop) (p : List PyData → (PyData → Prop) → Prop) : Prop :=
  ∀ (H : Hp) (l : List Addr) (vs : List V) (ds : List PyData) (k : PyData → Prop) (Q : VK), (∀ q, H q = none → q ∉ l) → DqAll K (hide H l) vs ds → p ds k → (∀ d v H', k d → Same H H' → Dq K (hide H' l) v d → Q v H') → r vs H Q
def wCall (p : List PyData → (PyData → Prop) → Prop) (ws : WA) : WD := fun ρ k => ws ρ fun ds ρ1 => p ds fun d => k d ρ1
theorem one_imp {r : List V → Hp → VK → Prop} {p : List PyData → (PyData → Prop) → Prop} (h : One X.K r p) {ws : WA} : ∀ σ H Q, tD X.K C (wCall p ws) σ H Q → tCB r (tDA X.K C ws) σ H Q :=
  fun σ H Q ⟨as, ρ, k, re, q, f⟩ => ⟨as, ρ, _, re, q, fun ds ρ1 vs H1 q1 r1 k1 d1 =>
    h H1 (as ++ C.N) vs ds _ _ (fun q hq => not_hid r1 hq) d1 q1 fun d v H2 q2 s2 e2 => f d ρ1 v H2 q2 (r1.same s2) (k1.trans (Keep.of s2)) e2⟩
section
variable {x : Str} {p pos : Pos} {e : Expr} {es : List Expr} {ws : WA}
theorem pd_callB {id : String} {r : List V → Hp → VK → Prop} {pf : List PyData → (PyData → Prop) → Prop} (hc : CallR X (.builtin id) r) (h : One X.K r pf) (hg : Gl X x) (hm : X.mg x = none) (hv : bootBuiltins x = some (.builtin id)) (ha : PDA X C (e :: es) ws)
    (h1 : x ≠ "__name__" := by decide) (h2 : (x == ("__debug__" : Str)) = false := by decide) (h3 : starEach (e :: es) X.env = (false, eval e X.env) :: starEach es X.env := by rfl) (h4 : (backTo pos (starEach es X.env)).any (·.1) = false := by rfl) :
    PD X C (.Call (.Name x p) (e :: es) [] pos) (wCall pf ws) := pe_imp (pe_callB hc hg hm hv ha h1 h2 h3 h4) (one_imp h)
theorem pd_callTy {T : String} {r : List V → Hp → VK → Prop} {pf : List PyData → (PyData → Prop) → Prop} (hc : CallR X (.type T) r) (h : One X.K r pf) (hg : Gl X x) (hm : X.mg x = none) (hv : bootBuiltins x = some (.type T)) (ha : PDA X C (e :: es) ws)
    (h1 : x ≠ "__name__" := by decide) (h2 : (x == ("__debug__" : Str)) = false := by decide) (h3 : starEach (e :: es) X.env = (false, eval e X.env) :: starEach es X.env := by rfl) (h4 : (backTo pos (starEach es X.env)).any (·.1) = false := by rfl) :
    PD X C (.Call (.Name x p) (e :: es) [] pos) (wCall pf ws) := pe_imp (pe_callTy hc hg hm hv ha h1 h2 h3 h4) (one_imp h)
end
def fLen : List PyData → (PyData → Prop) → Prop := fun ds k => ∃ d xs, ds = [d] ∧ seqOf d = some xs ∧ k (.int xs.length)
theorem one_len {K : PySem.W.Frag} : One K (fun xs H Q => ∃ p ys, xs = [V.ref p] ∧ (SqL K H p ys ∨ SqT K H p ys) ∧ Q (V.int ↑ys.length) H) fLen := by
  rintro H l vs _ k Q hl h ⟨d, xs, rfl, es, q⟩ f
  cases h with
  | cons h t =>
    cases t
    cases h with
    | non => cases es
    | bl b => cases es
    | int i => cases es
    | str x => cases es
    | dk _ _ _ _ _ _ => cases es
    | dt _ _ _ _ _ _ _ => cases es
    | lst a t =>
      cases es
      exact ⟨_, _, rfl, .inl (seqL_un a), f _ _ H q (Same.refl _) (by rw [dps_len t]; exact .int _)⟩
    | tup a t =>
      cases es
      exact ⟨_, _, rfl, .inr (seqT_un a), f _ _ H q (Same.refl _) (by rw [dps_len t]; exact .int _)⟩
def fAbs : List PyData → (PyData → Prop) → Prop := fun ds k => ∃ i : Int, ds = [.int i] ∧ k (.int (if i < 0 then -i else i))
theorem one_abs {K : PySem.W.Frag} : One K (fun xs H Q => ∃ i, xs = [V.int i] ∧ Q (V.int (if i < 0 then -i else i)) H) fAbs := by
  rintro H l vs _ k Q hl h ⟨i, rfl, q⟩ f
  cases h with
  | cons h t =>
    cases t
    obtain rfl := dp_int h
    exact ⟨i, rfl, f _ _ H q (Same.refl _) (.int _)⟩
def fInt : List PyData → (PyData → Prop) → Prop := fun ds k => (∃ i : Int, ds = [.int i] ∧ k (.int i)) ∨ ∃ b : Bool, ds = [.bool b] ∧ k (.int (if b = true then 1 else 0))
theorem one_int {K : PySem.W.Frag} : One K (fun xs H Q => (∃ i, xs = [V.int i] ∧ Q (V.int i) H) ∨ ∃ k, xs = [V.bl k] ∧ Q (V.int (if k = true then 1 else 0)) H) fInt := by
  rintro H l vs _ k Q hl h (⟨i, rfl, q⟩ | ⟨i, rfl, q⟩) f
  · cases h with
    | cons h t =>
      cases t
      obtain rfl := dp_int h
      exact .inl ⟨i, rfl, f _ _ H q (Same.refl _) (.int _)⟩
  · cases h with
    | cons h t =>
      cases t
      obtain rfl := dp_bool h
      exact .inr ⟨i, rfl, f _ _ H q (Same.refl _) (.int _)⟩
def fTuple : List PyData → (PyData → Prop) → Prop := fun ds k => ∃ d xs, ds = [d] ∧ seqOf d = some xs ∧ k (.tuple xs)
theorem one_tuple {K : PySem.W.Frag} : One K (fun xs H Q => ∃ p ys, xs = [V.ref p] ∧ ((SqL K H p ys ∧ ∀ (l : Addr), H l = none → Q (V.ref l) (upd H l (HO.tup ys))) ∨ SqT K H p ys ∧ Q (V.ref p) H)) fTuple := by
  rintro H l vs _ k Q hl h ⟨d, xs, rfl, es, q⟩ f
  cases h with
  | cons h t =>
    cases t
    cases h with
    | non => cases es
    | bl b => cases es
    | int i => cases es
    | str x => cases es
    | dk _ _ _ _ _ _ => cases es
    | dt _ _ _ _ _ _ _ => cases es
    | lst a t =>
      cases es
      refine ⟨_, _, rfl, .inl ⟨seqL_un a, fun p hp => f _ _ _ q (same_new hp _) (.tup (SqT.of ?_) (dps_mono (hide_mono (same_new hp _)) t))⟩⟩
      rw [hide_out (hl p hp)]; exact upd_same
    | tup a t =>
      cases es
      exact ⟨_, _, rfl, .inr ⟨seqT_un a, f _ _ H q (Same.refl _) (.tup a t)⟩⟩
def fList : List PyData → (PyData → Prop) → Prop := fun ds k => ∃ d xs, ds = [d] ∧ seqOf d = some xs ∧ k (.list xs)
theorem one_list {K : PySem.W.Frag} : One K (fun xs H Q => ∃ p ys, xs = [V.ref p] ∧ (SqL K H p ys ∨ SqT K H p ys) ∧ ∀ (l : Addr), H l = none → Q (V.ref l) (upd H l (HO.lst ys))) fList := by
  rintro H l vs _ k Q hl h ⟨d, xs, rfl, es, q⟩ f
  cases h with
  | cons h t =>
    cases t
    cases h with
    | non => cases es
    | bl b => cases es
    | int i => cases es
    | str x => cases es
    | dk _ _ _ _ _ _ => cases es
    | dt _ _ _ _ _ _ _ => cases es
    | lst a t =>
      cases es
      refine ⟨_, _, rfl, .inl (seqL_un a), fun p hp => f _ _ _ q (same_new hp _) (.lst (SqL.of ?_) (dps_mono (hide_mono (same_new hp _)) t))⟩
      rw [hide_out (hl p hp)]; exact upd_same
    | tup a t =>
      cases es
      refine ⟨_, _, rfl, .inr (seqT_un a), fun p hp => f _ _ _ q (same_new hp _) (.lst (SqL.of ?_) (dps_mono (hide_mono (same_new hp _)) t))⟩
      rw [hide_out (hl p hp)]; exact upd_same

/-! ### defs: what they promise over data -/
abbrev DF := List PyData → (PyData → Prop) → Prop
/-- data in, data out; nothing that stands is changed -/
def spP (K : PySem.W.Frag) (f : DF) : Sp := fun vs H Q _ => ∃ N ds k, (∀ a ∈ N, H a ≠ none) ∧ DqAll K (hide H N) vs ds ∧ f ds k ∧ ∀ d v H', k d → Same H H' → Dq K (hide H' N) v d → Q v H'
theorem mem_ne {K : PySem.W.Frag} {as : List Addr} {H : Hp} {σ : List (Option V)} {ρ : Env} (r : Rep K C as H σ ρ) : ∀ a ∈ as ++ C.N, H a ≠ none := fun a h z => not_hid r z h
theorem pd_call {k : Nat} {f : Addr} {fd : FuncData} {ps : List Str} {x : Str} {p pos : Pos} {e : Expr} {es : List Expr} {ws : WA} {df : DF} (F : FnOk X.prog X.w X.K X.mg X.base CX0 k f fd ps (spP X.K df)) (hr : Room k X.A) (hg : Gl X x) (hm : X.mg x = some (.ref f)) (hk : PySem.W.keepIn X.K (.ref f) = true)
    (hb : Binds X.K fd ps []) (ha : PDA X C (e :: es) ws) (hdb : (x == ("__debug__" : Str)) = false := by decide) (he : starEach (e :: es) X.env = (false, eval e X.env) :: starEach es X.env := by rfl) (hpl : (backTo pos (starEach es X.env)).any (·.1) = false := by rfl) :
    PD X C (.Call (.Name x p) (e :: es) [] pos) (wCall df ws) :=
  pe_imp (pe_call F hr hg hm hk hb .nil pass0 ha hdb he hpl) fun σ H Q ⟨as, ρ, k, re, q, f⟩ => ⟨as, ρ, _, re, q, fun ds ρ1 vs H1 q1 r1 k1 d1 => by
    show spP X.K df (vs ++ []) H1 Q E0
    rw [List.append_nil]
    exact ⟨as ++ C.N, ds, _, mem_ne r1, d1, q1, fun d v H2 q2 s2 e2 => f d ρ1 v H2 q2 (r1.same s2) (k1.trans (Keep.of s2)) e2⟩⟩
theorem pd_call0 {k : Nat} {f : Addr} {fd : FuncData} {ps : List Str} {x : Str} {p pos : Pos} {df : DF} (F : FnOk X.prog X.w X.K X.mg X.base CX0 k f fd ps (spP X.K df)) (hr : Room k X.A) (hg : Gl X x) (hm : X.mg x = some (.ref f)) (hk : PySem.W.keepIn X.K (.ref f) = true)
    (hb : Binds X.K fd ps []) (hdb : (x == ("__debug__" : Str)) = false := by decide) : PD X C (.Call (.Name x p) [] [] pos) (wCall df wNil) :=
  pe_imp (pe_call0 F hr hg hm hk hb .nil pass0 hdb) fun σ H Q ⟨as, ρ, k, re, q, f⟩ => ⟨as ++ C.N, [], _, mem_ne re, .nil, q, fun d v H2 q2 s2 e2 => f d ρ v H2 q2 (re.same s2) (Keep.of s2) e2⟩
/-! ### defs that draw: the draws' list first -/
abbrev UF := Nat → List PyData → (Nat → PyData → Prop) → Prop
def spU (K : PySem.W.Frag) (f : UF) : Sp := fun vs H Q _ => ∃ u vs' N n ds k, vs = .ref u :: vs' ∧ u ∈ N ∧ UrnAt H u n ∧ (∀ a ∈ N, H a ≠ none) ∧ DqAll K (hide H N) vs' ds ∧ f n ds k ∧
  ∀ n' d v H', k n' d → SameBut [u] H H' → UrnAt H' u n' → Dq K (hide H' N) v d → Q v H'
def noUrn : Slot → Bool
  | .urn _ => false
  | _ => true
def sole (ρ : Env) (i : Nat) : Bool := (ρ.set i .un).all noUrn
theorem sole_ne {ρ : Env} {i : Nat} (h : sole ρ i = true) : ∀ j m, j ≠ i → ρ[j]? = some (.urn m) → False := by
  intro j m hj e
  have h' := List.all_eq_true.mp h (.urn m) (List.mem_of_getElem? (i := j) (by rw [List.getElem?_set_ne (Ne.symm hj)]; exact e))
  cases h'
/-- behind a draw -/
theorem rep_drawn {K : PySem.W.Frag} {as : List Addr} {H H' : Hp} {σ : List (Option V)} {ρ : Env} {i n n' : Nat} {u : Addr} (r : Rep K C as H σ ρ) (e : ρ[i]? = some (.urn n)) (es : σ[i]? = some (some (.ref u))) (hs : sole ρ i = true)
    (s : SameBut [u] H H') (hu : UrnAt H' u n') (uU : u ∈ C.U) : Rep K C as H' σ (ρ.set i (.urn n')) ∧ Keep (as ++ C.N) H H' := by
  have uN := (r.unn u uU).1
  have ua : u ∉ as := fun z => r.own u z |> fun q => r.hid u uN q
  have see : Same (hide H (as ++ C.N)) (hide H' (as ++ C.N)) := fun b o h => by
    obtain ⟨c, h⟩ := hide_some h
    rw [hide_out c]
    exact s b o (fun z => c (List.mem_append_right _ (by rw [List.mem_singleton.mp z]; exact uN))) h
  have all : ∀ a, H a ≠ none → H' a ≠ none := fun a z => by
    by_cases c : a = u
    · rw [c]; exact hu.some
    · cases q : H a with
      | none => exact absurd q z
      | some o => rw [s a o (fun y => c (List.mem_singleton.mp y)) q]; exact fun y => by cases y
  refine ⟨⟨?_, fun b o c q => s b o (fun z => c (by rw [List.mem_singleton.mp z]; exact uU)) (r.ent b o c q), r.own, r.hid, fun w hw => ⟨(r.unn w hw).1, all w (r.unn w hw).2⟩⟩, ⟨see, all⟩⟩
  -- slots: all but slot i stand as they did
  have key : ∀ {σ' ρ' as'} (i' : Nat), RepS K (hide H (as ++ C.N)) H C.U σ' ρ' as' → (∀ a ∈ as', a ≠ u) → (∀ j m, j ≠ i' → ρ'[j]? = some (.urn m) → False) → (∀ m, ρ'[i']? = some (.urn m) → σ'[i']? = some (some (V.ref u))) → (∃ m, ρ'[i']? = some (.urn m)) →
      RepS K (hide H' (as ++ C.N)) H' C.U σ' (ρ'.set i' (.urn n')) as' := by
    intro σ' ρ' as' i' r'
    have rest : ∀ {σ' ρ' as'}, RepS K (hide H (as ++ C.N)) H C.U σ' ρ' as' → (∀ a ∈ as', a ≠ u) → (∀ (j m : Nat), ρ'[j]? = some (Slot.urn m) → False) → RepS K (hide H' (as ++ C.N)) H' C.U σ' ρ' as' := by
      intro σ' ρ' as' r' h1 h2
      induction r' with
      | nil => exact .nil
      | un _ ih => exact .un (ih h1 fun j m q => h2 (j + 1) m (by simpa using q))
      | d h _ ih => exact .d (dp_mono see h) (ih h1 fun j m q => h2 (j + 1) m (by simpa using q))
      | obj q1 q2 q3 _ ih => exact .obj (s _ _ (fun z => h1 _ (List.mem_cons_self ..) (List.mem_singleton.mp z)) q1) (q2.mono see) q3 (ih (fun a z => h1 a (List.mem_cons_of_mem _ z)) fun j m q => h2 (j + 1) m (by simpa using q))
      | urn q1 q2 _ ih => exact (h2 0 _ rfl).elim
    induction r' generalizing i' with
    | nil => intro _ _ _ ⟨m, q⟩; simp at q
    | un t ih =>
      intro h1 h2 h3 h4
      cases i' with
      | zero => obtain ⟨m, q⟩ := h4; simp at q
      | succ i' => exact .un (ih i' h1 (fun j m hj q => h2 (j + 1) m (by omega) (by simpa using q)) (fun m q => by simpa using h3 m (by simpa using q)) (by simpa using h4))
    | d h t ih =>
      intro h1 h2 h3 h4
      cases i' with
      | zero => obtain ⟨m, q⟩ := h4; simp at q
      | succ i' => exact .d (dp_mono see h) (ih i' h1 (fun j m hj q => h2 (j + 1) m (by omega) (by simpa using q)) (fun m q => by simpa using h3 m (by simpa using q)) (by simpa using h4))
    | obj q1 q2 q3 t ih =>
      intro h1 h2 h3 h4
      cases i' with
      | zero => obtain ⟨m, q⟩ := h4; simp at q
      | succ i' => exact .obj (s _ _ (fun z => h1 _ (List.mem_cons_self ..) (List.mem_singleton.mp z)) q1) (q2.mono see) q3 (ih i' (fun a z => h1 a (List.mem_cons_of_mem _ z)) (fun j m hj q => h2 (j + 1) m (by omega) (by simpa using q)) (fun m q => by simpa using h3 m (by simpa using q)) (by simpa using h4))
    | urn q1 q2 t ih =>
      intro h1 h2 h3 h4
      cases i' with
      | zero =>
        have e0 := h3 _ rfl
        simp at e0
        subst e0
        exact .urn hu q2 (rest t h1 fun j m q => h2 (j + 1) m (by omega) (by simpa using q))
      | succ i' => exact (h2 0 _ (by omega) rfl).elim
  exact key i r.rep (fun a ha z => ua (z ▸ ha)) (fun j m hj q => sole_ne hs j m hj q) (fun m _ => es) ⟨n, e⟩
/-- g(urn, e, ..) -/
def wCallU (i : Nat) (f : UF) (ws : WA) : WD := fun ρ k => (∃ n, ρ[i]? = some (.urn n)) ∧ ws ρ fun ds ρ1 => ∃ n1, ρ1[i]? = some (.urn n1) ∧ sole ρ1 i = true ∧ f n1 ds fun n' d => k d (ρ1.set i (.urn n'))
theorem pd_callU {k i : Nat} {f : Addr} {fd : FuncData} {ps : List Str} {x y : Str} {p p2 pos : Pos} {es : List Expr} {ws : WA} {uf : UF} (F : FnOk X.prog X.w X.K X.mg X.base CX0 k f fd ps (spU X.K uf)) (hr : Room k X.A) (hg : Gl X x) (hm : X.mg x = some (.ref f)) (hk : PySem.W.keepIn X.K (.ref f) = true)
    (hb : Binds X.K fd ps []) (hv : PE X (.Name y p2) (tVar i)) (ha : PDA X C es ws) (hs : starEach (.Name y p2 :: es) X.env = (false, eval (.Name y p2) X.env) :: starEach es X.env := by rfl)
    (hdb : (x == ("__debug__" : Str)) = false := by decide) (hpl : (backTo pos (starEach es X.env)).any (·.1) = false := by rfl) :
    PD X C (.Call (.Name x p) (.Name y p2 :: es) [] pos) (wCallU i uf ws) :=
  pe_imp (pe_call F hr hg hm hk hb .nil pass0 (pa_cons hv ha hs) hdb hs hpl) fun σ H Q ⟨as, ρ, k, re, ⟨⟨n, e0⟩, q⟩, f⟩ => by
    obtain ⟨u, hu1, hu2, hu3⟩ := re.rep.getUrn e0
    refine ⟨.ref u, hu1, as, ρ, _, re, q, fun ds ρ1 vs H1 ⟨n1, e1, so, q1⟩ r1 k1 d1 => ?_⟩
    obtain ⟨u', hu1', hu2', hu3'⟩ := r1.rep.getUrn e1
    rw [hu1] at hu1'
    cases hu1'
    show spU X.K uf ((V.ref u :: vs) ++ []) H1 Q E0
    rw [List.append_nil]
    refine ⟨u, vs, as ++ C.N, n1, ds, _, rfl, List.mem_append_right _ (r1.unn u hu2).1, hu3', mem_ne r1, d1, q1, fun n' d v H2 q2 s2 hu4 e2 => ?_⟩
    obtain ⟨r2, k2⟩ := rep_drawn r1 e1 hu1 so s2 hu4 hu2
    exact f d _ v H2 q2 r2 (k1.trans k2) e2
end DL
set_option Elab.async false
set_option linter.all false
set_option maxRecDepth 100000
set_option maxHeartbeats 2000000
/-! Statements and defs over plain data. -/
namespace DL
open PySem PySem.Spec PyProof.Rows L2

/-- what is wanted behind a statement, over data -/
structure DEnds where
  nx : Env → Prop
  rt : PyData → Env → Prop
  bk : Env → Prop := fun _ => False
  ct : Env → Prop := fun _ => False
abbrev WS := DEnds → Env → Prop
structure Step (C : Fx) (as : List Addr) (H : Hp) (as' : List Addr) (H' : Hp) : Prop where
  kp : ∀ a o, a ∉ as ++ C.N → H a = some o → H' a = some o
  su : ∀ a ∈ as', a ∈ as ∨ H a = none
  al : ∀ a, H a ≠ none → H' a ≠ none
section
variable {K : PySem.W.Frag} {C : Fx} {as as' as1 as2 : List Addr} {H H' H1 H2 : Hp} {σ : List (Option V)} {ρ : Env}
theorem Step.refl : Step C as H as H := ⟨fun _ _ _ h => h, fun _ h => .inl h, fun _ h => h⟩
theorem Step.trans (a : Step C as H as1 H1) (b : Step C as1 H1 as2 H2) : Step C as H as2 H2 where
  kp := fun x o hx h => b.kp x o (fun z => by
    rcases List.mem_append.mp z with z | z
    · rcases a.su x z with q | q
      · exact hx (List.mem_append_left _ q)
      · rw [q] at h; cases h
    · exact hx (List.mem_append_right _ z)) (a.kp x o hx h)
  su := fun x hx => by
    rcases b.su x hx with q | q
    · exact a.su x q
    · refine .inr ?_
      cases e : H x with
      | none => rfl
      | some o => exact absurd q (a.al x (by rw [e]; exact fun z => by cases z))
  al := fun x h => b.al x (a.al x h)
theorem Keep.step (k : Keep (as ++ C.N) H H') : Step C as H as H' where
  kp := fun a o ha h => (hide_some (k.see a o (by rw [hide_out ha]; exact h))).2
  su := fun _ h => .inl h
  al := k.all
theorem Step.sub (h : ∀ a ∈ as', a ∈ as) : Step C as H as' H := ⟨fun _ _ _ h => h, fun a z => .inl (h a z), fun _ h => h⟩
/-- what could be seen is seen -/
theorem Step.see (s : Step C as H as' H') : Same (hide H (as ++ C.N)) (hide H' (as' ++ C.N)) := fun b o h => by
  obtain ⟨c, h⟩ := hide_some h
  rw [hide_out]
  · exact s.kp b o c h
  · intro z
    rcases List.mem_append.mp z with z | z
    · rcases s.su b z with q | q
      · exact c (List.mem_append_left _ q)
      · rw [q] at h; cases h
    · exact c (List.mem_append_right _ z)
theorem mem_sub {as as' N : List Addr} (h : ∀ a ∈ as', a ∈ as) : ∀ a ∈ as' ++ N, a ∈ as ++ N := fun a z => (List.mem_append.mp z).elim (fun q => List.mem_append_left _ (h a q)) (fun q => List.mem_append_right _ q)
/-- a slot takes data -/
theorem Rep.setD (r : Rep K C as H σ ρ) {v : V} {d : PyData} (i : Nat) (h : Dq K (hide H (as ++ C.N)) v d) : ∃ as', Rep K C as' H (σ.set i (some v)) (ρ.set i (.d d)) ∧ ∀ a ∈ as', a ∈ as := by
  obtain ⟨as', q1, q2⟩ := r.rep.set (x := some v) (sl := .d d) (new := []) (fun t _ => .d h t) i (fun _ z => nomatch z)
  have sub : ∀ a ∈ as', a ∈ as := fun a z => (q2 a z).elim (fun y => nomatch y) id
  exact ⟨as', ⟨q1.mono (hide_sub (mem_sub sub)) (fun _ _ => rfl) (fun _ _ _ h => h), r.ent, fun a z => r.own a (sub a z), r.hid, r.unn⟩, sub⟩
theorem Rep.setUn (r : Rep K C as H σ ρ) (x : Option V) (i : Nat) : ∃ as', Rep K C as' H (σ.set i x) (ρ.set i .un) ∧ ∀ a ∈ as', a ∈ as := by
  obtain ⟨as', q1, q2⟩ := r.rep.set (x := x) (sl := .un) (new := []) (fun t _ => .un t) i (fun _ z => nomatch z)
  have sub : ∀ a ∈ as', a ∈ as := fun a z => (q2 a z).elim (fun y => nomatch y) id
  exact ⟨as', ⟨q1.mono (hide_sub (mem_sub sub)) (fun _ _ => rfl) (fun _ _ _ h => h), r.ent, fun a z => r.own a (sub a z), r.hid, r.unn⟩, sub⟩
/-- a slot takes a new own list -/
theorem Rep.setObj (r : Rep K C as H σ ρ) {p : Addr} {ho : HO} {o : OD} (i : Nat) (hp : H p = none) (h : OQ K (hide H (as ++ C.N)) ho o) :
    ∃ as', Rep K C as' (upd H p ho) (σ.set i (some (.ref p))) (ρ.set i (.obj o)) ∧ Step C as H as' (upd H p ho) := by
  have pa : p ∉ as := fun z => not_hid r hp (List.mem_append_left _ z)
  have r0 : RepS K (hide H (as ++ C.N)) (upd H p ho) C.U σ ρ as := r.rep.mono (Same.refl _) (fun a ha => by
    obtain ⟨ys, q⟩ := r.rep.at a ha
    rw [upd_ne (ne_of_none q hp)]) fun u n _ hu => by
      obtain ⟨b, s, k, q, z⟩ := hu
      exact ⟨b, s, k, by rw [upd_ne (ne_of_none q hp)]; exact q, z⟩
  obtain ⟨as', q1, q2⟩ := r0.set (x := some (.ref p)) (sl := .obj o) (new := [p]) (fun t ht => .obj upd_same h (ht p (List.mem_singleton.mpr rfl)) t) i (fun a ha => by rw [List.mem_singleton.mp ha]; exact pa)
  have st : Step C as H as' (upd H p ho) := ⟨fun a o _ e => same_new hp _ a o e, fun a z => (q2 a z).elim (fun y => .inr (by rw [List.mem_singleton.mp y]; exact hp)) .inl, (Keep.new (l := []) hp _).all⟩
  refine ⟨as', ⟨q1.mono st.see (fun _ _ => rfl) (fun _ _ _ h => h), fun b o c q => same_new hp _ b o (r.ent b o c q), fun a z => ?_, r.hid, fun u hu => ⟨(r.unn u hu).1, st.al u (r.unn u hu).2⟩⟩, st⟩
  rcases q2 a z with y | y
  · rw [List.mem_singleton.mp y]
    by_cases c : p ∈ C.U
    · exact absurd hp (r.unn p c).2
    · cases e : C.He p with
      | none => rfl
      | some o =>
        have := r.ent p o c e
        rw [hp] at this; cases this
  · exact r.own a y
theorem Rep.setOwn (r : Rep K C as H σ ρ) {p : Addr} {xs : List V} {ds : List PyData} (i : Nat) (hp : H p = none) (h : DqAll K (hide H (as ++ C.N)) xs ds) :
    ∃ as', Rep K C as' (upd H p (.lst xs)) (σ.set i (some (.ref p))) (ρ.set i (.own ds)) ∧ Step C as H as' (upd H p (.lst xs)) := r.setObj i hp (.lst h)
/-- an own list is changed -/
theorem Rep.chObj (r : Rep K C as H σ ρ) {i : Nat} {b : Addr} {o o' : OD} {ho : HO} (e1 : ρ[i]? = some (.obj o)) (e2 : σ[i]? = some (some (.ref b))) (hy : OQ K (hide H (as ++ C.N)) ho o') :
    Rep K C as (upd H b ho) σ (ρ.set i (.obj o')) ∧ Keep (as ++ C.N) H (upd H b ho) := by
  obtain ⟨b', xs, p1, p2, p3, _⟩ := r.rep.getObj e1
  rw [e2] at p1
  cases p1
  have bU : b ∉ C.U := fun z => r.hid b (r.unn b z).1 (r.own b p2)
  have see : hide (upd H b ho) (as ++ C.N) = hide H (as ++ C.N) := hide_upd (List.mem_append_left _ p2)
  have all : ∀ a, H a ≠ none → upd H b ho a ≠ none := fun a z => by
    by_cases c : a = b
    · rw [c, upd_same]; exact fun q => by cases q
    · rw [upd_ne c]; exact z
  refine ⟨⟨?_, fun c o hc q => ?_, r.own, r.hid, fun u hu => ⟨(r.unn u hu).1, all u (r.unn u hu).2⟩⟩, ⟨by rw [see]; exact Same.refl _, all⟩⟩
  · rw [see]
    exact r.rep.updObj hy (fun u n hu q => q.move (upd_ne fun (z : u = b) => bU (by rw [← z]; exact hu))) i e1 e2
  · rw [upd_ne]
    · exact r.ent c o hc q
    · intro z
      rw [z, r.own b p2] at q
      cases q
theorem Rep.chOwn (r : Rep K C as H σ ρ) {i : Nat} {b : Addr} {ds es : List PyData} {ys : List V} (e1 : ρ[i]? = some (.own ds)) (e2 : σ[i]? = some (some (.ref b))) (hy : DqAll K (hide H (as ++ C.N)) ys es) :
    Rep K C as (upd H b (.lst ys)) σ (ρ.set i (.own es)) ∧ Keep (as ++ C.N) H (upd H b (.lst ys)) := r.chObj e1 e2 (.lst hy)
theorem RepS.free {G : Hp} {U : List Addr} (r : RepS K G H U σ ρ as) : ∀ {i : Nat} {ds : OD} {b : Addr}, ρ[i]? = some (.obj ds) → σ[i]? = some (some (.ref b)) → ∃ as', RepS K G H U σ (ρ.set i .un) as' ∧ b ∉ as' ∧ ∀ a ∈ as', a ∈ as := by
  induction r with
  | nil => intro i ds b e; simp at e
  | @un y σ ρ as t ih =>
    intro i ds b e1 e2
    cases i with
    | zero => simp at e1
    | succ i =>
      obtain ⟨as', q1, q2, q3⟩ := ih (i := i) (b := b) (by simpa using e1) (by simpa using e2)
      exact ⟨as', .un q1, q2, q3⟩
  | @d v d σ ρ as h t ih =>
    intro i ds b e1 e2
    cases i with
    | zero => simp at e1
    | succ i =>
      obtain ⟨as', q1, q2, q3⟩ := ih (i := i) (b := b) (by simpa using e1) (by simpa using e2)
      exact ⟨as', .d h q1, q2, q3⟩
  | @obj c xs ds' σ ρ as h1 h2 h3 t ih =>
    intro i ds b e1 e2
    cases i with
    | zero =>
      simp at e2
      subst e2
      exact ⟨as, .un t, h3, fun a z => List.mem_cons_of_mem _ z⟩
    | succ i =>
      obtain ⟨as', q1, q2, q3⟩ := ih (i := i) (b := b) (by simpa using e1) (by simpa using e2)
      obtain ⟨b', zs, p1, p2, _⟩ := t.getObj (i := i) (o := ds) (by simpa using e1)
      have e2' : σ[i]? = some (some (V.ref b)) := by simpa using e2
      rw [p1] at e2'
      cases e2'
      refine ⟨c :: as', .obj h1 h2 (fun z => h3 (q3 c z)) q1, fun z => ?_, fun a z => ?_⟩
      · rcases List.mem_cons.mp z with z | z
        · subst z; exact h3 p2
        · exact q2 z
      · rcases List.mem_cons.mp z with z | z
        · subst z; exact List.mem_cons_self ..
        · exact List.mem_cons_of_mem _ (q3 a z)
  | @urn c n σ ρ as h1 h2 t ih =>
    intro i ds b e1 e2
    cases i with
    | zero => simp at e1
    | succ i =>
      obtain ⟨as', q1, q2, q3⟩ := ih (i := i) (b := b) (by simpa using e1) (by simpa using e2)
      exact ⟨as', .urn h1 h2 q1, q2, q3⟩
/-- an own list becomes data -/
theorem Rep.freezeO (r : Rep K C as H σ ρ) {i : Nat} {o : OD} (e : ρ[i]? = some (.obj o)) (n : okO o) : ∃ as', Rep K C as' H σ (ρ.set i (.d (odD o))) ∧ ∀ a ∈ as', a ∈ as := by
  obtain ⟨b, xs, p1, p2, p3, p4⟩ := r.rep.getObj e
  obtain ⟨as', q1, q2, q3⟩ := r.rep.free e p1
  have sub := mem_sub (N := C.N) q3
  have r1 : Rep K C as' H σ (ρ.set i .un) := ⟨q1.mono (hide_sub sub) (fun _ _ => rfl) (fun _ _ _ h => h), r.ent, fun a z => r.own a (q3 a z), r.hid, r.unn⟩
  have bn : b ∉ as' ++ C.N := fun z => by
    rcases List.mem_append.mp z with z | z
    · exact q2 z
    · exact r.hid b z (r.own b p2)
  obtain ⟨as2, r2, s2⟩ := r1.setD (v := .ref b) (d := odD o) i ((p4.mono (hide_sub sub)).dq (by rw [hide_out bn]; exact p3) n)
  refine ⟨as2, ?_, fun a z => q3 a (s2 a z)⟩
  have e1 : σ.set i (some (.ref b)) = σ := List.ext_getElem? fun j => by
    by_cases c : i = j
    · subst c
      by_cases l : i < σ.length
      · rw [List.getElem?_set_self l, p1]
      · rw [List.getElem?_eq_none (by omega)] at p1; cases p1
    · rw [List.getElem?_set_ne c]
  have e2 : (ρ.set i Slot.un).set i (.d (odD o)) = ρ.set i (.d (odD o)) := by rw [List.set_set]
  rw [e1, e2] at r2
  exact r2
theorem Rep.freeze (r : Rep K C as H σ ρ) {i : Nat} {ds : List PyData} (e : ρ[i]? = some (.own ds)) : ∃ as', Rep K C as' H σ (ρ.set i (.d (.list ds))) ∧ ∀ a ∈ as', a ∈ as := r.freezeO e trivial
end

def tDS (K : PySem.W.Frag) (C : Fx) (w : WS) : TS := fun D σ H => ∃ as ρ P, Rep K C as H σ ρ ∧ w P ρ ∧
  (∀ as' ρ' σ' H', P.nx ρ' → Rep K C as' H' σ' ρ' → Step C as H as' H' → D.nx σ' H') ∧
  (∀ d ρ' v as' σ' H', P.rt d ρ' → Rep K C as' H' σ' ρ' → Step C as H as' H' → Dq K (hide H' (as' ++ C.N)) v d → D.rt v H') ∧
  (∀ as' ρ' σ' H', P.bk ρ' → Rep K C as' H' σ' ρ' → Step C as H as' H' → D.bk σ' H') ∧
  (∀ as' ρ' σ' H', P.ct ρ' → Rep K C as' H' σ' ρ' → Step C as H as' H' → D.ct σ' H')
variable {X : Cx} {C : Fx}
def PDS (X : Cx) (C : Fx) (st : Stmt) (w : WS) : Prop := PS X st (tDS X.K C w)
def PDSs (X : Cx) (C : Fx) (st : List Stmt) (w : WS) : Prop := PSs X st (tDS X.K C w)
theorem ps_imp {st : Stmt} {t t' : TS} (h : PS X st t) (i : ∀ D σ H, t' D σ H → t D σ H) : PS X st t' := ⟨fun pins s σ H D I q => h.run pins s σ H D I (i D σ H q)⟩
theorem pss_imp {st : List Stmt} {t t' : TS} (h : PSs X st t) (i : ∀ D σ H, t' D σ H → t D σ H) : PSs X st t' := ⟨fun pins s σ H D I q => h.run pins s σ H D I (i D σ H q)⟩
section
variable {st : Stmt} {rest a b : List Stmt} {w w' w1 w2 : WS} {we : WD} {wt : WT} {e c : Expr} {pos : Pos}
def wsNil : WS := fun P ρ => P.nx ρ
def wsSeq (w w' : WS) : WS := fun P ρ => w { P with nx := w' P } ρ
theorem pds_nil : PDSs X C [] wsNil := pss_imp pss_nil fun D σ H ⟨as, ρ, P, r, q, f, _⟩ => f as ρ σ H q r .refl
theorem pds_cons (h : PDS X C st w) (h' : PDSs X C rest w') : PDSs X C (st :: rest) (wsSeq w w') :=
  pss_imp (pss_cons h h') fun D σ H ⟨as, ρ, P, r, q, f1, f2, f3, f4⟩ => ⟨as, ρ, _, r, q, fun as1 ρ1 σ1 H1 q1 r1 s1 => ⟨as1, ρ1, P, r1, q1,
    fun as2 ρ2 σ2 H2 q2 r2 s2 => f1 as2 ρ2 σ2 H2 q2 r2 (s1.trans s2), fun d ρ2 v as2 σ2 H2 q2 r2 s2 => f2 d ρ2 v as2 σ2 H2 q2 r2 (s1.trans s2), fun as2 ρ2 σ2 H2 q2 r2 s2 => f3 as2 ρ2 σ2 H2 q2 r2 (s1.trans s2), fun as2 ρ2 σ2 H2 q2 r2 s2 => f4 as2 ρ2 σ2 H2 q2 r2 (s1.trans s2)⟩, f2, f3, f4⟩
theorem pds_one (h : PDS X C st w) : PDSs X C [st] (wsSeq w wsNil) := pds_cons h pds_nil
/-- x = e -/
def wsSet (i : Nat) (we : WD) : WS := fun P ρ => we ρ fun d ρ1 => P.nx (ρ1.set i (.d d))
theorem pds_set {i : Nat} {tg : Expr} (he : PD X C e we) (hg : PG X tg (gName i)) (hs : swapsWithSole [tg] e pos.line X.env = pure false := by rfl) (hw : swappedStores [tg] e X.env = pure none := by rfl)
    (h1 : (assignEach [tg] X.env).map (·.2) = [assign tg X.env] := by rfl) : PDS X C (.Assign [tg] e pos) (wsSet i we) :=
  ps_imp (ps_asg he hg hs hw h1) fun D σ H ⟨as, ρ, P, r, q, f1, _⟩ => ⟨as, ρ, _, r, q, fun d ρ1 v H1 q1 r1 k1 d1 => by
    obtain ⟨as', r2, sub⟩ := r1.setD i d1
    exact f1 as' _ _ H1 q1 r2 (k1.step.trans (.sub sub))⟩
/-- x = [..], a list that will be changed -/
def wsNew (i : Nat) (ws : WA) : WS := fun P ρ => ws ρ fun ds ρ1 => ds.length ≤ 1000 ∧ P.nx (ρ1.set i (.own ds))
theorem pds_new {i : Nat} {tg : Expr} {es : List Expr} {p2 : Pos} {ws : WA} (he : PDA X C es ws) (hg : PG X tg (gName i)) (hs : swapsWithSole [tg] (.List es p2) pos.line X.env = pure false := by rfl) (hw : swappedStores [tg] (.List es p2) X.env = pure none := by rfl)
    (h1 : (assignEach [tg] X.env).map (·.2) = [assign tg X.env] := by rfl) : PDS X C (.Assign [tg] (.List es p2) pos) (wsNew i ws) :=
  ps_imp (ps_asg (pe_lst he) hg hs hw h1) fun D σ H ⟨as, ρ, P, r, q, f1, _⟩ => ⟨as, ρ, _, r, q, fun ds ρ1 vs H1 ⟨l, q1⟩ r1 k1 d1 => ⟨by rw [dps_len d1]; exact le_line l, fun p hp => by
    obtain ⟨as', r2, s2⟩ := r1.setOwn i hp d1
    exact f1 as' _ _ _ q1 r2 (k1.step.trans s2)⟩⟩
/-- ahead of a statement: an own list becomes data -/
def wsFreeze (i : Nat) (w : WS) : WS := fun P ρ => ∃ ds, ρ[i]? = some (.own ds) ∧ w P (ρ.set i (.d (.list ds)))
theorem pds_freeze {sts : List Stmt} (i : Nat) (h : PDSs X C sts w) : PDSs X C sts (wsFreeze i w) :=
  pss_imp h fun D σ H ⟨as, ρ, P, r, ⟨ds, e, q⟩, f1, f2, f3, f4⟩ => by
    obtain ⟨as', r2, sub⟩ := r.freeze e
    have s0 : Step C as H as' H := .sub sub
    exact ⟨as', _, P, r2, q, fun as2 ρ2 σ2 H2 q2 r2 s2 => f1 as2 ρ2 σ2 H2 q2 r2 (s0.trans s2), fun d ρ2 v as2 σ2 H2 q2 r2 s2 => f2 d ρ2 v as2 σ2 H2 q2 r2 (s0.trans s2), fun as2 ρ2 σ2 H2 q2 r2 s2 => f3 as2 ρ2 σ2 H2 q2 r2 (s0.trans s2), fun as2 ρ2 σ2 H2 q2 r2 s2 => f4 as2 ρ2 σ2 H2 q2 r2 (s0.trans s2)⟩
/-- return e -/
def wsRet (we : WD) : WS := fun P ρ => we ρ P.rt
theorem pds_ret (he : PD X C e we) : PDS X C (.Return (some e) pos) (wsRet we) :=
  ps_imp (ps_ret he) fun D σ H ⟨as, ρ, P, r, q, _, f2, _⟩ => ⟨as, ρ, _, r, q, fun d ρ1 v H1 q1 r1 k1 d1 => f2 d ρ1 v as σ H1 q1 r1 k1.step d1⟩
/-- if t: a else: b -/
def wsIf (wt : WT) (w1 w2 : WS) : WS := fun P ρ => wt ρ fun b ρ1 => if b = true then w1 P ρ1 else w2 P ρ1
theorem pds_if (hc : PDT X C c wt) (ha : PDSs X C a w1) (hb : PDSs X C b w2) : PDS X C (.If c a b pos) (wsIf wt w1 w2) :=
  ps_imp (ps_if hc ha hb) fun D σ H ⟨as, ρ, P, r, q, f1, f2, f3, f4⟩ => ⟨as, ρ, _, r, q, fun t ρ1 H1 q1 r1 k1 => by
    have s0 := k1.step
    cases t with
    | true => exact iteT ⟨as, ρ1, P, r1, q1, fun as2 ρ2 σ2 H2 q2 r2 s2 => f1 as2 ρ2 σ2 H2 q2 r2 (s0.trans s2), fun d ρ2 v as2 σ2 H2 q2 r2 s2 => f2 d ρ2 v as2 σ2 H2 q2 r2 (s0.trans s2), fun as2 ρ2 σ2 H2 q2 r2 s2 => f3 as2 ρ2 σ2 H2 q2 r2 (s0.trans s2), fun as2 ρ2 σ2 H2 q2 r2 s2 => f4 as2 ρ2 σ2 H2 q2 r2 (s0.trans s2)⟩
    | false => exact iteF ⟨as, ρ1, P, r1, q1, fun as2 ρ2 σ2 H2 q2 r2 s2 => f1 as2 ρ2 σ2 H2 q2 r2 (s0.trans s2), fun d ρ2 v as2 σ2 H2 q2 r2 s2 => f2 d ρ2 v as2 σ2 H2 q2 r2 (s0.trans s2), fun as2 ρ2 σ2 H2 q2 r2 s2 => f3 as2 ρ2 σ2 H2 q2 r2 (s0.trans s2), fun as2 ρ2 σ2 H2 q2 r2 s2 => f4 as2 ρ2 σ2 H2 q2 r2 (s0.trans s2)⟩⟩
/-- a statement that is never reached -/
def wsNo : WS := fun _ _ => False
theorem pds_no {st : Stmt} : PDS X C st wsNo := ⟨fun _ _ _ _ _ _ ⟨_, _, _, _, q, _⟩ => q.elim⟩
theorem pdss_no {st : List Stmt} : PDSs X C st wsNo := ⟨fun _ _ _ _ _ _ ⟨_, _, _, _, q, _⟩ => q.elim⟩
def wsBk : WS := fun P ρ => P.bk ρ
def wsCt : WS := fun P ρ => P.ct ρ
theorem pds_break : PDS X C (.Break pos) wsBk := ps_imp ps_break fun D σ H ⟨as, ρ, P, r, q, _, _, f3, _⟩ => f3 as ρ σ H q r .refl
theorem pds_continue : PDS X C (.Continue pos) wsCt := ps_imp ps_continue fun D σ H ⟨as, ρ, P, r, q, _, _, _, f4⟩ => f4 as ρ σ H q r .refl
/-- while t: body -/
def wsWhile (wt : WT) (wb : WS) : WS := fun P ρ => ∃ (I : Env → Prop) (μ : Env → Nat), I ρ ∧ ∀ ρ, I ρ → wt ρ fun b ρ1 => if b = true then wb { P with nx := fun ρ' => I ρ' ∧ μ ρ' < μ ρ, ct := fun ρ' => I ρ' ∧ μ ρ' < μ ρ, bk := P.nx } ρ1 else P.nx ρ1
theorem pds_while {body : List Stmt} {wb : WS} (hp : PassesOwn (model X.prog X.w) X.A X.env X.xe) (hc : PDT X C c wt) (hb : PDSs X C body wb) : PDS X C (.While c body [] pos) (wsWhile wt wb) :=
  ps_imp (ps_while hp hc hb) fun D σ H ⟨as, ρ, P, r, ⟨I, μ, h0, hs⟩, f1, f2, f3, f4⟩ =>
    ⟨fun m σ' H' => ∃ as' ρ', Rep X.K C as' H' σ' ρ' ∧ Step C as H as' H' ∧ I ρ' ∧ μ ρ' = m, ⟨μ ρ, as, ρ, r, .refl, h0, rfl⟩, fun m σ' H' ⟨as', ρ', r', s', i', e'⟩ => ⟨as', ρ', _, r', hs ρ' i', fun t ρ1 H1 q1 r1 k1 => by
      have s1 := s'.trans k1.step
      cases t with
      | false => exact iteF (f1 as' ρ1 σ' H1 q1 r1 s1)
      | true =>
        refine iteT ⟨fun σ'' H'' => ∃ as'' ρ'', Rep X.K C as'' H'' σ'' ρ'' ∧ Step C as H as'' H'' ∧ I ρ'' ∧ μ ρ'' < m, fun σ'' H'' ⟨as'', ρ'', p1, p2, p3, p4⟩ => ⟨_, p4, as'', ρ'', p1, p2, p3, rfl⟩, as', ρ1, _, r1, q1, ?_, ?_, ?_, ?_⟩
        · exact fun as2 ρ2 σ2 H2 q2 r2 s2 => ⟨as2, ρ2, r2, s1.trans s2, q2.1, e' ▸ q2.2⟩
        · exact fun d ρ2 v as2 σ2 H2 q2 r2 s2 => f2 d ρ2 v as2 σ2 H2 q2 r2 (s1.trans s2)
        · exact fun as2 ρ2 σ2 H2 q2 r2 s2 => f1 as2 ρ2 σ2 H2 q2 r2 (s1.trans s2)
        · exact fun as2 ρ2 σ2 H2 q2 r2 s2 => ⟨as2, ρ2, r2, s1.trans s2, q2.1, e' ▸ q2.2⟩⟩⟩
end
end DL
set_option Elab.async false
set_option linter.all false
set_option maxRecDepth 100000
set_option maxHeartbeats 2000000
/-! Walks, targets, for, comprehensions over plain data. -/
namespace DL
open PySem PySem.Spec PyProof.Rows L2

/-! ### what is walked -/
/-- J gives ds, item by item, as long as what l0 leaves to be seen in H0 is kept -/
def Its (K : PySem.W.Frag) (l0 : List Addr) (H0 : Hp) (ds : List PyData) (J : It) : Prop :=
  ∃ (G : Hp → Prop) (Y : Nat → Hp → V → Hp → Prop), Walk J ds.length G Y ∧ (∀ l H, Same (hide H0 l0) (hide H l) → G H) ∧
    ∀ (j : Nat) (x : V) (l : List Addr) (H H' : Hp), j < ds.length → Same (hide H0 l0) (hide H l) → (∀ a, H a = none → a ∉ l) → Y j H x H' → Same H H' ∧ ∃ d, ds[j]? = some d ∧ Dq K (hide H' l) x d
abbrev WI := Env → (List PyData → Env → Prop) → Prop
def tDI (K : PySem.W.Frag) (C : Fx) (w : WI) : TI := fun σ H R => ∃ as ρ k, Rep K C as H σ ρ ∧ w ρ k ∧
  ∀ ds ρ' H' J, k ds ρ' → Rep K C as H' σ ρ' → Keep (as ++ C.N) H H' → Its K (as ++ C.N) H' ds J → R J H'
theorem pi_imp {X : Cx} {tg iter : Expr} {t t' : TI} (h : PI X tg iter t) (i : ∀ σ H R, t' σ H R → t σ H R) : PI X tg iter t' := ⟨fun pins s σ H R I q => h.run pins s σ H R I (i σ H R q)⟩
variable {X : Cx} {C : Fx}
def PDI (X : Cx) (C : Fx) (tg iter : Expr) (w : WI) : Prop := PI X tg iter (tDI X.K C w)
section
variable {K : PySem.W.Frag} {l0 : List Addr} {H0 : Hp} {a b : Addr} {xs ys : List V} {ds es : List PyData}
theorem its_list (h : SqL K (hide H0 l0) a xs) (t : DqAll K (hide H0 l0) xs ds) : Its K l0 H0 ds (Itl K a) := by
  refine ⟨_, _, by rw [← dps_len t]; exact walk_list (K := K) (a := a) (xs := xs), fun l H s => seqL_un (s.seq h), fun j x l H H' hj s _ y => ?_⟩
  obtain ⟨e, q⟩ := y
  subst e
  obtain ⟨d, h1, h2⟩ := dps_get' t q
  exact ⟨Same.refl _, d, h1, dp_mono s h2⟩
theorem its_tup (h : SqT K (hide H0 l0) a xs) (t : DqAll K (hide H0 l0) xs ds) : Its K l0 H0 ds (Itt K a) := by
  refine ⟨_, _, by rw [← dps_len t]; exact walk_tup (K := K) (a := a) (xs := xs), fun l H s => seqT_un (seqT s h), fun j x l H H' hj s _ y => ?_⟩
  obtain ⟨e, q⟩ := y
  subst e
  obtain ⟨d, h1, h2⟩ := dps_get' t q
  exact ⟨Same.refl _, d, h1, dp_mono s h2⟩
def rangeD (lo : Int) (n : Nat) : List PyData := (List.range n).map fun j => .int (lo + (j : Nat))
theorem rangeD_len (lo : Int) (n : Nat) : (rangeD lo n).length = n := by simp [rangeD]
theorem rangeD_get {lo : Int} {n j : Nat} (h : j < n) : (rangeD lo n)[j]? = some (.int (lo + (j : Nat))) := by simp [rangeD, h]
theorem its_range (lo : Int) (n : Nat) : Its K l0 H0 (rangeD lo n) (Itr lo n) := by
  refine ⟨_, _, by rw [rangeD_len]; exact walk_range, fun _ _ _ => trivial, fun j x l H H' hj s _ y => ?_⟩
  obtain ⟨e, q⟩ := y
  subst e
  subst q
  rw [rangeD_len] at hj
  exact ⟨Same.refl _, _, rangeD_get hj, .int _⟩
def rangeC (lo c : Int) (n : Nat) : List PyData := (List.range n).map fun j => .int (lo + (j : Nat) * c)
theorem its_rangeC (lo c : Int) (n : Nat) : Its K l0 H0 (rangeC lo c n) (Itc lo c n) := by
  have hl : (rangeC lo c n).length = n := by simp [rangeC]
  refine ⟨_, _, by rw [hl]; exact walk_rangeC, fun _ _ _ => trivial, fun j x l H H' hj s _ y => ?_⟩
  obtain ⟨e, q⟩ := y
  subst e
  subst q
  rw [hl] at hj
  exact ⟨Same.refl _, _, by simp [rangeC, hj], .int _⟩
theorem dq_pair {l : List Addr} {H : Hp} {T : Addr} {x y : V} {d e : PyData} (hT : H T = none) (ht : T ∉ l) (h1 : Dq K (hide H l) x d) (h2 : Dq K (hide H l) y e) : Dq K (hide (upd H T (.tup [x, y])) l) (.ref T) (.tuple [d, e]) :=
  .tup (SqT.of (by rw [hide_out ht]; exact upd_same)) (.cons (dp_mono (hide_mono (same_new hT _)) h1) (.cons (dp_mono (hide_mono (same_new hT _)) h2) .nil))
def zipD (ds es : List PyData) : List PyData := List.zipWith (fun d e => .tuple [d, e]) ds es
theorem its_zip (h1 : SqL K (hide H0 l0) a xs) (t1 : DqAll K (hide H0 l0) xs ds) (h2 : SqL K (hide H0 l0) b ys) (t2 : DqAll K (hide H0 l0) ys es) : Its K l0 H0 (zipD ds es) (Itz K a b) := by
  have hl : (zipD ds es).length = min xs.length ys.length := by rw [zipD, List.length_zipWith, dps_len t1, dps_len t2]
  refine ⟨fun H => SqL K H a xs ∧ SqL K H b ys, YPair (fun i => xs[i]?) (fun i => ys[i]?), by rw [hl]; exact walk_zip (K := K) (a := a) (b := b) (xs := xs) (ys := ys) rfl, fun l H s => ⟨seqL_un (s.seq h1), seqL_un (s.seq h2)⟩, fun j x l H H' hj s hn y => ?_⟩
  obtain ⟨T, u, v, rfl, hT, rfl, q1, q2⟩ := y
  obtain ⟨d, g1, g2⟩ := dps_get' t1 q1
  obtain ⟨e, g3, g4⟩ := dps_get' t2 q2
  exact ⟨same_new hT _, .tuple [d, e], by simp [zipD, List.getElem?_zipWith, g1, g3], dq_pair hT (hn T hT) (dp_mono s g2) (dp_mono s g4)⟩
theorem its_zipT (h1 : SqT K (hide H0 l0) a xs) (t1 : DqAll K (hide H0 l0) xs ds) (h2 : SqT K (hide H0 l0) b ys) (t2 : DqAll K (hide H0 l0) ys es) : Its K l0 H0 (zipD ds es) (RZ.ItzT K a b) := by
  have hl : (zipD ds es).length = min xs.length ys.length := by rw [zipD, List.length_zipWith, dps_len t1, dps_len t2]
  refine ⟨fun H => SqT K H a xs ∧ SqT K H b ys, YPair (fun i => xs[i]?) (fun i => ys[i]?), ⟨?_, ?_, ?_⟩, fun l H s => ⟨seqT_un (seqT s h1), seqT_un (seqT s h2)⟩, fun j x l H H' hj s hn y => ?_⟩
  · intro i H hi ⟨p, q⟩
    rw [hl] at hi
    have i1 : i < xs.length := by omega
    have i2 : i < ys.length := by omega
    exact ⟨xs, ys, _, _, p, q, List.getElem?_eq_getElem i1, List.getElem?_eq_getElem i2⟩
  · intro H ⟨p, q⟩
    refine ⟨xs, ys, p, q, ?_⟩
    rw [hl]
    omega
  · intro i H x H' hi ⟨p, q⟩ y
    obtain ⟨T, u, v, e1, e2, e3, f1, f2⟩ := y
    exact ⟨T, u, v, e1, e2, e3, f1 xs p, f2 ys q⟩
  · obtain ⟨T, u, v, rfl, hT, rfl, q1, q2⟩ := y
    obtain ⟨d, g1, g2⟩ := dps_get' t1 q1
    obtain ⟨e, g3, g4⟩ := dps_get' t2 q2
    exact ⟨same_new hT _, .tuple [d, e], by simp [zipD, List.getElem?_zipWith, g1, g3], dq_pair hT (hn T hT) (dp_mono s g2) (dp_mono s g4)⟩
def enumD (ds : List PyData) : List PyData := ds.mapIdx fun j d => .tuple [.int (j : Nat), d]
theorem its_enum (h1 : SqL K (hide H0 l0) a xs) (t1 : DqAll K (hide H0 l0) xs ds) : Its K l0 H0 (enumD ds) (Ite K a) := by
  have hl : (enumD ds).length = xs.length := by simp [enumD, dps_len t1]
  refine ⟨_, _, by rw [hl]; exact walk_enum (K := K) (a := a) (xs := xs), fun l H s => seqL_un (s.seq h1), fun j x l H H' hj s hn y => ?_⟩
  obtain ⟨T, u, v, rfl, hT, rfl, q1, q2⟩ := y
  obtain ⟨d, g1, g2⟩ := dps_get' t1 q2
  have q1' : V.int (j : Nat) = u := Option.some.inj q1
  subst q1'
  exact ⟨same_new hT _, .tuple [.int (j : Nat), d], by simp [enumD, g1], dq_pair hT (hn T hT) (.int _) (dp_mono s g2)⟩
end
section
variable {tg e : Expr} {we : WD} {p pos tpos : Pos} {kk : Nat} {elts : List Expr}
def wiL (we : WD) : WI := fun ρ k => we ρ fun d ρ1 => ∃ ds, d = .list ds ∧ k ds ρ1
def wiT (we : WD) : WI := fun ρ k => we ρ fun d ρ1 => ∃ ds, d = .tuple ds ∧ k ds ρ1
theorem pdi_L (h : PD X C e we) : PDI X C tg e (wiL we) :=
  pi_imp (pi_list h) fun σ H R ⟨as, ρ, k, r, q, f⟩ => ⟨as, ρ, _, r, q, fun d ρ1 v H1 ⟨ds, e, q1⟩ r1 k1 d1 => by
    subst e
    obtain ⟨a, xs, rfl, s, t⟩ := dq_lst d1
    exact ⟨a, rfl, ⟨xs, seqL_un s⟩, f ds ρ1 H1 _ q1 r1 k1 (its_list s t)⟩⟩
theorem pdi_T (h : PD X C e we) : PDI X C tg e (wiT we) :=
  pi_imp (pi_tup h) fun σ H R ⟨as, ρ, k, r, q, f⟩ => ⟨as, ρ, _, r, q, fun d ρ1 v H1 ⟨ds, e, q1⟩ r1 k1 d1 => by
    subst e
    obtain ⟨a, xs, rfl, s, t⟩ := dq_tup d1
    exact ⟨a, rfl, ⟨xs, seqT_un s⟩, f ds ρ1 H1 _ q1 r1 k1 (its_tup s t)⟩⟩
def wiR (ws : WA) : WI := fun ρ k => ws ρ fun ds ρ1 => ∃ j : Int, ds = [.int j] ∧ j ≤ 100000 ∧ -100000 ≤ j ∧ k (rangeD 0 j.toNat) ρ1
theorem pdi_R {ws : WA} (hg : Gl X "range") (hm : X.mg "range" = none) (ha : PDA X C [e] ws) (hs : starEach [e] X.env = [(false, eval e X.env)] := by rfl) : PDI X C tg (.Call (.Name "range" p) [e] [] pos) (wiR ws) :=
  pi_imp (pi_range1 hg hm ha hs) fun σ H R ⟨as, ρ, k, r, q, f⟩ => ⟨as, ρ, _, r, q, fun ds ρ1 vs H1 ⟨j, e, l1, l2, q1⟩ r1 k1 d1 => by
    subst e
    cases d1 with
    | cons h t =>
      cases t
      obtain rfl := dp_int h
      exact ⟨j, rfl, by omega, by omega, f _ ρ1 H1 _ q1 r1 k1 (its_range 0 j.toNat)⟩⟩
def wiZ (ws : WA) : WI := fun ρ k => ws ρ fun ds ρ1 => (∃ as bs, ds = [.list as, .list bs] ∧ k (zipD as bs) ρ1) ∨ ∃ as bs, ds = [.tuple as, .tuple bs] ∧ k (zipD as bs) ρ1
theorem pdi_Z {e2 : Expr} {ws : WA} (hg : Gl X "zip") (hm : X.mg "zip" = none) (ha : PDA X C [e, e2] ws) (hs : starEach [e, e2] X.env = (false, eval e X.env) :: starEach [e2] X.env := by rfl) (hpl : (backTo pos (starEach [e2] X.env)).any (·.1) = false := by rfl) :
    PDI X C (.Tuple elts kk tpos) (.Call (.Name "zip" p) [e, e2] [] pos) (wiZ ws) :=
  pi_imp (RZ.pi_zipA hg hm ha hs hpl) fun σ H R ⟨as, ρ, k, r, q, f⟩ => ⟨as, ρ, _, r, q, fun ds ρ1 vs H1 q1 r1 k1 d1 => by
    rcases q1 with ⟨x, y, e, q1⟩ | ⟨x, y, e, q1⟩
    · subst e
      cases d1 with
      | cons h t =>
        cases t with
        | cons h' t =>
          cases t
          obtain ⟨a, xs, rfl, s1, t1⟩ := dq_lst h
          obtain ⟨b, ys, rfl, s2, t2⟩ := dq_lst h'
          exact ⟨a, b, xs, ys, rfl, .inl ⟨seqL_un s1, seqL_un s2, f _ ρ1 H1 _ q1 r1 k1 (its_zip s1 t1 s2 t2)⟩⟩
    · subst e
      cases d1 with
      | cons h t =>
        cases t with
        | cons h' t =>
          cases t
          obtain ⟨a, xs, rfl, s1, t1⟩ := dq_tup h
          obtain ⟨b, ys, rfl, s2, t2⟩ := dq_tup h'
          exact ⟨a, b, xs, ys, rfl, .inr ⟨seqT_un s1, seqT_un s2, f _ ρ1 H1 _ q1 r1 k1 (its_zipT s1 t1 s2 t2)⟩⟩⟩
def wiE (ws : WA) : WI := fun ρ k => ws ρ fun ds ρ1 => ∃ xs, ds = [.list xs] ∧ k (enumD xs) ρ1
theorem pdi_E {ws : WA} (hg : Gl X "enumerate") (hm : X.mg "enumerate" = none) (ha : PDA X C [e] ws) (hs : starEach [e] X.env = [(false, eval e X.env)] := by rfl) : PDI X C (.Tuple elts kk tpos) (.Call (.Name "enumerate" p) [e] [] pos) (wiE ws) :=
  pi_imp (pi_enum hg hm ha hs) fun σ H R ⟨as, ρ, k, r, q, f⟩ => ⟨as, ρ, _, r, q, fun ds ρ1 vs H1 ⟨xs, e, q1⟩ r1 k1 d1 => by
    subst e
    cases d1 with
    | cons h t =>
      cases t
      obtain ⟨a, ys, rfl, s, t⟩ := dq_lst h
      exact ⟨a, ys, rfl, seqL_un s, f _ ρ1 H1 _ q1 r1 k1 (its_enum s t)⟩⟩
end

/-! ### targets -/
theorem wipe_at (σ : L2.St) : ∀ (us : List Nat) (j : Nat), (wipe σ us)[j]? = if j ∈ us ∧ j < σ.length then some none else σ[j]?
  | [], j => by simp [wipe]
  | v :: us, j => by
    unfold wipe
    rw [List.getElem?_set, wipe_at σ us j, wipe_length]
    by_cases c : v = j
    · subst c
      by_cases l : v < σ.length
      · simp [l]
      · simp [l]
    · have c' : j ≠ v := fun z => c z.symm
      simp [c, c']
theorem wipe_set {σ : L2.St} {us : List Nat} {i : Nat} {x : Option V} (h : i ∈ us) : wipe (σ.set i x) us = wipe σ us := by
  refine List.ext_getElem? fun j => ?_
  rw [wipe_at, wipe_at, List.length_set, List.getElem?_set]
  by_cases c : i = j
  · subst c
    by_cases l : i < σ.length
    · simp [h, l]
    · simp [h, l]
  · simp [c]
theorem wipe_wipe {σ : L2.St} {us : List Nat} : wipe (wipe σ us) us = wipe σ us := by
  refine List.ext_getElem? fun j => ?_
  rw [wipe_at, wipe_at, wipe_length]
  by_cases c : j ∈ us ∧ j < σ.length
  · simp [c]
  · simp [c]
/-- no own list stands in these slots -/
def noOwn (ρ : Env) (vs : List Nat) : Bool := vs.all fun i => match ρ[i]? with
  | some (.obj _) => false
  | _ => true
theorem noOwn_at {ρ : Env} {vs : List Nat} (h : noOwn ρ vs = true) {i : Nat} (hi : i ∈ vs) (ds : OD) : ρ[i]? ≠ some (.obj ds) := fun z => by
  have q := List.all_eq_true.mp h i hi
  rw [z] at q
  cases q
theorem noOwn_of {ρ : Env} {vs : List Nat} (h : ∀ i ∈ vs, ∀ ds, ρ[i]? ≠ some (.obj ds)) : noOwn ρ vs = true := List.all_eq_true.mpr fun i hi => by
  have q := h i hi
  cases e : ρ[i]? with
  | none => rfl
  | some sl =>
    cases sl with
    | obj ds => exact absurd e (q ds)
    | un => rfl
    | d _ => rfl
    | urn _ => rfl
theorem noOwn_set {ρ : Env} {vs : List Nat} {i : Nat} {sl : Slot} (h : noOwn ρ vs = true) (hs : ∀ ds, sl ≠ .obj ds) : noOwn (ρ.set i sl) vs = true := noOwn_of fun j hj ds z => by
  rw [List.getElem?_set] at z
  by_cases c : i = j
  · subst c
    by_cases l : i < ρ.length
    · simp [l] at z; exact hs ds z
    · simp [l] at z
  · simp [c] at z; exact noOwn_at h hj ds z
theorem RepS.setK {K : PySem.W.Frag} {G H : Hp} {U as : List Addr} {σ : List (Option V)} {ρ : Env} {x : Option V} {sl : Slot} (hs : ∀ {σ ρ as}, RepS K G H U σ ρ as → RepS K G H U (x :: σ) (sl :: ρ) as) (r : RepS K G H U σ ρ as) :
    ∀ (i : Nat), (∀ ds, ρ[i]? ≠ some (.obj ds)) → RepS K G H U (σ.set i x) (ρ.set i sl) as := by
  induction r with
  | nil => intro i _; exact .nil
  | un t ih =>
    intro i h
    cases i with
    | zero => exact hs t
    | succ i => exact .un (ih i fun ds z => h ds (by simpa using z))
  | d q t ih =>
    intro i h
    cases i with
    | zero => exact hs t
    | succ i => exact .d q (ih i fun ds z => h ds (by simpa using z))
  | obj h1 h2 h3 t ih =>
    intro i h
    cases i with
    | zero => exact absurd rfl (h _)
    | succ i => exact .obj h1 h2 h3 (ih i fun ds z => h ds (by simpa using z))
  | urn h1 h2 t ih =>
    intro i h
    cases i with
    | zero => exact hs t
    | succ i => exact .urn h1 h2 (ih i fun ds z => h ds (by simpa using z))
abbrev WG := PyData → Env → (Env → Prop) → Prop
/-- what a target does; vs: the slots it stores into -/
def tDG (K : PySem.W.Frag) (w : WG) (vs : List Nat) : TG := fun v σ H Q => ∃ C as ρ d k, Rep K C as H σ ρ ∧ Dq K (hide H (as ++ C.N)) v d ∧ w d ρ k ∧
  ∀ as' ρ' σ', k ρ' → Rep K C as' H σ' ρ' → (∀ a ∈ as', a ∈ as) → (noOwn ρ vs = true → as' = as) → (∀ ws, noOwn ρ ws = true → noOwn ρ' ws = true) → (∀ us, (∀ i ∈ vs, i ∈ us) → wipe σ' us = wipe σ us) → Q σ' H
theorem pg_imp {tg : Expr} {t t' : TG} (h : PG X tg t) (i : ∀ v σ H Q, t' v σ H Q → t v σ H Q) : PG X tg t' := ⟨fun pins s σ H v u Q I r q => h.run pins s σ H v u Q I r (i v σ H Q q)⟩
def PDG (X : Cx) (tg : Expr) (w : WG) (vs : List Nat) : Prop := PG X tg (tDG X.K w vs)
def wgN (i : Nat) : WG := fun d ρ k => k (ρ.set i (.d d))
theorem pdg_n {tg : Expr} {i : Nat} (h : PG X tg (gName i)) : PDG X tg (wgN i) [i] :=
  pg_imp h fun v σ H Q ⟨C, as, ρ, d, k, r, hd, q, f⟩ => by
    have no : ∀ ws, noOwn ρ ws = true → noOwn (ρ.set i (.d d)) ws = true := fun ws h => noOwn_set h fun ds z => by cases z
    have wi : ∀ us, (∀ j ∈ [i], j ∈ us) → wipe (σ.set i (some v)) us = wipe σ us := fun us hu => wipe_set (hu i (List.mem_singleton.mpr rfl))
    by_cases c : noOwn ρ [i] = true
    · have r' : Rep X.K C as H (σ.set i (some v)) (ρ.set i (.d d)) := ⟨r.rep.setK (fun t => .d hd t) i (noOwn_at c (List.mem_singleton.mpr rfl)), r.ent, r.own, r.hid, r.unn⟩
      exact f as _ _ q r' (fun _ h => h) (fun _ => rfl) no wi
    · obtain ⟨as', r', sub⟩ := r.setD i hd
      exact f as' _ _ q r' sub (fun z => absurd z c) no wi
/-- several targets -/
abbrev WGs := List PyData → Env → (Env → Prop) → Prop
def tDGs (K : PySem.W.Frag) (w : WGs) (vs : List Nat) : TGs := fun us σ H Q => ∃ C as ρ ds k, Rep K C as H σ ρ ∧ DqAll K (hide H (as ++ C.N)) us ds ∧ w ds ρ k ∧
  ∀ as' ρ' σ', k ρ' → Rep K C as' H σ' ρ' → (∀ a ∈ as', a ∈ as) → (noOwn ρ vs = true → as' = as) → (∀ ws, noOwn ρ ws = true → noOwn ρ' ws = true) → (∀ us, (∀ i ∈ vs, i ∈ us) → wipe σ' us = wipe σ us) → Q σ' H
def PDGs (X : Cx) (tgs : List Expr) (w : WGs) (vs : List Nat) : Prop := PGs X tgs (tDGs X.K w vs)
theorem pgs_imp {tgs : List Expr} {t t' : TGs} (h : PGs X tgs t) (i : ∀ v σ H Q, t' v σ H Q → t v σ H Q) : PGs X tgs t' := ⟨fun pins s σ H v u Q I r q => h.run pins s σ H v u Q I r (i v σ H Q q)⟩
def wgsNil : WGs := fun ds ρ k => ds = [] ∧ k ρ
def wgsCons (w : WG) (ws : WGs) : WGs := fun ds ρ k => ∃ d r, ds = d :: r ∧ w d ρ fun ρ1 => ws r ρ1 k
theorem pdgs_nil : PDGs X [] wgsNil [] := pgs_imp pgs_nil fun v σ H Q ⟨C, as, ρ, ds, k, r, hd, ⟨e, q⟩, f⟩ => by
  subst e
  exact ⟨dqs_nil hd, f as ρ σ q r (fun _ h => h) (fun _ => rfl) (fun _ h => h) fun _ _ => rfl⟩
theorem pdgs_cons {tg : Expr} {tgs : List Expr} {w : WG} {ws : WGs} {vs us : List Nat} (h : PDG X tg w vs) (h' : PDGs X tgs ws us)
    (hs : (assignEach (tg :: tgs) X.env).map (·.2) = assign tg X.env :: (assignEach tgs X.env).map (·.2) := by rfl) : PDGs X (tg :: tgs) (wgsCons w ws) (vs ++ us) :=
  pgs_imp (pgs_cons h h' hs) fun v σ H Q ⟨C, as, ρ, ds, k, r, hd, ⟨d, ds', e, q⟩, f⟩ => by
    subst e
    cases hd with
    | cons hd ht =>
      refine ⟨_, _, rfl, C, as, ρ, d, _, r, hd, q, fun as1 ρ1 σ1 q1 r1 s1 e1 n1 u1 => ⟨C, as1, ρ1, ds', _, r1, dps_mono (hide_sub (mem_sub s1)) ht, q1, fun as2 ρ2 σ2 q2 r2 s2 e2 n2 u2 => ?_⟩⟩
      refine f as2 ρ2 σ2 q2 r2 (fun a z => s1 a (s2 a z)) (fun z => ?_) (fun w z => n2 w (n1 w z)) fun w hw => ?_
      · have z1 : noOwn ρ vs = true := noOwn_of fun i hi => noOwn_at z (List.mem_append_left _ hi)
        have z2 : noOwn ρ us = true := noOwn_of fun i hi => noOwn_at z (List.mem_append_right _ hi)
        exact (e2 (n1 us z2)).trans (e1 z1)
      exact (u2 w fun i hi => hw i (List.mem_append_right _ hi)).trans (u1 w fun i hi => hw i (List.mem_append_left _ hi))
def wgT (n : Nat) (ws : WGs) : WG := fun d ρ k => ∃ ds, d = .tuple ds ∧ ds.length = n ∧ ws ds ρ k
theorem pdg_t {tgs : List Expr} {kk : Nat} {pos : Pos} {ws : WGs} {vs : List Nat} {n : Nat} (hc : X.calm = true) (h : PDGs X tgs ws vs) (hn : (assignEach tgs X.env).length = n := by rfl) (hf : (assignEach tgs X.env).findIdx? (·.1) = none := by rfl) : PDG X (.Tuple tgs kk pos) (wgT n ws) vs :=
  pg_imp (pg_tup hc h hn hf) fun v σ H Q ⟨C, as, ρ, d, k, r, hd, ⟨ds, e, l, q⟩, f⟩ => by
    subst e
    obtain ⟨a, xs, rfl, s, t⟩ := dq_tup hd
    exact ⟨a, xs, rfl, seqT_un s, (dps_len t).trans l, C, as, ρ, ds, k, r, t, q, f⟩
/-- a, b = e -/
def wsAsg (we : WD) (wg : WG) : WS := fun P ρ => we ρ fun d ρ1 => wg d ρ1 P.nx
theorem pds_asg {tg e : Expr} {pos : Pos} {we : WD} {wg : WG} {vs : List Nat} (he : PD X C e we) (hg : PDG X tg wg vs) (hs : swapsWithSole [tg] e pos.line X.env = pure false := by rfl) (hw : swappedStores [tg] e X.env = pure none := by rfl)
    (h1 : (assignEach [tg] X.env).map (·.2) = [assign tg X.env] := by rfl) : PDS X C (.Assign [tg] e pos) (wsAsg we wg) :=
  ps_imp (ps_asg he hg hs hw h1) fun D σ H ⟨as, ρ, P, r, q, f1, _⟩ => ⟨as, ρ, _, r, q, fun d ρ1 v H1 q1 r1 k1 d1 => ⟨C, as, ρ1, d, _, r1, d1, q1, fun as' ρ' σ' q' r' sub _ _ _ => f1 as' ρ' σ' H1 q' r' (k1.step.trans (.sub sub))⟩⟩

/-! ### for -/
def wsFor (wi : WI) (wg : WG) (wb : WS) : WS := fun P ρ => wi ρ fun ds ρ1 => ∃ I : Nat → Env → Prop, I 0 ρ1 ∧
  (∀ j d ρ, ds[j]? = some d → I j ρ → wg d ρ fun ρ' => wb { P with nx := I (j + 1), ct := I (j + 1), bk := P.nx } ρ') ∧ ∀ ρ, I ds.length ρ → P.nx ρ
theorem Rep.free {K : PySem.W.Frag} {as : List Addr} {H : Hp} {σ : List (Option V)} {ρ : Env} (r : Rep K C as H σ ρ) : ∀ a, H a = none → a ∉ as ++ C.N := fun a h => not_hid r h
theorem pds_for {tg iter : Expr} {body : List Stmt} {pos : Pos} {wi : WI} {wg : WG} {wb : WS} {vs : List Nat} (hp : PassesOwn (model X.prog X.w) X.A X.env X.xe) (hc : X.calm = true) (hi : PDI X C tg iter wi) (hg : PDG X tg wg vs) (hb : PDSs X C body wb)
    (hs : ∀ x, foldedSetIterable iter X.env x = pure x := by intro _; rfl) : PDS X C (.For tg iter body [] pos) (wsFor wi wg wb) :=
  ps_imp (ps_for hp hc hi hg hb hs) fun D σ H ⟨as, ρ, P, r, q, f1, f2, f3, f4⟩ => ⟨as, ρ, _, r, q, fun ds ρ1 H1 J ⟨I, h0, hst, hd⟩ r1 k1 ⟨G, Y, w, hG, hY⟩ => by
    refine for_it w (fun j σ' H' => ∃ as' ρ', Rep X.K C as' H' σ' ρ' ∧ Step C as H1 as' H' ∧ I j ρ') ⟨as, ρ1, r1, .refl, h0⟩ (fun j σ' H' _ ⟨as', ρ', r', s', _⟩ => hG _ H' s'.see) ?_ fun σ' H' ⟨as', ρ', r', s', i'⟩ => f1 as' ρ' σ' H' (hd ρ' i') r' (k1.step.trans s')
    rintro j x σ' Hc H' hj ⟨as', ρ', r', s', i'⟩ y
    obtain ⟨sm, d, e, dq⟩ := hY j x (as' ++ C.N) Hc H' hj s'.see r'.free y
    have s2 : Step C as H1 as' H' := s'.trans (Keep.of sm).step
    refine ⟨C, as', ρ', d, _, r'.same sm, dq, hst j d ρ' e i', fun as2 ρ2 σ2 q2 r2 sub _ _ _ => ?_⟩
    have s3 : Step C as H1 as2 H' := s2.trans (.sub sub)
    refine ⟨as2, ρ2, _, r2, q2, ?_, ?_, ?_, ?_⟩
    · exact fun as3 ρ3 σ3 H3 q3 r3 s4 => ⟨as3, ρ3, r3, s3.trans s4, q3⟩
    · exact fun d3 ρ3 v as3 σ3 H3 q3 r3 s4 => f2 d3 ρ3 v as3 σ3 H3 q3 r3 (k1.step.trans (s3.trans s4))
    · exact fun as3 ρ3 σ3 H3 q3 r3 s4 => f1 as3 ρ3 σ3 H3 q3 r3 (k1.step.trans (s3.trans s4))
    · exact fun as3 ρ3 σ3 H3 q3 r3 s4 => ⟨as3, ρ3, r3, s3.trans s4, q3⟩⟩
end DL
set_option Elab.async false
set_option linter.all false
set_option maxRecDepth 100000
set_option maxHeartbeats 2000000
/-! Comprehensions, methods of own lists, defs, over plain data. -/
namespace DL
open PySem PySem.Spec PyProof.Rows L2
variable {X : Cx} {C : Fx}

/-! ### comprehensions -/
/-- a comprehension's names are nothing outside it -/
def unE (ρ : Env) : List Nat → Env
  | [] => ρ
  | v :: vs => (unE ρ vs).set v .un
section
variable {K : PySem.W.Frag} {G H : Hp} {U as : List Addr} {σ : List (Option V)} {ρ : Env}
theorem RepS.any (r : RepS K G H U σ ρ as) (x : Option V) : ∀ {i : Nat}, ρ[i]? = some .un → RepS K G H U (σ.set i x) ρ as := by
  induction r with
  | nil => intro i e; simp at e
  | un t ih =>
    intro i e
    cases i with
    | zero => exact .un t
    | succ i => exact .un (ih (by simpa using e))
  | d h t ih =>
    intro i e
    cases i with
    | zero => simp at e
    | succ i => exact .d h (ih (by simpa using e))
  | obj h1 h2 h3 t ih =>
    intro i e
    cases i with
    | zero => simp at e
    | succ i => exact .obj h1 h2 h3 (ih (by simpa using e))
  | urn h1 h2 t ih =>
    intro i e
    cases i with
    | zero => simp at e
    | succ i => exact .urn h1 h2 (ih (by simpa using e))
theorem RepS.wiped (r : RepS K G H U σ ρ as) : ∀ {vs : List Nat}, (∀ i ∈ vs, ρ[i]? = some .un) → RepS K G H U (wipe σ vs) ρ as
  | [], _ => r
  | v :: vs, h => (RepS.wiped r (vs := vs) fun i hi => h i (List.mem_cons_of_mem _ hi)).any none (h v (List.mem_cons_self ..))
theorem noOwn_unE {ρ : Env} {ws : List Nat} (h : noOwn ρ ws = true) : ∀ vs : List Nat, noOwn (unE ρ vs) ws = true
  | [] => h
  | v :: vs => noOwn_set (noOwn_unE h vs) fun ds z => by cases z
theorem RepS.unAll (r : RepS K G H U σ ρ as) : ∀ {vs : List Nat}, noOwn ρ vs = true → RepS K G H U (wipe σ vs) (unE ρ vs) as
  | [], _ => r
  | v :: vs, h => by
    have h1 : noOwn ρ vs = true := noOwn_of fun i hi => noOwn_at h (List.mem_cons_of_mem _ hi)
    have h2 : noOwn ρ [v] = true := noOwn_of fun i hi => noOwn_at h (by rw [List.mem_singleton.mp hi]; exact List.mem_cons_self ..)
    exact (RepS.unAll r h1).setK (fun t => .un t) v (noOwn_at (noOwn_unE h2 vs) (List.mem_singleton.mpr rfl))
theorem RepS.agree (r : RepS K G H U σ ρ as) : ∀ {σ' : List (Option V)}, σ'.length = σ.length → (∀ i : Nat, ρ[i]? = some .un ∨ σ'[i]? = σ[i]?) → RepS K G H U σ' ρ as := by
  induction r with
  | nil =>
    intro σ' l h
    cases σ' with
    | nil => exact .nil
    | cons _ _ => simp at l
  | un t ih =>
    intro σ' l h
    cases σ' with
    | nil => simp at l
    | cons y σ' => exact .un (ih (by simpa using l) fun i => by simpa using h (i + 1))
  | @d v d σ1 ρ1 as1 q t ih =>
    intro σ' l h
    cases σ' with
    | nil => simp at l
    | cons y σ' =>
      have e : y = some v := by simpa using h 0
      subst e
      exact .d q (ih (by simpa using l) fun i => by simpa using h (i + 1))
  | @obj b xs ds σ1 ρ1 as1 h1 h2 h3 t ih =>
    intro σ' l h
    cases σ' with
    | nil => simp at l
    | cons y σ' =>
      have e : y = some (V.ref b) := by simpa using h 0
      subst e
      exact .obj h1 h2 h3 (ih (by simpa using l) fun i => by simpa using h (i + 1))
  | @urn b n σ1 ρ1 as1 h1 h2 t ih =>
    intro σ' l h
    cases σ' with
    | nil => simp at l
    | cons y σ' =>
      have e : y = some (V.ref b) := by simpa using h 0
      subst e
      exact .urn h1 h2 (ih (by simpa using l) fun i => by simpa using h (i + 1))
theorem RepS.unwiped {vs : List Nat} (r : RepS K G H U (wipe σ vs) ρ as) (h : ∀ i ∈ vs, ρ[i]? = some .un) : RepS K G H U σ ρ as :=
  r.agree (wipe_length σ vs).symm fun i => by
    by_cases c : i ∈ vs
    · exact .inl (h i c)
    · exact .inr (wipe_out c).symm
end
def wLc (wi : WI) (wg : WG) (wt : WT) (we : WD) (vs : List Nat) : WD := fun ρ k => wi ρ fun ds ρ1 => (∀ i ∈ vs, ρ1[i]? = some .un) ∧ ∃ I : Nat → List PyData → Env → Prop, I 0 [] ρ1 ∧
  (∀ j d acc ρ, ds[j]? = some d → I j acc ρ → (∀ i ∈ vs, ρ[i]? = some .un) ∧ wg d ρ fun ρ2 => wt ρ2 fun b ρ3 => if b = true then we ρ3 fun y ρ4 => acc.length < 100000 ∧ noOwn ρ4 vs = true ∧ I (j + 1) (acc ++ [y]) (unE ρ4 vs) else noOwn ρ3 vs = true ∧ I (j + 1) acc (unE ρ3 vs)) ∧
  ∀ acc ρ, I ds.length acc ρ → (∀ i ∈ vs, ρ[i]? = some .un) ∧ k (.list acc) ρ
def wtYes : WT := fun ρ k => k true ρ
/-- whatever stands fast -/
def anyE (K : PySem.W.Frag) (w : WD) : TE := fun σ H Q => ∃ C, tD K C w σ H Q
def anyT (K : PySem.W.Frag) (w : WT) : TT := fun σ H Q => ∃ C, tDT K C w σ H Q
theorem any_yes {K : PySem.W.Frag} : ∀ σ H Q, anyT K wtYes σ H Q → tYes σ H Q := fun σ H Q ⟨C, as, ρ, k, r, q, f⟩ => f true ρ H q r (Keep.refl ..)
theorem lc_D {K : PySem.W.Frag} {wi : WI} {wg : WG} {wt : WT} {we : WD} {vs gs : List Nat} (hgs : ∀ i ∈ gs, i ∈ vs) : ∀ σ H Q, tD K C (wLc wi wg wt we vs) σ H Q → tLc (tDI K C wi) (tDG K wg gs) (anyT K wt) (anyE K we) vs σ H Q := by
  rintro σ H Q ⟨as, ρ, k, re, q, f⟩
  refine ⟨as, ρ, _, re, q, ?_⟩
  rintro ds ρ1 H1 J ⟨hun, I, h0, hst, hend⟩ r1 k1 ⟨G, Y, w, hG, hY⟩ D hD
  have DN : D ∉ as ++ C.N := not_hid r1 hD
  have DU : D ∉ C.U := fun z => DN (List.mem_append_right _ (r1.unn D z).1)
  have DHe : C.He D = none := by
    cases e : C.He D with
    | none => rfl
    | some o =>
      have := r1.ent D o DU e
      rw [hD] at this; cases this
  refine lc_it w (fun j Hc => ∃ ρ' acc xs, RepS K (hide Hc (as ++ D :: C.N)) Hc C.U (wipe σ vs) ρ' as ∧ SameBut C.U C.He Hc ∧ (∀ u ∈ C.U, Hc u ≠ none) ∧ Hc D = some (.lst xs) ∧
    DqAll K (hide Hc (as ++ D :: C.N)) xs acc ∧ I j acc ρ' ∧ Same (hide H1 (as ++ C.N)) (hide Hc (as ++ D :: C.N)) ∧ ∀ a, H1 a ≠ none → Hc a ≠ none) ?_ (fun j Hc _ ⟨ρ', acc, xs, _, _, _, _, _, _, s, _⟩ => hG _ Hc s) ?_ ?_
  · have s0 : Same (hide H1 (as ++ C.N)) (hide (upd H1 D (.lst [])) (as ++ D :: C.N)) := fun b o h => by
      obtain ⟨c, h⟩ := hide_some h
      have bD : b ≠ D := fun z => by rw [z, hD] at h; cases h
      rw [hide_out]
      · rw [upd_ne bD]; exact h
      · intro z
        rcases List.mem_append.mp z with z | z
        · exact c (List.mem_append_left _ z)
        · rcases List.mem_cons.mp z with z | z
          · exact bD z
          · exact c (List.mem_append_right _ z)
    refine ⟨ρ1, [], [], (RepS.wiped (r1.rep.mono s0 (fun a ha => ?_) fun u n hu hq => hq.move (upd_ne fun (z : u = D) => DU (z ▸ hu))) hun), fun b o c e => same_new hD _ b o (r1.ent b o c e), fun u hu => (Keep.new (l := []) hD _).all u (r1.unn u hu).2, upd_same, .nil, h0, s0, (Keep.new (l := []) hD _).all⟩
    exact upd_ne fun (z : a = D) => DN (List.mem_append_left _ (z ▸ ha))
  · rintro j x Hc H' hj ⟨ρ', acc, xs, rs, ent, unn, hx, dacc, hI, see, al⟩ y
    have hfree : ∀ a, Hc a = none → a ∉ as ++ D :: C.N := fun a h z => by
      rcases List.mem_append.mp z with z | z
      · obtain ⟨ys, e⟩ := rs.at a z
        rw [h] at e; cases e
      · rcases List.mem_cons.mp z with z | z
        · rw [z, hx] at h; cases h
        · exact al a (fun e => not_hid r1 e (List.mem_append_right _ z)) h
    obtain ⟨sm, d, e, dq⟩ := hY j x (as ++ D :: C.N) Hc H' hj see hfree y
    obtain ⟨hun', hst'⟩ := hst j d acc ρ' e hI
    let C' : Fx := ⟨D :: C.N, hide H' as, C.U⟩
    have asN : ∀ a ∈ as, a ∉ C.N := fun a ha z => r1.hid a z (r1.own a ha)
    have Das : D ∉ as := fun z => DN (List.mem_append_left _ z)
    have al' : ∀ a, Hc a ≠ none → H' a ≠ none := (Keep.of (l := []) sm).all
    have rr : Rep K C' as H' (wipe σ vs) ρ' := by
      refine ⟨rs.mono (hide_mono sm) (fun a ha => ?_) (fun u n _ hq => ?_), fun b o _ h => hide_same H' as b o h, fun a ha => hide_in ha, fun a ha => ?_, fun u hu => ⟨List.mem_cons_of_mem _ (r1.unn u hu).1, al' u (unn u hu)⟩⟩
      · obtain ⟨ys, e⟩ := rs.at a ha
        rw [e]; exact sm a _ e
      · obtain ⟨b, s, k, e, z⟩ := hq
        exact ⟨b, s, k, sm u _ e, z⟩
      · rcases List.mem_cons.mp ha with z | z
        · rw [z]
          show hide H' as D ≠ none
          rw [hide_out Das, sm D _ hx]
          exact fun z => by cases z
        · show hide H' as a ≠ none
          rw [hide_out (fun q => asN a q z)]
          exact al' a (al a fun e => not_hid r1 e (List.mem_append_right _ z))
    refine ⟨C', as, ρ', d, _, rr, dq, hst', ?_⟩
    rintro as2 ρ2 σ2 q2 r2 _ e2 _ wip
    have n1 : noOwn ρ' gs = true := noOwn_of fun i hi ds z => by rw [hun' i (hgs i hi)] at z; cases z
    obtain rfl : as2 = as := e2 n1
    have wp : wipe σ2 vs = wipe σ vs := (wip vs hgs).trans wipe_wipe
    refine ⟨wp, C', as2, ρ2, _, r2, q2, ?_⟩
    rintro b ρ3 H3 q3 r3 k3
    have fin : ∀ (H4 : Hp) (ρ4 : Env) (acc' : List PyData) (xs' : List V) (o : HO), o = .lst xs' → Rep K C' as2 H4 σ2 ρ4 → Same (hide H' (as2 ++ D :: C.N)) (hide H4 (as2 ++ D :: C.N)) → (∀ a, H' a ≠ none → H4 a ≠ none) →
        DqAll K (hide H4 (as2 ++ D :: C.N)) xs' acc' → noOwn ρ4 vs = true → I (j + 1) acc' (unE ρ4 vs) →
        ∃ ρ' acc xs, RepS K (hide (upd H4 D o) (as2 ++ D :: C.N)) (upd H4 D o) C.U (wipe σ vs) ρ' as2 ∧ SameBut C.U C.He (upd H4 D o) ∧ (∀ u ∈ C.U, (upd H4 D o) u ≠ none) ∧ (upd H4 D o) D = some (.lst xs) ∧
          DqAll K (hide (upd H4 D o) (as2 ++ D :: C.N)) xs acc ∧ I (j + 1) acc ρ' ∧ Same (hide H1 (as2 ++ C.N)) (hide (upd H4 D o) (as2 ++ D :: C.N)) ∧ ∀ a, H1 a ≠ none → (upd H4 D o) a ≠ none := by
      intro H4 ρ4 acc' xs' o eo r4 s4 al4 da no4 hI4
      subst eo
      have q5 := r4.rep.unAll no4
      rw [wp] at q5
      have hid2 : hide (upd H4 D (.lst xs')) (as2 ++ D :: C.N) = hide H4 (as2 ++ D :: C.N) := hide_upd (List.mem_append_right _ (List.mem_cons_self ..))
      have up : Same (hide H4 (as2 ++ D :: C.N)) (hide (upd H4 D (.lst xs')) (as2 ++ D :: C.N)) := by
        rw [hid2]; exact Same.refl _
      have s13 : Same (hide H1 (as2 ++ C.N)) (hide H' (as2 ++ D :: C.N)) := see.trans (hide_mono sm)
      have allu : ∀ a, H4 a ≠ none → upd H4 D (.lst xs') a ≠ none := fun a z => by
        by_cases c : a = D
        · rw [c, upd_same]; exact fun q => by cases q
        · rw [upd_ne c]; exact z
      refine ⟨unE ρ4 vs, acc', xs', q5.mono up (fun a ha => upd_ne fun (z : a = D) => Das (z ▸ ha)) (fun u n hu hq => hq.move (upd_ne fun (z : u = D) => DU (z ▸ hu))), ?_, fun u hu => allu u (r4.unn u hu).2, upd_same, dps_mono up da, hI4, s13.trans (s4.trans up), fun a z => allu a (al4 a (al' a (al a z)))⟩
      intro b o hb e
      have bD : b ≠ D := fun z => by rw [z, DHe] at e; cases e
      rw [upd_ne bD]
      refine r4.ent b o hb ?_
      show hide H' as2 b = some o
      rw [hide_out]
      · exact sm b o (ent b o hb e)
      · intro z
        rw [r1.own b z] at e
        cases e
    have at_D : ∀ (H4 : Hp) (ρ4 : Env), Rep K C' as2 H4 σ2 ρ4 → H4 D = some (.lst xs) := fun H4 ρ4 r4 => r4.ent D _ DU (by
      show hide H' as2 D = some (.lst xs)
      rw [hide_out Das]; exact sm D _ hx)
    have k3s : Same (hide H' (as2 ++ D :: C.N)) (hide H3 (as2 ++ D :: C.N)) := k3.see
    have dacc3 : DqAll K (hide H3 (as2 ++ D :: C.N)) xs acc := dps_mono ((hide_mono sm).trans k3s) dacc
    cases b with
    | true =>
      refine iteT ⟨C', as2, ρ3, _, r3, q3, ?_⟩
      rintro yd ρ4 v H4 ⟨ln, no4, hI4⟩ r4 k4 dy
      have k4s : Same (hide H3 (as2 ++ D :: C.N)) (hide H4 (as2 ++ D :: C.N)) := k4.see
      refine ⟨xs, at_D H4 ρ4 r4, ?_, fin H4 ρ4 (acc ++ [yd]) (xs ++ [v]) _ rfl r4 (k3s.trans k4s) (fun a z => k4.all a (k3.all a z)) (dps_append (dps_mono k4s dacc3) (.cons dy .nil)) no4 hI4⟩
      rw [dps_len dacc, sizeLine_eq]
      omega
    | false =>
      refine iteF ?_
      have z := fin H3 ρ3 acc xs (.lst xs) rfl r3 k3s k3.all dacc3 q3.1 q3.2
      have eu : upd H3 D (.lst xs) = H3 := by
        funext b
        by_cases c : b = D
        · rw [c, upd_same, at_D H3 ρ3 r3]
        · rw [upd_ne c]
      rw [eu] at z
      exact z
  · rintro Hc ⟨ρ', acc, xs, rs, ent, unn, hx, dacc, hI, see, al⟩
    obtain ⟨hun', hk⟩ := hend acc ρ' hI
    have more : Same (hide Hc (as ++ D :: C.N)) (hide Hc (as ++ C.N)) := hide_sub fun a z => (List.mem_append.mp z).elim (fun q => List.mem_append_left _ q) fun q => List.mem_append_right _ (List.mem_cons_of_mem _ q)
    refine f (.list acc) ρ' (.ref D) Hc hk ⟨(rs.unwiped hun').mono more (fun _ _ => rfl) fun _ _ _ h => h, ent, r1.own, r1.hid, fun u hu => ⟨(r1.unn u hu).1, unn u hu⟩⟩ (k1.trans ⟨see.trans more, al⟩) (.lst (SqL.of ?_) (dps_mono more dacc))
    rw [hide_out DN]; exact hx
/-! the rules -/
section
variable {elt tg iter : Expr} {ifs : List Expr} {scope : Scope} {own : List (Str × Nat)} {pos : Pos} {wi : WI} {wg : WG} {wt : WT} {we : WD} {gs : List Nat}
theorem pe_any {Y : Cx} {e : Expr} {w : WD} (h : ∀ C, PD Y C e w) : PE Y e (anyE Y.K w) := ⟨fun pins s σ H Q I ⟨C, q⟩ => (h C).run pins s σ H Q I q⟩
theorem pt_any {Y : Cx} {e : Expr} {w : WT} (h : ∀ C, PDT Y C e w) : PT Y e (anyT Y.K w) := ⟨fun pins s σ H Q I ⟨C, q⟩ => (h C).run pins s σ H Q I q⟩
theorem pts_imp {Y : Cx} {t t' : TT} (h : PTs Y ifs t) (i : ∀ σ H Q, t' σ H Q → t σ H Q) : PTs Y ifs t' := ⟨fun pins s σ H Q I q => h.run pins s σ H Q I (i σ H Q q)⟩
theorem pd_lc (hc : X.calm = true) (nd : X.N.Nodup) (hi : PDI X C tg iter wi) (hb : BlkOk X.N X.env.scope scope own)
    (hg : ∀ (s : Shared) (H : Hp) (Cc : Addr) (cl : List (Str × Addr)) (fp : List Addr), PDG (X.blk s H scope (compEnvC scope cl Cc X.env) fp) tg wg gs)
    (he : ∀ (s : Shared) (H : Hp) (Cc : Addr) (cl : List (Str × Addr)) (fp : List Addr) (C' : Fx), PD (X.blk s H scope (compEnvC scope cl Cc X.env) fp) C' elt we)
    (hgs : ∀ i ∈ gs, i ∈ own.map (·.2) := by decide) (hf : ∀ x : Value, foldedSetIterable iter X.env x = pure x := by intro _; rfl) :
    PD X C (.ListComp elt [⟨tg, iter, [], 0⟩] scope pos) (wLc wi wg wtYes we (own.map (·.2))) :=
  pe_imp (pe_lc (own := own) (g := tDG X.K wg gs) (tt := anyT X.K wtYes) (te := anyE X.K we) hc nd hi hb hg (fun s H Cc cl fp => pts_imp pts_nil any_yes) (fun s H Cc cl fp => pe_any (he s H Cc cl fp)) hf) (lc_D hgs)
theorem pd_lcIf {c : Expr} (hc : X.calm = true) (nd : X.N.Nodup) (hi : PDI X C tg iter wi) (hb : BlkOk X.N X.env.scope scope own)
    (hg : ∀ (s : Shared) (H : Hp) (Cc : Addr) (cl : List (Str × Addr)) (fp : List Addr), PDG (X.blk s H scope (compEnvC scope cl Cc X.env) fp) tg wg gs)
    (ht : ∀ (s : Shared) (H : Hp) (Cc : Addr) (cl : List (Str × Addr)) (fp : List Addr) (C' : Fx), PDT (X.blk s H scope (compEnvC scope cl Cc X.env) fp) C' c wt)
    (he : ∀ (s : Shared) (H : Hp) (Cc : Addr) (cl : List (Str × Addr)) (fp : List Addr) (C' : Fx), PD (X.blk s H scope (compEnvC scope cl Cc X.env) fp) C' elt we)
    (hgs : ∀ i ∈ gs, i ∈ own.map (·.2) := by decide) (hf : ∀ x : Value, foldedSetIterable iter X.env x = pure x := by intro _; rfl) :
    PD X C (.ListComp elt [⟨tg, iter, [c], 0⟩] scope pos) (wLc wi wg wt we (own.map (·.2))) :=
  pe_imp (pe_lc (own := own) (g := tDG X.K wg gs) (tt := anyT X.K wt) (te := anyE X.K we) hc nd hi hb hg (fun s H Cc cl fp => pts_one (pt_any (ht s H Cc cl fp))) (fun s H Cc cl fp => pe_any (he s H Cc cl fp)) hf) (lc_D hgs)
/-- y = [..] -/
theorem pds_lc {i : Nat} {y : Str} {py spos : Pos} (hc : X.calm = true) (nd : X.N.Nodup) (hN : X.N[i]? = some y) (hl : X.env.scope.names.lookup y = some .local) (hsw : swapsWith (.ListComp elt [⟨tg, iter, [], 0⟩] scope pos) (some (.Name y py)) spos.line X.env = pure true)
    (hi : PDI X C tg iter wi) (hb : BlkOk X.N X.env.scope scope own) (hg : ∀ (s : Shared) (H : Hp) (Cc : Addr) (cl : List (Str × Addr)) (fp : List Addr), PDG (X.blk s H scope (compEnvC scope cl Cc X.env) fp) tg wg gs)
    (he : ∀ (s : Shared) (H : Hp) (Cc : Addr) (cl : List (Str × Addr)) (fp : List Addr) (C' : Fx), PD (X.blk s H scope (compEnvC scope cl Cc X.env) fp) C' elt we)
    (hgs : ∀ i ∈ gs, i ∈ own.map (·.2) := by decide) (hf : ∀ x : Value, foldedSetIterable iter X.env x = pure x := by intro _; rfl) :
    PDS X C (.Assign [.Name y py] (.ListComp elt [⟨tg, iter, [], 0⟩] scope pos) spos) (wsSet i (wLc wi wg wtYes we (own.map (·.2)))) :=
  ps_imp (ps_setLc (own := own) (g := tDG X.K wg gs) (tt := anyT X.K wtYes) (te := anyE X.K we) hc nd hN hl hsw hi hb hg (fun s H Cc cl fp => pts_imp pts_nil any_yes) (fun s H Cc cl fp => pe_any (he s H Cc cl fp)) hf) fun D σ H ⟨as, ρ, P, r, q, f1, _⟩ =>
    lc_D hgs σ H _ ⟨as, ρ, _, r, q, fun d ρ1 v H1 q1 r1 k1 d1 => by
      obtain ⟨as', r2, sub⟩ := r1.setD i d1
      exact f1 as' _ _ H1 q1 r2 (k1.step.trans (.sub sub))⟩
end
end DL
set_option Elab.async false
set_option linter.all false
set_option maxRecDepth 100000
set_option maxHeartbeats 4000000
/-! extend by a tuple; methods of own lists; defs over plain data. -/
namespace PySem
open AutoSeq1
theorem extend_by_tuple (l : Addr) (items : Array Value) (n : Nat) (b : Addr) (dct : Option Addr) (slo : Array (Option Value)) (more : Array Value) (n2 : Nat) (h0 : ¬(!items.isEmpty && Builtin.List.listTooLong (items.size + more.size)) = true) (h1 : items.size ≤ sizeLine) (h2 : items.size + more.size ≤ sizeLine + 1) :
    Meets (Builtin.«list.extend» ⟨[.ref l, .ref b], []⟩) (fun _ R s => s.heap.get? l = some { cls := .type "list", dict := none, data := .seq items n, slots := #[] } ∧
      s.heap.get? b = some { cls := .type "tuple", dict := dct, data := .seq more n2, slots := slo } ∧ R (.ok (.ret Value.none)) { s with heap := s.heap.update l (Obj.mapSeq fun x => x ++ more), toks := s.toks }) :=
  .of_wp fun prog w A R s h => by
    obtain ⟨hp, g, d, tk, os⟩ := s
    obtain ⟨hl, hb, h⟩ := h
    have f1 := idx_int
    have f2 := sub_tuple_tuple
    have f3 := sub_list_list
    have f4 := sub_tuple_list
    have f5 := sub_list_tuple
    have hz' : (items ++ more).size ≤ sizeLine + 1 := by rw [Array.size_append]; exact h2
    wp_walk using (wpAny_updateSeq hl rfl (hz := h1) (_hz' := hz')), wpAny_loadPart' hl, wpAny_loadPart' hb
    exact ⟨_, rfl, h⟩
end PySem
namespace DL
open PySem PySem.Spec PyProof.Rows L2
variable {X : Cx} {C : Fx}
/-- list.extend by a tuple -/
def rExtT (K : PySem.W.Frag) : V → List V → Hp → VK → Prop := fun x vs H Q => ∃ l b xs zs, x = .ref l ∧ vs = [.ref b] ∧ H l = some (.lst xs) ∧ SqT K H b zs ∧ xs.length + zs.length ≤ sizeLine ∧ Q .non (upd H l (.lst (xs ++ zs)))
theorem mt_extT : MtM X "list.extend" (rExtT X.K) := by
  intro pins s σ H x vs v us Q I rx rv h
  obtain ⟨l, b, xs, zs, rfl, rfl, hH, hB, hz, q⟩ := h
  cases rx
  obtain ⟨u, rfl, ru⟩ := rv.one
  cases ru
  obtain ⟨z, its, n, r, hl, e⟩ := I.lstM hH
  obtain ⟨its2, r2, ⟨⟨cl, dct, dat, slo⟩, ho, hc, n2, hd⟩, _⟩ := I.tuple hB
  dsimp only at hc hd
  subst hc
  subst hd
  have l1 := r.length
  have l2 := r2.length
  have hsz : its.toArray.size + its2.toArray.size ≤ sizeLine := by rw [List.size_toArray, List.size_toArray]; omega
  have hlong : ¬ (!its.toArray.isEmpty && Builtin.List.listTooLong (its.toArray.size + its2.toArray.size)) = true := by
    rw [notLongL hsz, Bool.and_false]
    exact Bool.false_ne_true
  refine call_meets F.slot_list_extend ⟨_, e, rfl⟩ F.entry_list_extend (F.args_list_extend_2 _ _) (extend_by_tuple l its.toArray n b dct slo its2.toArray n2 hlong (by rw [List.size_toArray]; omega) (by omega)) ⟨e, ho, ?_⟩
  refine ⟨.non, _, I.lset (its' := its ++ its2) hH e (by simp) (r.append r2) ?_, rfl, q⟩
  rw [List.length_append]
  omega
theorem mtr {id : String} {r : V → List V → Hp → VK → Prop} (h : MtM X id r) : MtR X id r := h
section
variable {i : Nat} {x : Str} {px apos cpos pos : Pos} {e : Expr} {we : WD}
/-- x.append(e), x an own list -/
def wsApp (i : Nat) (we : WD) : WS := fun P ρ => (∃ ds, ρ[i]? = some (.own ds)) ∧ we ρ fun d ρ1 => ∃ ds, ρ1[i]? = some (.own ds) ∧ ds.length < 100000 ∧ P.nx (ρ1.set i (.own (ds ++ [d])))
theorem pds_app (hv : PE X (.Name x px) (tVar i)) (he : PD X C e we) (hs : swapsWith (.Call (.Attribute (.Name x px) "append" apos) [e] [] cpos) none pos.line X.env = pure false := by rfl)
    (h1 : attributeBase (.Name x px) "append" X.env (eval (.Name x px) X.env) = eval (.Name x px) X.env := by rfl)
    (h2 : (((backTo cpos (starEach (e :: []) X.env)).all fun x => !x.1) && (backToKw cpos (keywordEach [] X.env)).all (fun x => x.1.isSome) && decide ((e :: ([] : List Expr)).length + ([] : List Keyword).length + (if ([] : List Keyword).isEmpty then 0 else 1) < 30)) = true := by rfl)
    (h3 : (apos.endLine == cpos.line) = true := by rfl) (h4 : starEach (e :: []) X.env = (false, eval e X.env) :: starEach [] X.env := by rfl) (h5 : (backTo cpos (starEach [] X.env)).any (·.1) = false := by rfl) :
    PDS X C (.Expr (.Call (.Attribute (.Name x px) "append" apos) [e] [] cpos) pos) (wsApp i we) :=
  ps_imp (ps_expr (pe_bm PySem.F.plainAttrs_list PySem.F.slot_list_append PySem.F.type_list_append (mtr mt_append) hv (pa_cons he pa_nil h4) h1 h2 h3 h4 h5) hs) fun D σ H ⟨as, ρ, P, r, ⟨⟨ds0, e0⟩, q⟩, f1, _⟩ => by
    obtain ⟨a, xs0, p1, p2, p3, p4⟩ := r.rep.getOwn e0
    refine ⟨.ref a, p1, .inl ⟨rfl, xs0, SqL.of p3⟩, as, ρ, _, r, q, fun d ρ1 v H1 ⟨ds, e1, ln, q1⟩ r1 k1 d1 => ?_⟩
    obtain ⟨a', xs, s1, s2, s3, s4⟩ := r1.rep.getOwn e1
    rw [p1] at s1
    cases s1
    obtain ⟨r2, k2⟩ := r1.chOwn (ys := xs ++ [v]) (es := ds ++ [d]) e1 p1 (dps_append s4 (.cons d1 .nil))
    exact ⟨a, xs, v, rfl, rfl, s3, by rw [dps_len s4, sizeLine_eq]; omega, f1 as _ σ _ q1 r2 (k1.trans k2).step⟩
/-- x.extend(e), x an own list, e a tuple -/
def wsExtT (i : Nat) (we : WD) : WS := fun P ρ => (∃ ds, ρ[i]? = some (.own ds)) ∧ we ρ fun d ρ1 => ∃ ds es, ρ1[i]? = some (.own ds) ∧ d = .tuple es ∧ ds.length + es.length ≤ 100000 ∧ P.nx (ρ1.set i (.own (ds ++ es)))
theorem pds_extT (hv : PE X (.Name x px) (tVar i)) (he : PD X C e we) (hs : swapsWith (.Call (.Attribute (.Name x px) "extend" apos) [e] [] cpos) none pos.line X.env = pure false := by rfl)
    (h1 : attributeBase (.Name x px) "extend" X.env (eval (.Name x px) X.env) = eval (.Name x px) X.env := by rfl)
    (h2 : (((backTo cpos (starEach (e :: []) X.env)).all fun x => !x.1) && (backToKw cpos (keywordEach [] X.env)).all (fun x => x.1.isSome) && decide ((e :: ([] : List Expr)).length + ([] : List Keyword).length + (if ([] : List Keyword).isEmpty then 0 else 1) < 30)) = true := by rfl)
    (h3 : (apos.endLine == cpos.line) = true := by rfl) (h4 : starEach (e :: []) X.env = (false, eval e X.env) :: starEach [] X.env := by rfl) (h5 : (backTo cpos (starEach [] X.env)).any (·.1) = false := by rfl) :
    PDS X C (.Expr (.Call (.Attribute (.Name x px) "extend" apos) [e] [] cpos) pos) (wsExtT i we) :=
  ps_imp (ps_expr (pe_bm PySem.F.plainAttrs_list PySem.F.slot_list_extend PySem.F.type_list_extend (mtr mt_extT) hv (pa_cons he pa_nil h4) h1 h2 h3 h4 h5) hs) fun D σ H ⟨as, ρ, P, r, ⟨⟨ds0, e0⟩, q⟩, f1, _⟩ => by
    obtain ⟨a, xs0, p1, p2, p3, p4⟩ := r.rep.getOwn e0
    refine ⟨.ref a, p1, .inl ⟨rfl, xs0, SqL.of p3⟩, as, ρ, _, r, q, fun d ρ1 v H1 ⟨ds, es, e1, ed, ln, q1⟩ r1 k1 d1 => ?_⟩
    subst ed
    obtain ⟨b, zs, rfl, t1, t2⟩ := dq_tup d1
    obtain ⟨a', xs, s1, s2, s3, s4⟩ := r1.rep.getOwn e1
    rw [p1] at s1
    cases s1
    obtain ⟨r2, k2⟩ := r1.chOwn (ys := xs ++ zs) (es := ds ++ es) e1 p1 (dps_append s4 t2)
    exact ⟨a, b, xs, zs, rfl, rfl, s3, seqT_un t1, by rw [dps_len s4, dps_len t2, sizeLine_eq]; omega, f1 as _ σ _ q1 r2 (k1.trans k2).step⟩
/-- x.pop(), x an own list -/
def wPop (i : Nat) : WD := fun ρ k => ∃ ds d, ρ[i]? = some (.own ds) ∧ ds[ds.length - 1]? = some d ∧ k d (ρ.set i (.own ds.dropLast))
theorem dps_dropLast {K : PySem.W.Frag} {H : Hp} {vs : List V} {ds : List PyData} (h : DqAll K H vs ds) : DqAll K H vs.dropLast ds.dropLast := by
  rw [List.dropLast_eq_take, List.dropLast_eq_take, dps_len h]
  exact dps_take _ h
theorem pd_pop (hv : PE X (.Name x px) (tVar i)) (h1 : attributeBase (.Name x px) "pop" X.env (eval (.Name x px) X.env) = eval (.Name x px) X.env := by rfl) (h3 : (apos.endLine == cpos.line) = true := by rfl) :
    PD X C (.Call (.Attribute (.Name x px) "pop" apos) [] [] cpos) (wPop i) :=
  pe_imp (pe_bm0 PySem.F.plainAttrs_list PySem.F.slot_list_pop PySem.F.type_list_pop (mtr mt_pop) hv h1 h3) fun σ H Q ⟨as, ρ, k, r, ⟨ds, d, e0, ed, q⟩, f⟩ => by
    obtain ⟨a, xs, p1, p2, p3, p4⟩ := r.rep.getOwn e0
    obtain ⟨v, g1, g2⟩ := dps_get p4 ed
    obtain ⟨r2, k2⟩ := r.chOwn (ys := xs.dropLast) (es := ds.dropLast) e0 p1 (dps_dropLast p4)
    refine ⟨.ref a, p1, .inl ⟨rfl, xs, SqL.of p3⟩, a, xs, v, rfl, rfl, p3, by rw [dps_len p4]; exact g1, f d _ v _ q r2 k2 (dp_mono k2.see g2)⟩
end

/-! ### defs -/
def startE (n : Nat) (ds : List PyData) : Env := ds.map Slot.d ++ List.replicate (n - ds.length) Slot.un
section
variable {K : PySem.W.Frag} {G H : Hp} {U : List Addr}
theorem rep_uns : ∀ n : Nat, RepS K G H U (List.replicate n (none : Option V)) (List.replicate n Slot.un) []
  | 0 => .nil
  | n + 1 => by rw [List.replicate_succ, List.replicate_succ]; exact .un (rep_uns n)
theorem rep_ds {σ : List (Option V)} {ρ : Env} {as : List Addr} (r : RepS K G H U σ ρ as) : ∀ {vs : List V} {ds : List PyData}, DqAll K G vs ds → RepS K G H U (vs.map some ++ σ) (ds.map Slot.d ++ ρ) as
  | _, _, .nil => r
  | _, _, .cons h t => .d h (rep_ds r t)
end
/-- a def over data -/
theorem ok_P {P : Program} {w : World} {K : PySem.W.Frag} {mg : Str → Option Value} {base : Heap} {x qual : Str} {st : Stmt} {f : Addr} {fd : FuncData} {N ps : List Str} {k : Nat} {df : DF} (F : Fun K x qual st f fd) (S : FnScope N ps (defScope st))
    (hlen : ∀ ds k, df ds k → ds.length = ps.length)
    (hbody : ∀ (cdv : Value) (A : Around) (outer : List PySem.Env) (s : Shared) (H : Hp) (E : XK) (C : Fx), Room k (A.deeper (envOfC qual (defScope st) s.heap.objs.size f cdv)) →
      ∃ wb : WS, PDSs (cxOf CX0 P w K mg base N qual (defScope st) f cdv A outer s H E).nox C (defBody st) wb ∧
        ∀ ds kk, df ds kk → wb { nx := fun _ => kk .none, rt := fun d _ => kk d } (startE N.length ds)) : FnOk P w K mg base CX0 (k + 1) f fd ps (spP K df) := by
  refine F.ok S (fun vs H Q E h => ?_) (fun cdv A outer s H vs Q E hr h => ?_)
  · obtain ⟨N', ds, kk, _, hd, hf, _⟩ := h
    rw [dps_len hd, hlen ds kk hf]
  · obtain ⟨N', ds, kk, hN, hd, hf, hQ⟩ := h
    obtain ⟨wb, hw, hq⟩ := hbody cdv A outer s H E ⟨N', H, []⟩ hr
    refine ⟨_, hw, [], startE N.length ds, _, ⟨?_, fun b o _ h => h, fun a z => (nomatch z), hN, fun u z => (nomatch z)⟩, hq ds kk hf, ?_, ?_, fun _ _ _ _ z => z.elim, fun _ _ _ _ z => z.elim⟩
    · show RepS K (hide H ([] ++ N')) H [] (vs.map some ++ List.replicate (N.length - vs.length) none) (ds.map Slot.d ++ List.replicate (N.length - ds.length) Slot.un) []
      rw [dps_len hd]
      exact rep_ds (rep_uns _) hd
    · intro as' ρ' σ' H' q r' s'
      exact hQ .none .non H' q (fun b o h => r'.ent b o (by simp) h) .non
    · intro d ρ' v as' σ' H' q r' s' dv
      exact hQ d v H' q (fun b o h => r'.ent b o (by simp) h) (dp_mono (hide_sub fun a z => List.mem_append_right _ z) dv)
/-- a def that draws -/
theorem ok_U {P : Program} {w : World} {K : PySem.W.Frag} {mg : Str → Option Value} {base : Heap} {x qual : Str} {st : Stmt} {f : Addr} {fd : FuncData} {N ps : List Str} {k : Nat} {uf : UF} (F : Fun K x qual st f fd) (S : FnScope N ps (defScope st))
    (hlen : ∀ n ds k, uf n ds k → ds.length + 1 = ps.length)
    (hbody : ∀ (cdv : Value) (A : Around) (outer : List PySem.Env) (s : Shared) (H : Hp) (E : XK) (C : Fx), Room k (A.deeper (envOfC qual (defScope st) s.heap.objs.size f cdv)) →
      ∃ wb : WS, PDSs (cxOf CX0 P w K mg base N qual (defScope st) f cdv A outer s H E).nox C (defBody st) wb ∧
        ∀ n ds kk, uf n ds kk → wb { nx := fun ρ => ∃ n', ρ[0]? = some (.urn n') ∧ kk n' .none, rt := fun d ρ => ∃ n', ρ[0]? = some (.urn n') ∧ kk n' d } (.urn n :: (ds.map Slot.d ++ List.replicate (N.length - (ds.length + 1)) .un)))
    (h0 : ∀ (A : Around) (σ' : List (Option V)), True) : FnOk P w K mg base CX0 (k + 1) f fd ps (spU K uf) := by
  refine F.ok S (fun vs H Q E h => ?_) (fun cdv A outer s H vs Q E hr h => ?_)
  · obtain ⟨u, vs', N', n, ds, kk, rfl, _, _, _, hd, hf, _⟩ := h
    rw [List.length_cons, dps_len hd, hlen n ds kk hf]
  · obtain ⟨u, vs', N', n, ds, kk, rfl, uN, hu, hN, hd, hf, hQ⟩ := h
    obtain ⟨wb, hw, hq⟩ := hbody cdv A outer s H E ⟨N', H, [u]⟩ hr
    refine ⟨_, hw, [], _, _, ⟨?_, fun b o _ h => h, fun a z => (nomatch z), hN, fun v z => ?_⟩, hq n ds kk hf, ?_, ?_, fun _ _ _ _ z => z.elim, fun _ _ _ _ z => z.elim⟩
    · show RepS K (hide H ([] ++ N')) H [u] (some (V.ref u) :: vs'.map some ++ List.replicate (N.length - (vs'.length + 1)) none) (.urn n :: (ds.map Slot.d ++ List.replicate (N.length - (ds.length + 1)) Slot.un)) []
      rw [dps_len hd]
      exact .urn hu (List.mem_singleton.mpr rfl) (rep_ds (rep_uns _) hd)
    · rw [List.mem_singleton.mp z]
      exact ⟨uN, hu.some⟩
    · intro as' ρ' σ' H' ⟨n', e, q⟩ r' s'
      obtain ⟨u', p1, p2, p3⟩ := r'.rep.getUrn e
      rw [List.mem_singleton.mp p2] at p3
      exact hQ n' .none .non H' q (fun b o c h => r'.ent b o c h) p3 .non
    · intro d ρ' v as' σ' H' ⟨n', e, q⟩ r' s' dv
      obtain ⟨u', p1, p2, p3⟩ := r'.rep.getUrn e
      rw [List.mem_singleton.mp p2] at p3
      exact hQ n' d v H' q (fun b o c h => r'.ent b o c h) p3 (dp_mono (hide_sub fun a z => List.mem_append_right _ z) dv)
end DL
set_option Elab.async false
set_option linter.all false
set_option maxRecDepth 100000
set_option maxHeartbeats 4000000
/-! and, or, not as values; isinstance; two names at once; x += e; what is forgotten; items of own lists stored. -/
namespace DL
open PySem PySem.Spec PyProof.Rows L2
variable {X : Cx} {C : Fx}
section
variable {a b : Expr} {rest : List Expr} {pos : Pos} {wa wb : WD}
def wAndV (wa wb : WD) : WD := fun ρ k => wa ρ fun d ρ1 => ∃ c, d = .bool c ∧ if c = true then wb ρ1 k else k (.bool false) ρ1
theorem pd_and (ha : PD X C a wa) (hb : PD X C (.BoolOp .And (b :: rest) pos) wb) : PD X C (.BoolOp .And (a :: b :: rest) pos) (wAndV wa wb) :=
  pe_imp (pe_and ha hb) fun σ H Q ⟨as, ρ, k, re, q, f⟩ => ⟨as, ρ, _, re, q, fun d ρ1 v H1 ⟨c, e, q1⟩ r1 k1 d1 => by
    subst e
    refine ⟨c, dp_bool d1, ?_⟩
    cases c with
    | true => exact iteT ⟨as, ρ1, k, r1, q1, fun d ρ2 v H2 q2 r2 k2 => f d ρ2 v H2 q2 r2 (k1.trans k2)⟩
    | false => exact iteF (f _ ρ1 _ H1 q1 r1 k1 (.bl false))⟩
theorem pd_one {op : BoolOp} (ha : PD X C a wa) : PD X C (.BoolOp op [a] pos) wa := pe_one ha
/-- a or b, by truth -/
def wOrT (wa wb : WD) : WD := fun ρ k => wa ρ fun d ρ1 => ∃ c, truD d = some c ∧ if c = true then k d ρ1 else wb ρ1 k
theorem pd_orT (ha : PD X C a wa) (hb : PD X C (.BoolOp .Or (b :: rest) pos) wb) : PD X C (.BoolOp .Or (a :: b :: rest) pos) (wOrT wa wb) :=
  pe_imp (pe_orT ha hb) fun σ H Q ⟨as, ρ, k, re, q, f⟩ => ⟨as, ρ, _, re, q, fun d ρ1 v H1 ⟨c, e, q1⟩ r1 k1 d1 => by
    refine ⟨c, tru_of (dp_mono (hide_same H1 _) d1) e, ?_⟩
    cases c with
    | true => exact iteT (f d ρ1 v H1 q1 r1 k1 d1)
    | false => exact iteF ⟨as, ρ1, k, r1, q1, fun d ρ2 v H2 q2 r2 k2 => f d ρ2 v H2 q2 r2 (k1.trans k2)⟩⟩
def wNotV (wa : WD) : WD := fun ρ k => wa ρ fun d ρ1 => ∃ c, d = .bool c ∧ k (.bool (!c)) ρ1
theorem pd_not (ha : PD X C a wa) : PD X C (.UnaryOp .Not a pos) (wNotV wa) :=
  pe_imp (pe_not ha) fun σ H Q ⟨as, ρ, k, re, q, f⟩ => ⟨as, ρ, _, re, q, fun d ρ1 v H1 ⟨c, e, q1⟩ r1 k1 d1 => by
    subst e
    exact ⟨c, dp_bool d1, f _ ρ1 _ H1 q1 r1 k1 (.bl _)⟩⟩
def wNeg (wa : WD) : WD := fun ρ k => wa ρ fun d ρ1 => ∃ i : Int, d = .int i ∧ k (.int (-i)) ρ1
theorem pd_neg (ha : PD X C a wa) : PD X C (.UnaryOp .USub a pos) (wNeg wa) :=
  pe_imp (pe_un un_neg ha) fun σ H Q ⟨as, ρ, k, re, q, f⟩ => ⟨as, ρ, _, re, q, fun d ρ1 v H1 ⟨c, e, q1⟩ r1 k1 d1 => by
    subst e
    exact ⟨c, dp_int d1, f _ ρ1 _ H1 q1 r1 k1 (.int _)⟩⟩
/-- x is None -/
def isNoneD : PyData → Bool
  | .none => true
  | _ => false
def wIsN (wa : WD) : WD := fun ρ k => wa ρ fun d ρ1 => k (.bool (isNoneD d)) ρ1
theorem isN_of {K : PySem.W.Frag} {H : Hp} {v : V} {d : PyData} (h : Dq K H v d) : decide (v = .non) = isNoneD d := by
  cases h <;> first | rfl | exact decide_eq_false (fun z => by cases z)
theorem pd_isN {j : Nat} {p2 : Pos} (ha : PD X C a wa) : PD X C (.Compare a [.Is] [.Constant .none j p2] pos) (wIsN wa) :=
  pe_imp (pe_cmpR op_isN ha pe_non (nomark _)) fun σ H Q ⟨as, ρ, k, re, q, f⟩ => ⟨as, ρ, _, re, q, fun d ρ1 v H1 q1 r1 k1 d1 => ⟨rfl, by
    rw [isN_of d1]
    exact f _ ρ1 _ H1 q1 r1 k1 (.bl _)⟩⟩
end

/-! ### isinstance -/
def kindD : PyData → String
  | .none => "NoneType"
  | .bool _ => "bool"
  | .int _ => "int"
  | .str _ => "str"
  | .list _ => "list"
  | .tuple _ => "tuple"
  | .dict _ => "dict"
def instK (k T : String) : Bool := k == T || (T == "int" && k == "bool")
def instD (T : String) (d : PyData) : Bool := instK (kindD d) T
/-- the built-in classes that are asked for -/
def isT (T : String) : Bool := T == "int" || T == "bool" || T == "str" || T == "list" || T == "tuple"
theorem tyx_of {K : PySem.W.Frag} {H : Hp} {v : V} {d : PyData} (h : Dq K H v d) : TyX K H v (.type (kindD d)) := by
  cases h with
  | non => exact .base .non
  | bl b => exact .base (.bl b)
  | int i => exact .base (.int i)
  | str x => exact .base (.str x)
  | lst a t =>
    rcases a with (a | ⟨o, a⟩) | ⟨o, its, n, hk, hc, _⟩
    · exact .base (.lst a)
    · exact .base (.frz a)
    · exact .kList hk hc
  | tup a t =>
    rcases a with (a | ⟨o, a⟩) | ⟨o, its, n, hk, hc, _⟩
    · exact .base (.tup a)
    · exact .fTuple a
    · exact .kTuple hk hc
  | dk a _ _ _ _ _ => exact .base (.dK a)
  | dt a _ _ _ _ _ _ => exact .base (.dT a)
theorem kit_D {K : PySem.W.Frag} {H : Hp} {v : V} {d : PyData} {T : String} (h : Dq K H v d) (hT : isT T = true) : PySem.W.kitOne K (.type (kindD d)) (.type T) = some (instD T d) := by
  have cases5 : T = "int" ∨ T = "bool" ∨ T = "str" ∨ T = "list" ∨ T = "tuple" := by
    unfold isT at hT
    simp only [Bool.or_eq_true, beq_iff_eq] at hT
    rcases hT with (((h | h) | h) | h) | h <;> simp [h]
  rcases cases5 with rfl | rfl | rfl | rfl | rfl <;> cases h <;> simp only [instD, kindD] <;> exact kit_ty (by decide +kernel)
def wIsi (T : String) (wa : WD) : WD := fun ρ k => wa ρ fun d ρ1 => k (.bool (instD T d)) ρ1
section
variable {e : Expr} {we : WD} {x : Str} {p p2 p3 pos : Pos}
theorem pd_isi {T : String} (hT : isT T = true) (hg : Gl X "isinstance") (hm : X.mg "isinstance" = none) (he : PD X C e we) (ht : PE X (.Name x p2) (tC (.ty T)))
    (h3 : starEach [e, .Name x p2] X.env = (false, eval e X.env) :: starEach [.Name x p2] X.env := by rfl) (h5 : starEach [Expr.Name x p2] X.env = (false, eval (.Name x p2) X.env) :: starEach [] X.env := by rfl) (h4 : (backTo pos (starEach [Expr.Name x p2] X.env)).any (·.1) = false := by rfl) :
    PD X C (.Call (.Name "isinstance" p) [e, .Name x p2] [] pos) (wIsi T we) :=
  pe_imp (pe_callB call_isi hg hm (by decide +kernel) (pa_cons he (pa_cons ht pa_nil h5) h3) (by decide) (by decide) h3 h4) fun σ H Q ⟨as, ρ, k, re, q, f⟩ =>
    ⟨as, ρ, _, re, q, fun d ρ1 v H1 q1 r1 k1 d1 => ⟨v, .ty T, _, .type T, _, rfl, .ty T, tyx_of (dp_mono (hide_same H1 _) d1), kit_D d1 hT, f _ ρ1 _ H1 q1 r1 k1 (.bl _)⟩⟩
def wIsi2 (T T' : String) (wa : WD) : WD := fun ρ k => wa ρ fun d ρ1 => k (.bool (instD T d || instD T' d)) ρ1
theorem kit_any2 {K : PySem.W.Frag} {t u u' : Value} {b b' : Bool} (h : PySem.W.kitOne K t u = some b) (h' : PySem.W.kitOne K t u' = some b') : PySem.W.kitAny K t [u, u'] = some (b || b') := by
  cases b <;> cases b' <;> simp [PySem.W.kitAny, h, h']
theorem pd_isi2 {T T' : String} {y : Str} {kk : Nat} {p4 : Pos} (hT : isT T = true) (hT' : isT T' = true) (hg : Gl X "isinstance") (hm : X.mg "isinstance" = none) (he : PD X C e we) (ht : PE X (.Name x p2) (tC (.ty T))) (ht' : PE X (.Name y p3) (tC (.ty T')))
    (h3 : starEach [e, .Tuple [.Name x p2, .Name y p3] kk p4] X.env = (false, eval e X.env) :: starEach [.Tuple [.Name x p2, .Name y p3] kk p4] X.env := by rfl)
    (h5 : starEach [Expr.Tuple [.Name x p2, .Name y p3] kk p4] X.env = (false, eval (.Tuple [.Name x p2, .Name y p3] kk p4) X.env) :: starEach [] X.env := by rfl)
    (h6 : starEach [Expr.Name x p2, Expr.Name y p3] X.env = (false, eval (.Name x p2) X.env) :: starEach [Expr.Name y p3] X.env := by rfl) (h7 : starEach [Expr.Name y p3] X.env = (false, eval (.Name y p3) X.env) :: starEach [] X.env := by rfl)
    (h4 : (backTo pos (starEach [Expr.Tuple [.Name x p2, .Name y p3] kk p4] X.env)).any (·.1) = false := by rfl) :
    PD X C (.Call (.Name "isinstance" p) [e, .Tuple [.Name x p2, .Name y p3] kk p4] [] pos) (wIsi2 T T' we) :=
  pe_imp (pe_callB call_isiT hg hm (by decide +kernel) (pa_cons he (pa_cons (pe_tup (pa_cons ht (pa_cons ht' pa_nil h7) h6)) pa_nil h5) h3) (by decide) (by decide) h3 h4) fun σ H Q ⟨as, ρ, k, re, q, f⟩ =>
    ⟨as, ρ, _, re, q, fun d ρ1 v H1 q1 r1 k1 d1 => by
      refine ⟨(by show 2 ≤ sizeLine; decide), fun tp hp => ?_⟩
      have s := same_new hp (.tup [.ty T, .ty T'])
      refine ⟨v, tp, _, _, [.type T, .type T'], _, rfl, upd_same, .cons (.ty T) (.cons (.ty T') .nil), tyx_of (dp_mono s (dp_mono (hide_same H1 _) d1)), kit_any2 (kit_D d1 hT) (kit_D d1 hT'), f _ ρ1 _ _ q1 (rep_new r1 hp) (k1.trans (Keep.new hp _)) (.bl _)⟩⟩
end

/-! ### two names at once, x += e, what is forgotten -/
theorem pds_par {i j : Nat} {x y : Str} {a b : Expr} {ws : WA} {px py pt pt2 pos : Pos} {kt k2 : Nat} (hc : X.calm = true) (nd : X.N.Nodup) (hi : X.N[i]? = some x) (hj : X.N[j]? = some y) (hn : i ≠ j) (hx : X.env.scope.names.lookup x = some .local) (hy : X.env.scope.names.lookup y = some .local)
    (h : PDA X C [a, b] ws) (hs : swappedStores [.Tuple [.Name x px, .Name y py] kt pt] (.Tuple [a, b] k2 pt2) X.env = pure (some [x, y]))
    (hw : swapsWithSole [.Tuple [.Name x px, .Name y py] kt pt] (.Tuple [a, b] k2 pt2) pos.line X.env = pure false := by rfl) :
    PDS X C (.Assign [.Tuple [.Name x px, .Name y py] kt pt] (.Tuple [a, b] k2 pt2) pos) (fun P ρ => ws ρ fun ds ρ1 => ∃ d e, ds = [d, e] ∧ P.nx ((ρ1.set i (.d d)).set j (.d e))) :=
  ps_imp (ps_par hc nd hi hj hn hx hy h hs hw) fun D σ H ⟨as, ρ, P, r, q, f1, _⟩ => ⟨as, ρ, _, r, q, fun ds ρ1 vs H1 ⟨d, e, ed, q1⟩ r1 k1 d1 => by
    subst ed
    cases d1 with
    | cons h1 t =>
      cases t with
      | cons h2 t =>
        cases t
        obtain ⟨as1, r2, s1⟩ := r1.setD i h1
        obtain ⟨as2, r3, s2⟩ := r2.setD j (dp_mono (hide_sub (mem_sub s1)) h2)
        exact ⟨_, _, rfl, f1 as2 _ _ H1 q1 r3 (k1.step.trans (.sub fun a z => s1 a (s2 a z)))⟩⟩
/-- x += e, ints -/
def wsAug (i : Nat) (g : Int → Int → Int) (we : WD) : WS := fun P ρ => (∃ m : Int, ρ[i]? = some (.d (.int m))) ∧ we ρ fun d ρ1 => ∃ m j : Int, ρ1[i]? = some (.d (.int m)) ∧ d = .int j ∧ P.nx (ρ1.set i (.d (.int (g m j))))
theorem pds_aug {i : Nat} {x : Str} {e : Expr} {we : WD} {op : Operator} {g : Int → Int → Int} {pos' pos : Pos} (nd : X.N.Nodup) (hi : X.N[i]? = some x) (hx : Loc X.env.scope x) (he : PD X C e we) (ho : PIp X op (ipI g)) (hf : X.fn x = true ∨ X.env.scope.names.lookup x = some .local := by first | exact .inl rfl | exact .inr rfl) :
    PDS X C (.AugAssign (.Name x pos') op e pos) (wsAug i g we) :=
  ps_imp (ps_aug nd hi hx he ho hf) fun D σ H ⟨as, ρ, P, r, ⟨⟨m0, e0⟩, q⟩, f1, _⟩ => by
    obtain ⟨v, g1, g2⟩ := r.rep.get e0
    obtain rfl := dp_int g2
    refine ⟨_, g1, as, ρ, _, r, q, fun d ρ1 v H1 ⟨m, j, e1, ed, q1⟩ r1 k1 d1 => ?_⟩
    subst ed
    obtain rfl := dp_int d1
    obtain ⟨v', g3, g4⟩ := r1.rep.get e1
    rw [g1] at g3
    cases g3
    have em := dp_int g4
    cases em
    obtain ⟨as', r2, sub⟩ := r1.setD (v := .int (g m0 j)) (d := .int (g m0 j)) i (.int _)
    exact ⟨m0, j, rfl, rfl, f1 as' _ _ H1 q1 r2 (k1.step.trans (.sub sub))⟩
theorem RepS.forget {K : PySem.W.Frag} {G H : Hp} {U as : List Addr} {σ : List (Option V)} {ρ : Env} (r : RepS K G H U σ ρ as) : ∀ (i : Nat), (∀ ds, ρ[i]? ≠ some (.obj ds)) → RepS K G H U σ (ρ.set i .un) as := by
  induction r with
  | nil => intro i _; exact .nil
  | un t ih =>
    intro i h
    cases i with
    | zero => exact .un t
    | succ i => exact .un (ih i fun ds z => h ds (by simpa using z))
  | d q t ih =>
    intro i h
    cases i with
    | zero => exact .un t
    | succ i => exact .d q (ih i fun ds z => h ds (by simpa using z))
  | obj h1 h2 h3 t ih =>
    intro i h
    cases i with
    | zero => exact absurd rfl (h _)
    | succ i => exact .obj h1 h2 h3 (ih i fun ds z => h ds (by simpa using z))
  | urn h1 h2 t ih =>
    intro i h
    cases i with
    | zero => exact .un t
    | succ i => exact .urn h1 h2 (ih i fun ds z => h ds (by simpa using z))
/-- ahead of a statement: what a name holds is forgotten -/
def wsForget (i : Nat) (w : WS) : WS := fun P ρ => noOwn ρ [i] = true ∧ w P (ρ.set i .un)
theorem pds_forget {sts : List Stmt} {w : WS} (i : Nat) (h : PDSs X C sts w) : PDSs X C sts (wsForget i w) :=
  pss_imp h fun D σ H ⟨as, ρ, P, r, ⟨no, q⟩, fs⟩ => ⟨as, _, P, ⟨r.rep.forget i (noOwn_at no (List.mem_singleton.mpr rfl)), r.ent, r.own, r.hid, r.unn⟩, q, fs⟩
/-! ### x[i] = e, x an own list -/
def wsPut (i : Nat) (we wi : WD) : WS := fun P ρ => we ρ fun d ρ1 => (∃ ds, ρ1[i]? = some (.own ds)) ∧ wi ρ1 fun d2 ρ2 => ∃ (ds : List PyData) (m : Int) (j : Nat), ρ2[i]? = some (.own ds) ∧ d2 = .int m ∧ ixN ds.length m = some j ∧ P.nx (ρ2.set i (.own (ds.set j d)))
theorem dps_set {K : PySem.W.Frag} {H : Hp} {v : V} {d : PyData} (h : Dq K H v d) : ∀ {vs : List V} {ds : List PyData} (j : Nat), DqAll K H vs ds → DqAll K H (vs.set j v) (ds.set j d)
  | _, _, _, .nil => .nil
  | _, _, 0, .cons _ t => .cons h t
  | _, _, j + 1, .cons a t => .cons a (dps_set h j t)
theorem pds_put {i : Nat} {x : Str} {px pos p2 : Pos} {e ie : Expr} {we wi : WD} (he : PD X C e we) (hv : PE X (.Name x px) (tVar i)) (hi : PD X C ie wi)
    (hsub : ∀ (v : Value), assign (.Subscript (.Name x px) ie p2) X.env v = (do
      let ov ← holding [v] (eval (.Name x px) X.env)
      let iv ← holding [v, ov] (eval ie X.env)
      standAt p2
      holding [v, ov, iv] (setItem ov iv v)
      release [v, ov, iv] []) := by intro _; rfl)
    (hs : swapsWithSole [.Subscript (.Name x px) ie p2] e pos.line X.env = pure false := by rfl) (hw : swappedStores [.Subscript (.Name x px) ie p2] e X.env = pure none := by rfl)
    (h1 : (assignEach [.Subscript (.Name x px) ie p2] X.env).map (·.2) = [assign (.Subscript (.Name x px) ie p2) X.env] := by rfl) : PDS X C (.Assign [.Subscript (.Name x px) ie p2] e pos) (wsPut i we wi) :=
  ps_imp (ps_asg he (pg_sub hv hi set_list hsub) hs hw h1) fun D σ H ⟨as, ρ, P, r, q, f1, _⟩ => ⟨as, ρ, _, r, q, fun d ρ1 v H1 ⟨⟨ds0, e0⟩, q1⟩ r1 k1 d1 => by
    obtain ⟨a, xs0, p1, p2, p3, p4⟩ := r1.rep.getOwn e0
    refine ⟨.ref a, p1, as, ρ1, _, r1, q1, fun d2 ρ2 v2 H2 ⟨ds, m, j, e1, ed, ej, q2⟩ r2 k2 d2' => ?_⟩
    subst ed
    obtain rfl := dp_int d2'
    obtain ⟨a', xs, s1, s2, s3, s4⟩ := r2.rep.getOwn e1
    rw [p1] at s1
    cases s1
    obtain ⟨r3, k3⟩ := r2.chOwn (ys := xs.set j v) (es := ds.set j d) e1 p1 (dps_set (dp_mono k2.see d1) j s4)
    exact ⟨a, xs, m, j, rfl, rfl, s3, by rw [dps_len s4]; exact ej, f1 as _ σ _ q2 r3 ((k1.trans k2).trans k3).step⟩⟩
end DL
set_option Elab.async false
set_option linter.all false
set_option maxRecDepth 100000
set_option maxHeartbeats 4000000
/-! Defs of the text by name. -/
namespace DL
open PySem PySem.Spec PyProof.Rows L2
/-- a def of the module with its promise -/
structure Df (P : Program) (w : World) (K : PySem.W.Frag) (mg : Str → Option Value) (base : Heap) (x : Str) (ps : List Str) (k : Nat) (sp : Sp) : Prop where
  ex : ∃ f fd, FnOk P w K mg base CX0 k f fd ps sp ∧ mg x = some (.ref f) ∧ PySem.W.keepIn K (.ref f) = true ∧ Binds K fd ps []
theorem Df.imp {P : Program} {w : World} {K : PySem.W.Frag} {mg : Str → Option Value} {base : Heap} {x : Str} {ps : List Str} {k : Nat} {sp sp' : Sp} (D : Df P w K mg base x ps k sp) (h : ∀ vs H Q E, sp' vs H Q E → sp vs H Q E) : Df P w K mg base x ps k sp' := by
  obtain ⟨f, fd, h1, h2, h3, h4⟩ := D.ex
  exact ⟨f, fd, h1.imp h, h2, h3, h4⟩
variable {X : Cx} {C : Fx}
theorem pd_callD {k : Nat} {ps : List Str} {x : Str} {p pos : Pos} {e : Expr} {es : List Expr} {ws : WA} {df : DF} (D : Df X.prog X.w X.K X.mg X.base x ps k (spP X.K df)) (hr : Room k X.A) (hg : Gl X x) (ha : PDA X C (e :: es) ws)
    (hdb : (x == ("__debug__" : Str)) = false := by decide) (he : starEach (e :: es) X.env = (false, eval e X.env) :: starEach es X.env := by rfl) (hpl : (backTo pos (starEach es X.env)).any (·.1) = false := by rfl) :
    PD X C (.Call (.Name x p) (e :: es) [] pos) (wCall df ws) := by
  obtain ⟨f, fd, h1, h2, h3, h4⟩ := D.ex
  exact pd_call h1 hr hg h2 h3 h4 ha hdb he hpl
theorem pd_callD0 {k : Nat} {ps : List Str} {x : Str} {p pos : Pos} {df : DF} (D : Df X.prog X.w X.K X.mg X.base x ps k (spP X.K df)) (hr : Room k X.A) (hg : Gl X x) (hdb : (x == ("__debug__" : Str)) = false := by decide) :
    PD X C (.Call (.Name x p) [] [] pos) (wCall df wNil) := by
  obtain ⟨f, fd, h1, h2, h3, h4⟩ := D.ex
  exact pd_call0 h1 hr hg h2 h3 h4 hdb
theorem pd_callDU {k i : Nat} {ps : List Str} {x y : Str} {p p2 pos : Pos} {es : List Expr} {ws : WA} {uf : UF} (D : Df X.prog X.w X.K X.mg X.base x ps k (spU X.K uf)) (hr : Room k X.A) (hg : Gl X x) (hv : PE X (.Name y p2) (tVar i)) (ha : PDA X C es ws)
    (hs : starEach (.Name y p2 :: es) X.env = (false, eval (.Name y p2) X.env) :: starEach es X.env := by rfl) (hdb : (x == ("__debug__" : Str)) = false := by decide) (hpl : (backTo pos (starEach es X.env)).any (·.1) = false := by rfl) :
    PD X C (.Call (.Name x p) (.Name y p2 :: es) [] pos) (wCallU i uf ws) := by
  obtain ⟨f, fd, h1, h2, h3, h4⟩ := D.ex
  exact pd_callU h1 hr hg h2 h3 h4 hv ha hs hdb hpl
/-! built-ins, by their names' absence in the module -/
section
variable {p pos : Pos} {e : Expr} {ws : WA}
theorem pd_len (hm : X.mg "len" = none) (hg : Gl X "len") (ha : PDA X C [e] ws) (h3 : starEach [e] X.env = (false, eval e X.env) :: starEach [] X.env := by rfl) (h4 : (backTo pos (starEach [] X.env)).any (·.1) = false := by rfl) : PD X C (.Call (.Name "len" p) [e] [] pos) (wCall fLen ws) :=
  pd_callB call_len_seq one_len hg hm PySem.boot_len ha (by decide) (by decide) h3 h4
theorem pd_abs (hm : X.mg "abs" = none) (hg : Gl X "abs") (ha : PDA X C [e] ws) (h3 : starEach [e] X.env = (false, eval e X.env) :: starEach [] X.env := by rfl) (h4 : (backTo pos (starEach [] X.env)).any (·.1) = false := by rfl) : PD X C (.Call (.Name "abs" p) [e] [] pos) (wCall fAbs ws) :=
  pd_callB call_abs one_abs hg hm (by decide +kernel) ha (by decide) (by decide) h3 h4
theorem pd_intOf (hm : X.mg "int" = none) (hg : Gl X "int") (ha : PDA X C [e] ws) (h3 : starEach [e] X.env = (false, eval e X.env) :: starEach [] X.env := by rfl) (h4 : (backTo pos (starEach [] X.env)).any (·.1) = false := by rfl) : PD X C (.Call (.Name "int" p) [e] [] pos) (wCall fInt ws) :=
  pd_callTy call_int1 one_int hg hm (by decide +kernel) ha (by decide) (by decide) h3 h4
theorem pd_tupleOf (hm : X.mg "tuple" = none) (hg : Gl X "tuple") (ha : PDA X C [e] ws) (h3 : starEach [e] X.env = (false, eval e X.env) :: starEach [] X.env := by rfl) (h4 : (backTo pos (starEach [] X.env)).any (·.1) = false := by rfl) : PD X C (.Call (.Name "tuple" p) [e] [] pos) (wCall fTuple ws) :=
  pd_callTy call_tuple_of one_tuple hg hm (by decide +kernel) ha (by decide) (by decide) h3 h4
theorem pd_listOf (hm : X.mg "list" = none) (hg : Gl X "list") (ha : PDA X C [e] ws) (h3 : starEach [e] X.env = (false, eval e X.env) :: starEach [] X.env := by rfl) (h4 : (backTo pos (starEach [] X.env)).any (·.1) = false := by rfl) : PD X C (.Call (.Name "list" p) [e] [] pos) (wCall fList ws) :=
  pd_callTy call_list_of one_list hg hm (by decide +kernel) ha (by decide) (by decide) h3 h4
/-- all of a list of truth values -/
def fAll : DF := fun ds k => ∃ bs : List Bool, ds = [.list (bs.map .bool)] ∧ k (.bool (bs.all id))
theorem dps_bools {K : PySem.W.Frag} {H : Hp} : ∀ {bs : List Bool} {vs : List V}, DqAll K H vs (bs.map .bool) → vs = bs.map V.bl
  | [], _, h => by cases h; rfl
  | b :: bs, _, h => by
    cases h with
    | cons h t => rw [dp_bool h, dps_bools t]; rfl
theorem one_all {K : PySem.W.Frag} : One K (rAll K) fAll := by
  rintro H l vs _ k Q hl h ⟨bs, rfl, q⟩ f
  cases h with
  | cons h t =>
    cases t
    obtain ⟨a, xs, rfl, s, t⟩ := dq_lst h
    obtain rfl := dps_bools t
    exact ⟨a, bs, rfl, seqL_un s, f _ _ H q (Same.refl _) (.bl _)⟩
theorem pd_all {p pos : Pos} {e : Expr} {ws : WA} (hc : X.calm = true) (hm : X.mg "all" = none) (hg : Gl X "all") (ha : PDA X C [e] ws) (h3 : starEach [e] X.env = (false, eval e X.env) :: starEach [] X.env := by rfl) (h4 : (backTo pos (starEach [] X.env)).any (·.1) = false := by rfl) : PD X C (.Call (.Name "all" p) [e] [] pos) (wCall fAll ws) :=
  pd_callB (cr_all hc) one_all hg hm (by decide +kernel) ha (by decide) (by decide) h3 h4
end
end DL
set_option Elab.async false
set_option linter.all false
set_option maxRecDepth 100000
set_option maxHeartbeats 4000000
/-! Truth of own lists, more tests; frozen data. -/
namespace DL
open PySem PySem.Spec PyProof.Rows L2
variable {X : Cx} {C : Fx}
def wTruOwn (i : Nat) : WT := fun ρ k => ∃ ds, ρ[i]? = some (.own ds) ∧ k (!ds.isEmpty) ρ
theorem pdt_truOwn {i : Nat} {x : Str} {p : Pos} (hv : PE X (.Name x p) (tVar i)) (ht : ∀ whole : Sem Value, isTrue (.Name x p) X.env whole = (do let v ← whole; standAt (Expr.Name x p).pos; holding [v] (truthy v)) := by intro _; rfl) : PDT X C (.Name x p) (wTruOwn i) :=
  pt_imp (pt_truth hv ht) fun σ H Q ⟨as, ρ, k, r, ⟨ds, e, q⟩, f⟩ => by
    obtain ⟨a, xs, p1, p2, p3, p4⟩ := r.rep.getOwn e
    refine ⟨.ref a, p1, _, .inl ⟨xs, SqL.of p3, rfl⟩, ?_⟩
    have e2 : (!xs.isEmpty) = (!ds.isEmpty) := by cases p4 <;> rfl
    rw [e2]
    exact f _ ρ H q r (Keep.refl ..)
def wtV (w : WD) : WT := fun ρ k => w ρ fun d ρ1 => ∃ b, d = .bool b ∧ k b ρ1
/-- e is None, as a test -/
theorem pdt_isN {a : Expr} {j : Nat} {p2 pos : Pos} {wa : WD} (ha : PD X C a wa) : PDT X C (.Compare a [.Is] [.Constant .none j p2] pos) (wTest (wIsN wa)) :=
  pt_imp (pt_cmpR op_isN ha pe_non (nomark _)) fun σ H Q ⟨as, ρ, k, re, q, f⟩ => ⟨as, ρ, _, re, q, fun d ρ1 v H1 ⟨b, e, q1⟩ r1 k1 d1 => ⟨rfl, _, rfl, by
    rw [isN_of d1]
    cases e
    exact f _ ρ1 H1 q1 r1 k1⟩⟩
/-- an expression as a statement -/
def wsExpr (we : WD) : WS := fun P ρ => we ρ fun _ ρ1 => P.nx ρ1
theorem pds_expr {e : Expr} {pos : Pos} {we : WD} (he : PD X C e we) (hs : swapsWith e none pos.line X.env = pure false := by rfl) : PDS X C (.Expr e pos) (wsExpr we) :=
  ps_imp (ps_expr he hs) fun D σ H ⟨as, ρ, P, r, q, f1, _⟩ => ⟨as, ρ, _, r, q, fun d ρ1 v H1 q1 r1 k1 d1 => f1 as ρ1 σ H1 q1 r1 k1.step⟩

/-! ### data without lists -/
mutual
def noL : PyData → Bool
  | .list _ => false
  | .tuple xs => noLs xs
  | _ => true
def noLs : List PyData → Bool
  | [] => true
  | x :: xs => noL x && noLs xs
end
mutual
def sz : PyData → Nat
  | .list xs => 1 + szs xs
  | .tuple xs => 1 + szs xs
  | _ => 1
def szs : List PyData → Nat
  | [] => 0
  | x :: xs => sz x + szs xs
end
/-- the size of what an own list holds -/
def ownSz (i : Nat) (ρ : Env) : Nat := match ρ[i]? with
  | some (Slot.obj (.lst ws)) => szs ws
  | _ => 0
theorem sz_pos (d : PyData) : 0 < sz d := by cases d <;> simp only [sz] <;> omega
theorem szs_append : ∀ (xs ys : List PyData), szs (xs ++ ys) = szs xs + szs ys
  | [], ys => by simp [szs]
  | x :: xs, ys => by rw [List.cons_append]; simp only [szs]; rw [szs_append xs ys]; omega
theorem noLs_append : ∀ (xs ys : List PyData), noLs (xs ++ ys) = (noLs xs && noLs ys)
  | [], ys => by simp [noLs]
  | x :: xs, ys => by rw [List.cons_append]; simp only [noLs]; rw [noLs_append xs ys, Bool.and_assoc]
theorem len_szs : ∀ xs : List PyData, xs.length ≤ szs xs
  | [] => Nat.zero_le _
  | x :: xs => by
    have := sz_pos x
    have := len_szs xs
    simp only [szs, List.length_cons]
    omega
theorem last_split : ∀ {xs : List PyData} {d : PyData}, xs[xs.length - 1]? = some d → xs = xs.dropLast ++ [d] := by
  intro xs d h
  have hne : xs ≠ [] := fun z => by subst z; simp at h
  rw [← List.getLast?_eq_getElem?, List.getLast?_eq_some_getLast hne] at h
  cases h
  exact (List.dropLast_concat_getLast hne).symm
end DL
set_option Elab.async false
set_option linter.all false
set_option maxRecDepth 100000
set_option maxHeartbeats 4000000
/-! Words as data; two names at once, own lists among them; calls of defs as statements; more walks. -/
namespace DL
open PySem PySem.Spec PyProof.Rows L2
def wordD (ns : List Int) : PyData := .tuple (ns.map .int)
theorem eqvAll_ints : ∀ u v : List Int, PyData.eqvAll (u.map .int) (v.map .int) = (u == v)
  | [], [] => rfl
  | [], _ :: _ => rfl
  | _ :: _, [] => rfl
  | a :: u, b :: v => by
    show (PyData.eqv (.int a) (.int b) && PyData.eqvAll (u.map .int) (v.map .int)) = (a :: u == b :: v)
    rw [eqvAll_ints u v]
    have e : PyData.eqv (.int a) (.int b) = (a == b) := by simp only [PyData.eqv]
    rw [e]
    rfl
theorem eqv_word (u v : List Int) : PyData.eqv (wordD u) (wordD v) = (u == v) := by
  have e : PyData.eqv (wordD u) (wordD v) = PyData.eqvAll (u.map .int) (v.map .int) := by simp only [wordD, PyData.eqv]
  rw [e, eqvAll_ints]
theorem lay_ints : ∀ u : List Int, PyData.canLayAll0 (u.map .int) = true
  | [] => rfl
  | a :: u => by
    show (PyData.canLay0 (.int a) && PyData.canLayAll0 (u.map .int)) = true
    rw [lay_ints u]; rfl
theorem depth_ints : ∀ u : List Int, PyData.depthAll (u.map .int) = 0
  | [] => by simp only [List.map_nil, PyData.depthAll]
  | a :: u => by simp only [List.map_cons, PyData.depthAll, depth_ints u, PyData.depth]; rfl
theorem shaped_word (u : List Int) : SeqAt.shaped (wordD u) = true := by
  unfold SeqAt.shaped wordD
  simp only [PyData.canLay0, lay_ints, PyData.depth, depth_ints]
  decide
theorem noL_ints : ∀ u : List Int, noLs (u.map .int) = true
  | [] => rfl
  | a :: u => by simp only [List.map_cons, noLs, noL, noL_ints u]; rfl
theorem szs_ints : ∀ u : List Int, szs (u.map .int) = u.length
  | [] => rfl
  | a :: u => by simp only [List.map_cons, szs, sz, szs_ints u, List.length_cons]; omega
theorem noL_word (u : List Int) : noL (wordD u) = true := by simp only [wordD, noL, noL_ints]
theorem sz_word (u : List Int) : sz (wordD u) = 1 + u.length := by simp only [wordD, sz, szs_ints]
theorem word_app (u v : List Int) : PyData.tuple (u.map .int ++ v.map .int) = wordD (u ++ v) := by rw [wordD, List.map_append]
/-! ### a list that no name holds yet -/
def Fl (C : Fx) (p : Addr) (as : List Addr) (H : Hp) : Fx := ⟨p :: C.N, hide H as, C.U⟩
section
variable {K : PySem.W.Frag} {C : Fx} {as : List Addr} {H H2 : Hp} {σ : List (Option V)} {ρ ρ2 : Env} {p : Addr} {xs : List V} {ds : List PyData}
theorem Rep.float (r : Rep K C as H σ ρ) (hp : H p = none) : Rep K (Fl C p as (upd H p (.lst xs))) as (upd H p (.lst xs)) σ ρ ∧ Same (hide H (as ++ C.N)) (hide (upd H p (.lst xs)) (as ++ p :: C.N)) := by
  have pn : p ∉ as ++ C.N := not_hid r hp
  have pas : p ∉ as := fun z => pn (List.mem_append_left _ z)
  have pU : p ∉ C.U := fun z => pn (List.mem_append_right _ (r.unn p z).1)
  have s0 : Same (hide H (as ++ C.N)) (hide (upd H p (.lst xs)) (as ++ p :: C.N)) := fun b o h => by
    obtain ⟨c, h⟩ := hide_some h
    have bp : b ≠ p := fun z => by rw [z, hp] at h; cases h
    rw [hide_out]
    · rw [upd_ne bp]; exact h
    · intro z
      rcases List.mem_append.mp z with z | z
      · exact c (List.mem_append_left _ z)
      · rcases List.mem_cons.mp z with z | z
        · exact bp z
        · exact c (List.mem_append_right _ z)
  refine ⟨⟨r.rep.mono s0 (fun a ha => upd_ne fun (z : a = p) => pas (z ▸ ha)) (fun u n hu hq => hq.move (upd_ne fun (z : u = p) => pU (z ▸ hu))), fun b o _ h => hide_same _ as b o h, fun a ha => hide_in ha, fun a ha => ?_, fun u hu => ⟨List.mem_cons_of_mem _ (r.unn u hu).1, (Keep.new (l := []) hp _).all u (r.unn u hu).2⟩⟩, s0⟩
  show hide (upd H p (.lst xs)) as a ≠ none
  rcases List.mem_cons.mp ha with z | z
  · rw [z, hide_out pas, upd_same]
    exact fun z => by cases z
  · rw [hide_out (fun q => r.hid a z (r.own a q))]
    exact (Keep.new (l := []) hp _).all a fun e => not_hid r e (List.mem_append_right _ z)
theorem Rep.land (r : Rep K C as H σ ρ) (hp : H p = none) (r2 : Rep K (Fl C p as (upd H p (.lst xs))) as H2 σ ρ2) (k : Keep (as ++ p :: C.N) (upd H p (.lst xs)) H2) (hd : DqAll K (hide H (as ++ C.N)) xs ds) (i : Nat) :
    ∃ as', Rep K C as' H2 (σ.set i (some (.ref p))) (ρ2.set i (.own ds)) ∧ Step C as H as' H2 ∧ Same (hide H2 (as ++ p :: C.N)) (hide H2 (as' ++ C.N)) := by
  obtain ⟨_, s0⟩ := r.float (xs := xs) hp
  have pn : p ∉ as ++ C.N := not_hid r hp
  have pas : p ∉ as := fun z => pn (List.mem_append_left _ z)
  have pU : p ∉ C.U := fun z => pn (List.mem_append_right _ (r.unn p z).1)
  have at_p : H2 p = some (.lst xs) := r2.ent p _ pU (by
    show hide (upd H p (.lst xs)) as p = _
    rw [hide_out pas]; exact upd_same)
  have ks : Same (hide (upd H p (.lst xs)) (as ++ p :: C.N)) (hide H2 (as ++ p :: C.N)) := k.see
  obtain ⟨as', q1, q2⟩ := r2.rep.set (x := some (.ref p)) (sl := .own ds) (new := [p]) (fun t ht => .obj at_p (.lst (dps_mono (s0.trans ks) hd)) (ht p (List.mem_singleton.mpr rfl)) t) i (fun a ha => by rw [List.mem_singleton.mp ha]; exact pas)
  have sub : ∀ a ∈ as' ++ C.N, a ∈ as ++ p :: C.N := fun a z => by
    rcases List.mem_append.mp z with z | z
    · rcases q2 a z with y | y
      · rw [List.mem_singleton.mp y]
        exact List.mem_append_right _ (List.mem_cons_self ..)
      · exact List.mem_append_left _ y
    · exact List.mem_append_right _ (List.mem_cons_of_mem _ z)
  have up : Same (hide H2 (as ++ p :: C.N)) (hide H2 (as' ++ C.N)) := hide_sub sub
  have keep : ∀ b o, b ∉ as → b ∉ C.U → H b = some o → H2 b = some o := fun b o ha hU h => r2.ent b o hU (by
    show hide (upd H p (.lst xs)) as b = some o
    rw [hide_out ha]; exact same_new hp _ b o h)
  have hpN : C.He p = none := by
    cases e : C.He p with
    | none => rfl
    | some o =>
      have := r.ent p o pU e
      rw [hp] at this; cases this
  refine ⟨as', ⟨q1.mono up (fun _ _ => rfl) (fun _ _ _ h => h), fun b o hb e => ?_, fun a z => ?_, r.hid, fun u hu => ⟨(r.unn u hu).1, (r2.unn u hu).2⟩⟩, ⟨fun a o ha h => ?_, fun a z => ?_, fun a h => k.all a ((Keep.new (l := []) hp _).all a h)⟩, up⟩
  · exact keep b o (fun z => by rw [r.own b z] at e; cases e) hb (r.ent b o hb e)
  · rcases q2 a z with y | y
    · rw [List.mem_singleton.mp y]; exact hpN
    · exact r.own a y
  · have s1 := (s0.trans ks) a o (by rw [hide_out ha]; exact h)
    exact (hide_some s1).2
  · rcases q2 a z with y | y
    · rw [List.mem_singleton.mp y]; exact .inr hp
    · exact .inl y
end
variable {X : Cx} {C : Fx}
theorem pe_all {Y : Cx} {e : Expr} {w : WD} (h : ∀ C, PD Y C e w) : PE Y e (anyE Y.K w) := ⟨fun pins s σ H Q I ⟨C, q⟩ => (h C).run pins s σ H Q I q⟩
/-- a, b = [..], e -/
def wsOD (i j : Nat) (ws : WA) (wb : WD) : WS := fun P ρ => ws ρ fun ds ρ1 => ds.length ≤ 1000 ∧ wb ρ1 fun d ρ2 => P.nx ((ρ2.set i (.own ds)).set j (.d d))
theorem pds_parOD {i j : Nat} {x y : Str} {es : List Expr} {p2 : Pos} {b : Expr} {ws : WA} {wb : WD} {px py pt pt2 pos : Pos} {kt k2 : Nat} (hc : X.calm = true) (nd : X.N.Nodup) (hi : X.N[i]? = some x) (hj : X.N[j]? = some y) (hn : i ≠ j) (hx : X.env.scope.names.lookup x = some .local) (hy : X.env.scope.names.lookup y = some .local)
    (ha : PDA X C es ws) (hb : ∀ C', PD X C' b wb) (hs : swappedStores [.Tuple [.Name x px, .Name y py] kt pt] (.Tuple [.List es p2, b] k2 pt2) X.env = pure (some [x, y]))
    (h1 : starEach [.List es p2, b] X.env = (false, eval (.List es p2) X.env) :: starEach [b] X.env := by rfl) (h2 : starEach [b] X.env = (false, eval b X.env) :: starEach [] X.env := by rfl)
    (hw : swapsWithSole [.Tuple [.Name x px, .Name y py] kt pt] (.Tuple [.List es p2, b] k2 pt2) pos.line X.env = pure false := by rfl) :
    PDS X C (.Assign [.Tuple [.Name x px, .Name y py] kt pt] (.Tuple [.List es p2, b] k2 pt2) pos) (wsOD i j ws wb) :=
  ps_imp (ps_par (ta := tCons (tLst (tDA X.K C ws)) (tCons (anyE X.K wb) tNil)) hc nd hi hj hn hx hy (pa_cons (pe_lst ha) (pa_cons (pe_all hb) pa_nil h2) h1) hs hw) fun D σ H ⟨as, ρ, P, r, q, f1, _⟩ =>
    ⟨as, ρ, _, r, q, fun ds ρ1 vs H1 ⟨ln, q1⟩ r1 k1 d1 => ⟨by rw [dps_len d1]; exact le_line ln, fun p hp => ⟨Fl C p as (upd H1 p (.lst vs)), as, ρ1, _, (r1.float hp).1, q1, fun d ρ2 v H2 q2 r2 k2 d2 => ⟨.ref p, v, rfl, by
      obtain ⟨as', r3, s3, up⟩ := r1.land hp r2 k2 d1 i
      obtain ⟨as2, r4, s4⟩ := r3.setD j (dp_mono up d2)
      exact f1 as2 _ _ H2 q2 r4 (k1.step.trans (s3.trans (.sub s4)))⟩⟩⟩⟩
end DL
set_option Elab.async false
set_option linter.all false
set_option maxRecDepth 100000
set_option maxHeartbeats 4000000
/-! The draws' list read and stored into; lists that are new; a chain of comparisons. -/
namespace DL
open PySem PySem.Spec PyProof.Rows L2
variable {X : Cx} {C : Fx}
section
variable {K : PySem.W.Frag} {as : List Addr} {H : Hp} {σ : List (Option V)} {ρ : Env}
/-- the draws' list takes other numbers -/
theorem Rep.urnSet (r : Rep K C as H σ ρ) {i n n' : Nat} {u : Addr} {o : HO} (e : ρ[i]? = some (.urn n)) (es : σ[i]? = some (some (.ref u))) (hs : sole ρ i = true) (hu : UrnAt (upd H u o) u n') (uU : u ∈ C.U) :
    Rep K C as (upd H u o) σ (ρ.set i (.urn n')) ∧ Keep (as ++ C.N) H (upd H u o) :=
  rep_drawn r e es hs (fun b o' c q => by rw [upd_ne fun z => c (by rw [z]; exact List.mem_singleton.mpr rfl)]; exact q) hu uU
end
/-- urn[0], urn[1], urn[2] -/
def urnB (c : Int) (n : Nat) (v : Int) : Prop := if c = 0 then 0 ≤ v else if c = 1 then 0 ≤ v ∧ v < 2 ^ 62 else 0 ≤ v ∧ v ≤ (n : Int)
def wUrn (i : Nat) (c : Int) : WD := fun ρ k => ∃ n, ρ[i]? = some (.urn n) ∧ (c = 0 ∨ c = 1 ∨ c = 2) ∧ ∀ v : Int, urnB c n v → k (.int v) ρ
theorem pd_urn {i : Nat} {x : Str} {px pos p2 : Pos} {c : Int} {j : Nat} (hv : PE X (.Name x px) (tVar i)) (hp : PlainIx (.Constant (.int c) j p2) := by exact fun _ _ => rfl) : PD X C (.Subscript (.Name x px) (.Constant (.int c) j p2) pos) (wUrn i c) :=
  pe_imp (pe_ix ix_list hv pe_int hp) fun σ H Q ⟨as, ρ, k, r, ⟨n, e, hc, q⟩, f⟩ => by
    obtain ⟨u, g1, g2, b, s, m, g3, h0, h1, h2, h3⟩ := r.rep.getUrn e
    have sq : SqL X.K H u [.int b, .int s, .int (m : Int)] := SqL.of g3
    rcases hc with rfl | rfl | rfl
    · exact ⟨.ref u, g1, u, _, 0, .int b, rfl, rfl, sq, rfl, f _ ρ _ H (q b h0) r (Keep.refl ..) (.int _)⟩
    · exact ⟨.ref u, g1, u, _, 1, .int s, rfl, rfl, sq, rfl, f _ ρ _ H (q s ⟨h1, h2⟩) r (Keep.refl ..) (.int _)⟩
    · exact ⟨.ref u, g1, u, _, 2, .int (m : Int), rfl, rfl, sq, rfl, f _ ρ _ H (q _ ⟨Int.natCast_nonneg _, by exact_mod_cast h3⟩) r (Keep.refl ..) (.int _)⟩
/-- urn[0] = e, urn[2] = e -/
def wsUrn (i : Nat) (c : Int) (we : WD) : WS := fun P ρ => (∃ n, ρ[i]? = some (.urn n)) ∧ we ρ fun d ρ1 => ∃ (n n' : Nat) (v : Int), ρ1[i]? = some (.urn n) ∧ sole ρ1 i = true ∧ d = .int v ∧ ((c = 0 ∧ 0 ≤ v ∧ n' = n) ∨ (c = 2 ∧ 0 ≤ v ∧ v ≤ (n' : Int))) ∧ P.nx (ρ1.set i (.urn n'))
theorem pds_urn {i : Nat} {x : Str} {px pos p2 p3 : Pos} {c : Int} {j : Nat} {e : Expr} {we : WD} (he : PD X C e we) (hv : PE X (.Name x px) (tVar i))
    (hsub : ∀ (v : Value), assign (.Subscript (.Name x px) (.Constant (.int c) j p3) p2) X.env v = (do
      let ov ← holding [v] (eval (.Name x px) X.env)
      let iv ← holding [v, ov] (eval (.Constant (.int c) j p3) X.env)
      standAt p2
      holding [v, ov, iv] (setItem ov iv v)
      release [v, ov, iv] []) := by intro _; rfl)
    (hs : swapsWithSole [.Subscript (.Name x px) (.Constant (.int c) j p3) p2] e pos.line X.env = pure false := by rfl) (hw : swappedStores [.Subscript (.Name x px) (.Constant (.int c) j p3) p2] e X.env = pure none := by rfl)
    (h1 : (assignEach [.Subscript (.Name x px) (.Constant (.int c) j p3) p2] X.env).map (·.2) = [assign (.Subscript (.Name x px) (.Constant (.int c) j p3) p2) X.env] := by rfl) :
    PDS X C (.Assign [.Subscript (.Name x px) (.Constant (.int c) j p3) p2] e pos) (wsUrn i c we) :=
  ps_imp (ps_asg he (pg_sub hv pe_int set_list hsub) hs hw h1) fun D σ H ⟨as, ρ, P, r, ⟨⟨n0, e0⟩, q⟩, f1, _⟩ => by
    obtain ⟨u, g1, g2, _⟩ := r.rep.getUrn e0
    refine ⟨as, ρ, _, r, q, fun d ρ1 v H1 ⟨n, n', z, e1, so, ed, hb, q1⟩ r1 k1 d1 => ?_⟩
    subst ed
    obtain rfl := dp_int d1
    obtain ⟨u', g1', g2', b, s, m, g3, w0, w1, w2, w3⟩ := r1.rep.getUrn e1
    rw [g1] at g1'
    cases g1'
    rcases hb with ⟨rfl, hz, rfl⟩ | ⟨rfl, hz, hz'⟩
    · obtain ⟨r2, k2⟩ := r1.urnSet (o := .lst [.int z, .int s, .int (m : Int)]) (n' := n') e1 g1 so ⟨z, s, m, upd_same, hz, w1, w2, w3⟩ g2
      exact ⟨.ref u, g1, u, _, 0, 0, rfl, rfl, g3, rfl, f1 as _ σ _ q1 r2 (k1.trans k2).step⟩
    · obtain ⟨zn, rfl⟩ := Int.eq_ofNat_of_zero_le hz
      obtain ⟨r2, k2⟩ := r1.urnSet (o := .lst [.int b, .int s, .int ((zn : Nat) : Int)]) (n' := n') e1 g1 so ⟨b, s, zn, upd_same, w0, w1, w2, by exact_mod_cast hz'⟩ g2
      exact ⟨.ref u, g1, u, _, 2, 2, rfl, rfl, g3, rfl, f1 as _ σ _ q1 r2 (k1.trans k2).step⟩
/-! ### a <= b < c -/
def wLeLt (wa wb wc : WD) : WT := fun ρ k => wa ρ fun d1 ρ1 => wb ρ1 fun d2 ρ2 => ∃ i j : Int, d1 = .int i ∧ d2 = .int j ∧ if decide (i ≤ j) = true then wc ρ2 fun d3 ρ3 => ∃ m : Int, d3 = .int m ∧ k (decide (j < m)) ρ3 else k false ρ2
theorem pdt_lelt {a b c : Expr} {wa wb wc : WD} {pos : Pos} (ha : PD X C a wa) (hb : PD X C b wb) (hc : PD X C c wc) (hm : lastMarks [.LtE, .Lt] [b, c] = false := by rfl) : PDT X C (.Compare a [.LtE, .Lt] [b, c] pos) (wLeLt wa wb wc) :=
  pt_imp (pt_chain op_le op_lt ha hb hc hm) fun σ H Q ⟨as, ρ, k, r, q, f⟩ => ⟨as, ρ, _, r, q, fun d1 ρ1 v1 H1 q1 r1 k1 e1 => ⟨as, ρ1, _, r1, q1, fun d2 ρ2 v2 H2 ⟨i, j, z1, z2, q2⟩ r2 k2 e2 => by
    subst z1; subst z2
    obtain rfl := dp_int e1
    obtain rfl := dp_int e2
    refine ⟨i, j, rfl, rfl, _, rfl, ?_⟩
    by_cases hij : decide (i ≤ j) = true
    · rw [if_pos hij] at q2 ⊢
      exact ⟨as, ρ2, _, r2, q2, fun d3 ρ3 v3 H3 ⟨m, z3, q3⟩ r3 k3 e3 => by
        subst z3
        obtain rfl := dp_int e3
        exact ⟨j, m, rfl, rfl, _, rfl, f _ ρ3 H3 q3 r3 ((k1.trans k2).trans k3)⟩⟩
    · rw [if_neg hij] at q2 ⊢
      exact ⟨false, rfl, f _ ρ2 H2 q2 r2 (k1.trans k2)⟩⟩⟩
/-! ### x ** y, ints -/
theorem pd_pow {a b : Expr} {pos : Pos} {wa wb : WD} (ha : PD X C a wa) (hb : PD X C b wb) : PD X C (.BinOp a .Pow b pos) (wOp (pI CPow fun i j => .int (i ^ j.toNat)) wa wb) := pd_op op_pow two_I ha hb
/-! ### x = list(e) or [..], a list that will be changed -/
def wsLo (i : Nat) (we ws : WA) : WS := fun P ρ => we ρ fun es ρ1 => ∃ d xs, es = [d] ∧ seqOf d = some xs ∧ if (!xs.isEmpty) = true then P.nx (ρ1.set i (.own xs)) else ws ρ1 fun ds ρ2 => ds.length ≤ 1000 ∧ P.nx (ρ2.set i (.own ds))
theorem pds_lo {i : Nat} {tg e : Expr} {es : List Expr} {p p1 p2 p3 pos : Pos} {we ws : WA} (hm : X.mg "list" = none) (hg : Gl X "list") (he : PDA X C [e] we) (hes : PDA X C es ws) (ht : PG X tg (gName i))
    (h3 : starEach [e] X.env = (false, eval e X.env) :: starEach [] X.env := by rfl) (h4 : (backTo p1 (starEach [] X.env)).any (·.1) = false := by rfl)
    (hs : swapsWithSole [tg] (.BoolOp .Or [.Call (.Name "list" p) [e] [] p1, .List es p2] p3) pos.line X.env = pure false := by rfl) (hw : swappedStores [tg] (.BoolOp .Or [.Call (.Name "list" p) [e] [] p1, .List es p2] p3) X.env = pure none := by rfl)
    (h1 : (assignEach [tg] X.env).map (·.2) = [assign tg X.env] := by rfl) : PDS X C (.Assign [tg] (.BoolOp .Or [.Call (.Name "list" p) [e] [] p1, .List es p2] p3) pos) (wsLo i we ws) :=
  ps_imp (ps_asg (pe_orT (pe_callTy call_list_of hg hm (by decide +kernel) he (by decide) (by decide) h3 h4) (pe_one (pe_lst hes))) ht hs hw h1) fun D σ H ⟨as, ρ, P, r, q, f1, _⟩ => ⟨as, ρ, _, r, q, fun ds ρ1 vs H1 ⟨d, xs, ed, eq, q1⟩ r1 k1 d1 => by
    subst ed
    have fin : ∀ (b : Addr) (ys : List V), (SqL X.K H1 b ys ∨ SqT X.K H1 b ys) → DqAll X.K (hide H1 (as ++ C.N)) ys xs → ∃ p zs, [V.ref b] = [V.ref p] ∧ (SqL X.K H1 p zs ∨ SqT X.K H1 p zs) ∧ ∀ (l : Addr), H1 l = none →
        (fun x H1 => ∃ k, TruV X.K x H1 k ∧ if k = true then gName i x σ H1 D.nx else tLst (tDA X.K C ws) σ H1 fun x H1 => gName i x σ H1 D.nx) (V.ref l) (upd H1 l (HO.lst zs)) := by
      intro b ys hb t
      refine ⟨b, ys, rfl, hb, fun l hl => ⟨_, .inl ⟨ys, SqL.of upd_same, rfl⟩, ?_⟩⟩
      have e2 : (!ys.isEmpty) = (!xs.isEmpty) := by cases t <;> rfl
      rw [e2]
      by_cases c : (!xs.isEmpty) = true
      · rw [if_pos c] at q1 ⊢
        obtain ⟨as', r2, s2⟩ := r1.setOwn i hl t
        exact f1 as' _ _ _ q1 r2 (k1.step.trans s2)
      · rw [if_neg c] at q1 ⊢
        refine ⟨as, ρ1, _, rep_new r1 hl, q1, fun ds ρ2 vs2 H2 ⟨ln, q2⟩ r2 k2 d2 => ⟨by rw [dps_len d2]; exact le_line ln, fun p hp => ?_⟩⟩
        obtain ⟨as', r3, s3⟩ := r2.setOwn i hp d2
        exact f1 as' _ _ _ q2 r3 (((k1.trans (Keep.new hl _)).trans k2).step.trans s3)
    cases d1 with
    | cons h t =>
      cases t
      cases h with
      | non => cases eq
      | bl b => cases eq
      | int i => cases eq
      | str x => cases eq
      | dk _ _ _ _ _ _ => cases eq
      | dt _ _ _ _ _ _ _ => cases eq
      | lst a t => cases eq; exact fin _ _ (.inl (seqL_un a)) t
      | tup a t => cases eq; exact fin _ _ (.inr (seqT_un a)) t⟩
/-! ### defs that hand back a new list -/
def spL (K : PySem.W.Frag) (f : List PyData → (List PyData → Prop) → Prop) : Sp := fun vs H Q _ => ∃ N ds k, (∀ a ∈ N, H a ≠ none) ∧ DqAll K (hide H N) vs ds ∧ f ds k ∧
  ∀ es p xs H', k es → H p = none → Same H H' → H' p = some (.lst xs) → DqAll K (hide H' (p :: N)) xs es → Q (.ref p) H'
theorem ok_L {P : Program} {w : World} {K : PySem.W.Frag} {mg : Str → Option Value} {base : Heap} {x qual : Str} {st : Stmt} {f : Addr} {fd : FuncData} {N ps : List Str} {k : Nat} {df : List PyData → (List PyData → Prop) → Prop} (F : Fun K x qual st f fd) (S : FnScope N ps (defScope st))
    (hlen : ∀ ds k, df ds k → ds.length = ps.length)
    (hbody : ∀ (cdv : Value) (A : Around) (outer : List PySem.Env) (s : Shared) (H : Hp) (E : XK) (C : Fx), Room k (A.deeper (envOfC qual (defScope st) s.heap.objs.size f cdv)) →
      ∃ (wb : WS) (ws : WA), PSs (cxOf CX0 P w K mg base N qual (defScope st) f cdv A outer s H E).nox (defBody st) (tSeq (tDS K C wb) (tSeq (tRet (tLst (tDA K C ws))) tNext)) ∧
        ∀ ds kk, df ds kk → wb { nx := fun ρ => ws ρ fun es _ => es.length ≤ 1000 ∧ kk es, rt := fun _ _ => False } (startE N.length ds)) : FnOk P w K mg base CX0 (k + 1) f fd ps (spL K df) := by
  refine F.ok S (fun vs H Q E h => ?_) (fun cdv A outer s H vs Q E hr h => ?_)
  · obtain ⟨N', ds, kk, _, hd, hf, _⟩ := h
    rw [dps_len hd, hlen ds kk hf]
  · obtain ⟨N', ds, kk, hN, hd, hf, hQ⟩ := h
    obtain ⟨wb, ws, hw, hq⟩ := hbody cdv A outer s H E ⟨N', H, []⟩ hr
    refine ⟨_, hw, [], startE N.length ds, _, ⟨?_, fun b o _ h => h, fun a z => (nomatch z), hN, fun u z => (nomatch z)⟩, hq ds kk hf, ?_, fun _ _ _ _ _ _ z => z.elim, fun _ _ _ _ z => z.elim, fun _ _ _ _ z => z.elim⟩
    · show RepS K (hide H ([] ++ N')) H [] (vs.map some ++ List.replicate (N.length - vs.length) none) (ds.map Slot.d ++ List.replicate (N.length - ds.length) Slot.un) []
      rw [dps_len hd]
      exact rep_ds (rep_uns _) hd
    · intro as' ρ' σ' H' q r' s'
      refine ⟨as', ρ', _, r', q, fun es ρ2 xs H2 ⟨ln, q2⟩ r2 k2 d2 => ⟨by rw [dps_len d2]; exact le_line ln, fun p hp => ?_⟩⟩
      have hs : Same H H2 := fun b o h => r2.ent b o (by simp) h
      have pH : H p = none := by
        cases e : H p with
        | none => rfl
        | some o =>
          have := hs p o e
          rw [hp] at this; cases this
      refine hQ es p xs _ q2 pH (hs.trans (same_new hp _)) upd_same (dps_mono ?_ d2)
      intro b o h
      obtain ⟨c, h⟩ := hide_some h
      have bp : b ≠ p := fun z => by rw [z, hp] at h; cases h
      rw [hide_out]
      · rw [upd_ne bp]; exact h
      · intro z
        rcases List.mem_cons.mp z with z | z
        · exact bp z
        · exact c (List.mem_append_right _ z)
/-- g(box(e, ..)): the new list is what g draws from -/
def wBox (fb : List PyData → (List PyData → Prop) → Prop) (uf : UF) (ws : WA) : WD := fun ρ k => ws ρ fun ds ρ1 => fb ds fun es => ∃ (b s : Int) (n : Nat), es = [.int b, .int s, .int (n : Int)] ∧ 0 ≤ b ∧ 0 ≤ s ∧ s < 2 ^ 62 ∧ uf n [] fun _ d => k d ρ1
theorem pd_box {k1 k2 : Nat} {ps1 ps2 : List Str} {x y : Str} {p p2 pos pos2 : Pos} {e : Expr} {es : List Expr} {ws : WA} {fb : List PyData → (List PyData → Prop) → Prop} {uf : UF} (D1 : Df X.prog X.w X.K X.mg X.base x ps1 k1 (spU X.K uf)) (D2 : Df X.prog X.w X.K X.mg X.base y ps2 k2 (spL X.K fb)) (hr1 : Room k1 X.A) (hr2 : Room k2 X.A)
    (hg1 : Gl X x) (hg2 : Gl X y) (ha : PDA X C (e :: es) ws) (h1 : (x == ("__debug__" : Str)) = false := by decide) (h2 : (y == ("__debug__" : Str)) = false := by decide)
    (h3 : starEach (e :: es) X.env = (false, eval e X.env) :: starEach es X.env := by rfl) (h4 : (backTo pos2 (starEach es X.env)).any (·.1) = false := by rfl)
    (h5 : starEach [Expr.Call (.Name y p2) (e :: es) [] pos2] X.env = (false, eval (.Call (.Name y p2) (e :: es) [] pos2) X.env) :: starEach [] X.env := by rfl) (h6 : (backTo pos (starEach [] X.env)).any (·.1) = false := by rfl) :
    PD X C (.Call (.Name x p) [.Call (.Name y p2) (e :: es) [] pos2] [] pos) (wBox fb uf ws) := by
  obtain ⟨f1, fd1, F1, m1, q1, b1⟩ := D1.ex
  obtain ⟨f2, fd2, F2, m2, q2, b2⟩ := D2.ex
  refine pe_imp (pe_call F1 hr1 hg1 m1 q1 b1 .nil pass0 (pa_cons (pe_call F2 hr2 hg2 m2 q2 b2 .nil pass0 ha h2 h3 h4) pa_nil h5) h1 h5 h6) fun σ H Q ⟨as, ρ, k, r, q, f⟩ => ⟨as, ρ, _, r, q, fun ds ρ1 vs H1 z1 r1 k1 d1 => ?_⟩
  show spL X.K fb (vs ++ []) H1 _ E0
  rw [List.append_nil]
  refine ⟨as ++ C.N, ds, _, mem_ne r1, d1, z1, fun es' u xs H2 ⟨b, s, n, ee, hb, hs0, hs1, hu⟩ hu0 sm hH de => ?_⟩
  subst ee
  show spU X.K uf ([V.ref u] ++ []) H2 Q E0
  have ex : xs = [.int b, .int s, .int (n : Int)] := by
    cases de with
    | cons x1 t =>
      cases t with
      | cons x2 t =>
        cases t with
        | cons x3 t =>
          cases t
          rw [dp_int x1, dp_int x2, dp_int x3]
  subst ex
  refine ⟨u, [], u :: (as ++ C.N), n, [], _, rfl, List.mem_cons_self .., ⟨b, s, n, hH, hb, hs0, hs1, Nat.le_refl _⟩, fun a z => ?_, .nil, hu, fun n' d v H3 z3 sb _ dv => ?_⟩
  · rcases List.mem_cons.mp z with z | z
    · rw [z, hH]; exact fun z => by cases z
    · exact (Keep.of (l := []) sm).all a (mem_ne r1 a z)
  · have s13 : Same H1 H3 := fun a o h => sb a o (fun z => by rw [List.mem_singleton.mp z, hu0] at h; cases h) (sm a o h)
    exact f d ρ1 v H3 z3 (r1.same s13) (k1.trans (Keep.of s13)) (dp_mono (hide_sub fun a z => List.mem_cons_of_mem _ z) dv)
end DL
set_option Elab.async false
set_option linter.all false
set_option maxRecDepth 100000
set_option maxHeartbeats 4000000
/-! Items and lengths of own lists. -/
namespace DL
open PySem PySem.Spec PyProof.Rows L2
variable {X : Cx} {C : Fx}
/-- x[e], x an own list -/
def wIxOwn (i : Nat) (we : WD) : WD := fun ρ k => (∃ ds, ρ[i]? = some (.own ds)) ∧ we ρ fun d ρ1 => ∃ (ds : List PyData) (m : Int) (d' : PyData), ρ1[i]? = some (.own ds) ∧ d = .int m ∧ atI ds m = some d' ∧ k d' ρ1
theorem pd_ixOwn {i : Nat} {x : Str} {px pos : Pos} {e : Expr} {we : WD} (hv : PE X (.Name x px) (tVar i)) (he : PD X C e we) (hp : PlainIx e := by exact fun _ _ => rfl) : PD X C (.Subscript (.Name x px) e pos) (wIxOwn i we) :=
  pe_imp (pe_ix ix_list hv he hp) fun σ H Q ⟨as, ρ, k, r, ⟨⟨ds0, e0⟩, q⟩, f⟩ => by
    obtain ⟨a, xs0, p1, p2, p3, p4⟩ := r.rep.getOwn e0
    refine ⟨.ref a, p1, as, ρ, _, r, q, fun d ρ1 v H1 ⟨ds, m, d', e1, ed, em, q1⟩ r1 k1 d1 => ?_⟩
    subst ed
    obtain rfl := dp_int d1
    obtain ⟨a', xs, s1, s2, s3, s4⟩ := r1.rep.getOwn e1
    rw [p1] at s1
    cases s1
    obtain ⟨v', hv', dv'⟩ := atI_dq s4 em
    exact ⟨a, xs, m, v', rfl, rfl, SqL.of s3, hv', f d' ρ1 v' H1 q1 r1 k1 dv'⟩
/-- len(x), x an own list -/
def wLenOwn (i : Nat) : WD := fun ρ k => ∃ ds, ρ[i]? = some (.own ds) ∧ k (.int ds.length) ρ
theorem pd_lenOwn {i : Nat} {x : Str} {px p pos : Pos} (hm : X.mg "len" = none) (hg : Gl X "len") (hv : PE X (.Name x px) (tVar i)) (h3 : starEach [Expr.Name x px] X.env = (false, eval (.Name x px) X.env) :: starEach [] X.env := by rfl) (h4 : (backTo pos (starEach [] X.env)).any (·.1) = false := by rfl) :
    PD X C (.Call (.Name "len" p) [.Name x px] [] pos) (wLenOwn i) :=
  pe_imp (pe_callB call_len_seq hg hm PySem.boot_len (pa_cons hv pa_nil h3) (by decide) (by decide) h3 h4) fun σ H Q ⟨as, ρ, k, r, ⟨ds, e, q⟩, f⟩ => by
    obtain ⟨a, xs, p1, p2, p3, p4⟩ := r.rep.getOwn e
    exact ⟨.ref a, p1, a, xs, rfl, .inl (SqL.of p3), f _ ρ _ H q r (Keep.refl ..) (by rw [dps_len p4]; exact .int _)⟩
theorem mod_lt {v low : Int} (h : 0 < low) : 0 ≤ v % low ∧ v % low < low := ⟨Int.emod_nonneg _ (by omega), Int.emod_lt_of_pos _ h⟩
end DL
set_option Elab.async false
set_option linter.all false
set_option maxRecDepth 100000
set_option maxHeartbeats 4000000
/-! Dicts: own ones and such as are data; ranges from their end. -/
namespace DL
open PySem PySem.Spec PyProof.Rows L2
/-! ### tables over data -/
section
variable {κ : Type} [DecidableEq κ]
def atD (kvs : List (κ × PyData)) (k : κ) : Option PyData := (kvs.find? fun kv => decide (kv.1 = k)).map (·.2)
def putD (kvs : List (κ × PyData)) (k : κ) (d : PyData) : List (κ × PyData) :=
  if (kvs.any fun kv => decide (kv.1 = k)) = true then kvs.map (fun kv => if kv.1 = k then (kv.1, d) else kv) else kvs ++ [(k, d)]
variable {K : PySem.W.Frag} {G : Hp}
theorem at_DV {k : κ} : ∀ {kvs : List (κ × V)} {dvs : List (κ × PyData)}, kvs.map (·.1) = dvs.map (·.1) → DqAll K G (kvs.map (·.2)) (dvs.map (·.2)) →
    (valV kvs k).isSome = (atD dvs k).isSome ∧ ∀ d, atD dvs k = some d → ∃ v, valV kvs k = some v ∧ Dq K G v d
  | [], [], _, _ => ⟨rfl, fun d z => by cases z⟩
  | [], _ :: _, h, _ => by cases h
  | _ :: _, [], h, _ => by cases h
  | p :: kvs, q :: dvs, h, g => by
    obtain ⟨h1, h2⟩ := List.cons.inj h
    have h1 : p.1 = q.1 := h1
    cases g with
    | cons g1 g2 =>
      by_cases e : p.1 = k
      · have e' : q.1 = k := by rw [← h1]; exact e
        have z1 : valV (p :: kvs) k = some p.2 := valV_pos e
        have z2 : atD (q :: dvs) k = some q.2 := by simp [atD, List.find?_cons, e']
        rw [z1, z2]
        exact ⟨rfl, fun d z => ⟨_, rfl, by cases z; exact g1⟩⟩
      · have e' : ¬ q.1 = k := by rw [← h1]; exact e
        have z1 : valV (p :: kvs) k = valV kvs k := valV_neg e
        have z2 : atD (q :: dvs) k = atD dvs k := by simp [atD, List.find?_cons, e']
        rw [z1, z2]
        exact at_DV h2 g2
theorem any_DV {k : κ} : ∀ {kvs : List (κ × V)} {dvs : List (κ × PyData)}, kvs.map (·.1) = dvs.map (·.1) → (kvs.any fun kv => decide (kv.1 = k)) = (dvs.any fun kv => decide (kv.1 = k))
  | [], [], _ => rfl
  | [], _ :: _, h => by cases h
  | _ :: _, [], h => by cases h
  | p :: kvs, q :: dvs, h => by
    obtain ⟨h1, h2⟩ := List.cons.inj h
    rw [List.any_cons, List.any_cons, any_DV h2, show p.1 = q.1 from h1]
theorem repl_DV {k : κ} {v : V} {d : PyData} (hv : Dq K G v d) : ∀ {kvs : List (κ × V)} {dvs : List (κ × PyData)}, kvs.map (·.1) = dvs.map (·.1) → DqAll K G (kvs.map (·.2)) (dvs.map (·.2)) →
    (kvs.map fun kv => if kv.1 = k then (kv.1, v) else kv).map (·.1) = (dvs.map fun kv => if kv.1 = k then (kv.1, d) else kv).map (·.1) ∧
      DqAll K G ((kvs.map fun kv => if kv.1 = k then (kv.1, v) else kv).map (·.2)) ((dvs.map fun kv => if kv.1 = k then (kv.1, d) else kv).map (·.2))
  | [], [], _, _ => ⟨rfl, .nil⟩
  | [], _ :: _, h, _ => by cases h
  | _ :: _, [], h, _ => by cases h
  | p :: kvs, q :: dvs, h, g => by
    obtain ⟨h1, h2⟩ := List.cons.inj h
    have h1' : p.1 = q.1 := h1
    cases g with
    | cons g1 g2 =>
      obtain ⟨i1, i2⟩ := repl_DV (k := k) hv h2 g2
      simp only [List.map_cons]
      by_cases e : p.1 = k
      · have e' : q.1 = k := by rw [← h1']; exact e
        rw [if_pos e, if_pos e', i1]
        exact ⟨by rw [h1'], .cons hv i2⟩
      · have e' : ¬ q.1 = k := by rw [← h1']; exact e
        rw [if_neg e, if_neg e', i1]
        exact ⟨by rw [h1'], .cons g1 i2⟩
theorem put_DV {k : κ} {v : V} {d : PyData} {kvs : List (κ × V)} {dvs : List (κ × PyData)} (hv : Dq K G v d) (h : kvs.map (·.1) = dvs.map (·.1)) (g : DqAll K G (kvs.map (·.2)) (dvs.map (·.2))) :
    (putK kvs k v).map (·.1) = (putD dvs k d).map (·.1) ∧ DqAll K G ((putK kvs k v).map (·.2)) ((putD dvs k d).map (·.2)) := by
  unfold putK putD
  rw [any_DV h]
  by_cases c : (dvs.any fun kv => decide (kv.1 = k)) = true
  · rw [if_pos c, if_pos c]
    exact repl_DV hv h g
  · rw [if_neg c, if_neg c, List.map_append, List.map_append, List.map_append, List.map_append, h]
    exact ⟨rfl, dps_append g (.cons hv .nil)⟩
theorem atD_put {dvs : List (κ × PyData)} {k j : κ} {d : PyData} : atD (putD dvs k d) j = if j = k then some d else atD dvs j := by
  unfold putD
  by_cases c : (dvs.any fun kv => decide (kv.1 = k)) = true
  · rw [if_pos c]
    induction dvs with
    | nil => simp at c
    | cons q dvs ih =>
      by_cases e : q.1 = k
      · by_cases f : j = k
        · simp [atD, List.find?_cons, e, f]
        · have f' : ¬ k = j := fun z => f z.symm
          rw [if_neg f]
          by_cases c2 : (dvs.any fun kv => decide (kv.1 = k)) = true
          · have i := ih c2
            rw [if_neg f] at i
            simp only [atD, List.map_cons, List.find?_cons, e, f', if_true, decide_false] at i ⊢
            exact i
          · have same : ∀ l : List (κ × PyData), ¬ (l.any fun kv => decide (kv.1 = k)) = true → (l.map fun kv => if kv.1 = k then (kv.1, d) else kv) = l := by
              intro l h
              refine (List.map_congr_left (g := id) fun x hx => ?_).trans (List.map_id _)
              rw [if_neg]
              · rfl
              · intro z
                exact h (List.any_eq_true.mpr ⟨x, hx, by simpa using z⟩)
            simp only [atD, List.map_cons, List.find?_cons, e, f', if_true, decide_false, same dvs c2]
      · have c2 : (dvs.any fun kv => decide (kv.1 = k)) = true := by simpa [List.any_cons, e] using c
        have i := ih c2
        by_cases f : q.1 = j
        · have f' : ¬ j = k := fun z => e (f.trans z)
          simp [atD, List.find?_cons, e, f, f']
        · simp only [atD, List.map_cons, List.find?_cons, e, f, if_false, decide_false] at i ⊢
          exact i
  · rw [if_neg c]
    have none : (dvs.find? fun kv => decide (kv.1 = k)) = none := by
      rw [List.find?_eq_none]
      intro x hx z
      exact c (List.any_eq_true.mpr ⟨x, hx, z⟩)
    unfold atD
    rw [List.find?_append]
    by_cases f : j = k
    · subst f
      rw [none, if_pos rfl]
      simp
    · have f' : ¬ k = j := fun z => f z.symm
      rw [if_neg f]
      simp [List.find?_cons, f']
end
def kD : PyData → Option Key
  | .int i => some (.inl i)
  | .str x => some (.inr x)
  | _ => none
theorem kD_kV {K : PySem.W.Frag} {H : Hp} {v : V} {d : PyData} {k : Key} (h : Dq K H v d) (e : kD d = some k) : v = kV k := by
  cases h <;> cases e <;> rfl
theorem keyD_inj {a b : Key} (h : keyD a = keyD b) : a = b := by
  cases a <;> cases b <;> cases h <;> rfl
theorem dkD_inj : ∀ {a b : List (Key × PyData)}, dkD a = dkD b → a = b
  | [], [], _ => rfl
  | [], _ :: _, h => by simp [dkD] at h
  | _ :: _, [], h => by simp [dkD] at h
  | (x, d) :: a, (y, e) :: b, h => by
    simp only [dkD, List.map_cons, PyData.dict.injEq, List.cons.injEq, Prod.mk.injEq] at h
    obtain ⟨⟨h1, rfl⟩, h2⟩ := h
    rw [keyD_inj h1, dkD_inj (show dkD a = dkD b by simp only [dkD, h2])]
/-- a dict that is data, its keys numbers and texts -/
theorem dq_dk {K : PySem.W.Frag} {H : Hp} {v : V} {dvs : List (Key × PyData)} (h : Dq K H v (dkD dvs)) : ∃ a kvs, v = .ref a ∧ H a = some (.dK kvs) ∧ kvs.map (·.1) = dvs.map (·.1) ∧ DqAll K H (kvs.map (·.2)) (dvs.map (·.2)) := by
  unfold dkD at h
  cases h with
  | @dk a kvs dvs' _ xs ds e p q r g s =>
    subst q r
    have z : dvs' = dvs := (dkD_inj s).symm
    subst z
    exact ⟨a, kvs, rfl, e, p, g⟩
  | @dt a kvs dvs' _ xs ds e p q r g n s =>
    cases dvs' with
    | nil => exact absurd rfl n
    | cons y l =>
      cases dvs with
      | nil => simp [dtD] at s
      | cons x m =>
        simp only [dtD, List.map_cons, PyData.dict.injEq, List.cons.injEq, Prod.mk.injEq] at s
        obtain ⟨⟨s1, _⟩, _⟩ := s
        cases hx : x.1 <;> rw [hx] at s1 <;> cases s1
end DL
set_option Elab.async false
set_option linter.all false
set_option maxRecDepth 100000
set_option maxHeartbeats 4000000
/-! Rules for dicts; ranges from their end. -/
namespace DL
open PySem PySem.Spec PyProof.Rows L2
variable {X : Cx} {C : Fx}
/-- x = {} -/
def wsNewK (i : Nat) : WS := fun P ρ => P.nx (ρ.set i (.obj (.dk [])))
theorem pds_newK {i : Nat} {tg : Expr} {p2 pos : Pos} (hg : PG X tg (gName i)) (hs : swapsWithSole [tg] (.Dict [] [] p2) pos.line X.env = pure false := by rfl) (hw : swappedStores [tg] (.Dict [] [] p2) X.env = pure none := by rfl)
    (h1 : (assignEach [tg] X.env).map (·.2) = [assign tg X.env] := by rfl) : PDS X C (.Assign [tg] (.Dict [] [] p2) pos) (wsNewK i) :=
  ps_imp (ps_asg pe_dnewK hg hs hw h1) fun D σ H ⟨as, ρ, P, r, q, f1, _⟩ => fun p hp => by
    obtain ⟨as', r2, s2⟩ := r.setObj (ho := .dK []) (o := .dk []) i hp (.dk rfl .nil)
    exact f1 as' _ _ _ q r2 s2
/-- x[e], x an own dict -/
def wDGetO (i : Nat) (we : WD) : WD := fun ρ k => (∃ o, ρ[i]? = some (.obj (.dk o))) ∧ we ρ fun d ρ1 => ∃ dvs ky d', ρ1[i]? = some (.obj (.dk dvs)) ∧ kD d = some ky ∧ atD dvs ky = some d' ∧ k d' ρ1
theorem pd_dgetO {i : Nat} {x : Str} {px pos : Pos} {e : Expr} {we : WD} (hu : X.A.units + 64 < cLine) (hv : PE X (.Name x px) (tVar i)) (he : PD X C e we) (hs : NoSl e := by exact fun _ _ => rfl) : PD X C (.Subscript (.Name x px) e pos) (wDGetO i we) :=
  pe_imp (pe_dget (by omega) hv he hs) fun σ H Q ⟨as, ρ, k, r, ⟨⟨o0, e0⟩, q⟩, f⟩ => by
    obtain ⟨a, ho, p1, p2, p3, p4⟩ := r.rep.getObj e0
    refine ⟨.ref a, p1, as, ρ, _, r, q, fun d ρ1 v H1 ⟨dvs, ky, d', e1, ek, ed, q1⟩ r1 k1 d1 => ?_⟩
    obtain ⟨a', ho', s1, s2, s3, s4⟩ := r1.rep.getObj e1
    rw [p1] at s1
    cases s1
    cases s4 with
    | dk g1 g2 =>
      obtain ⟨v', hv', dv'⟩ := (at_DV g1 g2).2 d' ed
      refine ⟨a, v', rfl, ?_, f d' ρ1 v' H1 q1 r1 k1 dv'⟩
      rw [kD_kV d1 ek, ← hv']
      exact DGet.k s3
/-- a[b], a a dict that is data -/
def wDGet (wa wb : WD) : WD := fun ρ k => wa ρ fun d1 ρ1 => wb ρ1 fun d2 ρ2 => ∃ dvs ky d', d1 = dkD dvs ∧ kD d2 = some ky ∧ atD dvs ky = some d' ∧ k d' ρ2
theorem pd_dget {a b : Expr} {pos : Pos} {wa wb : WD} (hu : X.A.units + 64 < cLine) (ha : PD X C a wa) (hb : PD X C b wb) (hs : NoSl b := by exact fun _ _ => rfl) : PD X C (.Subscript a b pos) (wDGet wa wb) :=
  pe_imp (pe_dget (by omega) ha hb hs) fun σ H Q ⟨as, ρ, k, r, q, f⟩ => ⟨as, ρ, _, r, q, fun d1 ρ1 v1 H1 q1 r1 k1 e1 => ⟨as, ρ1, _, r1, q1, fun d2 ρ2 v2 H2 ⟨dvs, ky, d', z1, ek, ed, q2⟩ r2 k2 e2 => by
    subst z1
    obtain ⟨a, kvs, rfl, ea, g1, g2⟩ := dq_dk (dp_mono k2.see e1)
    obtain ⟨v', hv', dv'⟩ := (at_DV g1 g2).2 d' ed
    refine ⟨a, v', rfl, ?_, f d' ρ2 v' H2 q2 r2 (k1.trans k2) dv'⟩
    rw [kD_kV e2 ek, ← hv']
    exact DGet.k (hide_same _ _ _ _ ea)⟩⟩
/-- e in x, x an own dict -/
def wDInO (neg : Bool) (we : WD) (i : Nat) : WT := fun ρ k => we ρ fun d ρ1 => ∃ dvs ky, ρ1[i]? = some (.obj (.dk dvs)) ∧ kD d = some ky ∧ k (neg != (atD dvs ky).isSome) ρ1
theorem pdt_dinO {i : Nat} {x : Str} {px pos : Pos} {e : Expr} {we : WD} (hu : X.A.units + 64 < cLine) (he : PD X C e we) (hv : PE X (.Name x px) (tVar i)) (hm : behindInMarks .In (.Name x px) = false := by first | exact nobehind _ (by decide) (by decide) | rfl) : PDT X C (.Compare e [.In] [.Name x px] pos) (wDInO false we i) :=
  pt_imp (pt_cmp (pc_din (by omega) he hv) hm) fun σ H Q ⟨as, ρ, k, r, q, f⟩ => ⟨as, ρ, _, r, q, fun d ρ1 v H1 ⟨dvs, ky, e1, ek, q1⟩ r1 k1 d1 => by
    obtain ⟨a, ho, s1, s2, s3, s4⟩ := r1.rep.getObj e1
    cases s4 with
    | dk g1 g2 =>
      refine ⟨.ref a, s1, a, _, rfl, by rw [kD_kV d1 ek]; exact DGet.k s3, _, rfl, ?_⟩
      rw [(at_DV g1 g2).1]
      have e2 : (false != (atD dvs ky).isSome) = (atD dvs ky).isSome := by cases (atD dvs ky).isSome <;> rfl
      rw [e2] at q1
      exact f _ ρ1 H1 q1 r1 k1⟩
theorem pdt_dnotinO {i : Nat} {x : Str} {px pos : Pos} {e : Expr} {we : WD} (hu : X.A.units + 64 < cLine) (he : PD X C e we) (hv : PE X (.Name x px) (tVar i)) (hm : behindInMarks .NotIn (.Name x px) = false := by first | exact nobehind _ (by decide) (by decide) | rfl) : PDT X C (.Compare e [.NotIn] [.Name x px] pos) (wDInO true we i) :=
  pt_imp (pt_cmp (pc_dnotin (by omega) he hv) hm) fun σ H Q ⟨as, ρ, k, r, q, f⟩ => ⟨as, ρ, _, r, q, fun d ρ1 v H1 ⟨dvs, ky, e1, ek, q1⟩ r1 k1 d1 => by
    obtain ⟨a, ho, s1, s2, s3, s4⟩ := r1.rep.getObj e1
    cases s4 with
    | dk g1 g2 =>
      refine ⟨.ref a, s1, a, _, rfl, by rw [kD_kV d1 ek]; exact DGet.k s3, _, rfl, ?_⟩
      rw [(at_DV g1 g2).1]
      have e2 : (true != (atD dvs ky).isSome) = !(atD dvs ky).isSome := by cases (atD dvs ky).isSome <;> rfl
      rw [e2] at q1
      exact f _ ρ1 H1 q1 r1 k1⟩
/-- a in b, b a dict that is data -/
def wDIn (neg : Bool) (wa wb : WD) : WT := fun ρ k => wa ρ fun d1 ρ1 => wb ρ1 fun d2 ρ2 => ∃ dvs ky, d2 = dkD dvs ∧ kD d1 = some ky ∧ k (neg != (atD dvs ky).isSome) ρ2
theorem pdt_din {a b : Expr} {pos : Pos} {wa wb : WD} (hu : X.A.units + 64 < cLine) (ha : PD X C a wa) (hb : PD X C b wb) (hm : behindInMarks .In b = false := by first | exact nobehind _ (by decide) (by decide) | rfl) : PDT X C (.Compare a [.In] [b] pos) (wDIn false wa wb) :=
  pt_imp (pt_cmp (pc_din (by omega) ha hb) hm) fun σ H Q ⟨as, ρ, k, r, q, f⟩ => ⟨as, ρ, _, r, q, fun d1 ρ1 v1 H1 q1 r1 k1 e1 => ⟨as, ρ1, _, r1, q1, fun d2 ρ2 v2 H2 ⟨dvs, ky, z2, ek, q2⟩ r2 k2 e2 => by
    subst z2
    obtain ⟨a, kvs, rfl, ea, g1, g2⟩ := dq_dk e2
    refine ⟨a, _, rfl, by rw [kD_kV e1 ek]; exact DGet.k (hide_same _ _ _ _ ea), _, rfl, ?_⟩
    rw [(at_DV g1 g2).1]
    have e2 : (false != (atD dvs ky).isSome) = (atD dvs ky).isSome := by cases (atD dvs ky).isSome <;> rfl
    rw [e2] at q2
    exact f _ ρ2 H2 q2 r2 (k1.trans k2)⟩⟩
theorem pdt_dnotin {a b : Expr} {pos : Pos} {wa wb : WD} (hu : X.A.units + 64 < cLine) (ha : PD X C a wa) (hb : PD X C b wb) (hm : behindInMarks .NotIn b = false := by first | exact nobehind _ (by decide) (by decide) | rfl) : PDT X C (.Compare a [.NotIn] [b] pos) (wDIn true wa wb) :=
  pt_imp (pt_cmp (pc_dnotin (by omega) ha hb) hm) fun σ H Q ⟨as, ρ, k, r, q, f⟩ => ⟨as, ρ, _, r, q, fun d1 ρ1 v1 H1 q1 r1 k1 e1 => ⟨as, ρ1, _, r1, q1, fun d2 ρ2 v2 H2 ⟨dvs, ky, z2, ek, q2⟩ r2 k2 e2 => by
    subst z2
    obtain ⟨a, kvs, rfl, ea, g1, g2⟩ := dq_dk e2
    refine ⟨a, _, rfl, by rw [kD_kV e1 ek]; exact DGet.k (hide_same _ _ _ _ ea), _, rfl, ?_⟩
    rw [(at_DV g1 g2).1]
    have e2 : (true != (atD dvs ky).isSome) = !(atD dvs ky).isSome := by cases (atD dvs ky).isSome <;> rfl
    rw [e2] at q2
    exact f _ ρ2 H2 q2 r2 (k1.trans k2)⟩⟩
/-- x[e1] = e2, x an own dict -/
def wsDPut (i : Nat) (we wk : WD) : WS := fun P ρ => we ρ fun d ρ1 => (∃ o, ρ1[i]? = some (.obj (.dk o))) ∧ wk ρ1 fun dk ρ2 => ∃ dvs ky, ρ2[i]? = some (.obj (.dk dvs)) ∧ kD dk = some ky ∧ dvs.length < 100000 ∧ P.nx (ρ2.set i (.obj (.dk (putD dvs ky d))))
theorem pds_dput {i : Nat} {x : Str} {px pos' pos : Pos} {e ke : Expr} {we wk : WD} (hu : X.A.units + 64 < cLine) (he : PD X C e we) (hv : PE X (.Name x px) (tVar i)) (hk : PD X C ke wk) (hs : swapsWith e (some (.Subscript (.Name x px) ke pos')) pos.line X.env = pure false := by rfl) :
    PDS X C (.Assign [.Subscript (.Name x px) ke pos'] e pos) (wsDPut i we wk) :=
  ps_imp (ps_dput (by omega) hv hk he hs) fun D σ H ⟨as, ρ, P, r, q, f1, _⟩ => ⟨as, ρ, _, r, q, fun d ρ1 v H1 ⟨⟨o0, e0⟩, q1⟩ r1 k1 d1 => by
    obtain ⟨a, ho, p1, p2, p3, p4⟩ := r1.rep.getObj e0
    refine ⟨.ref a, p1, as, ρ1, _, r1, q1, fun d2 ρ2 v2 H2 ⟨dvs, ky, e1, ek, ln, q2⟩ r2 k2 d2' => ?_⟩
    obtain ⟨a', ho', s1, s2, s3, s4⟩ := r2.rep.getObj e1
    rw [p1] at s1
    cases s1
    cases s4 with
    | @dk kvs _ g1 g2 =>
      obtain ⟨g3, g4⟩ := put_DV (k := ky) (dp_mono k2.see d1) g1 g2
      obtain ⟨r3, k3⟩ := r2.chObj (ho := .dK (putK kvs ky v)) (o' := .dk (putD dvs ky d)) e1 p1 (.dk g3 g4)
      have hl : kvs.length < sizeLine := by
        have e := congrArg List.length g1
        rw [List.length_map, List.length_map] at e
        rw [e, sizeLine_eq]
        omega
      refine ⟨a, _, rfl, by rw [kD_kV d2' ek]; exact DPut.k s3 hl, f1 as _ σ _ q2 r3 ((k1.trans k2).trans k3).step⟩⟩
/-- ahead of a statement: an own object becomes data -/
def wsFreezeO (i : Nat) (w : WS) : WS := fun P ρ => ∃ o, ρ[i]? = some (.obj o) ∧ okO o ∧ w P (ρ.set i (.d (odD o)))
theorem pds_freezeO {sts : List Stmt} {w : WS} (i : Nat) (h : PDSs X C sts w) : PDSs X C sts (wsFreezeO i w) :=
  pss_imp h fun D σ H ⟨as, ρ, P, r, ⟨o, e, n, q⟩, f1, f2, f3, f4⟩ => by
    obtain ⟨as', r2, sub⟩ := r.freezeO e n
    have s0 : Step C as H as' H := .sub sub
    exact ⟨as', _, P, r2, q, fun as2 ρ2 σ2 H2 q2 r2 s2 => f1 as2 ρ2 σ2 H2 q2 r2 (s0.trans s2), fun d ρ2 v as2 σ2 H2 q2 r2 s2 => f2 d ρ2 v as2 σ2 H2 q2 r2 (s0.trans s2), fun as2 ρ2 σ2 H2 q2 r2 s2 => f3 as2 ρ2 σ2 H2 q2 r2 (s0.trans s2), fun as2 ρ2 σ2 H2 q2 r2 s2 => f4 as2 ρ2 σ2 H2 q2 r2 (s0.trans s2)⟩
end DL
set_option Elab.async false
set_option linter.all false
set_option maxRecDepth 100000
set_option maxHeartbeats 4000000
/-! enumerate over a tuple; ranges from their end. -/
namespace DL
open PySem PySem.Spec PyProof.Rows L2
theorem meets_enum1 {v : Value} {o : Obj} {Hh : Heap → Prop} (B : Begins v o Hh) : Meets (Builtin.«enumerate.__new__» ⟨[.type "enumerate", v], []⟩) (fun _ R s => Hh s.heap ∧
    R (.ok (.ret (.ref (s.heap.push o).objs.size))) { s with heap := (s.heap.push o).push { cls := .type "enumerate", data := .fields #[.none, .bool false, .ref s.heap.objs.size, rawInt 0, .none, .none] } }) :=
  .of_wp fun prog w A R s ⟨hh, h⟩ => by
    obtain ⟨hp, g, d, tk, os⟩ := s
    have hsub := sub_enumerate
    have it1 : ∀ {A' : Around} {E Q : Value → Shared → Prop}, Q (.ref hp.objs.size) ⟨hp.push o, g, d, tk, os⟩ → wpAny (model prog w) A' (pyIter v) Q E ⟨hp, g, d, tk, os⟩ :=
      fun q => B.iter prog w _ _ ⟨hp, g, d, tk, os⟩ _ hh q
    wp_walk using it1
    refine wpAny_stack_any fun st => wpAny_pure ?_
    split
    · rename_i c _ _ _ _ _
      cases (c == Value.type "enumerate") <;> (wp_walk using it1; exact ⟨_, rfl, h⟩)
    · wp_walk using it1
      exact ⟨_, rfl, h⟩
theorem call_enum1 {prog : Program} {w : World} {A : Around} {E : Value → Shared → Prop} {s : Shared} {v : Value} {o : Obj} {Hh : Heap → Prop} {Q : Value → Shared → Prop} (B : Begins v o Hh) (hh : Hh s.heap)
    (h : ∀ h', IsEnum h' (s.heap.objs.size + 1) s.heap.objs.size ((0 : Nat) : Int) .none → h'.get? s.heap.objs.size = some o → (∀ b u, s.heap.get? b = some u → h'.get? b = some u) → Q (.ref (s.heap.objs.size + 1)) { s with heap := h' }) :
    wpAny (model prog w) A (call (.type "enumerate") [v]) Q E s := by
  have hz : (s.heap.push o).objs.size = s.heap.objs.size + 1 := Heap.size_push ..
  refine callType_new F.called_enumerate (by decide) (F.typeCall_enumerate_1 _) (F.newCall_enumerate_1 _) (fun obj => F.args_object_init_2 obj _) F.entry_enumerate_new (meets_enum1 B) ⟨hh, ?_⟩
  show _ ∧ _
  rw [hz]
  have he : IsEnum ((s.heap.push o).push { cls := .type "enumerate", data := .fields #[.none, .bool false, .ref s.heap.objs.size, rawInt 0, .none, .none] }) (s.heap.objs.size + 1) s.heap.objs.size ((0 : Nat) : Int) .none := by
    have q := Heap.get?_push_size (s.heap.push o) (o := { cls := .type "enumerate", data := .fields #[.none, .bool false, .ref s.heap.objs.size, rawInt 0, .none, .none] }) rfl
    rw [hz] at q
    exact q
  exact ⟨⟨_, he, rfl⟩, h _ he (Heap.get?_push_of_some _ (Heap.get?_push_size _ B.free)) fun b u x => Heap.get?_push_of_some _ (Heap.get?_push_of_some _ x)⟩
/-- a tuple's items, each in a new pair with its place -/
def IteT (K : PySem.W.Frag) (a : Addr) : It :=
  ⟨fun i H => ∃ (xs : List V) (x : V), SqT K H a xs ∧ xs[i]? = some x, fun i H v H' => ∃ T x, v = .ref T ∧ H T = none ∧ H' = upd H T (.tup [.int (i : Nat), x]) ∧ ∀ xs, SqT K H a xs → xs[i]? = some x, fun i H => ∃ xs : List V, SqT K H a xs ∧ xs.length = i⟩
theorem turn_enumT {P : Program} {w : World} {K : PySem.W.Frag} {elts : List Expr} {kk : Nat} {tpos : Pos} {a e it : Addr} (ai : a ≠ it) (ae : e ≠ a) (ei : e ≠ it) :
    Turn P w K (.Tuple elts kk tpos) (IteT K a) [e, it] e (fun i h => (∃ old, IsEnum h e it ((i : Nat) : Int) old) ∧ h.IsTupleIter it a i) where
  mem := List.mem_cons_self ..
  obj := fun i h ⟨⟨old, he⟩, o, ho, _, hd⟩ b hb => by
    rcases List.mem_cons.mp hb with z | z
    · rw [z]; exact ⟨_, he, fun v q => nomatch q⟩
    · rw [List.mem_singleton.mp z]; exact ⟨o, ho, fun v q => by rw [hd] at q; cases q⟩
  keep := fun i h h' ⟨⟨old, he⟩, hi⟩ k => ⟨⟨old, k e (List.mem_cons_self ..) _ he⟩, hi.at fun o q => k it (List.mem_cons_of_mem _ (List.mem_singleton.mpr rfl)) o q⟩
  item := by
    rintro X rfl rfl rfl hc i pins s σ H E I hf ⟨⟨old, he⟩, hit⟩ ⟨xs, x, hq, hx⟩
    obtain ⟨its, rv, p, _⟩ := I.tuple hq
    obtain ⟨u, hu, ru⟩ := rv.get hx
    have el : e < s.heap.objs.size := Heap.lt_size he
    have il : it < s.heap.objs.size := by obtain ⟨_, q, _⟩ := hit; exact Heap.lt_size q
    have hlt : i < its.toArray.size := by
      have := (List.getElem?_eq_some_iff.mp hu).1
      simpa using this
    have Dr := Draws.tuple (prog := X.prog) (w := X.w) (A := X.A.in1) (by exact I.ok.hd hc) it a ai its.toArray
    refine wpAny_pyNext_enum_itemD Dr he ⟨hit, show s.heap.IsTuple a its.toArray from p⟩ hlt ei (fun z => ?_) fun y h' tk hy ho hst hT hsz hk => ?_
    · rcases List.mem_cons.mp z with z | z
      · exact ei z
      · exact ae (List.mem_singleton.mp z)
    have yu : y = u := by
      have hu' : its.toArray[i]? = some u := by simpa using hu
      rw [hu'] at hy
      exact (Option.some.inj hy).symm
    subst yu
    refine ⟨_, rfl, wpAny_letOwnedTupleGo_enum (s := { s with heap := h', toks := tk + 1 }) ho fun h'' he' sb => ?_⟩
    have hT2 : h''.get? s.heap.objs.size = some { cls := .type "tuple", data := .seq #[.int i tk, y] } := (sb.2 _ (Nat.ne_of_gt el)).trans hT
    have new : ObjOk X.prog X.w (upd H s.heap.objs.size (.tup [.int (i : Nat), x])) h'' s.heap.objs.size (.tup [.int (i : Nat), x]) :=
      ⟨by show 2 ≤ sizeLine; decide, [.int i tk, y], .cons ⟨_, rfl⟩ (.cons ru .nil), ⟨_, hT2, rfl, _, rfl⟩⟩
    have I1 : Inv X pins σ (upd H s.heap.objs.size (.tup [.int (i : Nat), x])) { s with heap := h'', toks := tk + 1 } :=
      I.turnedNew (t' := tk + 1) (ch := [e, it]) (fun b ob hb q => (sb.2 b (fun z => hb (by simp [z]))).trans (hk b ob (fun z => hb (by simp [z])) (fun z => hb (by simp [z])) q)) hf (Nat.le_refl _) new
    refine ⟨.ref s.heap.objs.size, _, I1, rfl, ⟨_, x, rfl, I.hok.fresh (Nat.le_refl _), rfl, fun ys hy => by rw [I.tuple_inj hy hq]; exact hx⟩, ⟨⟨y, ?_⟩, hst.1.at fun o q => (sb.2 it (Ne.symm ei)).trans q⟩, fun b hb => ?_⟩
    · have e1 : ((i + 1 : Nat) : Int) = (i : Int) + 1 := by omega
      rw [e1]; exact he'
    · have hb' : b < s.heap.objs.size := by
        rcases List.mem_cons.mp hb with z | z
        · rw [z]; exact el
        · rw [List.mem_singleton.mp z]; exact il
      rw [upd_ne (Nat.ne_of_lt hb')]
      exact (hf b hb).1
  done := by
    rintro X rfl rfl rfl hc i pins s σ H E I hf ⟨⟨old, he⟩, hit⟩ ⟨xs, hq, hx⟩
    obtain ⟨its, rv, p, _⟩ := I.tuple hq
    have hl := rv.length
    obtain ⟨f0, f1, f2, f3, f4, f5⟩ := hf it (List.mem_cons_of_mem _ (List.mem_singleton.mpr rfl))
    have hn : i = its.toArray.size := by
      rw [← hx, hl]
      simp
    subst hn
    have Dr := Draws.tuple (prog := X.prog) (w := X.w) (A := X.A.in1) (by exact I.ok.hd hc) it a ai its.toArray
    exact wpAny_pyNext_enum_endD Dr he ⟨hit, show s.heap.IsTuple a its.toArray from p⟩ fun h' eb => ⟨rfl, I.turned (t' := s.toks) (fun b o hb q => eb b o hb q) f0 f1 f3 f4 f5⟩
  self := fun A i s Q E ⟨⟨_, he⟩, _⟩ h => wpAny_pyIter_enum he h
def iEnumT (K : PySem.W.Frag) (ta : TA) : TI := fun σ H R => ta σ H fun vs H1 => ∃ a xs, vs = [.ref a] ∧ SqT K H1 a xs ∧ R (IteT K a) H1
theorem pi_enumT {X : Cx} {e : Expr} {ta : TA} {p pos tpos : Pos} {elts : List Expr} {kk : Nat} (hg : Gl X "enumerate") (hm : X.mg "enumerate" = none) (ha : PA X [e] ta) (hs : starEach [e] X.env = [(false, eval e X.env)] := by rfl) :
    PI X (.Tuple elts kk tpos) (.Call (.Name "enumerate" p) [e] [] pos) (iEnumT X.K ta) := by
  refine ⟨fun pins s σ H R I h => ?_⟩
  refine Call_ (ld_blt I hg hm boot_enumerate (PyProof.Rows.callWith_type1 (thn (ha.run pos pins s σ H _ I h) fun us s1 ⟨vs, H1, I1, r1, a, xs, ex, hq, q⟩ => ?_) hs rfl))
  subst ex
  cases r1 with
  | cons r rr =>
    cases rr
    cases r
    obtain ⟨its, rv, p', _⟩ := I1.tuple hq
    have al : a < s1.heap.objs.size := by obtain ⟨o, ho, _⟩ := id p'; exact Heap.lt_size ho
    refine call_enum1 (begins_tuple a its.toArray) (show s1.heap.IsTuple a its.toArray from p') fun h' he hit hk => wpAny_pyIter_enum he ?_
    have I2 : Inv X pins σ H1 { s1 with heap := h' } := I1.kept (t' := s1.toks) hk
    refine ⟨s1.heap.objs.size + 1, [s1.heap.objs.size + 1, s1.heap.objs.size], _, _, H1, rfl, I2, turn_enumT (a := a) (Nat.ne_of_lt al) (Ne.symm (Nat.ne_of_lt (Nat.lt_succ_of_lt al))) (Nat.succ_ne_self _), ⟨⟨.none, he⟩, _, hit, rfl, rfl⟩, fun b hb => ?_, q⟩
    have hle : s1.heap.objs.size ≤ b := by
      rcases List.mem_cons.mp hb with z | z
      · rw [z]; exact Nat.le_add_right _ _
      · rw [List.mem_singleton.mp z]; exact Nat.le_refl _
    exact I1.fpOk hle (I1.hok.fresh hle)
theorem walk_enumT {K : PySem.W.Frag} {a : Addr} {xs : List V} : Walk (IteT K a) xs.length (fun H => SqT K H a xs) (YPair (fun i => some (.int (i : Nat))) (fun i => xs[i]?)) := by
  refine ⟨fun i _ hi q => ⟨xs, xs[i], q, by simp [hi]⟩, fun _ q => ⟨xs, q, rfl⟩, fun i H v H' _ q y => ?_⟩
  obtain ⟨T, x, h1, h2, h3, h4⟩ := y
  exact ⟨T, .int (i : Nat), x, h1, h2, h3, rfl, h4 xs q⟩
theorem its_enumT {K : PySem.W.Frag} {l0 : List Addr} {H0 : Hp} {a : Addr} {xs : List V} {ds : List PyData} (h1 : SqT K (hide H0 l0) a xs) (t1 : DqAll K (hide H0 l0) xs ds) : Its K l0 H0 (enumD ds) (IteT K a) := by
  have hl : (enumD ds).length = xs.length := by simp [enumD, dps_len t1]
  refine ⟨_, _, by rw [hl]; exact walk_enumT (K := K) (a := a) (xs := xs), fun l H s => seqT_un (seqT s h1), fun j x l H H' hj s hn y => ?_⟩
  obtain ⟨T, u, v, rfl, hT, rfl, q1, q2⟩ := y
  obtain ⟨d, g1, g2⟩ := dps_get' t1 q2
  have q1' : V.int (j : Nat) = u := Option.some.inj q1
  subst q1'
  exact ⟨same_new hT _, .tuple [.int (j : Nat), d], by simp [enumD, g1], dq_pair hT (hn T hT) (.int _) (dp_mono s g2)⟩
section
variable {X : Cx} {C : Fx} {tg e : Expr} {p p2 pos pos2 tpos : Pos} {kk : Nat} {elts : List Expr}
def wiET (ws : WA) : WI := fun ρ k => ws ρ fun ds ρ1 => ∃ xs, ds = [.tuple xs] ∧ k (enumD xs) ρ1
theorem pdi_ET {ws : WA} (hg : Gl X "enumerate") (hm : X.mg "enumerate" = none) (ha : PDA X C [e] ws) (hs : starEach [e] X.env = [(false, eval e X.env)] := by rfl) : PDI X C (.Tuple elts kk tpos) (.Call (.Name "enumerate" p) [e] [] pos) (wiET ws) :=
  pi_imp (pi_enumT hg hm ha hs) fun σ H R ⟨as, ρ, k, r, q, f⟩ => ⟨as, ρ, _, r, q, fun ds ρ1 vs H1 ⟨xs, e, q1⟩ r1 k1 d1 => by
    subst e
    cases d1 with
    | cons h t =>
      cases t
      obtain ⟨a, ys, rfl, s, t⟩ := dq_tup h
      exact ⟨a, ys, rfl, seqT_un s, f _ ρ1 H1 _ q1 r1 k1 (its_enumT s t)⟩⟩
/-- reversed(range(n)) -/
def wiRev (w : WD) : WI := fun ρ k => w ρ fun d ρ1 => ∃ n : Nat, d = .int (n : Int) ∧ n ≤ 100000 ∧ k (rangeC ((n : Int) - 1) (-1) n) ρ1
theorem pdi_rev {w : WD} (hg : Gl X "reversed") (hm : X.mg "reversed" = none) (hg2 : Gl X "range") (hm2 : X.mg "range" = none) (he : PD X C e w) (na : starEach [e] X.env = (false, eval e X.env) :: starEach [] X.env := by rfl)
    (hs : starEach [.Call (.Name "range" p2) [e] [] pos2] X.env = (false, eval (.Call (.Name "range" p2) [e] [] pos2) X.env) :: starEach [] X.env := by rfl) : PDI X C tg (.Call (.Name "reversed" p) [.Call (.Name "range" p2) [e] [] pos2] [] pos) (wiRev w) :=
  pi_imp (pi_revR hg hm (prg_1 hg2 hm2 he na) hs) fun σ H R ⟨as, ρ, k, r, q, f⟩ => ⟨as, ρ, _, r, q, fun d ρ1 v H1 ⟨n, e, l, q1⟩ r1 k1 d1 => by
    subst e
    obtain rfl := dp_int d1
    refine ⟨(n : Int), rfl, by omega, by omega, by omega, by omega, ?_⟩
    have e1 : (0 : Int) + ((((n : Int) - 0).toNat : Nat) : Int) - 1 = (n : Int) - 1 := by omega
    have e2 : ((n : Int) - 0).toNat = n := by omega
    rw [e1, e2]
    exact f _ ρ1 H1 _ q1 r1 k1 (its_rangeC _ _ _)⟩
end
end DL
set_option Elab.async false
set_option linter.all false
set_option maxRecDepth 100000
set_option maxHeartbeats 4000000
/-! Defs that raise; try. -/
namespace DL
open PySem PySem.Spec PyProof.Rows L2
/-- X() -/
theorem pmk_own0 {X : Cx} {C : Addr} {bmB : List Value} {B newId initId : String} {x : Str} {p pos : Pos} (F : ExcBaseFacts B newId initId bmB) (q : PySem.W.excIn X.K C bmB newId = true) (gC : X.mg x = some (.ref C)) (kC : PySem.W.keepIn X.K (.ref C) = true) (r : Raises X (.ref C)) (hg : Gl X x)
    (hdb : (x == ("__debug__" : Str)) = false := by decide) : PMk X (.Call (.Name x p) [] [] pos) (fun _ H Q => Q (.ref C) none H) := by
  intro pins s σ H Q I h
  refine wpAny_Call_Name_kw (ld_glob I hg gC ?_ hdb)
  refine PySem.W.callWith_K0 I.kIn kC ?_
  show wpAny _ _ (call (.ref C) []) _ _ _
  obtain ⟨bm, N, nm, qn, bs, hdct, sn, sub, ab, col, dd, k0, k1, k2, k3, k5, mN, hC, hN, hni, T⟩ := exc_obj I.kIn q
  refine wpAny_call_exc_subT F T hC hN hni (fun h' e hm => ?_) (Nat.zero_le _)
  exact mk_of I hm r h (I.hok.gone hm.new)
/-! ### what a def that raises promises -/
abbrev RF := List PyData → (PyData → Prop) → (Value → Prop) → Prop
def spR (K : PySem.W.Frag) (rf : RF) : Sp := fun vs H Q E => ∃ N ds k ke, (∀ a ∈ N, H a ≠ none) ∧ DqAll K (hide H N) vs ds ∧ rf ds k ke ∧
  (∀ d v H', k d → Same H H' → Dq K (hide H' N) v d → Q v H') ∧ ∀ cls H', ke cls → Same H H' → E cls none H'
theorem ok_R {P : Program} {w : World} {K : PySem.W.Frag} {mg : Str → Option Value} {base : Heap} {x qual : Str} {st : Stmt} {f : Addr} {fd : FuncData} {N ps : List Str} {k : Nat} {rf : RF} (F : Fun K x qual st f fd) (S : FnScope N ps (defScope st))
    (hlen : ∀ ds k ke, rf ds k ke → ds.length = ps.length)
    (hbody : ∀ (cdv : Value) (A : Around) (outer : List PySem.Env) (s : Shared) (H : Hp) (E : XK) (C : Fx) (ke : Value → Prop), Room k (A.deeper (envOfC qual (defScope st) s.heap.objs.size f cdv)) → (∀ cls H', ke cls → SameBut C.U C.He H' → E cls none H') →
      ∃ wb : WS, PDSs (cxOf (L2.CX P w) P w K mg base N qual (defScope st) f cdv A outer s H E) C (defBody st) wb ∧
        ∀ ds kk, rf ds kk ke → wb { nx := fun _ => kk .none, rt := fun d _ => kk d } (startE N.length ds)) : FnOk P w K mg base (L2.CX P w) (k + 1) f fd ps (spR K rf) := by
  refine F.okX S (fun vs H Q E h => ?_) (fun cdv A outer s H vs Q E hr h => ?_)
  · obtain ⟨N', ds, kk, ke, _, hd, hf, _⟩ := h
    rw [dps_len hd, hlen ds kk ke hf]
  · obtain ⟨N', ds, kk, ke, hN, hd, hf, hQ, hE⟩ := h
    obtain ⟨wb, hw, hq⟩ := hbody cdv A outer s H E ⟨N', H, []⟩ ke hr (fun cls H' hk s => hE cls H' hk fun b o e => s b o (by simp) e)
    refine ⟨_, hw, [], startE N.length ds, _, ⟨?_, fun b o _ h => h, fun a z => (nomatch z), hN, fun u z => (nomatch z)⟩, hq ds kk hf, ?_, ?_, fun _ _ _ _ z => z.elim, fun _ _ _ _ z => z.elim⟩
    · show RepS K (hide H ([] ++ N')) H [] (vs.map some ++ List.replicate (N.length - vs.length) none) (ds.map Slot.d ++ List.replicate (N.length - ds.length) Slot.un) []
      rw [dps_len hd]
      exact rep_ds (rep_uns _) hd
    · intro as' ρ' σ' H' q r' s'
      exact hQ .none .non H' q (fun b o h => r'.ent b o (by simp) h) .non
    · intro d ρ' v as' σ' H' q r' s' dv
      exact hQ d v H' q (fun b o h => r'.ent b o (by simp) h) (dp_mono (hide_sub fun a z => List.mem_append_right _ z) dv)
variable {X : Cx} {C : Fx}
/-- raise X() -/
def wsRaise (ke : Value → Prop) (cls : Value) : WS := fun _ _ => ke cls
theorem pds_raise {E : XK} {ke : Value → Prop} {e : Expr} {pos : Pos} {A : Addr} (hc : X.calm = true) (tk : Takes X (fun cls d _ H => E cls d H)) (he : PMk X e (fun _ H Q => Q (.ref A) none H)) (hE : ∀ cls H', ke cls → SameBut C.U C.He H' → E cls none H') : PDS X C (.Raise (some e) none pos) (wsRaise ke (.ref A)) :=
  ps_imp (ps_raise hc tk he) fun D σ H ⟨as, ρ, P, r, q, _⟩ => hE _ H q r.ent
/-- behind what may raise: nothing raises -/
theorem pds_nox {sts : List Stmt} {w : WS} (h : PDSs X.nox C sts w) : PDSs X C sts w := PSs.nox h
/-- a def that raises, by name -/
structure DfR (P : Program) (w : World) (K : PySem.W.Frag) (mg : Str → Option Value) (base : Heap) (x : Str) (ps : List Str) (k : Nat) (rf : RF) : Prop where
  ex : ∃ f fd, FnOk P w K mg base (L2.CX P w) k f fd ps (spR K rf) ∧ mg x = some (.ref f) ∧ PySem.W.keepIn K (.ref f) = true ∧ Binds K fd ps []
/-- what the clauses do with an exception of the class cls -/
def handle (K : PySem.W.Frag) : List (Value × WS) → Value → WS
  | [], _ => fun _ _ => False
  | (c, w) :: r, cls => fun P ρ => ∃ b, PySem.W.exmOne K cls c = some b ∧ (b = true → w P ρ) ∧ (b = false → handle K r cls P ρ)
inductive DHs (X : Cx) (C : Fx) : List ExceptHandler → List (Value × WS) → Prop
  | nil : DHs X C [] []
  | cons {x : Str} {c : Value} {w : WS} {b₀ : Stmt} {suite : List Stmt} {np pos' : Pos} {hds : List ExceptHandler} {l : List (Value × WS)} (hc : Names X x c)
      (hsu : ∀ (a : Addr) (oe : Obj) (pn : List (Addr × Obj)), PDSs (X.suite a ((a, oe) :: pn)) C (b₀ :: suite) w) (r : DHs X C hds l) : DHs X C (.ExceptHandler (some (.Name x np)) none (b₀ :: suite) pos' :: hds) ((c, w) :: l)
theorem DHs.ok {hds : List ExceptHandler} {l : List (Value × WS)} (h : DHs X C hds l) : HdsOk X hds (l.map fun q => (q.1, fun _ _ _ => tDS X.K C q.2)) := by
  induction h with
  | nil => exact .nil
  | cons hc hsu r ih => exact .cons hc (fun a oe cls d pn _ _ => hsu a oe pn) ih
/-- try: return g(e, ..) except A: .. -/
def wsTryRet (K : PySem.W.Frag) (rf : RF) (ws : WA) (l : List (Value × WS)) : WS := fun P ρ => ws ρ fun ds ρ1 => rf ds (fun d => P.rt d ρ1) fun cls => handle K l cls P ρ1
theorem pds_tryRet {k : Nat} {ps : List Str} {x : Str} {p cpos rpos pos : Pos} {e : Expr} {es : List Expr} {rf : RF} {ws : WA} {h₀ : ExceptHandler} {hds : List ExceptHandler} {l : List (Value × WS)} (D : DfR X.prog X.w X.K X.mg X.base x ps k rf) (hr : Room k X.A) (hg : Gl X x)
    (hs : X.stack = X.env :: X.outer) (hf : X.env.frame = some X.env.locals) (ha : ∀ (pn : List (Addr × Obj)) (xe : Value → Shared → Prop), PDA (X.tr pn xe) C (e :: es) ws) (hh : DHs X C (h₀ :: hds) l)
    (hdb : (x == ("__debug__" : Str)) = false := by decide) (he : starEach (e :: es) X.env = (false, eval e X.env) :: starEach es X.env := by rfl) (hpl : (backTo cpos (starEach es X.env)).any (·.1) = false := by rfl) :
    PDS X C (.Try [.Return (some (.Call (.Name x p) (e :: es) [] cpos)) rpos] (h₀ :: hds) [] [] pos) (wsTryRet X.K rf ws l) := by
  obtain ⟨f, fd, F, hm, hk, hb⟩ := D.ex
  refine ps_imp (ps_try_many (tb := fun W => tSeq (tRet (tCallS (spR X.K rf) (WE W) (tDA X.K C ws))) tNext) hs hf takes0 (fun W pn xe tk _ => pss_one (ps_ret (pe_callS (X := X.tr pn xe) F hr hg hm hk hb (fun σ => passAt tk σ) (ha pn xe) hdb he hpl))) hh.ok) ?_
  rintro D σ H ⟨as, ρ, P, r, q, f1, f2, f3, f4⟩
  refine ⟨as, ρ, _, r, q, fun ds ρ1 vs H1 q1 r1 k1 d1 => ⟨as ++ C.N, ds, _, _, mem_ne r1, d1, q1, fun d v H2 q2 s2 e2 => f2 d ρ1 v as σ H2 q2 (r1.same s2) (k1.trans (Keep.of s2)).step e2, fun cls H2 q2 s2 => ?_⟩⟩
  have st : Step C as H as H2 := (k1.trans (Keep.of s2)).step
  have go : ∀ l : List (Value × WS), handle X.K l cls P ρ1 → wMany X.K (fun _ _ _ _ => False) D (l.map fun q => (q.1, fun _ _ _ => tDS X.K C q.2)) cls none σ H2 := by
    intro l
    induction l with
    | nil => exact fun z => z
    | cons h l ih =>
      rintro ⟨b, e1, e2, e3⟩
      exact ⟨b, e1, fun hb a _ => ⟨as, ρ1, P, r1.same s2, e2 hb, fun as2 ρ2 σ2 H3 q3 r3 s3 => f1 as2 ρ2 σ2 H3 q3 r3 (st.trans s3), fun d ρ2 v as2 σ2 H3 q3 r3 s3 => f2 d ρ2 v as2 σ2 H3 q3 r3 (st.trans s3),
        fun as2 ρ2 σ2 H3 q3 r3 s3 => f3 as2 ρ2 σ2 H3 q3 r3 (st.trans s3), fun as2 ρ2 σ2 H3 q3 r3 s3 => f4 as2 ρ2 σ2 H3 q3 r3 (st.trans s3)⟩, fun hb => ih (e3 hb)⟩
  exact go l q2
end DL
set_option Elab.async false
set_option linter.all false
set_option maxRecDepth 100000
set_option maxHeartbeats 4000000
/-! Own lists that are added to: x = x + [..]; two new lists at once. -/
namespace DL
open PySem PySem.Spec PyProof.Rows L2
variable {X : Cx} {C : Fx}
/-- x = x + [..], x an own list -/
def wsAddOwn (i : Nat) (ws : WA) : WS := fun P ρ => (∃ ds, ρ[i]? = some (.own ds)) ∧ ws ρ fun es ρ1 => es.length ≤ 1000 ∧ ∃ ds, ρ1[i]? = some (.own ds) ∧ ds.length + es.length ≤ 100000 ∧ P.nx (ρ1.set i (.own (ds ++ es)))
theorem pds_addOwn {i : Nat} {tg : Expr} {x : Str} {px p2 p3 pos : Pos} {es : List Expr} {ws : WA} (hv : PE X (.Name x px) (tVar i)) (he : PDA X C es ws) (hg : PG X tg (gName i))
    (hs : swapsWithSole [tg] (.BinOp (.Name x px) .Add (.List es p2) p3) pos.line X.env = pure false := by rfl) (hw : swappedStores [tg] (.BinOp (.Name x px) .Add (.List es p2) p3) X.env = pure none := by rfl)
    (h1 : (assignEach [tg] X.env).map (·.2) = [assign tg X.env] := by rfl) : PDS X C (.Assign [tg] (.BinOp (.Name x px) .Add (.List es p2) p3) pos) (wsAddOwn i ws) :=
  ps_imp (ps_asg (pe_op op_catL hv (pe_lst he)) hg hs hw h1) fun D σ H ⟨as, ρ, P, r, ⟨⟨ds0, e0⟩, q⟩, f1, _⟩ => by
    obtain ⟨a, xs0, p1, p2, p3, p4⟩ := r.rep.getOwn e0
    refine ⟨.ref a, p1, as, ρ, _, r, q, fun es ρ1 vs H1 ⟨ln, ds, e1, l2, q1⟩ r1 k1 d1 => ⟨by rw [dps_len d1]; exact le_line ln, fun p hp => ?_⟩⟩
    obtain ⟨a', xs, s1, s2, s3, s4⟩ := r1.rep.getOwn e1
    rw [p1] at s1
    cases s1
    have hap : a ≠ p := fun z => by rw [z, hp] at s3; cases s3
    refine ⟨a, p, xs, vs, rfl, rfl, SqL.of (by rw [upd_ne hap]; exact s3), SqL.of upd_same, line5 (by rw [dps_len s4, dps_len d1]; exact l2), fun p' hp' => ?_⟩
    have r2 := rep_new (o := .lst vs) r1 hp
    have k2 : Keep (as ++ C.N) H1 (upd H1 p (.lst vs)) := Keep.new hp _
    obtain ⟨as', r3, s5⟩ := r2.setOwn (xs := xs ++ vs) (ds := ds ++ es) i hp' (dps_append (dps_mono k2.see s4) (dps_mono k2.see d1))
    exact f1 as' _ _ _ q1 r3 ((k1.trans k2).step.trans s5)
def anyA (K : PySem.W.Frag) (w : WA) : TA := fun σ H Q => ∃ C, tDA K C w σ H Q
theorem pa_all {Y : Cx} {es : List Expr} {w : WA} (h : ∀ C, PDA Y C es w) : PA Y es (anyA Y.K w) := ⟨fun pos pins s σ H Q I ⟨C, q⟩ => (h C).run pos pins s σ H Q I q⟩
/-- a, b = [..], [..] -/
def wsOO (i j : Nat) (ws wb : WA) : WS := fun P ρ => ws ρ fun ds ρ1 => ds.length ≤ 1000 ∧ wb ρ1 fun es ρ2 => es.length ≤ 1000 ∧ P.nx ((ρ2.set i (.own ds)).set j (.own es))
theorem pds_parOO {i j : Nat} {x y : Str} {es fs : List Expr} {p2 p3 : Pos} {ws wb : WA} {px py pt pt2 pos : Pos} {kt k2 : Nat} (hc : X.calm = true) (nd : X.N.Nodup) (hi : X.N[i]? = some x) (hj : X.N[j]? = some y) (hn : i ≠ j) (hx : X.env.scope.names.lookup x = some .local) (hy : X.env.scope.names.lookup y = some .local)
    (ha : PDA X C es ws) (hb : ∀ C', PDA X C' fs wb) (hs : swappedStores [.Tuple [.Name x px, .Name y py] kt pt] (.Tuple [.List es p2, .List fs p3] k2 pt2) X.env = pure (some [x, y]))
    (h1 : starEach [.List es p2, .List fs p3] X.env = (false, eval (.List es p2) X.env) :: starEach [.List fs p3] X.env := by rfl) (h2 : starEach [.List fs p3] X.env = (false, eval (.List fs p3) X.env) :: starEach [] X.env := by rfl)
    (hw : swapsWithSole [.Tuple [.Name x px, .Name y py] kt pt] (.Tuple [.List es p2, .List fs p3] k2 pt2) pos.line X.env = pure false := by rfl) :
    PDS X C (.Assign [.Tuple [.Name x px, .Name y py] kt pt] (.Tuple [.List es p2, .List fs p3] k2 pt2) pos) (wsOO i j ws wb) :=
  ps_imp (ps_par (ta := tCons (tLst (tDA X.K C ws)) (tCons (tLst (anyA X.K wb)) tNil)) hc nd hi hj hn hx hy (pa_cons (pe_lst ha) (pa_cons (pe_lst (pa_all hb)) pa_nil h2) h1) hs hw) fun D σ H ⟨as, ρ, P, r, q, f1, _⟩ =>
    ⟨as, ρ, _, r, q, fun ds ρ1 vs H1 ⟨ln, q1⟩ r1 k1 d1 => ⟨by rw [dps_len d1]; exact le_line ln, fun p hp => ⟨Fl C p as (upd H1 p (.lst vs)), as, ρ1, _, (r1.float hp).1, q1, fun es2 ρ2 vs2 H2 ⟨ln2, q2⟩ r2 k2 d2 => ⟨by rw [dps_len d2]; exact le_line ln2, fun p' hp' => ⟨.ref p, .ref p', rfl, by
      obtain ⟨as', r3, s3, up⟩ := r1.land hp r2 k2 d1 i
      obtain ⟨as2, r4, s4⟩ := r3.setOwn j hp' (dps_mono up d2)
      exact f1 as2 _ _ _ q2 r4 (k1.step.trans (s3.trans s4))⟩⟩⟩⟩⟩
end DL
set_option Elab.async false
set_option linter.all false
set_option maxRecDepth 100000
/-! Two words that do not commute are a code. -/
namespace K3
open PySem PySem.Spec PyProof.Rows L2 DL
def bw (u v : List Int) : List Bool → List Int
  | [] => []
  | b :: r => (if b = true then v else u) ++ bw u v r
def phi : List Bool → List Bool
  | [] => []
  | false :: r => false :: phi r
  | true :: r => false :: true :: phi r
def phj : List Bool → List Bool
  | [] => []
  | true :: r => false :: phj r
  | false :: r => false :: true :: phj r
theorem phi_no (r s : List Bool) : phi r ≠ true :: s := by
  cases r with
  | nil => exact fun z => by cases z
  | cons b r => cases b <;> exact fun z => by cases z
theorem phj_no (r s : List Bool) : phj r ≠ true :: s := by
  cases r with
  | nil => exact fun z => by cases z
  | cons b r => cases b <;> exact fun z => by cases z
theorem bw_phi (u t : List Int) : ∀ r, bw u (u ++ t) r = bw u t (phi r)
  | [] => rfl
  | false :: r => by simp [bw, phi, bw_phi u t r]
  | true :: r => by simp [bw, phi, bw_phi u t r, List.append_assoc]
theorem bw_phj (v t : List Int) : ∀ r, bw (v ++ t) v r = bw v t (phj r)
  | [] => rfl
  | true :: r => by simp [bw, phj, bw_phj v t r]
  | false :: r => by simp [bw, phj, bw_phj v t r, List.append_assoc]
theorem bcode : ∀ (n : Nat) (u v : List Int), u.length + v.length ≤ n → u ++ v ≠ v ++ u → ∀ r s : List Bool, bw u v r = bw u v s → r = s := by
  intro n
  induction n with
  | zero =>
    intro u v h c
    have h1 : u = [] := List.length_eq_zero_iff.mp (by omega)
    have h2 : v = [] := List.length_eq_zero_iff.mp (by omega)
    subst h1 h2
    exact absurd rfl c
  | succ n ih =>
    intro u v h c
    have hu : u ≠ [] := fun z => c (by rw [z]; simp)
    have hv : v ≠ [] := fun z => c (by rw [z]; simp)
    have clash : ∀ r s, u ++ bw u v r ≠ v ++ bw u v s := by
      intro r s e
      rcases List.append_eq_append_iff.mp e with ⟨t, e1, e2⟩ | ⟨t, e1, e2⟩
      · subst e1
        have c' : u ++ t ≠ t ++ u := fun z => c (by rw [List.append_assoc, ← z])
        have hl : u.length + t.length ≤ n := by
          have := List.length_pos_iff.mpr hu
          rw [List.length_append] at h
          omega
        rw [bw_phi, bw_phi] at e2
        exact phi_no r _ (ih u t hl c' (phi r) (true :: phi s) (by rw [e2]; rfl))
      · subst e1
        have c' : v ++ t ≠ t ++ v := fun z => c (by rw [List.append_assoc, ← z])
        have hl : v.length + t.length ≤ n := by
          have := List.length_pos_iff.mpr hv
          rw [List.length_append] at h
          omega
        rw [bw_phj, bw_phj] at e2
        exact phj_no s _ (ih v t hl c' (phj s) (true :: phj r) (by rw [e2]; rfl))
    intro r
    induction r with
    | nil =>
      intro s e
      cases s with
      | nil => rfl
      | cons b s =>
        exfalso
        have e' : (if b = true then v else u) ++ bw u v s = [] := e.symm
        have e3 := (List.append_eq_nil_iff.mp e').1
        cases b
        · exact hu e3
        · exact hv e3
    | cons b r ihr =>
      intro s e
      cases s with
      | nil =>
        exfalso
        have e' : (if b = true then v else u) ++ bw u v r = [] := e
        have e3 := (List.append_eq_nil_iff.mp e').1
        cases b
        · exact hu e3
        · exact hv e3
      | cons b' s =>
        cases b <;> cases b'
        · exact congrArg _ (ihr s (List.append_cancel_left (show u ++ bw u v r = u ++ bw u v s from e)))
        · exact absurd e (clash r s)
        · exact absurd e.symm (clash s r)
        · exact congrArg _ (ihr s (List.append_cancel_left (show v ++ bw u v r = v ++ bw u v s from e)))
/-! ### rows -/
def rowOf (ps : List (List Int)) : List Nat → List Int
  | [] => []
  | j :: r => ps.getD j [] ++ rowOf ps r
def isRow (r : List Nat) : Prop := ∀ j ∈ r, j < 2
theorem row_bw (u v : List Int) : ∀ r, isRow r → rowOf [u, v] r = bw u v (r.map fun j => decide (j = 1))
  | [], _ => rfl
  | j :: r, h => by
    have hj := h j (List.mem_cons_self ..)
    have i := row_bw u v r fun k hk => h k (List.mem_cons_of_mem _ hk)
    simp only [rowOf, List.map_cons, bw, i]
    have : j = 0 ∨ j = 1 := by omega
    rcases this with rfl | rfl <;> rfl
theorem bits_inj : ∀ {r s : List Nat}, isRow r → isRow s → (r.map fun j => decide (j = 1)) = (s.map fun j => decide (j = 1)) → r = s
  | [], [], _, _, _ => rfl
  | [], _ :: _, _, _, h => by cases h
  | _ :: _, [], _, _, h => by cases h
  | j :: r, k :: s, h1, h2, h => by
    obtain ⟨e1, e2⟩ := List.cons.inj h
    have hj := h1 j (List.mem_cons_self ..)
    have hk := h2 k (List.mem_cons_self ..)
    have e : j = k := by
      by_cases c : j = 1
      · have : k = 1 := by simpa [c] using e1.symm
        omega
      · have : ¬ k = 1 := by simpa [c] using e1.symm
        omega
    subst e
    rw [bits_inj (fun a ha => h1 a (List.mem_cons_of_mem _ ha)) (fun a ha => h2 a (List.mem_cons_of_mem _ ha)) e2]
theorem code {u v : List Int} (c : u ++ v ≠ v ++ u) {r s : List Nat} (hr : isRow r) (hs : isRow s) (e : rowOf [u, v] r = rowOf [u, v] s) : r = s := by
  rw [row_bw u v r hr, row_bw u v s hs] at e
  exact bits_inj hr hs (bcode _ u v (Nat.le_refl _) c _ _ e)
def can (u v x : List Int) : Prop := ∃ r, isRow r ∧ rowOf [u, v] r = x
def wd (u v : List Int) (p : Nat) : List Int := [u, v].getD p []
theorem can_nil (u v : List Int) : can u v [] := ⟨[], ⟨fun j h => (List.not_mem_nil h).elim, rfl⟩⟩
theorem can_cons {u v x : List Int} {p : Nat} (hp : p < 2) (h : can u v x) : can u v (wd u v p ++ x) := by
  obtain ⟨r, h1, h2⟩ := h
  exact ⟨p :: r, fun j hj => (List.mem_cons.mp hj).elim (fun z => z ▸ hp) (h1 j), by simp only [rowOf, h2, wd]⟩
theorem can_inv {u v x : List Int} (hx : x ≠ []) (h : can u v x) : ∃ p y, p < 2 ∧ x = wd u v p ++ y ∧ can u v y := by
  obtain ⟨r, h1, rfl⟩ := h
  cases r with
  | nil => exact absurd rfl hx
  | cons p r => exact ⟨p, rowOf [u, v] r, h1 p (List.mem_cons_self ..), rfl, r, fun j hj => h1 j (List.mem_cons_of_mem _ hj), rfl⟩
theorem rowOf_app (ps : List (List Int)) : ∀ r s : List Nat, rowOf ps (r ++ s) = rowOf ps r ++ rowOf ps s
  | [], s => rfl
  | j :: r, s => by rw [List.cons_append]; simp only [rowOf]; rw [rowOf_app ps r s, List.append_assoc]
theorem rowOf_step {ps : List (List Int)} {r : List Nat} {j q : Nat} (hq : q < ps.length) (e : r[j]? = some q) : rowOf ps (r.take (j + 1)) = rowOf ps (r.take j) ++ ps[q] := by
  have hj : j < r.length := (List.getElem?_eq_some_iff.mp e).1
  rw [List.take_succ, e, rowOf_app]
  show _ ++ (ps.getD q [] ++ []) = _
  rw [List.append_nil, List.getD_eq_getElem?_getD, List.getElem?_eq_getElem hq]
  rfl
theorem rowOf_len {ps : List (List Int)} (h : ∀ p ∈ ps, p.length ≤ 1000) : ∀ r : List Nat, (rowOf ps r).length ≤ 1000 * r.length
  | [] => by simp [rowOf]
  | j :: r => by
    simp only [rowOf, List.length_append, List.length_cons]
    have h1 := rowOf_len h r
    have h2 : (ps.getD j []).length ≤ 1000 := by
      rw [List.getD_eq_getElem?_getD]
      cases e : ps[j]? with
      | none => simp
      | some p => exact h p (List.mem_of_getElem? e)
    omega
theorem noLs_words : ∀ ps : List (List Int), noLs (ps.map wordD) = true
  | [] => rfl
  | p :: ps => by simp only [List.map_cons, noLs, noL_word, noLs_words ps]; rfl
theorem noLs_nats : ∀ r : List Nat, noLs (r.map fun j : Nat => PyData.int (j : Int)) = true
  | [] => rfl
  | j :: r => by simp only [List.map_cons, noLs, noL, noLs_nats r]; rfl
theorem szs_nats : ∀ r : List Nat, szs (r.map fun j : Nat => PyData.int (j : Int)) = r.length
  | [] => rfl
  | j :: r => by simp only [List.map_cons, szs, sz, szs_nats r, List.length_cons]; omega
theorem szs_words : ∀ {ps : List (List Int)}, (∀ p ∈ ps, p.length ≤ 1000) → szs (ps.map wordD) ≤ 1001 * ps.length
  | [], _ => by simp [szs]
  | p :: ps, h => by
    simp only [List.map_cons, szs, sz_word, List.length_cons]
    have h1 := szs_words (ps := ps) fun q hq => h q (List.mem_cons_of_mem _ hq)
    have h2 := h p (List.mem_cons_self ..)
    omega
theorem shaped_int (i : Int) : SeqAt.shaped (.int i) = true := by
  unfold SeqAt.shaped
  simp only [PyData.canLay0, PyData.depth]
  rfl
theorem eqv_int (i j : Int) : PyData.eqv (.int i) (.int j) = (i == j) := by simp only [PyData.eqv]
structure FI (u v w : List Int) (lo : Nat) (dvs : List (Key × PyData)) : Prop where
  key : ∀ k d, atD dvs k = some d → ∃ (s p : Nat) (y : List Int), k = .inl (s : Int) ∧ lo ≤ s ∧ s < w.length ∧ d = .int (p : Int) ∧ p < 2 ∧ w.drop s = wd u v p ++ y ∧ can u v y
  all : ∀ s, lo ≤ s → s < w.length → can u v (w.drop s) → (atD dvs (.inl (s : Int))).isSome = true
theorem wd_pos {u v : List Int} (hu : u ≠ []) (hv : v ≠ []) {p : Nat} (hp : p < 2) : 0 < (wd u v p).length := by
  have h : p = 0 ∨ p = 1 := by omega
  rcases h with rfl | rfl
  · exact List.length_pos_iff.mpr hu
  · exact List.length_pos_iff.mpr hv
end K3
set_option Elab.async false
set_option linter.all false
set_option maxRecDepth 100000
/-! What the defs promise. -/
namespace K3
open PySem PySem.Spec PyProof.Rows L2 DL
def uf_take : UF := fun n ds k => ∃ low : Int, ds = [.int low] ∧ 0 < low ∧ low < 1073741824 ∧ (n : Int) < 2 ^ 40 ∧ ∀ (n' : Nat) (r : Int), n' ≤ n + 1 → 0 ≤ r → r < low → k n' (.int r)
def f_box : List PyData → (List PyData → Prop) → Prop := fun ds k => ∃ (ns : List Int) (j : Nat), ds = [.list (ns.map .int), .int (j : Int)] ∧ j < ns.length ∧ ns.length ≤ 63 ∧ ∀ b s : Int, 0 ≤ b → 0 ≤ s → s < 2 ^ 62 → k [.int b, .int s, .int 0]
def df_hl : DF := fun ds k => ∃ d, ds = [d] ∧ noL d = true ∧ sz d ≤ 90000 ∧ k (.bool false)
def df_frozen : DF := fun ds k => ∃ d, ds = [d] ∧ noL d = true ∧ sz d ≤ 90000 ∧ k d
def uf_word : UF := fun n ds k => ∃ most kinds : Int, ds = [.int most, .int kinds] ∧ 0 ≤ most ∧ most ≤ 1000 ∧ 0 < kinds ∧ kinds < 1073741824 ∧ (n : Int) + most < 2 ^ 40 - 1 ∧
  ∀ (n' : Nat) (ns : List Int), (n' : Int) ≤ n + most + 1 → (ns.length : Int) ≤ most → (∀ x ∈ ns, 0 ≤ x ∧ x < kinds) → k n' (wordD ns)
def df_cells : DF := fun ds k => ∃ ns : List Int, ds = [.list (ns.map .int), .int 2] ∧ ns.length ≤ 1000 ∧ ∀ cs : List Int, 0 < cs.length → cs.length ≤ 2 → k (.list (cs.map .int))
def df_commute : DF := fun ds k => ∃ u v : List Int, ds = [wordD u, wordD v] ∧ u.length ≤ 1000 ∧ v.length ≤ 1000 ∧ k (.bool (u ++ v == v ++ u))
def df_place : DF := fun ds k => ∃ i n : Int, ds = [.int i, .int n] ∧ 0 ≤ i ∧ i < n ∧ k .none
def df_row_word : DF := fun ds k => ∃ (ps : List (List Int)) (r : List Nat), ds = [.tuple (ps.map wordD), .tuple (r.map fun j : Nat => PyData.int (j : Int))] ∧ (∀ j ∈ r, j < ps.length) ∧ ps.length ≤ 10 ∧ (∀ p ∈ ps, p.length ≤ 1000) ∧ r.length ≤ 50 ∧ k (wordD (rowOf ps r))
def sameOk : Nat → PyData → Prop
  | 0, _ => False
  | n + 1, d => (∃ b, d = .bool b) ∨ (∃ i, d = .int i) ∨ (∃ s, d = .str s ∧ SeqAt.shaped d = true ∧ PyData.eqv d d = true) ∨ (∃ xs, d = .list xs ∧ xs.length ≤ 1000 ∧ ∀ x ∈ xs, sameOk n x) ∨ (∃ xs, d = .tuple xs ∧ xs.length ≤ 1000 ∧ ∀ x ∈ xs, sameOk n x)
def df_same (n : Nat) : DF := fun ds k => ∃ d, ds = [d, d] ∧ sameOk n d ∧ k (.bool true)
def df_first : DF := fun ds k => ∃ (u v w : List Int), ds = [.tuple [wordD u, wordD v], wordD w] ∧ u ≠ [] ∧ v ≠ [] ∧ w.length ≤ 1000 ∧ ∀ dvs, FI u v w 0 dvs → k (dkD dvs)
def rf_told (CU CN : Addr) : RF := fun ds k ke => ∃ (u v w : List Int), ds = [.tuple [wordD u, wordD v], wordD w] ∧ u.length ≤ 1000 ∧ v.length ≤ 1000 ∧ w.length ≤ 1000 ∧
  (u ++ v = v ++ u → ke (.ref CU)) ∧ (u ++ v ≠ v ++ u → (∀ r, isRow r → rowOf [u, v] r = w → k (.tuple (r.map fun j : Nat => PyData.int (j : Int)))) ∧ (¬ can u v w → ke (.ref CN)))
def rowD (r : List Nat) : PyData := .tuple (r.map fun j : Nat => PyData.int (j : Int))
def df_heard : DF := fun ds k => ∃ (u v w : List Int), ds = [.tuple [wordD u, wordD v], wordD w] ∧ u.length ≤ 1000 ∧ v.length ≤ 1000 ∧ w.length ≤ 1000 ∧
  (u ++ v = v ++ u → k (.list [.str "unfit"])) ∧ (u ++ v ≠ v ++ u → (∀ r, isRow r → rowOf [u, v] r = w → k (rowD r)) ∧ (¬ can u v w → k (.list [.str "none"])))
def df_ways (n : Nat) : DF := fun ds k => ∃ (u v w : List Int), ds = [.tuple [wordD u, wordD v], wordD w] ∧ u ++ v ≠ v ++ u ∧ u.length ≤ 1000 ∧ v.length ≤ 1000 ∧ w.length ≤ 1000 ∧ w.length < n ∧ ∀ rs : List (List Nat), (rs = [] ∧ ¬ can u v w) ∨ (∃ r, rs = [r] ∧ isRow r ∧ rowOf [u, v] r = w) → k (.list (rs.map rowD))
theorem cut_map {α β : Type} (g : α → β) (xs : List α) (lo hi : Option Int) : cut (xs.map g) lo hi = (cut xs lo hi).map g := by
  unfold cut
  rw [List.length_map, List.map_take, List.map_drop]
theorem at2 {u v : List Int} {p : Nat} (hp : p < 2) : atI [wordD u, wordD v] (p : Int) = some (wordD (wd u v p)) := by
  have h : p = 0 ∨ p = 1 := by omega
  rcases h with rfl | rfl <;> rfl
theorem pds_id {a : Prop} (h : a) : a := h
abbrev veB : List Value := [.type "ValueError", .type "Exception", .type "BaseException", .type "object"]
theorem cut_len {α : Type} (w : List α) (lo hi : Option Int) : (cut w lo hi).length ≤ w.length := by
  unfold cut
  rw [List.length_take, List.length_drop]
  omega
def leftOf (n : Nat) (ρ : DL.Env) : Nat := match ρ[6]? with
  | some (Slot.d (.int s)) => n - s.toNat
  | _ => 0
/-- draws as many as it likes (at most 100 more) and says True -/
def uf_right : UF := fun n ds k => ds = [] ∧ n ≤ 100 ∧ ∀ n' : Nat, k n' (.bool true)
theorem row_len {u v : List Int} (hu : u ≠ []) (hv : v ≠ []) : ∀ {r : List Nat}, isRow r → r.length ≤ (rowOf [u, v] r).length
  | [], _ => Nat.zero_le _
  | p :: r, h => by
    have i := row_len hu hv (r := r) fun j hj => h j (List.mem_cons_of_mem _ hj)
    have q : 0 < ([u, v].getD p []).length := wd_pos hu hv (h p (List.mem_cons_self ..))
    simp only [rowOf, List.length_append, List.length_cons]
    omega
theorem row_snoc (u v : List Int) (r : List Nat) (p : Nat) : rowOf [u, v] (r ++ [p]) = rowOf [u, v] r ++ wd u v p := by
  rw [rowOf_app]
  show _ ++ (wd u v p ++ []) = _
  rw [List.append_nil]
theorem isRow_snoc {r : List Nat} {p : Nat} (h : isRow r) (hp : p < 2) : isRow (r ++ [p]) := fun j hj => by
  rcases List.mem_append.mp hj with hj | hj
  · exact h j hj
  · rw [List.mem_singleton.mp hj]; exact hp
def df_hand : DF := fun ds k => ds = [] ∧ k (.bool true)
def df_law : DF := fun ds k => ∃ ns : List Int, ds = [.list (ns.map .int)] ∧ ns.length ≤ 1000 ∧ k (.bool true)
theorem sameOk_row {r : List Nat} (h : r.length ≤ 1000) : sameOk 2 (rowD r) := .inr (.inr (.inr (.inr ⟨_, rfl, by rw [List.length_map]; exact h, fun x hx => by
  obtain ⟨j, _, rfl⟩ := List.mem_map.mp hx
  exact .inr (.inl ⟨_, rfl⟩)⟩)))
theorem sameOk_word {w : List Int} (h : w.length ≤ 1000) : sameOk 2 (wordD w) := .inr (.inr (.inr (.inr ⟨_, rfl, by rw [List.length_map]; exact h, fun x hx => by
  obtain ⟨j, _, rfl⟩ := List.mem_map.mp hx
  exact .inr (.inl ⟨_, rfl⟩)⟩)))
theorem sameOk_str {s : Str} (h1 : SeqAt.shaped (.str s) = true) (h2 : PyData.eqv (.str s) (.str s) = true) : sameOk 2 (.list [.str s]) := .inr (.inr (.inr (.inl ⟨_, rfl, (show 1 ≤ 1000 by decide), fun x hx => by
  rw [List.mem_singleton.mp hx]
  exact .inr (.inr (.inl ⟨s, rfl, h1, h2⟩))⟩)))
theorem same_unfit : sameOk 2 (.list [.str "unfit"]) := sameOk_str (by decide +kernel) (by decide +kernel)
theorem same_none : sameOk 2 (.list [.str "none"]) := sameOk_str (by decide +kernel) (by decide +kernel)
end K3
set_option Elab.async false
set_option linter.all false
set_option maxRecDepth 100000
/-! The text by places. -/
namespace K3
open PySem PySem.Spec PyProof.Rows L2 DL
def top (i : Nat) : Stmt := PySem.Challenge.pw_unwound_k03_whole_rows_of_two_words.main.body.getD i (.Pass ⟨0, 0, 0, 0⟩)
abbrev s_frozen : Stmt := top 5
theorem sc_frozen : FnScope ["value", "wholes", "waiting", "whole", "within", "part", "done", "many", "items"] ["value"] (defScope s_frozen) := ⟨rfl, rfl, rfl, by decide +kernel, rfl, by decide +kernel, by decide +kernel⟩
abbrev s__holds_list : Stmt := top 6
theorem sc__holds_list : FnScope ["value", "waiting", "whole", "part"] ["value"] (defScope s__holds_list) := ⟨rfl, rfl, rfl, by decide +kernel, rfl, by decide +kernel, by decide +kernel⟩
abbrev s_require_place : Stmt := top 7
theorem sc_require_place : FnScope ["place", "many"] ["place", "many"] (defScope s_require_place) := ⟨rfl, rfl, rfl, by decide +kernel, rfl, by decide +kernel, by decide +kernel⟩
abbrev s_commute : Stmt := top 9
theorem sc_commute : FnScope ["word", "other", "one", "two"] ["word", "other"] (defScope s_commute) := ⟨rfl, rfl, rfl, by decide +kernel, rfl, by decide +kernel, by decide +kernel⟩
abbrev s_row_word : Stmt := top 10
theorem sc_row_word : FnScope ["words", "row", "made", "parts", "place"] ["words", "row"] (defScope s_row_word) := ⟨rfl, rfl, rfl, by decide +kernel, rfl, by decide +kernel, by decide +kernel⟩
abbrev s_row_told : Stmt := top 11
theorem sc_row_told : FnScope ["words", "word", "pair", "whole", "firsts", "row", "start"] ["words", "word"] (defScope s_row_told) := ⟨rfl, rfl, rfl, by decide +kernel, rfl, by decide +kernel, by decide +kernel⟩
abbrev s__first_places : Stmt := top 12
theorem sc__first_places : FnScope ["pair", "whole", "firsts", "start", "place", "word", "end"] ["pair", "whole"] (defScope s__first_places) := ⟨rfl, rfl, rfl, by decide +kernel, rfl, by decide +kernel, by decide +kernel⟩
abbrev s__law_box : Stmt := top 14
theorem sc__law_box : FnScope ["script", "k", "cell"] ["script", "k"] (defScope s__law_box) := ⟨rfl, rfl, rfl, by decide +kernel, rfl, by decide +kernel, by decide +kernel⟩
abbrev s__law_take : Stmt := top 15
theorem sc__law_take : FnScope ["urn", "low_so", "drawn", "once", "far", "twice"] ["urn", "low_so"] (defScope s__law_take) := ⟨rfl, rfl, rfl, by decide +kernel, rfl, by decide +kernel, by decide +kernel⟩
abbrev s__law_cells : Stmt := top 16
theorem sc__law_cells : FnScope ["script", "top", "cells", "k", "cell", "at_so"] ["script", "top"] (defScope s__law_cells) := ⟨rfl, rfl, rfl, by decide +kernel, rfl, by decide +kernel, by decide +kernel⟩
abbrev s__law_same : Stmt := top 17
theorem sc__law_same : FnScope ["got", "goal", "mine_so", "own"] ["got", "goal"] (defScope s__law_same) := ⟨rfl, rfl, rfl, by decide +kernel, rfl, by decide +kernel, by decide +kernel⟩
abbrev s__law_word : Stmt := top 18
theorem sc__law_word : FnScope ["urn", "most", "kinds_so", "k"] ["urn", "most", "kinds_so"] (defScope s__law_word) := ⟨rfl, rfl, rfl, by decide +kernel, rfl, by decide +kernel, by decide +kernel⟩
abbrev s__law_heard : Stmt := top 19
theorem sc__law_heard : FnScope ["pair", "word"] ["pair", "word"] (defScope s__law_heard) := ⟨rfl, rfl, rfl, by decide +kernel, rfl, by decide +kernel, by decide +kernel⟩
abbrev s__law_ways : Stmt := top 20
theorem sc__law_ways : FnScope ["pair", "word", "found", "k", "own"] ["pair", "word"] (defScope s__law_ways) := ⟨rfl, rfl, rfl, by decide +kernel, rfl, by decide +kernel, by decide +kernel⟩
abbrev s__law_right : Stmt := top 21
theorem sc__law_right : FnScope ["urn", "one", "other", "pair", "apart", "heard", "due", "lap", "row", "k", "word", "strange", "ways"] ["urn"] (defScope s__law_right) := ⟨rfl, rfl, rfl, by decide +kernel, rfl, by decide +kernel, by decide +kernel⟩
abbrev s__law_by_hand_right : Stmt := top 22
theorem sc__law_by_hand_right : FnScope ["pair", "heard", "own", "due"] [] (defScope s__law_by_hand_right) := ⟨rfl, rfl, rfl, by decide +kernel, rfl, by decide +kernel, by decide +kernel⟩
abbrev s_law : Stmt := top 23
theorem sc_law : FnScope ["script", "cells_so", "k"] ["script"] (defScope s_law) := ⟨rfl, rfl, rfl, by decide +kernel, rfl, by decide +kernel, by decide +kernel⟩
end K3
set_option Elab.async false
set_option linter.all false
set_option maxRecDepth 100000
set_option maxHeartbeats 4000000
namespace K3
open PySem PySem.Spec PyProof.Rows L2 DL
section
variable {P : Program} {w : World} {K : PySem.W.Frag} {mg : Str → Option Value} {base : Heap} {f : Addr} {fd : FuncData}
/-! ### frozen -/
theorem ok__holds_list (F : Fun K "_holds_list" "_holds_list" s__holds_list f fd) (m_isinstance : mg "isinstance" = none) (m_tuple : mg "tuple" = none) (m_list : mg "list" = none) : FnOk P w K mg base CX0 1 f fd ["value"] (spP K df_hl) := by
  refine ok_P F sc__holds_list (fun ds k h => ?_) (fun cdv A outer s H E C hr => ⟨_,
    (pds_cons (pds_if (pdt_not (pdt_tru (pd_isi (T := "tuple") (by decide) rfl m_isinstance (pd_v 0) (pe_bltn rfl m_tuple (by decide +kernel) rfl)))) (pds_cons (pds_ret (pd_isi (T := "list") (by decide) rfl m_isinstance (pd_v 0) (pe_bltn rfl m_list (by decide +kernel) rfl)))
      pds_nil) pds_nil)
      (pds_cons (pds_new (pda_cons (pd_v 0) pda_nil) (pg_name (i := 1) sc__holds_list.nd rfl (by first | exact Or.inl rfl | exact Or.inr rfl)))
      (pds_cons (pds_while PassesOwn.never (pdt_truOwn (pv 1)) (pds_cons (pds_set (pd_pop (pv 1)) (pg_name (i := 2) sc__holds_list.nd rfl (by first | exact Or.inl rfl | exact Or.inr rfl)))
      (pds_cons (pds_for PassesOwn.never rfl (pdi_T (pd_v 2)) (pdg_n (pg_name (i := 3) sc__holds_list.nd rfl (by first | exact Or.inl rfl | exact Or.inr rfl))) (pds_cons (pds_if (pdt_tru (pd_isi (T := "tuple") (by decide) rfl m_isinstance (pd_v 3) (pe_bltn rfl m_tuple (by decide +kernel) rfl))) (pds_cons (pds_app (pv 1) (pd_v 3))
      pds_nil) (pds_cons (pds_if (pdt_tru (pd_isi (T := "list") (by decide) rfl m_isinstance (pd_v 3) (pe_bltn rfl m_list (by decide +kernel) rfl))) (pds_cons (pds_ret pd_bl)
      pds_nil) pds_nil)
      pds_nil))
      pds_nil))
      pds_nil)))
      (pds_cons (pds_ret pd_bl)
      pds_nil)))), ?_⟩)
  · obtain ⟨d, rfl, _⟩ := h
    rfl
  rintro ds kk ⟨d, rfl, hl, hz, hk⟩
  refine ⟨d, rfl, instD "tuple" d, rfl, ?_⟩
  cases d with
  | list es => exact absurd hl (by simp [noL])
  | none => exact iteT ⟨_, rfl, hk⟩
  | bool b => exact iteT ⟨_, rfl, hk⟩
  | int b => exact iteT ⟨_, rfl, hk⟩
  | str b => exact iteT ⟨_, rfl, hk⟩
  | dict b => exact iteT ⟨_, rfl, hk⟩
  | tuple fs =>
    refine iteF ?_
    refine ⟨_, rfl, (by decide : 1 ≤ 1000), fun ρ => ∃ ws s2 s3, ρ = [DL.Slot.d (.tuple fs), DL.Slot.own ws, s2, s3] ∧ noLs ws = true ∧ szs ws ≤ 90000 ∧ (∀ x ∈ ws, ∃ es, x = .tuple es) ∧ (∀ ds, s2 ≠ .own ds) ∧ ∀ ds, s3 ≠ .own ds,
      ownSz 1, ⟨[.tuple fs], .un, .un, rfl, by simp [noLs, hl], by simp [szs]; omega, fun x hx => ⟨fs, by simpa using hx⟩, fun _ z => (by cases z), fun _ z => (by cases z)⟩, ?_⟩
    rintro ρ ⟨ws, s2, s3, rfl, h1, h2, h3, n2, n3⟩
    refine ⟨ws, rfl, ?_⟩
    cases hw : ws with
    | nil => exact iteF hk
    | cons w0 wr =>
      refine iteT ?_
      rw [← hw]
      have hne : ws ≠ [] := by rw [hw]; exact fun z => by cases z
      obtain ⟨x, hx⟩ : ∃ x, ws[ws.length - 1]? = some x := ⟨_, List.getElem?_eq_getElem (by have := List.length_pos_iff.mpr hne; omega)⟩
      have hs := last_split hx
      have hz2 : szs ws.dropLast + sz x = szs ws := by
        have := szs_append ws.dropLast [x]
        rw [← hs] at this
        simp only [szs] at this
        omega
      have hl2 : noLs ws.dropLast = true ∧ noL x = true := by
        have := noLs_append ws.dropLast [x]
        rw [← hs, h1] at this
        simp only [noLs, Bool.and_true] at this
        exact (Bool.and_eq_true _ _).mp this.symm
      obtain ⟨es, rfl⟩ := h3 x (List.mem_of_getElem? hx)
      have hle : noLs es = true := hl2.2
      simp only [sz] at hz2
      refine ⟨ws, _, rfl, hx, ?_⟩
      refine ⟨_, rfl, es, rfl, fun j ρ => ∃ tk s3, ρ = [DL.Slot.d (.tuple fs), DL.Slot.own (ws.dropLast ++ tk), DL.Slot.d (.tuple es), s3] ∧ noLs tk = true ∧ szs tk ≤ szs (es.take j) ∧ (∀ x ∈ tk, ∃ ys, x = .tuple ys) ∧ ∀ ds, s3 ≠ .own ds,
        ⟨[], s3, by rw [List.append_nil]; rfl, rfl, Nat.zero_le _, fun _ z => (nomatch z), n3⟩, ?_, ?_⟩
      · rintro j y ρ hj ⟨tk, s4, rfl, t1, t2, t3, n4⟩
        have ej : es.take (j + 1) = es.take j ++ [y] := by rw [List.take_succ, hj]; rfl
        have ez : szs (es.take (j + 1)) = szs (es.take j) + sz y := by rw [ej, szs_append]; simp [szs]
        have all : szs (es.take (j + 1)) ≤ szs es := by
          have := szs_append (es.take (j + 1)) (es.drop (j + 1))
          rw [List.take_append_drop] at this
          omega
        have hy : noL y = true := by
          have z := noLs_append (es.take j) (es.drop j)
          rw [List.take_append_drop, hle] at z
          have z2 := ((Bool.and_eq_true _ _).mp z.symm).2
          have ed : es.drop j = y :: es.drop (j + 1) := by
            obtain ⟨hlt, he⟩ := List.getElem?_eq_some_iff.mp hj
            rw [List.drop_eq_getElem_cons hlt, he]
          rw [ed] at z2
          simp only [noLs] at z2
          exact ((Bool.and_eq_true _ _).mp z2).1
        refine ⟨y, rfl, instD "tuple" y, rfl, ?_⟩
        cases y with
        | list ys => exact absurd hy (by simp [noL])
        | none => exact iteF ⟨_, rfl, _, rfl, iteF ⟨tk, _, rfl, t1, by omega, t3, fun _ z => by cases z⟩⟩
        | bool b => exact iteF ⟨_, rfl, _, rfl, iteF ⟨tk, _, rfl, t1, by omega, t3, fun _ z => by cases z⟩⟩
        | int b => exact iteF ⟨_, rfl, _, rfl, iteF ⟨tk, _, rfl, t1, by omega, t3, fun _ z => by cases z⟩⟩
        | str b => exact iteF ⟨_, rfl, _, rfl, iteF ⟨tk, _, rfl, t1, by omega, t3, fun _ z => by cases z⟩⟩
        | dict b => exact iteF ⟨_, rfl, _, rfl, iteF ⟨tk, _, rfl, t1, by omega, t3, fun _ z => by cases z⟩⟩
        | tuple ys =>
          refine iteT ⟨⟨_, rfl⟩, _, rfl, _, rfl, ?_, tk ++ [.tuple ys], _, by rw [List.append_assoc]; rfl, ?_, ?_, fun x hx => ?_, fun _ z => by cases z⟩
          · have e1 := len_szs (ws.dropLast ++ tk)
            have e2 := szs_append ws.dropLast tk
            omega
          · rw [noLs_append, t1]
            simp only [noLs, hy, Bool.and_self]
          · rw [szs_append]
            simp only [szs]
            omega
          · rcases List.mem_append.mp hx with hx | hx
            · exact t3 x hx
            · exact ⟨ys, by simpa using hx⟩
      · rintro ρ ⟨tk, s4, rfl, t1, t2, t3, n4⟩
        rw [List.take_length] at t2
        refine ⟨⟨_, _, _, rfl, ?_, ?_, fun x hx => ?_, fun _ z => (by cases z), n4⟩, ?_⟩
        · rw [noLs_append, hl2.1, t1]; rfl
        · rw [szs_append]; omega
        · rcases List.mem_append.mp hx with hx | hx
          · exact h3 x (List.dropLast_subset _ hx)
          · exact t3 x hx
        · show szs (ws.dropLast ++ tk) < szs ws
          rw [szs_append]
          omega
theorem ok_frozen (F : Fun K "frozen" "frozen" s_frozen f fd) (D__holds_list : Df P w K mg base "_holds_list" ["value"] 1 (spP K df_hl)) : FnOk P w K mg base CX0 2 f fd ["value"] (spP K df_frozen) := by
  refine ok_P F sc_frozen (fun ds k h => ?_) (fun cdv A outer s H E C hr => ⟨_,
    (pds_cons (pds_if (pdt_not (pdt_tru (pd_callD D__holds_list (hr.mono (by decide)) rfl (pda_cons (pd_v 0) pda_nil)))) (pds_cons (pds_ret (pd_v 0))
      pds_nil) pds_nil)
      pdss_no), ?_⟩)
  · obtain ⟨d, rfl, _⟩ := h
    rfl
  rintro ds kk ⟨d, rfl, hl, hz, hk⟩
  exact ⟨d, rfl, d, rfl, hl, hz, false, rfl, iteT ⟨d, rfl, hk⟩⟩
end
end K3
set_option Elab.async false
set_option linter.all false
set_option maxRecDepth 100000
set_option maxHeartbeats 4000000
namespace K3
open PySem PySem.Spec PyProof.Rows L2 DL
section
variable {P : Program} {w : World} {K : PySem.W.Frag} {mg : Str → Option Value} {base : Heap} {f : Addr} {fd : FuncData}
/-! ### the draws -/
theorem ok__law_take (F : Fun K "_law_take" "_law_take" s__law_take f fd) (m_int : mg "int" = none) : FnOk P w K mg base CX0 1 f fd ["urn", "low_so"] (spU K uf_take) := by
  refine ok_U F sc__law_take (fun n ds k h => ?_) (fun cdv A outer s H E C hr => ⟨_,
    (pds_cons (pds_if (pdt_gt (pd_urn (pv 0)) pd_int) (pds_cons (pds_set (pd_mod (pd_intOf m_int rfl (pda_cons (pd_urn (pv 0)) pda_nil)) (pd_v 1)) (pg_name (i := 2) sc__law_take.nd rfl (by first | exact Or.inl rfl | exact Or.inr rfl)))
      (pds_cons (pds_urn (pd_div (pd_urn (pv 0)) (pd_v 1)) (pv 0))
      (pds_cons (pds_ret (pd_v 2))
      pds_nil))) pds_nil)
      (pds_cons (pds_urn (pd_add (pd_urn (pv 0)) pd_int) (pv 0))
      (pds_cons (pds_set (pd_mod (pd_intOf m_int rfl (pda_cons (pd_mul (pd_add (pd_urn (pv 0)) (pd_mul pd_int (pd_urn (pv 0)))) (pd_add pd_int (pd_urn (pv 0)))) pda_nil)) pd_int) (pg_name (i := 3) sc__law_take.nd rfl (by first | exact Or.inl rfl | exact Or.inr rfl)))
      (pds_cons (pds_set (pd_add (pd_mod (pd_intOf m_int rfl (pda_cons (pd_v 3) pda_nil)) pd_int) pd_int) (pg_name (i := 4) sc__law_take.nd rfl (by first | exact Or.inl rfl | exact Or.inr rfl)))
      (pds_cons (pds_set (pd_mod (pd_intOf m_int rfl (pda_cons (pd_mul (pd_add (pd_add (pd_v 3) (pd_urn (pv 0))) (pd_div (pd_urn (pv 0)) pd_int)) (pd_v 4)) pda_nil)) pd_int) (pg_name (i := 5) sc__law_take.nd rfl (by first | exact Or.inl rfl | exact Or.inr rfl)))
      (pds_cons (pds_ret (pd_mod (pd_intOf m_int rfl (pda_cons (pd_div (pd_mod (pd_intOf m_int rfl (pda_cons (pd_add (pd_mul (pd_v 5) pd_int) (pd_v 3)) pda_nil)) pd_int) pd_int) pda_nil)) (pd_v 1)))
      pds_nil)))))), ?_⟩) (fun _ _ => trivial)
  · obtain ⟨low, rfl, _⟩ := h
    rfl
  rintro n ds kk ⟨low, rfl, h0, h1, hn, hk⟩
  refine ⟨n, rfl, .inl rfl, fun v hv => ⟨v, 0, rfl, rfl, trivial, _, rfl, ?_⟩⟩
  refine ite2 (fun c => ?_) (fun c => ?_)
  · refine ⟨n, rfl, .inl rfl, fun v1 hv1 => .inl ⟨v1, rfl, _, rfl, v1, low, rfl, rfl, h0, ?_⟩⟩
    refine ⟨⟨n, rfl⟩, n, rfl, .inl rfl, fun v2 hv2 => ⟨_, rfl, v2, low, rfl, rfl, ⟨h0, h1⟩, n, n, _, rfl, rfl, rfl, .inl ⟨rfl, Int.ediv_nonneg hv2 (Int.le_of_lt h0), rfl⟩, ?_⟩⟩
    exact ⟨_, rfl, n, rfl, hk n _ (Nat.le_succ n) (mod_lt h0).1 (mod_lt h0).2⟩
  · refine ⟨⟨n, rfl⟩, n, rfl, .inr (.inr rfl), fun v2 hv2 => ⟨n, n + 1, v2 + 1, rfl, rfl, rfl, .inr ⟨rfl, ?_, ?_⟩, ?_⟩⟩
    · have h : 0 ≤ v2 ∧ v2 ≤ (n : Int) := hv2
      omega
    · have h : 0 ≤ v2 ∧ v2 ≤ (n : Int) := hv2
      omega
    -- once
    refine ⟨n + 1, rfl, .inr (.inl rfl), fun a1 ha1 => ⟨n + 1, rfl, .inr (.inr rfl), fun a2 ha2 => ⟨48271, a2, rfl, rfl, .inl ⟨by decide, by decide⟩, n + 1, rfl, .inr (.inr rfl), fun a3 ha3 => ?_⟩⟩⟩
    have b3 : 0 ≤ a3 ∧ a3 ≤ ((n + 1 : Nat) : Int) := ha3
    refine ⟨_, _, rfl, rfl, .inr ⟨?_, ?_⟩, .inl ⟨_, rfl, _, _, rfl, rfl, (by show (0 : Int) < _; decide), ?_⟩⟩
    · omega
    · omega
    -- far
    refine ⟨_, rfl, .inl ⟨_, rfl, _, _, rfl, rfl, (by show (0 : Int) < _; decide), ?_⟩⟩
    -- twice
    refine ⟨_, rfl, n + 1, rfl, .inr (.inr rfl), fun a4 ha4 => ⟨n + 1, rfl, .inr (.inl rfl), fun a5 ha5 => ⟨a5, 1000003, rfl, rfl, ⟨by decide, by decide⟩, _, rfl, _, _, rfl, rfl, .inr ⟨?_, ?_⟩, .inl ⟨_, rfl, _, _, rfl, rfl, (by show (0 : Int) < _; decide), ?_⟩⟩⟩⟩
    · have := Int.emod_nonneg ((a1 + 48271 * a2) * (39373 + a3) % 2147483647) (show (40009 : Int) ≠ 0 by decide)
      omega
    · have := Int.emod_lt_of_pos ((a1 + 48271 * a2) * (39373 + a3) % 2147483647) (show (0 : Int) < 40009 by decide)
      omega
    -- the number
    refine ⟨_, rfl, _, _, rfl, rfl, .inr ⟨by decide, by decide⟩, _, rfl, .inl ⟨_, rfl, _, _, rfl, rfl, (by show (0 : Int) < _; decide), _, _, rfl, rfl, ⟨by decide, by decide⟩, .inl ⟨_, rfl, _, rfl, _, _, rfl, rfl, h0, ?_⟩⟩⟩
    exact ⟨n + 1, rfl, hk (n + 1) _ (Nat.le_refl _) (mod_lt h0).1 (mod_lt h0).2⟩
/-! ### a number's draws' list -/
theorem atI_map {ns : List Int} {j : Nat} (h : j < ns.length) : atI (ns.map PyData.int) (j : Int) = some (.int ns[j]) := atI_nat (by rw [List.getElem?_map, List.getElem?_eq_getElem h]; rfl)
theorem ok__law_box (F : Fun K "_law_box" "_law_box" s__law_box f fd) (m_int : mg "int" = none) (m_abs : mg "abs" = none) (m_len : mg "len" = none) : FnOk P w K mg base CX0 1 f fd ["script", "k"] (spL K f_box) := by
  refine ok_L F sc__law_box (fun ds k h => ?_) (fun cdv A outer s H E C hr => ⟨_, _,
    (pss_cons (pds_set (pd_if (pdt_lt (pd_v 1) (pd_len m_len rfl (pda_cons (pd_v 0) pda_nil))) (pd_ix (pd_v 0) (pd_v 1)) pd_int) (pg_name (i := 2) sc__law_box.nd rfl (by first | exact Or.inl rfl | exact Or.inr rfl))) (pss_cons (ps_ret (pe_lst (pda_cons (pd_mul (pd_abs m_abs rfl (pda_cons (pd_v 2) pda_nil)) (pd_intOf m_int rfl (pda_cons (pd_ge (pd_abs m_abs rfl (pda_cons (pd_v 2) pda_nil)) (pd_pow pd_int pd_int)) pda_nil))) (pda_cons (pd_add (pd_add (pd_mod (pd_intOf m_int rfl (pda_cons (pd_v 2) pda_nil)) pd_int) (pd_mul pd_int (pd_v 1))) pd_int) (pda_cons pd_int pda_nil))))) pss_nil)), ?_⟩)
  · obtain ⟨ns, j, rfl, _⟩ := h
    rfl
  rintro ds kk ⟨ns, j, rfl, hj, hl, hk⟩
  have hlen : (ns.map PyData.int).length = ns.length := List.length_map _
  refine ⟨_, rfl, _, rfl, _, _, rfl, rfl, ?_⟩
  refine ⟨_, _, rfl, rfl, trivial, _, rfl, ?_⟩
  have c : decide ((j : Int) < ((ns.map PyData.int).length : Nat)) = true := decide_eq_true (by rw [hlen]; exact_mod_cast hj)
  rw [c]
  refine iteT ⟨_, rfl, _, rfl, _, _, _, rfl, rfl, atI_map hj, ?_⟩
  refine ⟨_, rfl, _, rfl, ?_⟩
  have habs : ∀ v : Int, 0 ≤ (if v < 0 then -v else v) := fun v => by split <;> omega
  have hb : ∀ b : Bool, 0 ≤ (if b = true then (1 : Int) else 0) ∧ -2 ^ 64 < (if b = true then (1 : Int) else 0) ∧ (if b = true then (1 : Int) else 0) < 2 ^ 64 := fun b => by cases b <;> decide
  refine ⟨_, rfl, _, rfl, 10, 18, rfl, rfl, ⟨by decide, by decide, by decide⟩, _, _, rfl, rfl, trivial, .inr ⟨_, rfl, ?_⟩⟩
  refine ⟨_, _, rfl, rfl, .inr (hb _).2, ?_⟩
  refine ⟨_, rfl, .inl ⟨_, rfl, _, _, rfl, rfl, (by show (0 : Int) < _; decide), _, rfl, _, _, rfl, rfl, .inl ⟨by decide, by decide⟩, ?_⟩⟩
  refine ⟨(show 3 ≤ 1000 by decide), hk _ _ ?_ ?_ ?_⟩
  · exact Int.mul_nonneg (habs _) (hb _).1
  · have := Int.emod_nonneg ns[j] (show (2305843009213693951 : Int) ≠ 0 by decide)
    omega
  · have := Int.emod_lt_of_pos ns[j] (show (0 : Int) < 2305843009213693951 by decide)
    omega
end
end K3
set_option Elab.async false
set_option linter.all false
set_option maxRecDepth 100000
set_option maxHeartbeats 4000000
namespace K3
open PySem PySem.Spec PyProof.Rows L2 DL
section
variable {P : Program} {w : World} {K : PySem.W.Frag} {mg : Str → Option Value} {base : Heap} {f : Addr} {fd : FuncData}
theorem enum_at {xs : List Int} {j : Nat} {d : PyData} (h : (enumD (xs.map .int))[j]? = some d) : ∃ c : Int, d = .tuple [.int (j : Int), .int c] ∧ j < xs.length := by
  unfold enumD at h
  rw [List.getElem?_mapIdx, List.getElem?_map] at h
  cases e : xs[j]? with
  | none => rw [e] at h; cases h
  | some c =>
    rw [e] at h
    exact ⟨c, (Option.some.inj h).symm, (List.getElem?_eq_some_iff.mp e).1⟩
/-! ### a word that is drawn -/
theorem ok__law_word (F : Fun K "_law_word" "_law_word" s__law_word f fd) (m_tuple : mg "tuple" = none) (m_range : mg "range" = none) (D__law_take : Df P w K mg base "_law_take" ["urn", "low_so"] 1 (spU K uf_take)) : FnOk P w K mg base CX0 2 f fd ["urn", "most", "kinds_so"] (spU K uf_word) := by
  refine ok_U F sc__law_word (fun n ds k h => ?_) (fun cdv A outer s H E C hr => ⟨_,
    (pds_cons (pds_ret (pd_tupleOf m_tuple rfl (pda_cons (pd_lc rfl sc__law_word.nd (pdi_R rfl m_range (pda_cons (pd_callDU D__law_take (hr.mono (by decide)) rfl (pv 0) (pda_cons (pd_add (pd_v 1) pd_int) pda_nil)) pda_nil)) (blkOk_by (own := [("k", 3)]) (show blkC ["urn", "most", "kinds_so", "k"] (defScope s__law_word) _ _ = true by decide +kernel)) (fun _ _ _ _ _ => (pdg_n (pg_name (i := 3) sc__law_word.nd rfl (by first | exact Or.inl rfl | exact Or.inr rfl)))) (fun _ _ _ _ _ _ => (pd_callDU D__law_take (hr.mono (by decide)) rfl (pv 0) (pda_cons (pd_v 2) pda_nil)))) pda_nil)))
      pds_nil), ?_⟩) (fun _ _ => trivial)
  · obtain ⟨most, kinds, rfl, _⟩ := h
    rfl
  rintro n ds kk ⟨most, kinds, rfl, h0, h1, h2, h3, hn, hk⟩
  refine ⟨⟨n, rfl⟩, _, rfl, n, rfl, rfl, most + 1, rfl, by omega, by omega, by omega, fun n1 r hn1 hr0 hr1 => ?_⟩
  refine ⟨r, rfl, by omega, by omega, fun i hi => by rw [List.mem_singleton.mp hi]; rfl, fun j acc ρ => ∃ (n' : Nat) (ns : List Int), ρ = [.urn n', .d (.int most), .d (.int kinds), .un] ∧ acc = ns.map .int ∧ ns.length = j ∧ (n' : Int) ≤ n + 1 + j ∧ ∀ x ∈ ns, 0 ≤ x ∧ x < kinds, ⟨n1, [], rfl, rfl, rfl, by simp; omega, fun x hx => by cases hx⟩, ?_, ?_⟩
  · rintro j d acc ρ hj ⟨n', ns, rfl, rfl, hl, hn', hb⟩
    have hj' : j < r.toNat := by
      have := (List.getElem?_eq_some_iff.mp hj).1
      rwa [rangeD_len] at this
    refine ⟨fun i hi => by rw [List.mem_singleton.mp hi]; rfl, ?_⟩
    refine ⟨⟨n', rfl⟩, _, rfl, n', rfl, rfl, kinds, rfl, h2, h3, by omega, fun n2 x hn2 hx0 hx1 => ⟨by rw [List.length_map]; omega, rfl, n2, ns ++ [x], rfl, by rw [List.map_append]; rfl, by rw [List.length_append, hl]; rfl, by omega, fun y hy => ?_⟩⟩
    rcases List.mem_append.mp hy with hy | hy
    · exact hb y hy
    · rw [List.mem_singleton.mp hy]
      exact ⟨hx0, hx1⟩
  · rintro acc ρ ⟨n', ns, rfl, rfl, hl, hn', hb⟩
    rw [rangeD_len] at hl hn'
    refine ⟨fun i hi => by rw [List.mem_singleton.mp hi]; rfl, _, _, rfl, rfl, ?_⟩
    exact ⟨n', rfl, hk n' ns (by omega) (by omega) hb⟩
/-! ### cells -/
theorem ok__law_cells (F : Fun K "_law_cells" "_law_cells" s__law_cells f fd) (m_list : mg "list" = none) (m_enumerate : mg "enumerate" = none) (m_int : mg "int" = none) : FnOk P w K mg base CX0 1 f fd ["script", "top"] (spP K df_cells) := by
  refine ok_P F sc__law_cells (fun ds k h => ?_) (fun cdv A outer s H E C hr => ⟨_,
    (pds_cons (pds_lo m_list rfl (pda_cons (pd_sl (pd_v 0) pdo_none (pdo_some (pd_v 1))) pda_nil) (pda_cons pd_int pda_nil) (pg_name (i := 2) sc__law_cells.nd rfl (by first | exact Or.inl rfl | exact Or.inr rfl)))
      (pds_cons (pds_for PassesOwn.never rfl (pdi_E rfl m_enumerate (pda_cons (pd_sl (pd_v 0) (pdo_some (pd_v 1)) (pdo_some pd_int)) pda_nil)) (pdg_t (n := 2) rfl (pdgs_cons (pdg_n (pg_name (i := 3) sc__law_cells.nd rfl (by first | exact Or.inl rfl | exact Or.inr rfl))) (pdgs_cons (pdg_n (pg_name (i := 4) sc__law_cells.nd rfl (by first | exact Or.inl rfl | exact Or.inr rfl))) pdgs_nil))) (pds_cons (pds_set (pd_mod (pd_intOf m_int rfl (pda_cons (pd_v 3) pda_nil)) (pd_v 1)) (pg_name (i := 5) sc__law_cells.nd rfl (by first | exact Or.inl rfl | exact Or.inr rfl)))
      (pds_cons (pds_put (pd_add (pd_ixOwn (pv 2) (pd_v 5)) (pd_mul (pd_v 4) (pd_add (pd_v 3) pd_int))) (pv 2) (pd_v 5))
      pds_nil)))
      (pds_freeze 2 (pds_cons (pds_ret (pd_v 2))
      pds_nil)))), ?_⟩)
  · obtain ⟨ns, rfl, _⟩ := h
    rfl
  rintro ds kk ⟨ns, rfl, hl, hk⟩
  have key : ∀ (ρ : DL.Env) (cs : List Int), 0 < cs.length → cs.length ≤ 2 → (2 < ns.length → cs.length = 2) → ρ = [.d (.list (ns.map .int)), .d (.int 2), .own (cs.map .int), .un, .un, .un] → wsSeq
      (wsFor (wiE (wCons (wSl (wVar 0) (wPart (wVar 1)) (wPart (wC (PyData.int 63)))) wNil))
        (wgT 2 (wgsCons (wgN 3) (wgsCons (wgN 4) wgsNil)))
        (wsSeq
          (wsSet 5
            (wOp (pI (fun x j => 0 < j) fun i j => PyData.int (i % j)) (wCall fInt (wCons (wVar 3) wNil)) (wVar 1)))
          (wsSeq
            (wsPut 2
              (wOp pAdd (wIxOwn 2 (wVar 5))
                (wOp (pI CMul fun i j => PyData.int (i * j)) (wVar 4) (wOp pAdd (wVar 3) (wC (PyData.int 2)))))
              (wVar 5))
            wsNil)))
      (wsFreeze 2 (wsSeq (wsRet (wVar 2)) wsNil))
    { nx := fun x => kk PyData.none, rt := fun d x => kk d } ρ := by
    rintro ρ cs0 hc1 hc2 hc3 rfl
    refine ⟨_, rfl, _, rfl, 2, rfl, 63, rfl, _, rfl, ?_⟩
    rw [cut_map]
    refine ⟨fun j ρ => ∃ (cs : List Int) (s3 s4 s5 : Slot), ρ = [.d (.list (ns.map .int)), .d (.int 2), .own (cs.map .int), s3, s4, s5] ∧ cs.length = cs0.length, ⟨cs0, _, _, _, rfl, rfl⟩, ?_, ?_⟩
    · rintro j d ρ hj ⟨cs, s3, s4, s5, rfl, hcl⟩
      obtain ⟨c, rfl, hjl⟩ := enum_at hj
      have hl2 : cs.length = 2 := by
        rw [hcl]
        refine hc3 ?_
        have e : (cut ns (some 2) (some 63)).length ≤ ns.length - 2 := by
          show ((ns.drop (HT.sIx ns.length 0 (some ((2 : Nat) : Int)))).take _).length ≤ _
          rw [HT.sIx_nat, List.length_take, List.length_drop]
          omega
        omega
      have hj63 : j < 63 := by
        have e : (cut ns (some 2) (some 63)).length ≤ 63 := by
          show ((ns.drop _).take (HT.sIx ns.length ns.length (some ((63 : Nat) : Int)) - _)).length ≤ _
          rw [HT.sIx_nat, List.length_take]
          omega
        omega
      have em : (j : Int) % 2 = ((j % 2 : Nat) : Int) := by omega
      have hlt : j % 2 < cs.length := by omega
      have hat : atI (cs.map PyData.int) ((j : Int) % 2) = some (.int cs[j % 2]) := by
        rw [em]
        exact atI_nat (by rw [List.getElem?_map, List.getElem?_eq_getElem hlt]; rfl)
      have hix : ixN (cs.map PyData.int).length ((j : Int) % 2) = some (j % 2) := by
        rw [List.length_map, hl2, em]
        unfold ixN
        rw [if_pos (by omega), if_pos (by omega)]
        rfl
      refine ⟨_, rfl, rfl, _, _, rfl, _, _, rfl, rfl, ?_⟩
      refine ⟨_, rfl, .inl ⟨_, rfl, _, rfl, j, 2, rfl, rfl, (by show (0 : Int) < _; decide), ?_⟩⟩
      refine ⟨⟨_, rfl⟩, _, rfl, _, _, _, rfl, rfl, hat, _, rfl, _, rfl, c, (j : Int) + 2, rfl, rfl, .inr ⟨by omega, by omega⟩, ?_⟩
      refine ⟨⟨_, rfl⟩, _, rfl, _, _, _, rfl, rfl, hix, ?_⟩
      exact ⟨cs.set (j % 2) (cs[j % 2] + c * ((j : Int) + 2)), _, _, _, by rw [List.map_set]; rfl, by rw [List.length_set]; exact hcl⟩
    · rintro ρ ⟨cs, s3, s4, s5, rfl, hcl⟩
      exact ⟨_, rfl, _, rfl, hk cs (by omega) (by omega)⟩
  refine ⟨_, rfl, _, rfl, 2, rfl, _, _, rfl, rfl, ?_⟩
  rw [cut_map]
  have hcl : (cut ns none (some 2)).length = min 2 ns.length := by
    show ((ns.drop 0).take (HT.sIx ns.length ns.length (some ((2 : Nat) : Int)) - 0)).length = _
    rw [HT.sIx_nat, List.length_take, List.length_drop]
    omega
  cases hc : cut ns none (some 2) with
  | nil =>
    rw [hc] at hcl
    refine iteF ⟨by decide, ?_⟩
    exact key _ [0] (by decide) (by decide) (fun z => by simp at hcl; omega) rfl
  | cons c cs =>
    rw [hc] at hcl
    refine iteT ?_
    exact key _ (c :: cs) (by simp) (by rw [hcl]; omega) (fun z => by rw [hcl]; omega) rfl
/-! ### commute -/
theorem ok_commute (F : Fun K "commute" "commute" s_commute f fd) (D_frozen : Df P w K mg base "frozen" ["value"] 2 (spP K df_frozen)) : FnOk P w K mg base CX0 3 f fd ["word", "other"] (spP K df_commute) := by
  refine ok_P F sc_commute (fun ds k h => ?_) (fun cdv A outer s H E C hr => ?_)
  · obtain ⟨u, v, rfl, _⟩ := h
    rfl
  have hu := hr.units
  refine ⟨_,
    (pds_cons (pds_par (i := 2) (j := 3) rfl sc_commute.nd rfl rfl (by decide) rfl rfl (pda_cons (pd_callD D_frozen (hr.mono (by decide)) rfl (pda_cons (pd_v 0) pda_nil)) (pda_cons (pd_callD D_frozen (hr.mono (by decide)) rfl (pda_cons (pd_v 1) pda_nil)) pda_nil)) (by rfl))
      (pds_cons (pds_ret (pd_eq hu (pd_add (pd_v 2) (pd_v 3)) (pd_add (pd_v 3) (pd_v 2))))
      pds_nil)), ?_⟩
  rintro ds kk ⟨u, v, rfl, h1, h2, hk⟩
  refine ⟨_, rfl, _, rfl, noL_word u, by rw [sz_word]; omega, _, rfl, _, rfl, noL_word v, by rw [sz_word]; omega, ?_⟩
  refine ⟨_, _, rfl, ?_⟩
  refine ⟨_, rfl, _, rfl, by rw [List.length_map, List.length_map]; omega, _, rfl, _, rfl, by rw [List.length_map, List.length_map]; omega, ?_⟩
  rw [word_app, word_app]
  refine ⟨shaped_word _, shaped_word _, ?_⟩
  rw [eqv_word]
  have e : (false != (u ++ v == v ++ u)) = (u ++ v == v ++ u) := by cases (u ++ v == v ++ u) <;> rfl
  rw [e]
  exact hk
end
end K3
set_option Elab.async false
set_option linter.all false
set_option maxRecDepth 100000
set_option maxHeartbeats 4000000
namespace K3
open PySem PySem.Spec PyProof.Rows L2 DL
section
variable {P : Program} {w : World} {K : PySem.W.Frag} {mg : Str → Option Value} {base : Heap} {f : Addr} {fd : FuncData}
theorem eqB {x : Bool} {k : PyData → Prop} (h : k (.bool true)) : pEq false (.bool x) (.bool x) k := by
  refine ⟨by cases x <;> decide +kernel, by cases x <;> decide +kernel, ?_⟩
  have e : (false != PyData.eqv (.bool x) (.bool x)) = true := by cases x <;> decide +kernel
  rw [e]; exact h
theorem neB {x : Bool} {k : PyData → Prop} (h : k (.bool false)) : pEq true (.bool x) (.bool x) k := by
  refine ⟨by cases x <;> decide +kernel, by cases x <;> decide +kernel, ?_⟩
  have e : (true != PyData.eqv (.bool x) (.bool x)) = false := by cases x <;> decide +kernel
  rw [e]; exact h
theorem eqI {i : Int} {k : PyData → Prop} (h : k (.bool true)) : pEq false (.int i) (.int i) k := by
  refine ⟨shaped_int i, shaped_int i, ?_⟩
  have e : (false != PyData.eqv (.int i) (.int i)) = true := by simp [PyData.eqv]
  rw [e]; exact h
theorem eqS {d : PyData} {k : PyData → Prop} (h1 : SeqAt.shaped d = true) (h2 : PyData.eqv d d = true) (h : k (.bool true)) : pEq false d d k := by
  refine ⟨h1, h1, ?_⟩
  rw [h2]; exact h
theorem zip_at {xs : List PyData} {j : Nat} {d : PyData} (h : (zipD xs xs)[j]? = some d) : ∃ x, xs[j]? = some x ∧ d = .tuple [x, x] := by
  unfold zipD at h
  rw [List.getElem?_zipWith] at h
  cases e : xs[j]? with
  | none => rw [e] at h; cases h
  | some x => rw [e] at h; exact ⟨x, rfl, (Option.some.inj h).symm⟩
theorem zip_len (xs : List PyData) : (zipD xs xs).length = xs.length := by
  unfold zipD
  rw [List.length_zipWith, Nat.min_self]
theorem trues : ∀ n : Nat, (List.replicate n (PyData.bool true)) = (List.replicate n true).map .bool := fun n => by rw [List.map_replicate]
theorem all_trues (n : Nat) : (List.replicate n true).all id = true := by simp
theorem ok__law_same1 (n : Nat) (F : Fun K "_law_same" "_law_same" s__law_same f fd) (m_isinstance : mg "isinstance" = none) (m_list : mg "list" = none) (m_tuple : mg "tuple" = none) (m_bool : mg "bool" = none) (m_str : mg "str" = none) (m_int : mg "int" = none) (m_len : mg "len" = none) (m_all : mg "all" = none) (m_zip : mg "zip" = none)
    (D__law_same : Df P w K mg base "_law_same" ["got", "goal"] n (spP K (df_same n))) : FnOk P w K mg base CX0 (n + 1) f fd ["got", "goal"] (spP K (df_same (n + 1))) := by
  refine ok_P F sc__law_same (fun ds k h => ?_) (fun cdv A outer s H E C hr => ?_)
  · obtain ⟨d, rfl, _⟩ := h
    rfl
  have hu := hr.units
  refine ⟨_,
    (pds_cons (pds_if (pdt_tru (pd_isi2 (T := "list") (T' := "tuple") (by decide) (by decide) rfl m_isinstance (pd_v 1) (pe_bltn rfl m_list (by decide +kernel) rfl) (pe_bltn rfl m_tuple (by decide +kernel) rfl))) (pds_cons (pds_if (PDW.pt (pdw_or (pdt_ne hu (pd_isi (T := "list") (by decide) rfl m_isinstance (pd_v 0) (pe_bltn rfl m_list (by decide +kernel) rfl)) (pd_isi (T := "list") (by decide) rfl m_isinstance (pd_v 1) (pe_bltn rfl m_list (by decide +kernel) rfl))) (pdw_or1 (pdt_ne hu (pd_isi (T := "tuple") (by decide) rfl m_isinstance (pd_v 0) (pe_bltn rfl m_tuple (by decide +kernel) rfl)) (pd_isi (T := "tuple") (by decide) rfl m_isinstance (pd_v 1) (pe_bltn rfl m_tuple (by decide +kernel) rfl)))))) (pds_cons (pds_ret pd_bl)
      pds_nil) pds_nil)
      (pds_cons (pds_ret (pd_and (pd_eq hu (pd_len m_len rfl (pda_cons (pd_v 0) pda_nil)) (pd_len m_len rfl (pda_cons (pd_v 1) pda_nil))) (pd_one (pd_all rfl m_all rfl (pda_cons (pd_lc rfl sc__law_same.nd (pdi_Z rfl m_zip (pda_cons (pd_v 0) (pda_cons (pd_v 1) pda_nil))) (blkOk_by (own := [("mine_so", 2), ("own", 3)]) (show blkC ["got", "goal", "mine_so", "own"] (defScope s__law_same) _ _ = true by decide +kernel)) (fun _ _ _ _ _ => (pdg_t (n := 2) rfl (pdgs_cons (pdg_n (pg_name (i := 2) sc__law_same.nd rfl (by first | exact Or.inl rfl | exact Or.inr rfl))) (pdgs_cons (pdg_n (pg_name (i := 3) sc__law_same.nd rfl (by first | exact Or.inl rfl | exact Or.inr rfl))) pdgs_nil)))) (fun _ _ _ _ _ _ => (pd_callD D__law_same (hr.mono (by omega)) rfl (pda_cons (pd_v 2) (pda_cons (pd_v 3) pda_nil))))) pda_nil)))))
      pds_nil)) pds_nil)
      (pds_cons (pds_if (PDW.pt (pdw_or (pdt_isN (pd_v 1)) (pdw_or1 (pdt_tru (pd_isi2 (T := "bool") (T' := "str") (by decide) (by decide) rfl m_isinstance (pd_v 1) (pe_bltn rfl m_bool (by decide +kernel) rfl) (pe_bltn rfl m_str (by decide +kernel) rfl)))))) (pds_cons (pds_ret (pd_and (pd_eq hu (pd_v 0) (pd_v 1)) (pd_and (pd_eq hu (pd_isi (T := "bool") (by decide) rfl m_isinstance (pd_v 0) (pe_bltn rfl m_bool (by decide +kernel) rfl)) (pd_isi (T := "bool") (by decide) rfl m_isinstance (pd_v 1) (pe_bltn rfl m_bool (by decide +kernel) rfl))) (pd_one (pd_eq hu (pd_isN (pd_v 0)) (pd_isN (pd_v 1)))))))
      pds_nil) pds_nil)
      (pds_cons (pds_ret (pd_and (pd_isi (T := "int") (by decide) rfl m_isinstance (pd_v 0) (pe_bltn rfl m_int (by decide +kernel) rfl)) (pd_and (pd_not (pd_isi (T := "bool") (by decide) rfl m_isinstance (pd_v 0) (pe_bltn rfl m_bool (by decide +kernel) rfl))) (pd_one (pd_eq hu (pd_v 0) (pd_v 1))))))
      pds_nil))), ?_⟩
  rintro ds kk ⟨d, rfl, hd, hk⟩
  rcases hd with ⟨b, rfl⟩ | ⟨i, rfl⟩ | ⟨s, rfl, h1, h2⟩ | ⟨xs, rfl, hl, hx⟩ | ⟨xs, rfl, hl, hx⟩
  · refine ⟨_, rfl, false, rfl, iteF ⟨_, rfl, false, rfl, iteF ⟨_, rfl, true, rfl, iteT ?_⟩⟩⟩
    refine ⟨_, rfl, _, rfl, eqB ⟨true, rfl, iteT ⟨_, rfl, _, rfl, eqB ⟨true, rfl, iteT ⟨_, rfl, _, rfl, eqB hk⟩⟩⟩⟩⟩
  · refine ⟨_, rfl, false, rfl, iteF ⟨_, rfl, false, rfl, iteF ⟨_, rfl, false, rfl, iteF ?_⟩⟩⟩
    refine ⟨_, rfl, true, rfl, iteT ⟨_, rfl, false, rfl, true, rfl, iteT ⟨_, rfl, _, rfl, eqI hk⟩⟩⟩
  · refine ⟨_, rfl, false, rfl, iteF ⟨_, rfl, false, rfl, iteF ⟨_, rfl, true, rfl, iteT ?_⟩⟩⟩
    refine ⟨_, rfl, _, rfl, eqS h1 h2 ⟨true, rfl, iteT ⟨_, rfl, _, rfl, eqB ⟨true, rfl, iteT ⟨_, rfl, _, rfl, eqB hk⟩⟩⟩⟩⟩
  · refine ⟨_, rfl, true, rfl, iteT ⟨_, rfl, _, rfl, neB ⟨false, rfl, iteF ⟨_, rfl, _, rfl, neB ⟨false, rfl, iteF ?_⟩⟩⟩⟩⟩
    refine ⟨_, rfl, _, _, rfl, rfl, _, rfl, _, _, rfl, rfl, eqI ⟨true, rfl, iteT ?_⟩⟩
    refine ⟨_, rfl, _, rfl, .inl ⟨xs, xs, rfl, fun i hi => ?_, fun j acc ρ => ρ = [.d (.list xs), .d (.list xs), .un, .un] ∧ acc = List.replicate j (.bool true), ⟨rfl, rfl⟩, ?_, ?_⟩⟩
    · rcases List.mem_cons.mp hi with rfl | hi
      · rfl
      · rw [List.mem_singleton.mp hi]; rfl
    · rintro j e acc ρ hj ⟨rfl, rfl⟩
      obtain ⟨x, hxj, rfl⟩ := zip_at hj
      have hjl : j < xs.length := (List.getElem?_eq_some_iff.mp hxj).1
      refine ⟨fun i hi => ?_, [x, x], rfl, rfl, _, _, rfl, _, _, rfl, rfl, ?_⟩
      · rcases List.mem_cons.mp hi with rfl | hi
        · rfl
        · rw [List.mem_singleton.mp hi]; rfl
      · refine ⟨_, rfl, _, rfl, x, rfl, hx x (List.mem_of_getElem? hxj), by rw [List.length_replicate]; omega, rfl, rfl, ?_⟩
        rw [List.replicate_succ']
    · rintro acc ρ ⟨rfl, rfl⟩
      refine ⟨fun i hi => ?_, List.replicate (zipD xs xs).length true, by rw [trues], ?_⟩
      · rcases List.mem_cons.mp hi with rfl | hi
        · rfl
        · rw [List.mem_singleton.mp hi]; rfl
      · rw [all_trues]
        exact hk
  · refine ⟨_, rfl, true, rfl, iteT ⟨_, rfl, _, rfl, neB ⟨false, rfl, iteF ⟨_, rfl, _, rfl, neB ⟨false, rfl, iteF ?_⟩⟩⟩⟩⟩
    refine ⟨_, rfl, _, _, rfl, rfl, _, rfl, _, _, rfl, rfl, eqI ⟨true, rfl, iteT ?_⟩⟩
    refine ⟨_, rfl, _, rfl, .inr ⟨xs, xs, rfl, fun i hi => ?_, fun j acc ρ => ρ = [.d (.tuple xs), .d (.tuple xs), .un, .un] ∧ acc = List.replicate j (.bool true), ⟨rfl, rfl⟩, ?_, ?_⟩⟩
    · rcases List.mem_cons.mp hi with rfl | hi
      · rfl
      · rw [List.mem_singleton.mp hi]; rfl
    · rintro j e acc ρ hj ⟨rfl, rfl⟩
      obtain ⟨x, hxj, rfl⟩ := zip_at hj
      have hjl : j < xs.length := (List.getElem?_eq_some_iff.mp hxj).1
      refine ⟨fun i hi => ?_, [x, x], rfl, rfl, _, _, rfl, _, _, rfl, rfl, ?_⟩
      · rcases List.mem_cons.mp hi with rfl | hi
        · rfl
        · rw [List.mem_singleton.mp hi]; rfl
      · refine ⟨_, rfl, _, rfl, x, rfl, hx x (List.mem_of_getElem? hxj), by rw [List.length_replicate]; omega, rfl, rfl, ?_⟩
        rw [List.replicate_succ']
    · rintro acc ρ ⟨rfl, rfl⟩
      refine ⟨fun i hi => ?_, List.replicate (zipD xs xs).length true, by rw [trues], ?_⟩
      · rcases List.mem_cons.mp hi with rfl | hi
        · rfl
        · rw [List.mem_singleton.mp hi]; rfl
      · rw [all_trues]
        exact hk
theorem ok__law_same0 (F : Fun K "_law_same" "_law_same" s__law_same f fd) : FnOk P w K mg base CX0 0 f fd ["got", "goal"] (spP K (df_same 0)) :=
  ⟨fun vs H Q E h => (by obtain ⟨N', ds, kk, _, hd, ⟨d, _, z, _⟩, _⟩ := h; exact z.elim), fun A outer s H args us vs Q E _ _ _ _ h => (by obtain ⟨N', ds, kk, _, hd, ⟨d, _, z, _⟩, _⟩ := h; exact z.elim)⟩
theorem ok__law_same (F : Fun K "_law_same" "_law_same" s__law_same f fd) (m_isinstance : mg "isinstance" = none) (m_list : mg "list" = none) (m_tuple : mg "tuple" = none) (m_bool : mg "bool" = none) (m_str : mg "str" = none) (m_int : mg "int" = none) (m_len : mg "len" = none) (m_all : mg "all" = none) (m_zip : mg "zip" = none)
    (hm : mg "_law_same" = some (.ref f)) (hk : PySem.W.keepIn K (.ref f) = true) (hb : Binds K fd ["got", "goal"] []) : ∀ n : Nat, FnOk P w K mg base CX0 n f fd ["got", "goal"] (spP K (df_same n))
  | 0 => ok__law_same0 F
  | n + 1 => ok__law_same1 n F m_isinstance m_list m_tuple m_bool m_str m_int m_len m_all m_zip ⟨f, fd, ok__law_same F m_isinstance m_list m_tuple m_bool m_str m_int m_len m_all m_zip hm hk hb n, hm, hk, hb⟩
end
end K3
set_option Elab.async false
set_option linter.all false
set_option maxRecDepth 100000
set_option maxHeartbeats 4000000
namespace K3
open PySem PySem.Spec PyProof.Rows L2 DL
section
variable {P : Program} {w : World} {K : PySem.W.Frag} {mg : Str → Option Value} {base : Heap} {f : Addr} {fd : FuncData}
/-! ### _first_places -/
theorem putD_len {κ : Type} [DecidableEq κ] (dvs : List (κ × PyData)) (k : κ) (d : PyData) : (putD dvs k d).length ≤ dvs.length + 1 := by
  unfold putD
  split
  · rw [List.length_map]; omega
  · rw [List.length_append]; exact Nat.le_refl _
structure FJ (u v w : List Int) (s0 k : Nat) (dvs : List (Key × PyData)) : Prop where
  key : ∀ ky d, atD dvs ky = some d → ∃ (s p : Nat) (y : List Int), ky = .inl (s : Int) ∧ s0 ≤ s ∧ s < w.length ∧ d = .int (p : Int) ∧ p < 2 ∧ w.drop s = wd u v p ++ y ∧ can u v y
  all : ∀ s, s0 < s → s < w.length → can u v (w.drop s) → (atD dvs (.inl (s : Int))).isSome = true
  now : ∀ p y, p < k → w.drop s0 = wd u v p ++ y → can u v y → (atD dvs (.inl (s0 : Int))).isSome = true
theorem FI.nil (u v w : List Int) : FI u v w w.length [] := ⟨(fun k d h => by cases h), (fun s h1 h2 _ => by omega)⟩
theorem FI.start {u v w : List Int} {s0 : Nat} {dvs : List (Key × PyData)} (h : FI u v w (s0 + 1) dvs) : FJ u v w s0 0 dvs :=
  ⟨fun k d e => (by obtain ⟨s, p, y, h1, h2, h3⟩ := h.key k d e; exact ⟨s, p, y, h1, by omega, h3⟩), fun s h1 h2 h3 => h.all s h1 h2 h3, fun p y z => absurd z (Nat.not_lt_zero _)⟩
theorem FJ.fin {u v w : List Int} {s0 : Nat} {dvs : List (Key × PyData)} (h : FJ u v w s0 2 dvs) (hs : s0 < w.length) : FI u v w s0 dvs :=
  ⟨h.key, fun s h1 h2 h3 => by
    by_cases c : s = s0
    · subst c
      have hne : w.drop s ≠ [] := fun z => by
        have := congrArg List.length z
        rw [List.length_drop] at this
        simp at this
        omega
      obtain ⟨p, y, hp, e, hy⟩ := can_inv hne h3
      exact h.now p y hp e hy
    · exact h.all s (by omega) h2 h3⟩
theorem inl_ne {a b : Nat} (h : a ≠ b) : ¬ (Sum.inl (a : Int) : Key) = Sum.inl (b : Int) := fun z => h (by have := Sum.inl.inj z; omega)
theorem FJ.put {u v w : List Int} {s0 k : Nat} {dvs : List (Key × PyData)} {y : List Int} (h : FJ u v w s0 k dvs) (hs : s0 < w.length) (hk : k < 2) (e : w.drop s0 = wd u v k ++ y) (hy : can u v y) : FJ u v w s0 (k + 1) (putD dvs (.inl (s0 : Int)) (.int (k : Int))) := by
  refine ⟨fun ky d q => ?_, fun s h1 h2 h3 => ?_, fun p y' _ _ _ => ?_⟩
  · rw [atD_put] at q
    by_cases c : ky = .inl (s0 : Int)
    · rw [if_pos c] at q
      exact ⟨s0, k, y, c, Nat.le_refl _, hs, (Option.some.inj q).symm, hk, e, hy⟩
    · rw [if_neg c] at q
      exact h.key ky d q
  · rw [atD_put, if_neg (inl_ne (by omega))]
    exact h.all s h1 h2 h3
  · rw [atD_put, if_pos rfl]
    rfl
theorem FJ.skip {u v w : List Int} {s0 k : Nat} {dvs : List (Key × PyData)} (h : FJ u v w s0 k dvs) (no : ∀ y, w.drop s0 = wd u v k ++ y → ¬ can u v y) : FJ u v w s0 (k + 1) dvs :=
  ⟨h.key, h.all, fun p y hp e hy => by
    by_cases c : p = k
    · subst c; exact absurd hy (no y e)
    · exact h.now p y (by omega) e hy⟩
theorem enum2 {u v : List Int} {j : Nat} {d : PyData} (h : (enumD [wordD u, wordD v])[j]? = some d) : j < 2 ∧ d = .tuple [.int (j : Int), wordD (wd u v j)] := by
  match j, h with
  | 0, h => exact ⟨by decide, (Option.some.inj h).symm⟩
  | 1, h => exact ⟨by decide, (Option.some.inj h).symm⟩
  | j + 2, h => cases h
theorem cut_part (w : List Int) (s l : Nat) : cut w (some (s : Int)) (some ((s : Int) + (l : Int))) = (w.drop s).take l := by
  have e : (s : Int) + (l : Int) = ((s + l : Nat) : Int) := by omega
  rw [e]
  unfold cut
  rw [HT.sIx_nat, HT.sIx_nat]
  by_cases c : s ≤ w.length
  · rw [Nat.min_eq_left c]
    by_cases c2 : s + l ≤ w.length
    · rw [Nat.min_eq_left c2, Nat.add_sub_cancel_left]
    · rw [Nat.min_eq_right (by omega)]
      rw [List.take_of_length_le (by rw [List.length_drop]; exact Nat.le_refl _), List.take_of_length_le (by rw [List.length_drop]; omega)]
  · rw [Nat.min_eq_right (show w.length ≤ s by omega), List.drop_of_length_le (Nat.le_refl w.length), List.drop_of_length_le (show w.length ≤ s by omega)]
    simp
theorem take_pre {x p : List Int} (h : x.take p.length = p) : x = p ++ x.drop p.length := by
  have e := List.take_append_drop p.length x
  rw [h] at e
  exact e.symm
theorem ok__first_places (F : Fun K "_first_places" "_first_places" s__first_places f fd) (m_len : mg "len" = none) (m_reversed : mg "reversed" = none) (m_range : mg "range" = none) (m_enumerate : mg "enumerate" = none) : FnOk P w K mg base CX0 1 f fd ["pair", "whole"] (spP K df_first) := by
  refine ok_P F sc__first_places (fun ds k h => ?_) (fun cdv A outer s H E C hr => ?_)
  · obtain ⟨u, v, w, rfl, _⟩ := h
    rfl
  have hu := hr.units
  refine ⟨_,
    (pds_cons (pds_newK (pg_name (i := 2) sc__first_places.nd rfl (by first | exact Or.inl rfl | exact Or.inr rfl)))
      (pds_cons (pds_for PassesOwn.never rfl (pdi_rev rfl m_reversed rfl m_range (pd_len m_len rfl (pda_cons (pd_v 1) pda_nil))) (pdg_n (pg_name (i := 3) sc__first_places.nd rfl (by first | exact Or.inl rfl | exact Or.inr rfl))) (pds_cons (pds_for PassesOwn.never rfl (pdi_ET rfl m_enumerate (pda_cons (pd_v 0) pda_nil)) (pdg_t (n := 2) rfl (pdgs_cons (pdg_n (pg_name (i := 4) sc__first_places.nd rfl (by first | exact Or.inl rfl | exact Or.inr rfl))) (pdgs_cons (pdg_n (pg_name (i := 5) sc__first_places.nd rfl (by first | exact Or.inl rfl | exact Or.inr rfl))) pdgs_nil))) (pds_cons (pds_set (pd_add (pd_v 3) (pd_len m_len rfl (pda_cons (pd_v 5) pda_nil))) (pg_name (i := 6) sc__first_places.nd rfl (by first | exact Or.inl rfl | exact Or.inr rfl)))
      (pds_cons (pds_if (PDW.pt (pdw_and (pdt_eq hu (pd_sl (pd_v 1) (pdo_some (pd_v 3)) (pdo_some (pd_v 6))) (pd_v 5)) (pdw_and1 (PDW.pt (pdw_or (pdt_eq hu (pd_v 6) (pd_len m_len rfl (pda_cons (pd_v 1) pda_nil))) (pdw_or1 (pdt_dinO hu (pd_v 6) (pv 2)))))))) (pds_cons (pds_dput hu (pd_v 4) (pv 2) (pd_v 3))
      pds_nil) pds_nil)
      pds_nil)))
      pds_nil))
      (pds_freezeO 2 (pds_cons (pds_ret (pd_v 2))
      pds_nil)))), ?_⟩
  rintro ds kk ⟨u, v, w, rfl, hu1, hv1, hw1, hk⟩
  refine ⟨_, rfl, _, _, rfl, rfl, w.length, by rw [List.length_map], by omega, ?_⟩
  refine ⟨fun j ρ => ∃ (dvs : List (Key × PyData)) (s3 s4 s5 s6 : Slot), ρ = [.d (.tuple [wordD u, wordD v]), .d (wordD w), .obj (.dk dvs), s3, s4, s5, s6] ∧ FI u v w (w.length - j) dvs ∧ dvs.length ≤ 2 * j, ⟨[], _, _, _, _, rfl, FI.nil u v w, Nat.le_refl _⟩, ?_, ?_⟩
  · rintro j d ρ hj ⟨dvs, s3, s4, s5, s6, rfl, hI, hl⟩
    have hjn : j < w.length := by
      have := (List.getElem?_eq_some_iff.mp hj).1
      simpa [rangeC] using this
    have hd : d = .int ((w.length - 1 - j : Nat) : Int) := by
      simp [rangeC, hjn] at hj
      rw [← hj]
      congr 1
      omega
    subst hd
    generalize hs0 : w.length - 1 - j = s0
    have hs1 : s0 < w.length := by omega
    have hI0 : FJ u v w s0 0 dvs := FI.start (by rw [show s0 + 1 = w.length - j by omega]; exact hI)
    refine ⟨_, rfl, _, rfl, fun k ρ => ∃ (dvs : List (Key × PyData)) (s4 s5 s6 : Slot), ρ = [.d (.tuple [wordD u, wordD v]), .d (wordD w), .obj (.dk dvs), .d (.int (s0 : Int)), s4, s5, s6] ∧ FJ u v w s0 k dvs ∧ dvs.length ≤ 2 * j + k, ⟨dvs, _, _, _, rfl, hI0, hl⟩, ?_, ?_⟩
    · rintro p d ρ hp ⟨dvs, s4, s5, s6, rfl, hJ, hl⟩
      obtain ⟨hp2, rfl⟩ := enum2 hp
      have hpos := wd_pos hu1 hv1 hp2
      refine ⟨_, rfl, rfl, _, _, rfl, _, _, rfl, rfl, ?_⟩
      refine ⟨_, rfl, _, rfl, _, _, rfl, rfl, ?_⟩
      have hcut : PyData.tuple (cut (w.map .int) (some (s0 : Int)) (some ((s0 : Int) + (((wd u v p).map PyData.int).length : Nat)))) = wordD ((w.drop s0).take (wd u v p).length) := by
        rw [cut_map, List.length_map, cut_part]
        rfl
      refine ⟨_, rfl, _, rfl, _, rfl, _, rfl, _, rfl, _, rfl, ?_⟩
      show pEq false (PyData.tuple (cut (w.map .int) (some (s0 : Int)) (some ((s0 : Int) + (((wd u v p).map PyData.int).length : Nat))))) _ _
      rw [hcut]
      refine ⟨shaped_word _, shaped_word _, _, rfl, ?_⟩
      rw [eqv_word]
      by_cases hpre : (w.drop s0).take (wd u v p).length = wd u v p
      · have hb : (false != ((w.drop s0).take (wd u v p).length == wd u v p)) = true := by rw [hpre]; simp
        rw [hb]
        have hw : w.drop s0 = wd u v p ++ w.drop (s0 + (wd u v p).length) := by
          rw [← List.drop_drop]
          exact take_pre hpre
        have hle : s0 + (wd u v p).length ≤ w.length := by
          have := congrArg List.length hw
          rw [List.length_append, List.length_drop] at this
          omega
        refine iteT ⟨_, rfl, _, rfl, _, _, rfl, rfl, shaped_int _, shaped_int _, _, rfl, ?_⟩
        rw [eqv_int, List.length_map, List.length_map]
        by_cases hend : s0 + (wd u v p).length = w.length
        · have hb2 : (false != ((s0 : Int) + ((wd u v p).length : Nat) == (w.length : Nat))) = true := by
            have : (s0 : Int) + ((wd u v p).length : Nat) = (w.length : Nat) := by omega
            rw [this]; simp
          rw [hb2]
          refine iteT (iteT ⟨_, rfl, ⟨_, rfl⟩, _, rfl, dvs, .inl (s0 : Int), rfl, rfl, by omega, ?_⟩)
          refine ⟨_, _, _, _, rfl, hJ.put hs1 hp2 hw ?_, ?_⟩
          · rw [hend, List.drop_length]; exact can_nil u v
          · have := putD_len dvs (.inl (s0 : Int)) (.int (p : Int))
            omega
        · have hb2 : (false != ((s0 : Int) + ((wd u v p).length : Nat) == (w.length : Nat))) = false := by
            have : ¬ (s0 : Int) + ((wd u v p).length : Nat) = (w.length : Nat) := by omega
            simp [this]
          rw [hb2]
          refine iteF ⟨_, rfl, dvs, .inl ((s0 : Int) + ((wd u v p).length : Nat)), rfl, rfl, ?_⟩
          have es : (s0 : Int) + ((wd u v p).length : Nat) = ((s0 + (wd u v p).length : Nat) : Int) := by omega
          rw [es]
          cases hin : (atD dvs (.inl ((s0 + (wd u v p).length : Nat) : Int))).isSome with
          | true =>
            refine iteT ⟨_, rfl, ⟨_, rfl⟩, _, rfl, dvs, .inl (s0 : Int), rfl, rfl, by omega, ?_⟩
            refine ⟨_, _, _, _, rfl, hJ.put hs1 hp2 hw ?_, ?_⟩
            · obtain ⟨e, he⟩ := Option.isSome_iff_exists.mp hin
              obtain ⟨s', p', y', q1, q2, q3, q4, q5, q6, q7⟩ := hJ.key _ _ he
              have : s0 + (wd u v p).length = s' := by have := Sum.inl.inj q1; omega
              rw [this, q6]
              exact can_cons q5 q7
            · have := putD_len dvs (.inl (s0 : Int)) (.int (p : Int))
              omega
          | false =>
            refine iteF ⟨dvs, _, _, _, rfl, hJ.skip fun y e hy => ?_, by omega⟩
            have ey : y = w.drop (s0 + (wd u v p).length) := List.append_cancel_left (e.symm.trans hw)
            subst ey
            have := hJ.all (s0 + (wd u v p).length) (by omega) (by omega) hy
            rw [hin] at this
            cases this
      · have hb : (false != ((w.drop s0).take (wd u v p).length == wd u v p)) = false := by simp [hpre]
        rw [hb]
        refine iteF (iteF ⟨dvs, _, _, _, rfl, hJ.skip fun y e _ => hpre ?_, by omega⟩)
        rw [e, List.take_left]
    · rintro ρ ⟨dvs, s4, s5, s6, rfl, hJ, hl⟩
      exact ⟨dvs, _, _, _, _, rfl, by rw [show w.length - (j + 1) = s0 by omega]; exact hJ.fin hs1, by simp [enumD] at hl; omega⟩
  · rintro ρ ⟨dvs, s3, s4, s5, s6, rfl, hI, hl⟩
    have e0 : w.length - (rangeC ((w.length : Int) - 1) (-1) w.length).length = 0 := by simp [rangeC]
    rw [e0] at hI
    exact ⟨_, rfl, trivial, _, rfl, hk dvs hI⟩
end
end K3
set_option Elab.async false
set_option linter.all false
set_option maxRecDepth 100000
set_option maxHeartbeats 4000000
namespace K3
open PySem PySem.Spec PyProof.Rows L2 DL
section
variable {P : Program} {w : World} {K : PySem.W.Frag} {mg : Str → Option Value} {base : Heap} {f : Addr} {fd : FuncData}
/-! ### row_told -/
theorem ok_row_told {CU CN : Addr} (F : Fun K "row_told" "row_told" s_row_told f fd) (m_len : mg "len" = none) (m_tuple : mg "tuple" = none)
    (x_Unfit : PySem.W.excIn K CU veB "ValueError.__new__" = true) (g_Unfit : mg "Unfit" = some (.ref CU)) (k_Unfit : PySem.W.keepIn K (.ref CU) = true) (b_Unfit : PySem.W.subIn K (.ref CU) (.type "BaseException") = some true) (t_Unfit : PySem.W.typeIn K (.ref CU) = some (.type "type"))
    (x_CanNot : PySem.W.excIn K CN veB "ValueError.__new__" = true) (g_CanNot : mg "CanNot" = some (.ref CN)) (k_CanNot : PySem.W.keepIn K (.ref CN) = true) (b_CanNot : PySem.W.subIn K (.ref CN) (.type "BaseException") = some true) (t_CanNot : PySem.W.typeIn K (.ref CN) = some (.type "type"))
    (D_frozen : Df P w K mg base "frozen" ["value"] 2 (spP K df_frozen)) (D_commute : Df P w K mg base "commute" ["word", "other"] 3 (spP K df_commute)) (D__first_places : Df P w K mg base "_first_places" ["pair", "whole"] 1 (spP K df_first)) : FnOk P w K mg base (L2.CX P w) 4 f fd ["words", "word"] (spR K (rf_told CU CN)) := by
  refine ok_R F sc_row_told (fun ds k ke h => ?_) (fun cdv A outer s H E C ke hr hE => ?_)
  · obtain ⟨u, v, w, rfl, _⟩ := h
    rfl
  have hu := hr.units
  refine ⟨_,
    (pds_cons (pds_par (i := 2) (j := 3) rfl sc_row_told.nd rfl rfl (by decide) rfl rfl (pda_cons (pd_callD D_frozen (hr.mono (by decide)) rfl (pda_cons (pd_v 0) pda_nil)) (pda_cons (pd_callD D_frozen (hr.mono (by decide)) rfl (pda_cons (pd_v 1) pda_nil)) pda_nil)) (by rfl))
      (pds_cons (pds_if (pdt_tru (pd_callD D_commute (hr.mono (by decide)) rfl (pda_cons (pd_ix (pd_v 2) pd_int) (pda_cons (pd_ix (pd_v 2) pd_int) pda_nil)))) (pds_cons (pds_raise rfl (takes_of rfl rfl rfl rfl) (pmk_own0 PySem.F.excBase_ValueError x_Unfit g_Unfit k_Unfit (raises_own b_Unfit t_Unfit) (by exact rfl)) hE)
      pds_nil) pds_nil)
      (pds_cons (pds_set (pd_callD D__first_places (hr.mono (by decide)) rfl (pda_cons (pd_v 2) (pda_cons (pd_v 3) pda_nil))) (pg_name (i := 4) sc_row_told.nd rfl (by first | exact Or.inl rfl | exact Or.inr rfl)))
      (pds_cons (pds_if (PDW.pt (pdw_and (pdt_tru (pd_v 3)) (pdw_and1 (pdt_dnotin hu pd_int (pd_v 4))))) (pds_cons (pds_raise rfl (takes_of rfl rfl rfl rfl) (pmk_own0 PySem.F.excBase_ValueError x_CanNot g_CanNot k_CanNot (raises_own b_CanNot t_CanNot) (by exact rfl)) hE)
      pds_nil) pds_nil)
      (pds_nox (pds_cons (pds_parOD (i := 5) (j := 6) rfl sc_row_told.nd rfl rfl (by decide) rfl rfl pda_nil (fun _ => pd_int) (by rfl))
      (pds_cons (pds_while PassesOwn.never (pdt_lt (pd_v 6) (pd_len m_len rfl (pda_cons (pd_v 3) pda_nil))) (pds_cons (pds_app (pv 5) (pd_dget hu (pd_v 4) (pd_v 6)))
      (pds_cons (pds_aug (i := 6) sc_row_told.nd rfl (by first | exact Or.inl rfl | exact Or.inr rfl) (pd_len m_len rfl (pda_cons (pd_ix (pd_v 2) (pd_dget hu (pd_v 4) (pd_v 6))) pda_nil)) ip_add)
      pds_nil)))
      (pds_freeze 5 (pds_cons (pds_ret (pd_tupleOf m_tuple rfl (pda_cons (pd_v 5) pda_nil)))
      pds_nil))))))))), ?_⟩
  rintro ds kk ⟨u, v, w, rfl, hu1, hv1, hw1, hU, hA⟩
  have z1 : noL (.tuple [wordD u, wordD v]) = true := by simp only [noL]; exact noLs_words [u, v]
  have z2 : sz (.tuple [wordD u, wordD v]) ≤ 90000 := by
    simp only [sz, szs, sz_word]
    omega
  refine ⟨_, rfl, _, rfl, z1, z2, _, rfl, _, rfl, noL_word w, by rw [sz_word]; omega, _, _, rfl, ?_⟩
  refine ⟨_, rfl, _, 0, _, rfl, rfl, rfl, _, rfl, _, 1, _, rfl, rfl, rfl, u, v, rfl, hu1, hv1, _, rfl, ?_⟩
  by_cases hc : u ++ v = v ++ u
  · have e : (u ++ v == v ++ u) = true := by rw [hc]; simp
    rw [e]
    exact iteT (hU hc)
  have e : (u ++ v == v ++ u) = false := by simp [hc]
  rw [e]
  obtain ⟨hrow, hno⟩ := hA hc
  have une : u ≠ [] := fun z => hc (by rw [z]; simp)
  have vne : v ≠ [] := fun z => hc (by rw [z]; simp)
  refine iteF ⟨_, rfl, _, rfl, u, v, w, rfl, une, vne, hw1, fun dvs hF => ?_⟩
  have rest : ∀ ρ : DL.Env, ρ = [.d (.tuple [wordD u, wordD v]), .d (wordD w), .d (.tuple [wordD u, wordD v]), .d (wordD w), .d (dkD dvs), .un, .un] → can u v w →
          (wsSeq (wsOD 5 6 wNil (wC (PyData.int 0)))
            (wsSeq
              (wsWhile
                (wTest
                  (wOp (pI (fun x x_1 => True) fun i j => PyData.bool (decide (i < j))) (wVar 6)
                    (wCall fLen (wCons (wVar 3) wNil))))
                (wsSeq (wsApp 5 (wDGet (wVar 4) (wVar 6)))
                  (wsSeq
                    (wsAug 6 (fun i j => i + j) (wCall fLen (wCons (wOp pIx (wVar 2) (wDGet (wVar 4) (wVar 6))) wNil)))
                    wsNil)))
              (wsFreeze 5 (wsSeq (wsRet (wCall fTuple (wCons (wVar 5) wNil))) wsNil)))) { nx := fun x => kk PyData.none, rt := fun d x => kk d } ρ := by
    rintro ρ rfl hcan
    refine ⟨(by decide : 0 ≤ 1000), ?_⟩
    refine ⟨fun ρ => ∃ (r : List Nat) (s : Nat), ρ = [.d (.tuple [wordD u, wordD v]), .d (wordD w), .d (.tuple [wordD u, wordD v]), .d (wordD w), .d (dkD dvs), .own (r.map fun j : Nat => PyData.int (j : Int)), .d (.int (s : Int))] ∧ isRow r ∧ rowOf [u, v] r ++ w.drop s = w ∧ s ≤ w.length ∧ can u v (w.drop s) ∧ r.length ≤ s,
      leftOf w.length, ⟨[], 0, rfl, fun j h => (List.not_mem_nil h).elim, rfl, Nat.zero_le _, hcan, Nat.le_refl _⟩, ?_⟩
    rintro ρ ⟨r, s, rfl, h1, h2, h3, h4, h5⟩
    refine ⟨_, rfl, _, rfl, _, _, rfl, rfl, _, _, rfl, rfl, trivial, _, rfl, ?_⟩
    rw [List.length_map]
    by_cases hs : s < w.length
    · have e : decide ((s : Int) < (w.length : Nat)) = true := decide_eq_true (by omega)
      rw [e]
      obtain ⟨d, hd⟩ := Option.isSome_iff_exists.mp (hF.all s (Nat.zero_le _) hs h4)
      obtain ⟨s', p, y, q1, _, _, rfl, hp2, q6, q7⟩ := hF.key _ _ hd
      have es : s = s' := by have := Sum.inl.inj q1; omega
      subst es
      have hpos := wd_pos une vne hp2
      have hl : s + (wd u v p).length ≤ w.length := by
        have := congrArg List.length q6
        rw [List.length_append, List.length_drop] at this
        omega
      have hy : y = w.drop (s + (wd u v p).length) := by
        rw [← List.drop_drop, q6, List.drop_left]
      refine iteT ⟨⟨_, rfl⟩, _, rfl, _, rfl, dvs, .inl (s : Int), _, rfl, rfl, hd, _, rfl, by rw [List.length_map]; omega, ?_⟩
      refine ⟨⟨_, rfl⟩, _, rfl, _, rfl, _, rfl, dvs, .inl (s : Int), _, rfl, rfl, hd, _, _, _, rfl, rfl, at2 hp2, _, _, rfl, rfl, _, _, rfl, rfl, ?_⟩
      rw [List.length_map]
      refine ⟨⟨r ++ [p], s + (wd u v p).length, ?_, ?_, ?_, hl, ?_, ?_⟩, ?_⟩
      · have e1 : (s : Int) + ((wd u v p).length : Nat) = ((s + (wd u v p).length : Nat) : Int) := by omega
        rw [← e1, List.map_append]
        rfl
      · intro j hj
        rcases List.mem_append.mp hj with hj | hj
        · exact h1 j hj
        · rw [List.mem_singleton.mp hj]; exact hp2
      · rw [rowOf_app, List.append_assoc]
        show rowOf [u, v] r ++ ((wd u v p ++ []) ++ w.drop (s + (wd u v p).length)) = w
        rw [List.append_nil, ← hy, ← q6]
        exact h2
      · rw [← hy]; exact q7
      · rw [List.length_append]
        show r.length + 1 ≤ _
        omega
      · show w.length - ((s : Int) + ((wd u v p).length : Nat)).toNat < w.length - (s : Int).toNat
        omega
    · have e : decide ((s : Int) < (w.length : Nat)) = false := decide_eq_false (by omega)
      rw [e]
      have hrw : rowOf [u, v] r = w := by
        rw [List.drop_of_length_le (by omega), List.append_nil] at h2
        exact h2
      exact iteF ⟨_, rfl, _, rfl, _, _, rfl, rfl, hrow r h1 hrw⟩
  by_cases hw : w = []
  · refine ⟨_, rfl, false, by rw [hw]; rfl, iteF (iteF (pds_id (rest _ rfl (by rw [hw]; exact can_nil u v))))⟩
  · refine ⟨_, rfl, true, by cases w with | nil => exact absurd rfl hw | cons x w => rfl, iteT ⟨_, rfl, dvs, .inl ((0 : Nat) : Int), rfl, rfl, ?_⟩⟩
    have hpos : 0 < w.length := List.length_pos_iff.mpr hw
    cases hin : (atD dvs (.inl ((0 : Nat) : Int))).isSome with
    | false =>
      refine iteT (hno fun z => ?_)
      have := hF.all 0 (Nat.le_refl _) hpos z
      rw [hin] at this
      cases this
    | true =>
      obtain ⟨d, hd⟩ := Option.isSome_iff_exists.mp hin
      obtain ⟨s', p, y, q1, _, _, rfl, hp2, q6, q7⟩ := hF.key _ _ hd
      have es : 0 = s' := by have := Sum.inl.inj q1; omega
      subst es
      exact iteF (pds_id (rest _ rfl (by rw [show w = w.drop 0 from rfl, q6]; exact can_cons hp2 q7)))
end
end K3
set_option Elab.async false
set_option linter.all false
set_option maxRecDepth 100000
set_option maxHeartbeats 4000000
namespace K3
open PySem PySem.Spec PyProof.Rows L2 DL
section
variable {P : Program} {w : World} {K : PySem.W.Frag} {mg : Str → Option Value} {base : Heap} {f : Addr} {fd : FuncData}
/-! ### row_told -/
theorem ok__law_heard {CU CN : Addr} (F : Fun K "_law_heard" "_law_heard" s__law_heard f fd) (g_Unfit : mg "Unfit" = some (.ref CU)) (g_CanNot : mg "CanNot" = some (.ref CN))
    (eNN : PySem.W.exmOne K (.ref CN) (.ref CN) = some true) (eUN : PySem.W.exmOne K (.ref CU) (.ref CN) = some false) (eUU : PySem.W.exmOne K (.ref CU) (.ref CU) = some true)
    (D_row_told : DfR P w K mg base "row_told" ["words", "word"] 4 (rf_told CU CN)) : FnOk P w K mg base CX0 5 f fd ["pair", "word"] (spP K df_heard) := by
  refine ok_P F sc__law_heard (fun ds k h => ?_) (fun cdv A outer s H E C hr => ⟨_,
    (pds_cons (pds_tryRet D_row_told (hr.mono (by decide)) rfl rfl rfl (fun _ _ => (pda_cons (pd_v 0) (pda_cons (pd_v 1) pda_nil))) (.cons ⟨rfl, by decide, .inl g_CanNot⟩ (fun _ _ _ => (pds_cons (pds_ret (pd_lst (pda_cons pd_str pda_nil)))
      pds_nil)) (.cons ⟨rfl, by decide, .inl g_Unfit⟩ (fun _ _ _ => (pds_cons (pds_ret (pd_lst (pda_cons pd_str pda_nil)))
      pds_nil)) .nil)))
      pds_nil), ?_⟩)
  · obtain ⟨u, v, w, rfl, _⟩ := h
    rfl
  rintro ds kk ⟨u, v, w, rfl, hu1, hv1, hw1, hU, hA⟩
  refine ⟨_, rfl, _, rfl, u, v, w, rfl, hu1, hv1, hw1, fun hc => ?_, fun hc => ⟨fun r h1 h2 => (hA hc).1 r h1 h2, fun hn => ?_⟩⟩
  · exact ⟨false, eUN, fun z => (by cases z), fun _ => ⟨true, eUU, fun _ => ⟨(by decide : 1 ≤ 1000), hU hc⟩, fun z => (by cases z)⟩⟩
  · exact ⟨true, eNN, fun _ => ⟨(by decide : 1 ≤ 1000), (hA hc).2 hn⟩, fun z => (by cases z)⟩
/-! ### _law_ways -/
theorem cut_suf (w : List Int) {l : Nat} (h : l ≤ w.length) : cut w (some ((w.length : Nat) - (l : Nat) : Int)) none = w.drop (w.length - l) := by
  have e : ((w.length : Nat) - (l : Nat) : Int) = ((w.length - l : Nat) : Int) := by omega
  rw [e]
  unfold cut
  rw [HT.sIx_nat, HT.sIx_none, Nat.min_eq_left (by omega), List.take_of_length_le (by rw [List.length_drop]; exact Nat.le_refl _)]
theorem cut_pre (w : List Int) {l : Nat} (h : l ≤ w.length) : cut w none (some ((w.length : Nat) - (l : Nat) : Int)) = w.take (w.length - l) := by
  have e : ((w.length : Nat) - (l : Nat) : Int) = ((w.length - l : Nat) : Int) := by omega
  rw [e]
  unfold cut
  rw [HT.sIx_nat, HT.sIx_none, Nat.min_eq_left (by omega), List.drop_zero, Nat.sub_zero]
def wq (u v w : List Int) (j : Nat) (rs : List (List Nat)) : Prop := (rs = [] ∧ ∀ p, p < j → ∀ x, w = x ++ wd u v p → ¬ can u v x) ∨ ∃ r p, rs = [r ++ [p]] ∧ isRow (r ++ [p]) ∧ rowOf [u, v] (r ++ [p]) = w ∧ p < j
theorem wq_skip {u v w : List Int} {j : Nat} {rs : List (List Nat)} (h : wq u v w j rs) (no : ∀ x, w = x ++ wd u v j → ¬ can u v x) : wq u v w (j + 1) rs := by
  rcases h with ⟨rfl, h⟩ | ⟨r, p, h1, h2, h3, h4⟩
  · refine .inl ⟨rfl, fun p hp x e => ?_⟩
    by_cases c : p = j
    · subst c; exact no x e
    · exact h p (by omega) x e
  · exact .inr ⟨r, p, h1, h2, h3, by omega⟩
theorem wq_add {u v w x : List Int} {j : Nat} {rs0 rs : List (List Nat)} (hc : u ++ v ≠ v ++ u) (hj : j < 2) (h : wq u v w j rs0) (e : w = x ++ wd u v j) (hr : (rs = [] ∧ ¬ can u v x) ∨ ∃ r, rs = [r] ∧ isRow r ∧ rowOf [u, v] r = x) :
    wq u v w (j + 1) (rs0 ++ rs.map fun r => r ++ [j]) := by
  rcases hr with ⟨rfl, hn⟩ | ⟨r, rfl, h1, h2⟩
  · rw [List.map_nil, List.append_nil]
    refine wq_skip h fun y ey => ?_
    have : y = x := List.append_cancel_right (ey.symm.trans e)
    rw [this]; exact hn
  · have hw : rowOf [u, v] (r ++ [j]) = w := by rw [row_snoc, h2, e]
    rcases h with ⟨rfl, h⟩ | ⟨r0, p, e1, e2, e3, e4⟩
    · exact .inr ⟨r, j, rfl, isRow_snoc h1 hj, hw, Nat.lt_succ_self _⟩
    · exfalso
      have q := code hc e2 (isRow_snoc h1 hj) (e3.trans hw.symm)
      have := (List.append_inj' q rfl).2
      simp at this
      omega
theorem wq_fin {u v w : List Int} {rs : List (List Nat)} (hw : w ≠ []) (h : wq u v w 2 rs) : (rs = [] ∧ ¬ can u v w) ∨ ∃ r, rs = [r] ∧ isRow r ∧ rowOf [u, v] r = w := by
  rcases h with ⟨rfl, h⟩ | ⟨r, p, h1, h2, h3, _⟩
  · refine .inl ⟨rfl, fun ⟨r, h1, h2⟩ => ?_⟩
    rcases List.eq_nil_or_concat r with rfl | ⟨r', p, rfl⟩
    · exact hw h2.symm
    · rw [List.concat_eq_append] at h1 h2
      rw [row_snoc] at h2
      exact h p (h1 p (by simp)) (rowOf [u, v] r') h2.symm ⟨r', fun j hj => h1 j (List.mem_append_left _ hj), rfl⟩
  · exact .inr ⟨_, h1, h2, h3⟩
theorem ok__law_ways1 (n : Nat) (F : Fun K "_law_ways" "_law_ways" s__law_ways f fd) (m_len : mg "len" = none)
    (D__law_ways : Df P w K mg base "_law_ways" ["pair", "word"] n (spP K (df_ways n))) : FnOk P w K mg base CX0 (n + 1) f fd ["pair", "word"] (spP K (df_ways (n + 1))) := by
  refine ok_P F sc__law_ways (fun ds k h => ?_) (fun cdv A outer s H E C hr => ?_)
  · obtain ⟨u, v, w, rfl, _⟩ := h
    rfl
  have hu := hr.units
  refine ⟨_,
    (pds_cons (pds_if (pdt_eq hu (pd_v 1) (pd_tup pda_nil)) (pds_cons (pds_ret (pd_lst (pda_cons (pd_tup pda_nil) pda_nil)))
      pds_nil) pds_nil)
      (pds_cons (pds_set (pd_lst pda_nil) (pg_name (i := 2) sc__law_ways.nd rfl (by first | exact Or.inl rfl | exact Or.inr rfl)))
      (pds_cons (pds_for PassesOwn.never rfl (pdi_T (pd_tup (pda_cons pd_int (pda_cons pd_int pda_nil)))) (pdg_n (pg_name (i := 3) sc__law_ways.nd rfl (by first | exact Or.inl rfl | exact Or.inr rfl))) (pds_cons (pds_if (PDW.pt (pdw_and (pdt_gt (pd_len m_len rfl (pda_cons (pd_ix (pd_v 0) (pd_v 3)) pda_nil)) pd_int) (pdw_and1 (pdt_eq hu (pd_sl (pd_v 1) (pdo_some (pd_sub (pd_len m_len rfl (pda_cons (pd_v 1) pda_nil)) (pd_len m_len rfl (pda_cons (pd_ix (pd_v 0) (pd_v 3)) pda_nil)))) pdo_none) (pd_ix (pd_v 0) (pd_v 3)))))) (pds_cons (pds_set (pd_add (pd_v 2) (pd_lc rfl sc__law_ways.nd (pdi_L (pd_callD D__law_ways (hr.mono (by omega)) rfl (pda_cons (pd_v 0) (pda_cons (pd_sl (pd_v 1) pdo_none (pdo_some (pd_sub (pd_len m_len rfl (pda_cons (pd_v 1) pda_nil)) (pd_len m_len rfl (pda_cons (pd_ix (pd_v 0) (pd_v 3)) pda_nil))))) pda_nil)))) (blkOk_by (own := [("own", 4)]) (show blkC ["pair", "word", "found", "k", "own"] (defScope s__law_ways) _ _ = true by decide +kernel)) (fun _ _ _ _ _ => (pdg_n (pg_name (i := 4) sc__law_ways.nd rfl (by first | exact Or.inl rfl | exact Or.inr rfl)))) (fun _ _ _ _ _ _ => (pd_add (pd_v 4) (pd_tup (pda_cons (pd_v 3) pda_nil)))))) (pg_name (i := 2) sc__law_ways.nd rfl (by first | exact Or.inl rfl | exact Or.inr rfl)))
      pds_nil) pds_nil)
      pds_nil))
      (pds_cons (pds_ret (pd_v 2))
      pds_nil)))), ?_⟩
  rintro ds kk ⟨u, v, w, rfl, hc, hu1, hv1, hw1, hwn, hk⟩
  have une : u ≠ [] := fun z => hc (by rw [z]; simp)
  have vne : v ≠ [] := fun z => hc (by rw [z]; simp)
  refine ⟨_, rfl, (by decide : 0 ≤ 1000), shaped_word w, shaped_word [], _, rfl, ?_⟩
  have e0 : PyData.eqv (wordD w) (.tuple []) = (w == []) := eqv_word w []
  rw [e0]
  by_cases hw : w = []
  · subst hw
    exact iteT ⟨(by decide : 0 ≤ 1000), (by decide : 1 ≤ 1000), hk [[]] (.inr ⟨[], rfl, fun j h => (List.not_mem_nil h).elim, rfl⟩)⟩
  have eb : (false != (w == [])) = false := by simp [hw]
  rw [eb]
  refine iteF ⟨(by decide : 0 ≤ 1000), ?_⟩
  refine ⟨(by decide : 2 ≤ 1000), _, rfl, fun j ρ => ∃ (rs : List (List Nat)) (s3 : Slot), ρ = [.d (.tuple [wordD u, wordD v]), .d (wordD w), .d (.list (rs.map rowD)), s3, .un] ∧ wq u v w j rs, ⟨[], _, rfl, .inl ⟨rfl, fun p hp => absurd hp (Nat.not_lt_zero _)⟩⟩, ?_, ?_⟩
  · rintro p d ρ hp ⟨rs, s3, rfl, hq⟩
    obtain ⟨hp2, rfl⟩ : p < 2 ∧ d = .int (p : Int) := by
      match p, hp with
      | 0, h => exact ⟨by decide, (Option.some.inj h).symm⟩
      | 1, h => exact ⟨by decide, (Option.some.inj h).symm⟩
      | p + 2, h => cases h
    have hpos := wd_pos une vne hp2
    refine ⟨_, rfl, _, rfl, _, _, _, rfl, rfl, at2 hp2, _, _, rfl, rfl, _, _, rfl, rfl, trivial, _, rfl, ?_⟩
    have e1 : decide ((0 : Int) < (((wd u v p).map PyData.int).length : Nat)) = true := decide_eq_true (by rw [List.length_map]; omega)
    rw [e1]
    refine iteT ?_
    refine ⟨_, rfl, _, rfl, _, _, rfl, rfl, _, rfl, _, rfl, _, _, _, rfl, rfl, at2 hp2, _, _, rfl, rfl, _, _, rfl, rfl, trivial, _, rfl, ?_⟩
    refine ⟨_, rfl, _, rfl, _, _, _, rfl, rfl, at2 hp2, ?_⟩
    have hcut : PyData.tuple (cut (w.map PyData.int) (some (((w.map PyData.int).length : Nat) - (((wd u v p).map PyData.int).length : Nat) : Int)) none) = wordD (cut w (some ((w.length : Nat) - ((wd u v p).length : Nat) : Int)) none) := by
      rw [cut_map, List.length_map, List.length_map]
      rfl
    show pEq false (PyData.tuple (cut (w.map PyData.int) (some (((w.map PyData.int).length : Nat) - (((wd u v p).map PyData.int).length : Nat) : Int)) none)) _ _
    rw [hcut]
    refine ⟨shaped_word _, shaped_word _, _, rfl, ?_⟩
    rw [eqv_word]
    by_cases hsuf : ∃ x, w = x ++ wd u v p
    · obtain ⟨x, hx⟩ := hsuf
      have hle : (wd u v p).length ≤ w.length := by rw [hx, List.length_append]; omega
      have hxl : w.length - (wd u v p).length = x.length := by rw [hx, List.length_append]; omega
      have e2 : (false != (cut w (some ((w.length : Nat) - ((wd u v p).length : Nat) : Int)) none == wd u v p)) = true := by
        rw [cut_suf w hle, hxl, hx, List.drop_left]
        simp
      rw [e2]
      refine iteT ?_
      have hxx : PyData.tuple (cut (w.map PyData.int) none (some (((w.map PyData.int).length : Nat) - (((wd u v p).map PyData.int).length : Nat) : Int))) = wordD x := by
        rw [cut_map, List.length_map, List.length_map, cut_pre w hle, hxl, hx, List.take_left]
        rfl
      have hxn : x.length < n := by
        have := congrArg List.length hx
        rw [List.length_append] at this
        omega
      have hx1 : x.length ≤ 1000 := by omega
      refine ⟨_, rfl, _, rfl, _, rfl, _, rfl, _, _, rfl, rfl, _, rfl, _, rfl, _, _, _, rfl, rfl, at2 hp2, _, _, rfl, rfl, _, _, rfl, rfl, trivial, _, rfl, u, v, x, ?_, hc, hu1, hv1, hx1, hxn, fun rs' hrs => ?_⟩
      · rw [← hxx]
      refine ⟨_, rfl, fun i hi => by rw [List.mem_singleton.mp hi]; rfl, fun j acc ρ => ρ = [.d (.tuple [wordD u, wordD v]), .d (wordD w), .d (.list (rs.map rowD)), .d (.int (p : Int)), .un] ∧ acc = (rs'.take j).map (fun r => rowD (r ++ [p])), ⟨rfl, rfl⟩, ?_, ?_⟩
      · rintro j d acc ρ hj ⟨rfl, rfl⟩
        rw [List.getElem?_map] at hj
        cases e : rs'[j]? with
        | none => rw [e] at hj; cases hj
        | some r =>
          rw [e] at hj
          obtain rfl := Option.some.inj hj
          have hr1 : r.length ≤ 1000 := by
            rcases hrs with ⟨rfl, _⟩ | ⟨r0, rfl, h1, h2⟩
            · simp at e
            · have := List.mem_of_getElem? e
              rw [List.mem_singleton.mp this]
              have := row_len une vne h1
              rw [h2] at this
              omega
          have hr2 : rs'.length ≤ 1 := by
            rcases hrs with ⟨rfl, _⟩ | ⟨r0, rfl, h1, h2⟩
            · exact Nat.zero_le _
            · exact Nat.le_refl _
          refine ⟨fun i hi => by rw [List.mem_singleton.mp hi]; rfl, ?_⟩
          refine ⟨_, rfl, _, rfl, (by decide : 1 ≤ 1000), ?_⟩
          refine ⟨by rw [List.length_map]; show r.length + 1 ≤ 100000; omega, by rw [List.length_map, List.length_take]; omega, rfl, rfl, ?_⟩
          rw [List.take_succ, e, List.map_append]
          show _ = _ ++ [rowD (r ++ [p])]
          unfold rowD
          rw [List.map_append]
          rfl
      · rintro acc ρ ⟨rfl, rfl⟩
        refine ⟨fun i hi => by rw [List.mem_singleton.mp hi]; rfl, ?_⟩
        rw [List.length_map, List.take_length]
        have hl0 : rs.length ≤ 1 := by
          rcases hq with ⟨rfl, _⟩ | ⟨r0, p0, rfl, _⟩
          · exact Nat.zero_le _
          · exact Nat.le_refl _
        have hr2 : rs'.length ≤ 1 := by
          rcases hrs with ⟨rfl, _⟩ | ⟨r0, rfl, h1, h2⟩
          · exact Nat.zero_le _
          · exact Nat.le_refl _
        refine ⟨by rw [List.length_map, List.length_map]; omega, rs ++ rs'.map (fun r => r ++ [p]), .d (.int (p : Int)), ?_, wq_add hc hp2 hq hx hrs⟩
        rw [List.map_append, List.map_map]
        rfl
    · have e2 : (false != (cut w (some ((w.length : Nat) - ((wd u v p).length : Nat) : Int)) none == wd u v p)) = false := by
        have : ¬ cut w (some ((w.length : Nat) - ((wd u v p).length : Nat) : Int)) none = wd u v p := fun z => by
          have hl := cut_len w (some ((w.length : Nat) - ((wd u v p).length : Nat) : Int)) none
          rw [z] at hl
          rw [cut_suf w hl] at z
          exact hsuf ⟨w.take (w.length - (wd u v p).length), by
            have q := List.take_append_drop (w.length - (wd u v p).length) w
            rw [z] at q
            exact q.symm⟩
        simp [this]
      rw [e2]
      exact iteF ⟨rs, _, rfl, wq_skip hq fun x e => absurd ⟨x, e⟩ hsuf⟩
  · rintro ρ ⟨rs, s3, rfl, hq⟩
    exact ⟨_, rfl, hk rs (wq_fin hw hq)⟩
theorem ok__law_ways0 (F : Fun K "_law_ways" "_law_ways" s__law_ways f fd) : FnOk P w K mg base CX0 0 f fd ["pair", "word"] (spP K (df_ways 0)) :=
  ⟨fun vs H Q E h => (by obtain ⟨N', ds, kk, _, hd, ⟨u, v, w, _, _, _, _, _, z, _⟩, _⟩ := h; exact absurd z (Nat.not_lt_zero _)), fun A outer s H args us vs Q E _ _ _ _ h => (by obtain ⟨N', ds, kk, _, hd, ⟨u, v, w, _, _, _, _, _, z, _⟩, _⟩ := h; exact absurd z (Nat.not_lt_zero _))⟩
theorem ok__law_ways (F : Fun K "_law_ways" "_law_ways" s__law_ways f fd) (m_len : mg "len" = none) (hm : mg "_law_ways" = some (.ref f)) (hk : PySem.W.keepIn K (.ref f) = true) (hb : Binds K fd ["pair", "word"] []) : ∀ n : Nat, FnOk P w K mg base CX0 n f fd ["pair", "word"] (spP K (df_ways n))
  | 0 => ok__law_ways0 F
  | n + 1 => ok__law_ways1 n F m_len ⟨f, fd, ok__law_ways F m_len hm hk hb n, hm, hk, hb⟩
end
end K3
set_option Elab.async false
set_option linter.all false
set_option maxRecDepth 100000
set_option maxHeartbeats 4000000
namespace K3
open PySem PySem.Spec PyProof.Rows L2 DL
section
variable {P : Program} {w : World} {K : PySem.W.Frag} {mg : Str → Option Value} {base : Heap} {f : Addr} {fd : FuncData}
theorem sameOk_up2 {d : PyData} (h : (∃ b, d = .bool b)) : sameOk 2 d := .inl h
theorem nu_un : noUrn .un = true := rfl
theorem nu_d (d : PyData) : noUrn (.d d) = true := rfl
theorem nu_own (ds : List PyData) : noUrn (.own ds) = true := rfl
theorem sole13 {q : Nat} {x1 x2 x3 x4 x5 x6 x7 x8 x9 x10 x11 x12 : Slot} (h1 : noUrn x1 = true) (h2 : noUrn x2 = true) (h3 : noUrn x3 = true) (h4 : noUrn x4 = true) (h5 : noUrn x5 = true) (h6 : noUrn x6 = true) (h7 : noUrn x7 = true) (h8 : noUrn x8 = true) (h9 : noUrn x9 = true) (h10 : noUrn x10 = true) (h11 : noUrn x11 = true) (h12 : noUrn x12 = true) : sole [.urn q, x1, x2, x3, x4, x5, x6, x7, x8, x9, x10, x11, x12] 0 = true := by
  simp only [sole, List.set_cons_zero, List.all_cons, List.all_nil, nu_un, h1, h2, h3, h4, h5, h6, h7, h8, h9, h10, h11, h12, Bool.and_self, Bool.and_true]
def plain (t : Slot) : Prop := noUrn t = true ∧ ∀ o, t ≠ .obj o
theorem plain_d (d : PyData) : plain (.d d) := ⟨rfl, fun o z => by cases z⟩
theorem plain_un : plain .un := ⟨rfl, fun o z => by cases z⟩
theorem mem3 {hs : List PyData} {x y z : PyData} (h : ∀ d ∈ hs, sameOk 2 d) (hx : sameOk 2 x) (hy : sameOk 2 y) (hz : sameOk 2 z) : ∀ d ∈ (hs ++ [x, y]) ++ [z], sameOk 2 d := fun d hd => by
  rcases List.mem_append.mp hd with hd | hd
  · rcases List.mem_append.mp hd with hd | hd
    · exact h d hd
    · rcases List.mem_cons.mp hd with rfl | hd
      · exact hx
      · rw [List.mem_singleton.mp hd]; exact hy
  · rw [List.mem_singleton.mp hd]; exact hz
theorem len3 {hs : List PyData} {x y z : PyData} {j : Nat} (h : hs.length ≤ 1 + 3 * j) : ((hs ++ [x, y]) ++ [z]).length ≤ 1 + 3 * (j + 1) := by
  rw [List.length_append, List.length_append]
  show hs.length + 2 + 1 ≤ _
  omega
theorem ok__law_right (F : Fun K "_law_right" "_law_right" s__law_right f fd) (m_len : mg "len" = none) (m_tuple : mg "tuple" = none) (m_range : mg "range" = none)
    (D__law_take : Df P w K mg base "_law_take" ["urn", "low_so"] 1 (spU K uf_take)) (D__law_word : Df P w K mg base "_law_word" ["urn", "most", "kinds_so"] 2 (spU K uf_word)) (D_commute : Df P w K mg base "commute" ["word", "other"] 3 (spP K df_commute)) (D_row_word : Df P w K mg base "row_word" ["words", "row"] 3 (spP K df_row_word))
    (D__law_heard : Df P w K mg base "_law_heard" ["pair", "word"] 5 (spP K df_heard)) (D__law_ways : Df P w K mg base "_law_ways" ["pair", "word"] 60 (spP K (df_ways 60))) (D__law_same : Df P w K mg base "_law_same" ["got", "goal"] 3 (spP K (df_same 3))) : FnOk P w K mg base CX0 61 f fd ["urn"] (spU K uf_right) := by
  refine ok_U F sc__law_right (fun n ds k h => ?_) (fun cdv A outer s H E C hr => ?_) (fun _ _ => trivial)
  · obtain ⟨rfl, _⟩ := h
    rfl
  have hu := hr.units
  refine ⟨_,
    (pds_cons (pds_par (i := 1) (j := 2) rfl sc__law_right.nd rfl rfl (by decide) rfl rfl (pda_cons (pd_callDU D__law_word (hr.mono (by decide)) rfl (pv 0) (pda_cons pd_int (pda_cons pd_int pda_nil))) (pda_cons (pd_callDU D__law_word (hr.mono (by decide)) rfl (pv 0) (pda_cons pd_int (pda_cons pd_int pda_nil))) pda_nil)) (by rfl))
      (pds_cons (pds_if (pdt_eq hu (pd_callDU D__law_take (hr.mono (by decide)) rfl (pv 0) (pda_cons pd_int pda_nil)) pd_int) (pds_cons (pds_set (pd_add (pd_v 1) (pd_callDU D__law_word (hr.mono (by decide)) rfl (pv 0) (pda_cons pd_int (pda_cons pd_int pda_nil)))) (pg_name (i := 2) sc__law_right.nd rfl (by first | exact Or.inl rfl | exact Or.inr rfl)))
      pds_nil) pds_nil)
      (pds_cons (pds_set (pd_tup (pda_cons (pd_v 1) (pda_cons (pd_v 2) pda_nil))) (pg_name (i := 3) sc__law_right.nd rfl (by first | exact Or.inl rfl | exact Or.inr rfl)))
      (pds_cons (pds_set (pd_ne hu (pd_add (pd_v 1) (pd_v 2)) (pd_add (pd_v 2) (pd_v 1))) (pg_name (i := 4) sc__law_right.nd rfl (by first | exact Or.inl rfl | exact Or.inr rfl)))
      (pds_cons (pds_parOO (i := 5) (j := 6) rfl sc__law_right.nd rfl rfl (by decide) rfl rfl (pda_cons (pd_callD D_commute (hr.mono (by decide)) rfl (pda_cons (pd_v 1) (pda_cons (pd_v 2) pda_nil))) pda_nil) (fun _ => (pda_cons (pd_not (pd_v 4)) pda_nil)) (by rfl))
      (pds_cons (pds_for PassesOwn.never rfl (pdi_R rfl m_range (pda_cons pd_int pda_nil)) (pdg_n (pg_name (i := 7) sc__law_right.nd rfl (by first | exact Or.inl rfl | exact Or.inr rfl))) (pds_forget 9 (pds_cons (pds_set (pd_tupleOf m_tuple rfl (pda_cons (pd_lc rfl sc__law_right.nd (pdi_R rfl m_range (pda_cons (pd_callDU D__law_take (hr.mono (by decide)) rfl (pv 0) (pda_cons pd_int pda_nil)) pda_nil)) (blkOk_by (own := [("k", 9)]) (show blkC ["urn", "one", "other", "pair", "apart", "heard", "due", "lap", "row", "k", "word", "strange", "ways"] (defScope s__law_right) _ _ = true by decide +kernel)) (fun _ _ _ _ _ => (pdg_n (pg_name (i := 9) sc__law_right.nd rfl (by first | exact Or.inl rfl | exact Or.inr rfl)))) (fun _ _ _ _ _ _ => (pd_callDU D__law_take (hr.mono (by decide)) rfl (pv 0) (pda_cons pd_int pda_nil)))) pda_nil)) (pg_name (i := 8) sc__law_right.nd rfl (by first | exact Or.inl rfl | exact Or.inr rfl)))
      (pds_cons (pds_set (pd_tup pda_nil) (pg_name (i := 10) sc__law_right.nd rfl (by first | exact Or.inl rfl | exact Or.inr rfl)))
      (pds_cons (pds_for PassesOwn.never rfl (pdi_T (pd_v 8)) (pdg_n (pg_name (i := 9) sc__law_right.nd rfl (by first | exact Or.inl rfl | exact Or.inr rfl))) (pds_cons (pds_set (pd_add (pd_v 10) (pd_ix (pd_v 3) (pd_v 9))) (pg_name (i := 10) sc__law_right.nd rfl (by first | exact Or.inl rfl | exact Or.inr rfl)))
      pds_nil))
      (pds_cons (pds_addOwn (pv 5) (pda_cons (pd_callD D_row_word (hr.mono (by decide)) rfl (pda_cons (pd_v 3) (pda_cons (pd_v 8) pda_nil))) (pda_cons (pd_callD D__law_heard (hr.mono (by decide)) rfl (pda_cons (pd_v 3) (pda_cons (pd_v 10) pda_nil))) pda_nil)) (pg_name (i := 5) sc__law_right.nd rfl (by first | exact Or.inl rfl | exact Or.inr rfl)))
      (pds_cons (pds_addOwn (pv 6) (pda_cons (pd_v 10) (pda_cons (pd_if (pdt_tru (pd_v 4)) (pd_v 8) (pd_lst (pda_cons pd_str pda_nil))) pda_nil)) (pg_name (i := 6) sc__law_right.nd rfl (by first | exact Or.inl rfl | exact Or.inr rfl)))
      (pds_cons (pds_set (pd_add (pd_v 10) (pd_callDU D__law_word (hr.mono (by decide)) rfl (pv 0) (pda_cons pd_int (pda_cons pd_int pda_nil)))) (pg_name (i := 11) sc__law_right.nd rfl (by first | exact Or.inl rfl | exact Or.inr rfl)))
      (pds_cons (pds_set (pd_if (pdt_tru (pd_v 4)) (pd_callD D__law_ways (hr.mono (by omega)) rfl (pda_cons (pd_v 3) (pda_cons (pd_v 11) pda_nil))) (pd_lst pda_nil)) (pg_name (i := 12) sc__law_right.nd rfl (by first | exact Or.inl rfl | exact Or.inr rfl)))
      (pds_cons (pds_if (pdt_gt (pd_len m_len rfl (pda_cons (pd_v 12) pda_nil)) pd_int) (pds_cons (pds_ret pd_bl)
      pds_nil) pds_nil)
      (pds_cons (pds_app (pv 5) (pd_callD D__law_heard (hr.mono (by decide)) rfl (pda_cons (pd_v 3) (pda_cons (pd_v 11) pda_nil))))
      (pds_cons (pds_app (pv 6) (pd_if (pdt_not (pdt_tru (pd_v 4))) (pd_lst (pda_cons pd_str pda_nil)) (pd_if (pdt_eq hu (pd_len m_len rfl (pda_cons (pd_v 12) pda_nil)) pd_int) (pd_ix (pd_v 12) pd_int) (pd_lst (pda_cons pd_str pda_nil)))))
      pds_nil))))))))))))
      (pds_freeze 6 (pds_freeze 5 (pds_cons (pds_ret (pd_callD D__law_same (hr.mono (by omega)) rfl (pda_cons (pd_v 5) (pda_cons (pd_v 6) pda_nil))))
      pds_nil))))))))), ?_⟩
  rintro n ds kk ⟨rfl, hn, hk⟩
  have key : ∀ (m : Nat) (a b : List Int) (ρ : DL.Env), m ≤ 200 → a.length ≤ 4 → b.length ≤ 6 → ρ = [.urn m, .d (wordD a), .d (wordD b), .un, .un, .un, .un, .un, .un, .un, .un, .un, .un] → (wsSeq (wsSet 3 (wTupN 0 (wCons (wVar 1) (wCons (wVar 2) wNil))))
        (wsSeq (wsSet 4 (wOp (pEq true) (wOp pAdd (wVar 1) (wVar 2)) (wOp pAdd (wVar 2) (wVar 1))))
          (wsSeq
            (wsOO 5 6 (wCons (wCall df_commute (wCons (wVar 1) (wCons (wVar 2) wNil))) wNil)
              (wCons (wNotV (wVar 4)) wNil))
            (wsSeq
              (wsFor (wiR (wCons (wC (PyData.int 3)) wNil)) (wgN 7)
                (wsForget 9
                  (wsSeq
                    (wsSet 8
                      (wCall fTuple
                        (wCons
                          (wLc (wiR (wCons (wCallU 0 uf_take (wCons (wC (PyData.int 8)) wNil)) wNil)) (wgN 9) wtYes
                            (wCallU 0 uf_take (wCons (wC (PyData.int 2)) wNil))
                            (List.map (fun x => x.snd) [(Str.ofString "k", 9)]))
                          wNil)))
                    (wsSeq (wsSet 10 (wTupN 0 wNil))
                      (wsSeq
                        (wsFor (wiT (wVar 8)) (wgN 9)
                          (wsSeq (wsSet 10 (wOp pAdd (wVar 10) (wOp pIx (wVar 3) (wVar 9)))) wsNil))
                        (wsSeq
                          (wsAddOwn 5
                            (wCons (wCall df_row_word (wCons (wVar 3) (wCons (wVar 8) wNil)))
                              (wCons (wCall df_heard (wCons (wVar 3) (wCons (wVar 10) wNil))) wNil)))
                          (wsSeq
                            (wsAddOwn 6
                              (wCons (wVar 10)
                                (wCons
                                  (wIf (DL.wTru (wVar 4)) (wVar 8)
                                    (wLstN (wCons (wC (PyData.str (Str.ofString "unfit"))) wNil)))
                                  wNil)))
                            (wsSeq
                              (wsSet 11
                                (wOp pAdd (wVar 10)
                                  (wCallU 0 uf_word (wCons (wC (PyData.int 3)) (wCons (wC (PyData.int 2)) wNil)))))
                              (wsSeq
                                (wsSet 12
                                  (wIf (DL.wTru (wVar 4)) (wCall (df_ways 60) (wCons (wVar 3) (wCons (wVar 11) wNil)))
                                    (wLstN wNil)))
                                (wsSeq
                                  (wsIf
                                    (wTest
                                      (wOp (pI (fun x x_1 => True) fun i j => PyData.bool (decide (j < i)))
                                        (wCall fLen (wCons (wVar 12) wNil)) (wC (PyData.int 1))))
                                    (wsSeq (wsRet (wC (PyData.bool false))) wsNil) wsNil)
                                  (wsSeq (wsApp 5 (wCall df_heard (wCons (wVar 3) (wCons (wVar 11) wNil))))
                                    (wsSeq
                                      (wsApp 6
                                        (wIf (DL.wNot (DL.wTru (wVar 4)))
                                          (wLstN (wCons (wC (PyData.str (Str.ofString "unfit"))) wNil))
                                          (wIf
                                            (wTest
                                              (wOp (pEq false) (wCall fLen (wCons (wVar 12) wNil)) (wC (PyData.int 1))))
                                            (wOp pIx (wVar 12) (wC (PyData.int 0)))
                                            (wLstN (wCons (wC (PyData.str (Str.ofString "none"))) wNil)))))
                                      wsNil))))))))))))
              (wsFreeze 6
                (wsFreeze 5 (wsSeq (wsRet (wCall (df_same 3) (wCons (wVar 5) (wCons (wVar 6) wNil)))) wsNil)))))))
    { nx := fun ρ => ∃ n', ρ[0]? = some (Slot.urn n') ∧ kk n' PyData.none,
      rt := fun d ρ => ∃ n', ρ[0]? = some (Slot.urn n') ∧ kk n' d } ρ := by
    rintro m a b ρ hm ha hb rfl
    refine ⟨_, rfl, _, rfl, (by decide : 2 ≤ 1000), ?_⟩
    refine ⟨_, rfl, _, rfl, by rw [List.length_map, List.length_map]; omega, _, rfl, _, rfl, by rw [List.length_map, List.length_map]; omega, ?_⟩
    rw [word_app, word_app]
    refine ⟨shaped_word _, shaped_word _, ?_⟩
    rw [eqv_word]
    obtain ⟨ap, hap, e1, h1, h2⟩ : ∃ ap : Bool, (true != (a ++ b == b ++ a)) = ap ∧ (a ++ b == b ++ a) = !ap ∧ (ap = true → a ++ b ≠ b ++ a) ∧ (ap = false → a ++ b = b ++ a) := by
      by_cases c : a ++ b = b ++ a
      · exact ⟨false, by simp [c], by simp [c], (fun z => by cases z), fun _ => c⟩
      · exact ⟨true, by simp [c], by simp [c], (fun _ => c), (fun z => by cases z)⟩
    rw [hap]
    refine ⟨_, rfl, _, rfl, a, b, rfl, by omega, by omega, (by decide : 1 ≤ 1000), _, rfl, ap, rfl, (by decide : 1 ≤ 1000), ?_⟩
    rw [e1]
    refine ⟨3, rfl, by decide, by decide, fun j ρ => ∃ (m' : Nat) (hs : List PyData) (t7 t8 t9 t10 t11 t12 : Slot), ρ = [.urn m', .d (wordD a), .d (wordD b), .d (.tuple [wordD a, wordD b]), .d (.bool ap), .own hs, .own hs, t7, t8, t9, t10, t11, t12] ∧ plain t7 ∧ plain t8 ∧ plain t9 ∧ plain t10 ∧ plain t11 ∧ plain t12 ∧ m' ≤ 200 + 100 * j ∧ hs.length ≤ 1 + 3 * j ∧ ∀ d ∈ hs, sameOk 2 d,
      ⟨m, [.bool !ap], _, _, _, _, _, _, rfl, plain_un, plain_un, plain_un, plain_un, plain_un, plain_un, by omega, (show 1 ≤ 1 + 3 * 0 by decide), fun d hd => by rw [List.mem_singleton.mp hd]; exact .inl ⟨_, rfl⟩⟩, ?_, ?_⟩
    · rintro j d ρ hj ⟨m', hs, t7, t8, t9, t10, t11, t12, rfl, p7, p8, p9, p10, p11, p12, hm', hl, hok⟩
      have hj3 : j < 3 := by
        have := (List.getElem?_eq_some_iff.mp hj).1
        rwa [rangeD_len] at this
      have hd : ∃ x : Int, d = .int x := ⟨_, by
        have hj' : (rangeD 0 3)[j]? = some d := hj
        rw [rangeD_get hj3] at hj'
        exact (Option.some.inj hj').symm⟩
      obtain ⟨x7, rfl⟩ := hd
      refine ⟨noOwn_of fun i hi ds z => ?_, ?_⟩
      · rw [List.mem_singleton.mp hi] at z
        exact p9.2 ds (Option.some.inj z)
      have so : ∀ (q : Nat) (s5 s6 : List PyData), sole [.urn q, .d (wordD a), .d (wordD b), .d (.tuple [wordD a, wordD b]), .d (.bool ap), .own s5, .own s6, .d (.int x7), t8, .un, t10, t11, t12] 0 = true := fun q s5 s6 => sole13 rfl rfl rfl rfl rfl rfl rfl p8.1 rfl p10.1 p11.1 p12.1
      refine ⟨⟨m', rfl⟩, m', rfl, so _ _ _, 8, rfl, by decide, by decide, by omega, fun m1 r hm1 hr0 hr1 => ?_⟩
      refine ⟨r, rfl, by omega, by omega, fun i hi => by rw [List.mem_singleton.mp hi]; rfl, fun j acc ρ => ∃ (m2 : Nat) (row : List Nat), ρ = [.urn m2, .d (wordD a), .d (wordD b), .d (.tuple [wordD a, wordD b]), .d (.bool ap), .own hs, .own hs, .d (.int x7), t8, .un, t10, t11, t12] ∧ acc = row.map (fun q : Nat => PyData.int (q : Int)) ∧ row.length = j ∧ m2 ≤ m1 + j ∧ isRow row, ⟨m1, [], rfl, rfl, rfl, Nat.le_refl _, fun j h => (List.not_mem_nil h).elim⟩, ?_, ?_⟩
      · rintro j2 d acc ρ hj2 ⟨m2, row, rfl, rfl, hrl, hm2, hrow⟩
        have hj2' : j2 < r.toNat := by
          have := (List.getElem?_eq_some_iff.mp hj2).1
          rwa [rangeD_len] at this
        refine ⟨fun i hi => by rw [List.mem_singleton.mp hi]; rfl, ?_⟩
        refine ⟨⟨m2, rfl⟩, m2, rfl, sole13 rfl rfl rfl rfl rfl rfl rfl p8.1 rfl p10.1 p11.1 p12.1, 2, rfl, by decide, by decide, by omega, fun m3 x hm3 hx0 hx1 => ⟨by rw [List.length_map]; omega, rfl, m3, row ++ [x.toNat], rfl, ?_, by rw [List.length_append, hrl]; rfl, by omega, isRow_snoc hrow (by omega)⟩⟩
        rw [List.map_append]
        show _ ++ [PyData.int x] = _ ++ [PyData.int ((x.toNat : Nat) : Int)]
        rw [Int.toNat_of_nonneg hx0]
      · rintro acc ρ ⟨m2, row, rfl, rfl, hrl, hm2, hrow⟩
        rw [rangeD_len] at hrl hm2
        have hrl7 : row.length ≤ 7 := by omega
        refine ⟨fun i hi => by rw [List.mem_singleton.mp hi]; rfl, _, _, rfl, rfl, ?_⟩
        refine ⟨(by decide : 0 ≤ 1000), ?_⟩
        have wl : ∀ q, q < 2 → (wd a b q).length ≤ 6 := fun q hq => by
          have h : q = 0 ∨ q = 1 := by omega
          rcases h with rfl | rfl
          · exact Nat.le_trans ha (by decide)
          · exact hb
        have rl : ∀ s : List Nat, isRow s → (rowOf [a, b] s).length ≤ 6 * s.length := fun s => by
          induction s with
          | nil => intro _; exact Nat.le_refl _
          | cons q s ih =>
            intro h
            have h1 := wl q (h q (List.mem_cons_self ..))
            have h2 := ih fun k hk => h k (List.mem_cons_of_mem _ hk)
            have e : rowOf [a, b] (q :: s) = wd a b q ++ rowOf [a, b] s := rfl
            rw [e, List.length_append, List.length_cons]
            omega
        refine ⟨_, rfl, _, rfl, fun j ρ => ∃ t9 : Slot, ρ = [.urn m2, .d (wordD a), .d (wordD b), .d (.tuple [wordD a, wordD b]), .d (.bool ap), .own hs, .own hs, .d (.int x7), .d (rowD row), t9, .d (wordD (rowOf [a, b] (row.take j))), t11, t12] ∧ plain t9, ⟨.un, rfl, plain_un⟩, ?_, ?_⟩
        · rintro j2 d ρ hj2 ⟨t9, rfl, _⟩
          rw [List.getElem?_map] at hj2
          cases e : row[j2]? with
          | none => rw [e] at hj2; cases hj2
          | some q =>
            rw [e] at hj2
            obtain rfl := Option.some.inj hj2
            have hq : q < 2 := hrow q (List.mem_of_getElem? e)
            have b1 := rl (row.take j2) fun k hk => hrow k (List.mem_of_mem_take hk)
            have b2 := wl q hq
            rw [List.length_take] at b1
            refine ⟨_, rfl, _, rfl, _, rfl, _, _, _, rfl, rfl, at2 hq, by rw [List.length_map, List.length_map]; omega, .d (.int (q : Int)), ?_, plain_d _⟩
            rw [word_app, rowOf_step (ps := [a, b]) hq e]
            have e2 : [a, b][q] = wd a b q := by
              have h : q = 0 ∨ q = 1 := by omega
              rcases h with rfl | rfl <;> rfl
            rw [e2]
            rfl
        · rintro ρ ⟨t9', rfl, p9'⟩
          rw [List.length_map, List.take_length]
          have bw := rl row hrow
          have bw2 : (rowOf [a, b] row).length ≤ 42 := by omega
          refine ⟨⟨_, rfl⟩, _, rfl, _, rfl, [a, b], row, rfl, hrow, (show 2 ≤ 10 by decide), ?_, by omega, _, rfl, _, rfl, a, b, rowOf [a, b] row, rfl, by omega, by omega, by omega, ?_, ?_⟩
          · intro p hp
            rcases List.mem_cons.mp hp with rfl | hp
            · omega
            · rw [List.mem_singleton.mp hp]; omega
          · intro hc
            have hapf : ap = false := by
              cases ap with
              | false => rfl
              | true => exact absurd hc (h1 rfl)
            subst hapf
            refine ⟨(by decide : 2 ≤ 1000), hs, rfl, by show hs.length + 2 ≤ 100000; omega, ?_⟩
            refine ⟨⟨_, rfl⟩, _, rfl, _, rfl, false, rfl, iteF ⟨(by decide : 1 ≤ 1000), (by decide : 2 ≤ 1000), hs, rfl, by show hs.length + 2 ≤ 100000; omega, ?_⟩⟩
            refine ⟨_, rfl, ⟨m2, rfl⟩, m2, rfl, sole13 rfl rfl rfl rfl rfl rfl rfl rfl p9'.1 rfl p11.1 p12.1, 3, 2, rfl, by decide, by decide, by decide, by decide, by omega, fun m4 c hm4 hcl _ => ⟨by rw [List.length_map, List.length_map]; omega, ?_⟩⟩
            rw [word_app]
            refine ⟨_, rfl, false, rfl, iteF ⟨(by decide : 0 ≤ 1000), ?_⟩⟩
            refine ⟨_, rfl, _, _, rfl, rfl, _, _, rfl, rfl, trivial, _, rfl, iteF ?_⟩
            refine ⟨⟨_, rfl⟩, _, rfl, _, rfl, a, b, rowOf [a, b] row ++ c, rfl, by omega, by omega, by rw [List.length_append]; omega, fun _ => ?_, fun z => absurd hc z⟩
            refine ⟨_, rfl, by rw [List.length_append]; show hs.length + 2 < 100000; omega, ?_⟩
            refine ⟨⟨_, rfl⟩, _, rfl, false, rfl, iteT ⟨(by decide : 1 ≤ 1000), _, rfl, by rw [List.length_append]; show hs.length + 2 < 100000; omega, ?_⟩⟩
            exact ⟨m4, _, _, _, _, _, _, _, rfl, plain_d _, plain_d _, p9', plain_d _, plain_d _, plain_d _, by omega, len3 hl, mem3 hok (sameOk_word (by omega)) same_unfit same_unfit⟩
          · intro hc
            have hapt : ap = true := by
              cases ap with
              | true => rfl
              | false => exact absurd (h2 rfl) hc
            subst hapt
            refine ⟨fun r' hr1 hr2 => ?_, fun hn => absurd ⟨row, hrow, rfl⟩ hn⟩
            obtain rfl := code hc hr1 hrow hr2
            refine ⟨(by decide : 2 ≤ 1000), hs, rfl, by show hs.length + 2 ≤ 100000; omega, ?_⟩
            refine ⟨⟨_, rfl⟩, _, rfl, _, rfl, true, rfl, iteT ⟨_, rfl, (by decide : 2 ≤ 1000), hs, rfl, by show hs.length + 2 ≤ 100000; omega, ?_⟩⟩
            refine ⟨_, rfl, ⟨m2, rfl⟩, m2, rfl, sole13 rfl rfl rfl rfl rfl rfl rfl rfl p9'.1 rfl p11.1 p12.1, 3, 2, rfl, by decide, by decide, by decide, by decide, by omega, fun m4 c hm4 hcl _ => ⟨by rw [List.length_map, List.length_map]; omega, ?_⟩⟩
            rw [word_app]
            have hsl : (rowOf [a, b] r' ++ c).length ≤ 45 := by rw [List.length_append]; omega
            refine ⟨_, rfl, true, rfl, iteT ⟨_, rfl, _, rfl, a, b, rowOf [a, b] r' ++ c, rfl, hc, by omega, by omega, by omega, by omega, fun rs hrs => ?_⟩⟩
            rcases hrs with ⟨rfl, hn⟩ | ⟨r2, rfl, hr3, hr4⟩
            · refine ⟨_, rfl, _, _, rfl, rfl, _, _, rfl, rfl, trivial, _, rfl, iteF ?_⟩
              refine ⟨⟨_, rfl⟩, _, rfl, _, rfl, a, b, rowOf [a, b] r' ++ c, rfl, by omega, by omega, by omega, fun z => absurd z hc, fun _ => ⟨fun r3 q1 q2 => absurd ⟨r3, q1, q2⟩ hn, fun _ => ?_⟩⟩
              refine ⟨_, rfl, by rw [List.length_append]; show hs.length + 2 < 100000; omega, ?_⟩
              refine ⟨⟨_, rfl⟩, _, rfl, true, rfl, iteF ⟨_, rfl, _, _, rfl, rfl, shaped_int _, shaped_int _, _, rfl, iteF ⟨(by decide : 1 ≤ 1000), _, rfl, by rw [List.length_append]; show hs.length + 2 < 100000; omega, ?_⟩⟩⟩
              exact ⟨m4, _, _, _, _, _, _, _, rfl, plain_d _, plain_d _, p9', plain_d _, plain_d _, plain_d _, by omega, len3 hl, mem3 hok (sameOk_word (by omega)) (sameOk_row (by omega)) same_none⟩
            · refine ⟨_, rfl, _, _, rfl, rfl, _, _, rfl, rfl, trivial, _, rfl, iteF ?_⟩
              have hr2l : r2.length ≤ 1000 := by
                have une : a ≠ [] := fun z => hc (by rw [z]; simp)
                have vne : b ≠ [] := fun z => hc (by rw [z]; simp)
                have := row_len une vne hr3
                rw [hr4] at this
                omega
              refine ⟨⟨_, rfl⟩, _, rfl, _, rfl, a, b, rowOf [a, b] r' ++ c, rfl, by omega, by omega, by omega, fun z => absurd z hc, fun _ => ⟨fun r3 q1 q2 => ?_, fun hn => absurd ⟨r2, hr3, hr4⟩ hn⟩⟩
              obtain rfl := code hc q1 hr3 (q2.trans hr4.symm)
              refine ⟨_, rfl, by rw [List.length_append]; show hs.length + 2 < 100000; omega, ?_⟩
              refine ⟨⟨_, rfl⟩, _, rfl, true, rfl, iteF ⟨_, rfl, _, _, rfl, rfl, shaped_int _, shaped_int _, _, rfl, iteT ⟨_, rfl, _, 0, _, rfl, rfl, rfl, _, rfl, by rw [List.length_append]; show hs.length + 2 < 100000; omega, ?_⟩⟩⟩
              exact ⟨m4, _, _, _, _, _, _, _, rfl, plain_d _, plain_d _, p9', plain_d _, plain_d _, plain_d _, by omega, len3 hl, mem3 hok (sameOk_word (by omega)) (sameOk_row (by omega)) (sameOk_row hr2l)⟩
    · rintro ρ ⟨m', hs, t7, t8, t9, t10, t11, t12, rfl, _, _, _, _, _, _, _, hl, hok⟩
      rw [rangeD_len] at hl
      exact ⟨_, rfl, _, rfl, _, rfl, _, rfl, .list hs, rfl, .inr (.inr (.inr (.inl ⟨hs, rfl, by omega, hok⟩))), m', rfl, hk m'⟩
  refine ⟨⟨n, rfl⟩, n, rfl, rfl, 4, 2, rfl, by decide, by decide, by decide, by decide, by omega, fun n1 a hn1 ha _ => ?_⟩
  refine ⟨⟨n1, rfl⟩, n1, rfl, rfl, 4, 2, rfl, by decide, by decide, by decide, by decide, by omega, fun n2 b hn2 hb _ => ⟨_, _, rfl, ?_⟩⟩
  refine ⟨⟨n2, rfl⟩, n2, rfl, rfl, 2, rfl, by decide, by decide, by omega, fun n3 r hn3 hr0 hr1 => ⟨shaped_int _, shaped_int _, _, rfl, ?_⟩⟩
  cases (false != PyData.eqv (.int r) (.int 0)) with
  | false => exact iteF (key n3 a b _ (by omega) (by omega) (by omega) rfl)
  | true =>
    refine iteT ⟨_, rfl, ⟨n3, rfl⟩, n3, rfl, rfl, 2, 2, rfl, by decide, by decide, by decide, by decide, by omega, fun n4 c hn4 hc _ => ⟨by rw [List.length_map, List.length_map]; omega, ?_⟩⟩
    rw [word_app]
    exact key n4 a (a ++ c) _ (by omega) (by omega) (by rw [List.length_append]; omega) rfl
end
end K3
set_option Elab.async false
set_option linter.all false
set_option maxRecDepth 100000
set_option maxHeartbeats 4000000
namespace K3
open PySem PySem.Spec PyProof.Rows L2 DL
section
variable {P : Program} {w : World} {K : PySem.W.Frag} {mg : Str → Option Value} {base : Heap} {f : Addr} {fd : FuncData}
def sameB : Nat → PyData → Bool
  | 0, _ => false
  | n + 1, .bool _ => true
  | n + 1, .int _ => true
  | n + 1, .str s => SeqAt.shaped (.str s) && PyData.eqv (.str s) (.str s)
  | n + 1, .list xs => decide (xs.length ≤ 1000) && xs.all (sameB n)
  | n + 1, .tuple xs => decide (xs.length ≤ 1000) && xs.all (sameB n)
  | n + 1, _ => false
theorem sameB_ok : ∀ (n : Nat) (d : PyData), sameB n d = true → sameOk n d
  | 0, _, h => by simp [sameB] at h
  | n + 1, .bool b, _ => .inl ⟨b, rfl⟩
  | n + 1, .int i, _ => .inr (.inl ⟨i, rfl⟩)
  | n + 1, .str s, h => by
    simp only [sameB, Bool.and_eq_true] at h
    exact .inr (.inr (.inl ⟨s, rfl, h.1, h.2⟩))
  | n + 1, .list xs, h => by
    simp only [sameB, Bool.and_eq_true, decide_eq_true_eq, List.all_eq_true] at h
    exact .inr (.inr (.inr (.inl ⟨xs, rfl, h.1, fun x hx => sameB_ok n x (h.2 x hx)⟩)))
  | n + 1, .tuple xs, h => by
    simp only [sameB, Bool.and_eq_true, decide_eq_true_eq, List.all_eq_true] at h
    exact .inr (.inr (.inr (.inr ⟨xs, rfl, h.1, fun x hx => sameB_ok n x (h.2 x hx)⟩)))
  | n + 1, .none, h => by simp [sameB] at h
  | n + 1, .dict _, h => by simp [sameB] at h
theorem row_of {r : List Nat} (h : r.all (· < 2) = true) : isRow r := fun j hj => by
  have := List.all_eq_true.mp h j hj
  simpa using this
theorem heard_row {u v w : List Int} (r : List Nat) {k : PyData → Prop} (hc : u ++ v ≠ v ++ u) (hr : r.all (· < 2) = true) (e : rowOf [u, v] r = w) (b1 : u.length ≤ 1000) (b2 : v.length ≤ 1000) (b3 : w.length ≤ 1000) (h : k (rowD r)) : df_heard [.tuple [wordD u, wordD v], wordD w] k :=
  ⟨u, v, w, rfl, b1, b2, b3, fun z => absurd z hc, fun _ => ⟨fun s h1 h2 => (by rw [code hc h1 (row_of hr) (h2.trans e.symm)]; exact h), fun hn => absurd ⟨r, row_of hr, e⟩ hn⟩⟩
theorem heard_none {u v w : List Int} {k : PyData → Prop} (hc : u ++ v ≠ v ++ u) (hn : ¬ can u v w) (b1 : u.length ≤ 1000) (b2 : v.length ≤ 1000) (b3 : w.length ≤ 1000) (h : k (.list [.str "none"])) : df_heard [.tuple [wordD u, wordD v], wordD w] k :=
  ⟨u, v, w, rfl, b1, b2, b3, fun z => absurd z hc, fun _ => ⟨fun s h1 h2 => absurd ⟨s, h1, h2⟩ hn, fun _ => h⟩⟩
theorem heard_unfit {u v w : List Int} {k : PyData → Prop} (hc : u ++ v = v ++ u) (b1 : u.length ≤ 1000) (b2 : v.length ≤ 1000) (b3 : w.length ≤ 1000) (h : k (.list [.str "unfit"])) : df_heard [.tuple [wordD u, wordD v], wordD w] k :=
  ⟨u, v, w, rfl, b1, b2, b3, fun _ => h, fun z => absurd hc z⟩
theorem no_short {x : List Int} (hx : x ≠ []) (h : x.length < 2) : ¬ can [0, 1] [0, 1, 0] x := fun z => by
  obtain ⟨p, y, hp, e, _⟩ := can_inv hx z
  have l := congrArg List.length e
  rw [List.length_append] at l
  have h : p = 0 ∨ p = 1 := by omega
  rcases h with rfl | rfl
  · have : (wd [0, 1] [0, 1, 0] 0).length = 2 := rfl
    omega
  · have : (wd [0, 1] [0, 1, 0] 1).length = 3 := rfl
    omega
theorem no_011 : ¬ can [0, 1] [0, 1, 0] [0, 1, 1] := fun z => by
  obtain ⟨p, y, hp, e, hy⟩ := can_inv (by decide) z
  have h : p = 0 ∨ p = 1 := by omega
  rcases h with rfl | rfl
  · have e' : ([0, 1, 1] : List Int) = [0, 1] ++ y := e
    have ey : y = [1] := by
      have := congrArg (List.drop 2) e'
      simpa using this.symm
    subst ey
    exact no_short (by decide) (by decide) hy
  · have e' : ([0, 1, 1] : List Int) = [0, 1, 0] ++ y := e
    have := congrArg (fun l => l[2]?) e'
    simp at this
theorem row_all {r : List Nat} {n : Nat} (h : r.all (· < n) = true) : ∀ j ∈ r, j < n := fun j hj => by
  have := List.all_eq_true.mp h j hj
  simpa using this
theorem words_all {ps : List (List Int)} (h : ps.all (fun p => decide (p.length ≤ 1000)) = true) : ∀ p ∈ ps, p.length ≤ 1000 := fun p hp => by
  have := List.all_eq_true.mp h p hp
  simpa using this
theorem told_row (ps : List (List Int)) (r : List Nat) {k : PyData → Prop} (h1 : r.all (· < ps.length) = true) (h2 : ps.length ≤ 10) (h3 : ps.all (fun p => decide (p.length ≤ 1000)) = true) (h4 : r.length ≤ 50) (h : k (wordD (rowOf ps r))) : df_row_word [.tuple (ps.map wordD), .tuple (r.map fun j : Nat => PyData.int (j : Int))] k :=
  ⟨ps, r, rfl, row_all h1, h2, words_all h3, h4, h⟩
def handE : List PyData := [rowD [], rowD [0], rowD [1], rowD [1, 0], rowD [0, 1], .list [.str "none"], .list [.str "none"]]
theorem ok__law_by_hand_right (F : Fun K "_law_by_hand_right" "_law_by_hand_right" s__law_by_hand_right f fd) (D_row_word : Df P w K mg base "row_word" ["words", "row"] 3 (spP K df_row_word))
    (D__law_heard : Df P w K mg base "_law_heard" ["pair", "word"] 5 (spP K df_heard)) (D__law_same : Df P w K mg base "_law_same" ["got", "goal"] 3 (spP K (df_same 3))) : FnOk P w K mg base CX0 6 f fd [] (spP K df_hand) := by
  refine ok_P F sc__law_by_hand_right (fun ds k h => ?_) (fun cdv A outer s H E C hr => ⟨_,
    (pds_cons (pds_set (pd_tup (pda_cons (pd_tup (pda_cons pd_int (pda_cons pd_int pda_nil))) (pda_cons (pd_tup (pda_cons pd_int (pda_cons pd_int (pda_cons pd_int pda_nil)))) pda_nil))) (pg_name (i := 0) sc__law_by_hand_right.nd rfl (by first | exact Or.inl rfl | exact Or.inr rfl)))
      (pds_cons (pds_lc (i := 1) rfl sc__law_by_hand_right.nd rfl rfl (sw_true rfl rfl rfl (by decide +kernel)) (pdi_T (pd_tup (pda_cons (pd_tup pda_nil) (pda_cons (pd_tup (pda_cons pd_int (pda_cons pd_int pda_nil))) (pda_cons (pd_tup (pda_cons pd_int (pda_cons pd_int (pda_cons pd_int pda_nil)))) (pda_cons (pd_tup (pda_cons pd_int (pda_cons pd_int (pda_cons pd_int (pda_cons pd_int (pda_cons pd_int pda_nil)))))) (pda_cons (pd_tup (pda_cons pd_int (pda_cons pd_int (pda_cons pd_int (pda_cons pd_int (pda_cons pd_int pda_nil)))))) (pda_cons (pd_tup (pda_cons pd_int pda_nil)) (pda_cons (pd_tup (pda_cons pd_int (pda_cons pd_int (pda_cons pd_int pda_nil)))) pda_nil))))))))) (blkOk_by (own := [("own", 2)]) (show blkC ["pair", "heard", "own", "due"] (defScope s__law_by_hand_right) _ _ = true by decide +kernel)) (fun _ _ _ _ _ => (pdg_n (pg_name (i := 2) sc__law_by_hand_right.nd rfl (by first | exact Or.inl rfl | exact Or.inr rfl)))) (fun _ _ _ _ _ _ => (pd_callD D__law_heard (hr.mono (by decide)) rfl (pda_cons (pd_v 0) (pda_cons (pd_v 2) pda_nil)))))
      (pds_cons (pds_set (pd_lst (pda_cons (pd_tup pda_nil) (pda_cons (pd_tup (pda_cons pd_int pda_nil)) (pda_cons (pd_tup (pda_cons pd_int pda_nil)) (pda_cons (pd_tup (pda_cons pd_int (pda_cons pd_int pda_nil))) (pda_cons (pd_tup (pda_cons pd_int (pda_cons pd_int pda_nil))) (pda_cons (pd_lst (pda_cons pd_str pda_nil)) (pda_cons (pd_lst (pda_cons pd_str pda_nil)) pda_nil)))))))) (pg_name (i := 3) sc__law_by_hand_right.nd rfl (by first | exact Or.inl rfl | exact Or.inr rfl)))
      (pds_cons (pds_set (pd_add (pd_v 1) (pd_lst (pda_cons (pd_callD D__law_heard (hr.mono (by decide)) rfl (pda_cons (pd_tup (pda_cons (pd_tup (pda_cons pd_int pda_nil)) (pda_cons (pd_tup (pda_cons pd_int (pda_cons pd_int pda_nil))) pda_nil))) (pda_cons (pd_tup (pda_cons pd_int (pda_cons pd_int pda_nil))) pda_nil))) (pda_cons (pd_callD D__law_heard (hr.mono (by decide)) rfl (pda_cons (pd_tup (pda_cons (pd_tup pda_nil) (pda_cons (pd_tup (pda_cons pd_int pda_nil)) pda_nil))) (pda_cons (pd_tup pda_nil) pda_nil))) (pda_cons (pd_callD D_row_word (hr.mono (by decide)) rfl (pda_cons (pd_v 0) (pda_cons (pd_tup (pda_cons pd_int (pda_cons pd_int (pda_cons pd_int pda_nil)))) pda_nil))) (pda_cons (pd_callD D_row_word (hr.mono (by decide)) rfl (pda_cons (pd_tup (pda_cons (pd_ix (pd_v 0) pd_int) (pda_cons (pd_tup pda_nil) (pda_cons (pd_ix (pd_v 0) pd_int) pda_nil)))) (pda_cons (pd_tup (pda_cons pd_int (pda_cons pd_int pda_nil))) pda_nil))) (pda_cons (pd_callD D_row_word (hr.mono (by decide)) rfl (pda_cons (pd_v 0) (pda_cons (pd_tup (pda_cons pd_int (pda_cons pd_int pda_nil))) pda_nil))) pda_nil))))))) (pg_name (i := 1) sc__law_by_hand_right.nd rfl (by first | exact Or.inl rfl | exact Or.inr rfl)))
      (pds_cons (pds_ret (pd_callD D__law_same (hr.mono (by omega)) rfl (pda_cons (pd_v 1) (pda_cons (pd_add (pd_v 3) (pd_lst (pda_cons (pd_lst (pda_cons pd_str pda_nil)) (pda_cons (pd_lst (pda_cons pd_str pda_nil)) (pda_cons (pd_tup (pda_cons pd_int (pda_cons pd_int (pda_cons pd_int (pda_cons pd_int (pda_cons pd_int (pda_cons pd_int (pda_cons pd_int (pda_cons pd_int pda_nil))))))))) (pda_cons (pd_tup (pda_cons pd_int (pda_cons pd_int (pda_cons pd_int pda_nil)))) (pda_cons (pd_tup (pda_cons pd_int (pda_cons pd_int (pda_cons pd_int (pda_cons pd_int (pda_cons pd_int pda_nil)))))) pda_nil))))))) pda_nil))))
      pds_nil))))), ?_⟩)
  · obtain ⟨rfl, _⟩ := h
    rfl
  rintro ds kk ⟨rfl, hk⟩
  repeat refine ⟨by decide, ?_⟩
  refine ⟨_, rfl, fun i hi => by rw [List.mem_singleton.mp hi]; rfl, fun j acc ρ => ρ = [.d (.tuple [wordD [0, 1], wordD [0, 1, 0]]), .un, .un, .un] ∧ acc = handE.take j, ⟨rfl, rfl⟩, ?_, ?_⟩
  · rintro j d acc ρ hj ⟨rfl, rfl⟩
    refine ⟨fun i hi => by rw [List.mem_singleton.mp hi]; rfl, ?_⟩
    match j, hj with
    | 0, h =>
      obtain rfl := Option.some.inj h
      refine ⟨_, rfl, _, rfl, ?_⟩
      dsimp only [wNil]
      exact heard_row (u := [0, 1]) (v := [0, 1, 0]) (w := []) [] (by decide) (by decide) (by decide) (by decide) (by decide) (by decide) ⟨by decide, rfl, rfl, rfl⟩
    | 1, h =>
      obtain rfl := Option.some.inj h
      refine ⟨_, rfl, _, rfl, ?_⟩
      dsimp only [wNil]
      exact heard_row (u := [0, 1]) (v := [0, 1, 0]) (w := [0, 1]) [0] (by decide) (by decide) (by decide) (by decide) (by decide) (by decide) ⟨by decide, rfl, rfl, rfl⟩
    | 2, h =>
      obtain rfl := Option.some.inj h
      refine ⟨_, rfl, _, rfl, ?_⟩
      dsimp only [wNil]
      exact heard_row (u := [0, 1]) (v := [0, 1, 0]) (w := [0, 1, 0]) [1] (by decide) (by decide) (by decide) (by decide) (by decide) (by decide) ⟨by decide, rfl, rfl, rfl⟩
    | 3, h =>
      obtain rfl := Option.some.inj h
      refine ⟨_, rfl, _, rfl, ?_⟩
      dsimp only [wNil]
      exact heard_row (u := [0, 1]) (v := [0, 1, 0]) (w := [0, 1, 0, 0, 1]) [1, 0] (by decide) (by decide) (by decide) (by decide) (by decide) (by decide) ⟨by decide, rfl, rfl, rfl⟩
    | 4, h =>
      obtain rfl := Option.some.inj h
      refine ⟨_, rfl, _, rfl, ?_⟩
      dsimp only [wNil]
      exact heard_row (u := [0, 1]) (v := [0, 1, 0]) (w := [0, 1, 0, 1, 0]) [0, 1] (by decide) (by decide) (by decide) (by decide) (by decide) (by decide) ⟨by decide, rfl, rfl, rfl⟩
    | 5, h =>
      obtain rfl := Option.some.inj h
      refine ⟨_, rfl, _, rfl, ?_⟩
      dsimp only [wNil]
      exact heard_none (u := [0, 1]) (v := [0, 1, 0]) (w := [0]) (by decide) (no_short (by decide) (by decide)) (by decide) (by decide) (by decide) ⟨by decide, rfl, rfl, rfl⟩
    | 6, h =>
      obtain rfl := Option.some.inj h
      refine ⟨_, rfl, _, rfl, ?_⟩
      dsimp only [wNil]
      exact heard_none (u := [0, 1]) (v := [0, 1, 0]) (w := [0, 1, 1]) (by decide) no_011 (by decide) (by decide) (by decide) ⟨by decide, rfl, rfl, rfl⟩
    | j + 7, h => cases h
  · rintro acc ρ ⟨rfl, rfl⟩
    refine ⟨fun i hi => by rw [List.mem_singleton.mp hi]; rfl, ?_⟩
    repeat refine ⟨by decide, ?_⟩
    refine ⟨_, rfl, ?_⟩
    repeat refine ⟨by decide, ?_⟩
    dsimp only [wNil]
    refine heard_unfit (u := [0]) (v := [0, 0]) (w := [0, 0]) (by decide) (by decide) (by decide) (by decide) ?_
    repeat refine ⟨by decide, ?_⟩
    dsimp only [wNil]
    refine heard_unfit (u := []) (v := [1]) (w := []) (by decide) (by decide) (by decide) (by decide) ?_
    refine ⟨_, rfl, by decide, ?_⟩
    dsimp only [wNil]
    refine told_row [[0, 1], [0, 1, 0]] [1, 0, 1] (by decide) (by decide) (by decide) (by decide) ?_
    refine ⟨_, rfl, _, 0, _, rfl, rfl, rfl, by decide, _, rfl, _, 1, _, rfl, rfl, rfl, by decide, by decide, ?_⟩
    dsimp only [wNil]
    refine told_row [[0, 1], [], [0, 1, 0]] [1, 2] (by decide) (by decide) (by decide) (by decide) ?_
    refine ⟨_, rfl, by decide, ?_⟩
    dsimp only [wNil]
    refine told_row [[0, 1], [0, 1, 0]] [0, 1] (by decide) (by decide) (by decide) (by decide) ?_
    refine ⟨by decide, by decide, ?_⟩
    refine ⟨_, rfl, _, rfl, ?_⟩
    repeat refine ⟨by decide, ?_⟩
    refine ⟨_, rfl, sameB_ok 3 _ (by decide +kernel), hk⟩
theorem ok_law (F : Fun K "law" "law" s_law f fd) (m_all : mg "all" = none) (m_len : mg "len" = none) (m_range : mg "range" = none) (D__law_by_hand_right : Df P w K mg base "_law_by_hand_right" [] 6 (spP K df_hand)) (D__law_cells : Df P w K mg base "_law_cells" ["script", "top"] 1 (spP K df_cells))
    (D__law_right : Df P w K mg base "_law_right" ["urn"] 61 (spU K uf_right)) (D__law_box : Df P w K mg base "_law_box" ["script", "k"] 1 (spL K f_box)) : FnOk P w K mg base CX0 62 f fd ["script"] (spP K df_law) := by
  refine ok_P F sc_law (fun ds k h => ?_) (fun cdv A outer s H E C hr => ⟨_,
    (pds_cons (pds_if (pdt_not (pdt_tru (pd_callD0 D__law_by_hand_right (hr.mono (by decide)) rfl))) (pds_cons (pds_ret pd_bl)
      pds_nil) pds_nil)
      (pds_cons (pds_set (pd_callD D__law_cells (hr.mono (by decide)) rfl (pda_cons (pd_v 0) (pda_cons pd_int pda_nil))) (pg_name (i := 1) sc_law.nd rfl (by first | exact Or.inl rfl | exact Or.inr rfl)))
      (pds_cons (pds_ret (pd_all rfl m_all rfl (pda_cons (pd_lc rfl sc_law.nd (pdi_R rfl m_range (pda_cons (pd_len m_len rfl (pda_cons (pd_v 1) pda_nil)) pda_nil)) (blkOk_by (own := [("k", 2)]) (show blkC ["script", "cells_so", "k"] (defScope s_law) _ _ = true by decide +kernel)) (fun _ _ _ _ _ => (pdg_n (pg_name (i := 2) sc_law.nd rfl (by first | exact Or.inl rfl | exact Or.inr rfl)))) (fun _ _ _ _ _ _ => (pd_box D__law_right D__law_box (hr.mono (by decide)) (hr.mono (by decide)) rfl rfl (pda_cons (pd_v 1) (pda_cons (pd_v 2) pda_nil))))) pda_nil)))
      pds_nil))), ?_⟩)
  · obtain ⟨ns, rfl, _⟩ := h
    rfl
  rintro ds kk ⟨ns, rfl, hl, hk⟩
  refine ⟨rfl, true, rfl, iteF ?_⟩
  refine ⟨_, rfl, ns, rfl, hl, fun cs h1 h2 => ?_⟩
  have hlc : (cs.map PyData.int).length = cs.length := List.length_map _
  refine ⟨_, rfl, _, _, rfl, rfl, _, rfl, by rw [hlc]; omega, by rw [hlc]; omega, fun i hi => by rw [List.mem_singleton.mp hi]; rfl, fun j acc ρ => ρ = [.d (.list (ns.map .int)), .d (.list (cs.map .int)), .un] ∧ acc = (List.replicate j true).map .bool, ⟨rfl, rfl⟩, ?_, ?_⟩
  · rintro j d acc ρ hj ⟨rfl, rfl⟩
    have hjl : j < cs.length := by
      have := (List.getElem?_eq_some_iff.mp hj).1
      rw [rangeD_len, hlc] at this
      omega
    have hd : d = .int (j : Int) := by
      rw [rangeD_get (by rw [hlc]; omega)] at hj
      rw [← Option.some.inj hj]
      congr 1
      omega
    subst hd
    refine ⟨fun i hi => by rw [List.mem_singleton.mp hi]; rfl, ?_⟩
    refine ⟨_, rfl, _, rfl, cs, j, rfl, hjl, by omega, fun b s hb hs1 hs2 => ⟨b, s, 0, rfl, hb, hs1, hs2, rfl, by decide, fun n' => ⟨by rw [List.length_map, List.length_replicate]; omega, rfl, rfl, ?_⟩⟩⟩
    rw [List.replicate_succ', List.map_append]
    rfl
  · rintro acc ρ ⟨rfl, rfl⟩
    refine ⟨fun i hi => by rw [List.mem_singleton.mp hi]; rfl, _, rfl, ?_⟩
    have e : (List.replicate (rangeD 0 ((cs.map PyData.int).length : Int).toNat).length true).all id = true := by simp
    rw [e]
    exact hk
end
end K3
set_option Elab.async false
set_option linter.all false
set_option maxRecDepth 100000
set_option maxHeartbeats 4000000
namespace K3
open PySem PySem.Spec PyProof.Rows L2 DL
section
variable {P : Program} {w : World} {K : PySem.W.Frag} {mg : Str → Option Value} {base : Heap} {f : Addr} {fd : FuncData}
/-! ### require_place, row_word -/
theorem ok_require_place (F : Fun K "require_place" "require_place" s_require_place f fd) : FnOk P w K mg base CX0 1 f fd ["place", "many"] (spP K df_place) := by
  refine ok_P F sc_require_place (fun ds k h => ?_) (fun cdv A outer s H E C hr => ⟨_,
    (pds_cons (pds_if (pdt_not (pdt_lelt pd_int (pd_v 0) (pd_v 1))) (pds_cons pds_no
      pds_nil) pds_nil)
      pds_nil), ?_⟩)
  · obtain ⟨i, n, rfl, _⟩ := h
    rfl
  rintro ds kk ⟨i, n, rfl, h0, h1, hk⟩
  refine ⟨_, rfl, 0, i, rfl, rfl, ?_⟩
  rw [decide_eq_true h0]
  refine iteT ⟨_, rfl, n, rfl, ?_⟩
  rw [decide_eq_true h1]
  exact iteF hk
theorem ok_row_word (F : Fun K "row_word" "row_word" s_row_word f fd) (m_len : mg "len" = none) (m_tuple : mg "tuple" = none) (D_frozen : Df P w K mg base "frozen" ["value"] 2 (spP K df_frozen)) (D_require_place : Df P w K mg base "require_place" ["place", "many"] 1 (spP K df_place)) : FnOk P w K mg base CX0 3 f fd ["words", "row"] (spP K df_row_word) := by
  refine ok_P F sc_row_word (fun ds k h => ?_) (fun cdv A outer s H E C hr => ⟨_,
    (pds_cons (pds_parOD (i := 2) (j := 3) rfl sc_row_word.nd rfl rfl (by decide) rfl rfl pda_nil (fun _ => (pd_callD D_frozen (hr.mono (by decide)) rfl (pda_cons (pd_v 0) pda_nil))) (by rfl))
      (pds_cons (pds_for PassesOwn.never rfl (pdi_T (pd_callD D_frozen (hr.mono (by decide)) rfl (pda_cons (pd_v 1) pda_nil))) (pdg_n (pg_name (i := 4) sc_row_word.nd rfl (by first | exact Or.inl rfl | exact Or.inr rfl))) (pds_cons (pds_expr (pd_callD D_require_place (hr.mono (by decide)) rfl (pda_cons (pd_v 4) (pda_cons (pd_len m_len rfl (pda_cons (pd_v 3) pda_nil)) pda_nil))))
      (pds_cons (pds_extT (pv 2) (pd_ix (pd_v 3) (pd_v 4)))
      pds_nil)))
      (pds_freeze 2 (pds_cons (pds_ret (pd_tupleOf m_tuple rfl (pda_cons (pd_v 2) pda_nil)))
      pds_nil)))), ?_⟩)
  · obtain ⟨ps, r, rfl, _⟩ := h
    rfl
  rintro ds kk ⟨ps, r, rfl, hr1, hp, hpl, hrl, hk⟩
  have z1 : noL (.tuple (ps.map wordD)) = true := by simp only [noL]; exact noLs_words ps
  have z2 : noL (.tuple (r.map fun j : Nat => PyData.int (j : Int))) = true := by simp only [noL]; exact noLs_nats r
  have z3 : sz (.tuple (ps.map wordD)) ≤ 90000 := by
    simp only [sz]
    have := szs_words hpl
    omega
  have z4 : sz (.tuple (r.map fun j : Nat => PyData.int (j : Int))) ≤ 90000 := by
    simp only [sz]
    rw [szs_nats]
    omega
  refine ⟨(by decide : 0 ≤ 1000), _, rfl, _, rfl, z1, z3, ?_⟩
  refine ⟨_, rfl, _, rfl, z2, z4, _, rfl, fun j ρ => ∃ s4 : Slot, ρ = [.d (.tuple (ps.map wordD)), .d (.tuple (r.map fun j : Nat => PyData.int (j : Int))), .own ((rowOf ps (r.take j)).map .int), .d (.tuple (ps.map wordD)), s4], ⟨_, rfl⟩, ?_, ?_⟩
  · rintro j d ρ hj ⟨s4, rfl⟩
    rw [List.getElem?_map] at hj
    cases e : r[j]? with
    | none => rw [e] at hj; cases hj
    | some q =>
      rw [e] at hj
      obtain rfl := Option.some.inj hj
      have hq : q < ps.length := hr1 q (List.mem_of_getElem? e)
      have hjl : j < r.length := (List.getElem?_eq_some_iff.mp e).1
      refine ⟨_, rfl, _, rfl, _, _, rfl, rfl, (q : Int), _, rfl, by omega, by rw [List.length_map]; exact_mod_cast hq, ?_⟩
      refine ⟨⟨_, rfl⟩, _, rfl, _, rfl, _, _, wordD ps[q], rfl, rfl, atI_nat (by rw [List.getElem?_map, List.getElem?_eq_getElem hq]; rfl), ?_⟩
      have b1 := rowOf_len hpl (r.take j)
      have b2 := hpl ps[q] (List.getElem_mem hq)
      rw [List.length_take] at b1
      refine ⟨_, _, rfl, rfl, by rw [List.length_map, List.length_map]; omega, .d (.int (q : Int)), ?_⟩
      rw [← List.map_append, ← rowOf_step hq e]
      rfl
  · rintro ρ ⟨s4, rfl⟩
    rw [List.length_map, List.take_length]
    exact ⟨_, rfl, _, rfl, _, _, rfl, rfl, hk⟩
end
end K3
set_option Elab.async false
set_option linter.all false
set_option maxRecDepth 100000
set_option maxHeartbeats 4000000
namespace K3
open PySem PySem.Spec PyProof.Rows L2 DL
theorem all_mk {P : Program} {w : World} {K : PySem.W.Frag} {h : Heap} {mg : Str → Option Value} {fa CU CN f0 f1 f2 f3 f4 f5 f6 f7 f8 f9 f10 f11 f12 f13 f14 f15 f16 : Addr} (X : K.In h) (G : h.Ns mainGlobals mg) (hfa : mg "law" = some (.ref fa))
    {od0 an0 od1 an1 od2 an2 od3 an3 od4 an4 od5 an5 od6 an6 od7 an7 od8 an8 od9 an9 od10 an10 od11 an11 od12 an12 od13 an13 od14 an14 od15 an15 od16 an16 : Option Addr} {sl0 sl1 sl2 sl3 sl4 sl5 sl6 sl7 sl8 sl9 sl10 sl11 sl12 sl13 sl14 sl15 sl16 : Array (Option Value)} {oc0 kV0 dc0 pm0 cd0 ct0 oc1 kV1 dc1 pm1 cd1 ct1 oc2 kV2 dc2 pm2 cd2 ct2 oc3 kV3 dc3 pm3 cd3 ct3 oc4 kV4 dc4 pm4 cd4 ct4 oc5 kV5 dc5 pm5 cd5 ct5 oc6 kV6 dc6 pm6 cd6 ct6 oc7 kV7 dc7 pm7 cd7 ct7 oc8 kV8 dc8 pm8 cd8 ct8 oc9 kV9 dc9 pm9 cd9 ct9 oc10 kV10 dc10 pm10 cd10 ct10 oc11 kV11 dc11 pm11 cd11 ct11 oc12 kV12 dc12 pm12 cd12 ct12 oc13 kV13 dc13 pm13 cd13 ct13 oc14 kV14 dc14 pm14 cd14 ct14 oc15 kV15 dc15 pm15 cd15 ct15 oc16 kV16 dc16 pm16 cd16 ct16 : Value}
    (aU : PySem.W.nsIn K mainGlobals "Unfit" = some (some (.ref CU))) (xU : PySem.W.excIn K CU veB "ValueError.__new__" = true) (kU : PySem.W.keepIn K (.ref CU) = true) (bU : PySem.W.subIn K (.ref CU) (.type "BaseException") = some true) (tU : PySem.W.typeIn K (.ref CU) = some (.type "type")) (iU : PySem.W.isClsIn K CU = true)
    (aN : PySem.W.nsIn K mainGlobals "CanNot" = some (some (.ref CN))) (xN : PySem.W.excIn K CN veB "ValueError.__new__" = true) (kN : PySem.W.keepIn K (.ref CN) = true) (bN : PySem.W.subIn K (.ref CN) (.type "BaseException") = some true) (tN : PySem.W.typeIn K (.ref CN) = some (.type "type")) (iN : PySem.W.isClsIn K CN = true)
    (sNN : PySem.W.subIn K (.ref CN) (.ref CN) = some true) (sUU : PySem.W.subIn K (.ref CU) (.ref CU) = some true) (sUN : PySem.W.subIn K (.ref CU) (.ref CN) = some false)
    (a0 : PySem.W.nsIn K mainGlobals "_holds_list" = some (some (.ref f0))) (l0 : K.lookup f0 = some ⟨oc0, od0, .func (PySem.W.fnOf "_holds_list" "_holds_list" (defArgs s__holds_list) (defBody s__holds_list) (defScope s__holds_list) .none kV0 dc0 pm0 an0 cd0 ct0), sl0⟩) (c0 : PySem.W.codeIn K cd0 "_holds_list" = true) (k0 : PySem.W.keepIn K (.ref f0) = true)
    (a1 : PySem.W.nsIn K mainGlobals "frozen" = some (some (.ref f1))) (l1 : K.lookup f1 = some ⟨oc1, od1, .func (PySem.W.fnOf "frozen" "frozen" (defArgs s_frozen) (defBody s_frozen) (defScope s_frozen) .none kV1 dc1 pm1 an1 cd1 ct1), sl1⟩) (c1 : PySem.W.codeIn K cd1 "frozen" = true) (k1 : PySem.W.keepIn K (.ref f1) = true)
    (a2 : PySem.W.nsIn K mainGlobals "require_place" = some (some (.ref f2))) (l2 : K.lookup f2 = some ⟨oc2, od2, .func (PySem.W.fnOf "require_place" "require_place" (defArgs s_require_place) (defBody s_require_place) (defScope s_require_place) .none kV2 dc2 pm2 an2 cd2 ct2), sl2⟩) (c2 : PySem.W.codeIn K cd2 "require_place" = true) (k2 : PySem.W.keepIn K (.ref f2) = true)
    (a3 : PySem.W.nsIn K mainGlobals "commute" = some (some (.ref f3))) (l3 : K.lookup f3 = some ⟨oc3, od3, .func (PySem.W.fnOf "commute" "commute" (defArgs s_commute) (defBody s_commute) (defScope s_commute) .none kV3 dc3 pm3 an3 cd3 ct3), sl3⟩) (c3 : PySem.W.codeIn K cd3 "commute" = true) (k3 : PySem.W.keepIn K (.ref f3) = true)
    (a4 : PySem.W.nsIn K mainGlobals "row_word" = some (some (.ref f4))) (l4 : K.lookup f4 = some ⟨oc4, od4, .func (PySem.W.fnOf "row_word" "row_word" (defArgs s_row_word) (defBody s_row_word) (defScope s_row_word) .none kV4 dc4 pm4 an4 cd4 ct4), sl4⟩) (c4 : PySem.W.codeIn K cd4 "row_word" = true) (k4 : PySem.W.keepIn K (.ref f4) = true)
    (a5 : PySem.W.nsIn K mainGlobals "row_told" = some (some (.ref f5))) (l5 : K.lookup f5 = some ⟨oc5, od5, .func (PySem.W.fnOf "row_told" "row_told" (defArgs s_row_told) (defBody s_row_told) (defScope s_row_told) .none kV5 dc5 pm5 an5 cd5 ct5), sl5⟩) (c5 : PySem.W.codeIn K cd5 "row_told" = true) (k5 : PySem.W.keepIn K (.ref f5) = true)
    (a6 : PySem.W.nsIn K mainGlobals "_first_places" = some (some (.ref f6))) (l6 : K.lookup f6 = some ⟨oc6, od6, .func (PySem.W.fnOf "_first_places" "_first_places" (defArgs s__first_places) (defBody s__first_places) (defScope s__first_places) .none kV6 dc6 pm6 an6 cd6 ct6), sl6⟩) (c6 : PySem.W.codeIn K cd6 "_first_places" = true) (k6 : PySem.W.keepIn K (.ref f6) = true)
    (a7 : PySem.W.nsIn K mainGlobals "_law_box" = some (some (.ref f7))) (l7 : K.lookup f7 = some ⟨oc7, od7, .func (PySem.W.fnOf "_law_box" "_law_box" (defArgs s__law_box) (defBody s__law_box) (defScope s__law_box) .none kV7 dc7 pm7 an7 cd7 ct7), sl7⟩) (c7 : PySem.W.codeIn K cd7 "_law_box" = true) (k7 : PySem.W.keepIn K (.ref f7) = true)
    (a8 : PySem.W.nsIn K mainGlobals "_law_take" = some (some (.ref f8))) (l8 : K.lookup f8 = some ⟨oc8, od8, .func (PySem.W.fnOf "_law_take" "_law_take" (defArgs s__law_take) (defBody s__law_take) (defScope s__law_take) .none kV8 dc8 pm8 an8 cd8 ct8), sl8⟩) (c8 : PySem.W.codeIn K cd8 "_law_take" = true) (k8 : PySem.W.keepIn K (.ref f8) = true)
    (a9 : PySem.W.nsIn K mainGlobals "_law_cells" = some (some (.ref f9))) (l9 : K.lookup f9 = some ⟨oc9, od9, .func (PySem.W.fnOf "_law_cells" "_law_cells" (defArgs s__law_cells) (defBody s__law_cells) (defScope s__law_cells) .none kV9 dc9 pm9 an9 cd9 ct9), sl9⟩) (c9 : PySem.W.codeIn K cd9 "_law_cells" = true) (k9 : PySem.W.keepIn K (.ref f9) = true)
    (a10 : PySem.W.nsIn K mainGlobals "_law_same" = some (some (.ref f10))) (l10 : K.lookup f10 = some ⟨oc10, od10, .func (PySem.W.fnOf "_law_same" "_law_same" (defArgs s__law_same) (defBody s__law_same) (defScope s__law_same) .none kV10 dc10 pm10 an10 cd10 ct10), sl10⟩) (c10 : PySem.W.codeIn K cd10 "_law_same" = true) (k10 : PySem.W.keepIn K (.ref f10) = true)
    (a11 : PySem.W.nsIn K mainGlobals "_law_word" = some (some (.ref f11))) (l11 : K.lookup f11 = some ⟨oc11, od11, .func (PySem.W.fnOf "_law_word" "_law_word" (defArgs s__law_word) (defBody s__law_word) (defScope s__law_word) .none kV11 dc11 pm11 an11 cd11 ct11), sl11⟩) (c11 : PySem.W.codeIn K cd11 "_law_word" = true) (k11 : PySem.W.keepIn K (.ref f11) = true)
    (a12 : PySem.W.nsIn K mainGlobals "_law_heard" = some (some (.ref f12))) (l12 : K.lookup f12 = some ⟨oc12, od12, .func (PySem.W.fnOf "_law_heard" "_law_heard" (defArgs s__law_heard) (defBody s__law_heard) (defScope s__law_heard) .none kV12 dc12 pm12 an12 cd12 ct12), sl12⟩) (c12 : PySem.W.codeIn K cd12 "_law_heard" = true) (k12 : PySem.W.keepIn K (.ref f12) = true)
    (a13 : PySem.W.nsIn K mainGlobals "_law_ways" = some (some (.ref f13))) (l13 : K.lookup f13 = some ⟨oc13, od13, .func (PySem.W.fnOf "_law_ways" "_law_ways" (defArgs s__law_ways) (defBody s__law_ways) (defScope s__law_ways) .none kV13 dc13 pm13 an13 cd13 ct13), sl13⟩) (c13 : PySem.W.codeIn K cd13 "_law_ways" = true) (k13 : PySem.W.keepIn K (.ref f13) = true)
    (a14 : PySem.W.nsIn K mainGlobals "_law_right" = some (some (.ref f14))) (l14 : K.lookup f14 = some ⟨oc14, od14, .func (PySem.W.fnOf "_law_right" "_law_right" (defArgs s__law_right) (defBody s__law_right) (defScope s__law_right) .none kV14 dc14 pm14 an14 cd14 ct14), sl14⟩) (c14 : PySem.W.codeIn K cd14 "_law_right" = true) (k14 : PySem.W.keepIn K (.ref f14) = true)
    (a15 : PySem.W.nsIn K mainGlobals "_law_by_hand_right" = some (some (.ref f15))) (l15 : K.lookup f15 = some ⟨oc15, od15, .func (PySem.W.fnOf "_law_by_hand_right" "_law_by_hand_right" (defArgs s__law_by_hand_right) (defBody s__law_by_hand_right) (defScope s__law_by_hand_right) .none kV15 dc15 pm15 an15 cd15 ct15), sl15⟩) (c15 : PySem.W.codeIn K cd15 "_law_by_hand_right" = true) (k15 : PySem.W.keepIn K (.ref f15) = true)
    (a16 : PySem.W.nsIn K mainGlobals "law" = some (some (.ref f16))) (l16 : K.lookup f16 = some ⟨oc16, od16, .func (PySem.W.fnOf "law" "law" (defArgs s_law) (defBody s_law) (defScope s_law) .none kV16 dc16 pm16 an16 cd16 ct16), sl16⟩) (c16 : PySem.W.codeIn K cd16 "law" = true) (k16 : PySem.W.keepIn K (.ref f16) = true)
    (z_isinstance : PySem.W.nsIn K mainGlobals "isinstance" = some none)
    (z_tuple : PySem.W.nsIn K mainGlobals "tuple" = some none)
    (z_list : PySem.W.nsIn K mainGlobals "list" = some none)
    (z_len : PySem.W.nsIn K mainGlobals "len" = some none)
    (z_int : PySem.W.nsIn K mainGlobals "int" = some none)
    (z_abs : PySem.W.nsIn K mainGlobals "abs" = some none)
    (z_enumerate : PySem.W.nsIn K mainGlobals "enumerate" = some none)
    (z_reversed : PySem.W.nsIn K mainGlobals "reversed" = some none)
    (z_range : PySem.W.nsIn K mainGlobals "range" = some none)
    (z_zip : PySem.W.nsIn K mainGlobals "zip" = some none)
    (z_all : PySem.W.nsIn K mainGlobals "all" = some none)
    (z_bool : PySem.W.nsIn K mainGlobals "bool" = some none)
    (z_str : PySem.W.nsIn K mainGlobals "str" = some none)
    : ∃ fd : FuncData, (∀ (s : Shared) (u : Value), BindsTo s fd ⟨[u], []⟩ [("script", u)]) ∧ ∀ base : Heap, K.In base → base.Ns mainGlobals mg → FnOk P w K mg base CX0 62 fa fd ["script"] (spP K df_law) := by
  have e := hfa.symm.trans (PySem.W.mg_of X G a16)
  cases e
  have F0 := fun_mk (st := s__holds_list) l0 c0 k0
  have b0 := F0.binds (ps := ["value"]) fun _ _ _ _ _ _ us hl => match us, hl with | [_], _ => rfl
  have g0 := PySem.W.mg_of X G a0
  have F1 := fun_mk (st := s_frozen) l1 c1 k1
  have b1 := F1.binds (ps := ["value"]) fun _ _ _ _ _ _ us hl => match us, hl with | [_], _ => rfl
  have g1 := PySem.W.mg_of X G a1
  have F2 := fun_mk (st := s_require_place) l2 c2 k2
  have b2 := F2.binds (ps := ["place", "many"]) fun _ _ _ _ _ _ us hl => match us, hl with | [_, _], _ => rfl
  have g2 := PySem.W.mg_of X G a2
  have F3 := fun_mk (st := s_commute) l3 c3 k3
  have b3 := F3.binds (ps := ["word", "other"]) fun _ _ _ _ _ _ us hl => match us, hl with | [_, _], _ => rfl
  have g3 := PySem.W.mg_of X G a3
  have F4 := fun_mk (st := s_row_word) l4 c4 k4
  have b4 := F4.binds (ps := ["words", "row"]) fun _ _ _ _ _ _ us hl => match us, hl with | [_, _], _ => rfl
  have g4 := PySem.W.mg_of X G a4
  have F5 := fun_mk (st := s_row_told) l5 c5 k5
  have b5 := F5.binds (ps := ["words", "word"]) fun _ _ _ _ _ _ us hl => match us, hl with | [_, _], _ => rfl
  have g5 := PySem.W.mg_of X G a5
  have F6 := fun_mk (st := s__first_places) l6 c6 k6
  have b6 := F6.binds (ps := ["pair", "whole"]) fun _ _ _ _ _ _ us hl => match us, hl with | [_, _], _ => rfl
  have g6 := PySem.W.mg_of X G a6
  have F7 := fun_mk (st := s__law_box) l7 c7 k7
  have b7 := F7.binds (ps := ["script", "k"]) fun _ _ _ _ _ _ us hl => match us, hl with | [_, _], _ => rfl
  have g7 := PySem.W.mg_of X G a7
  have F8 := fun_mk (st := s__law_take) l8 c8 k8
  have b8 := F8.binds (ps := ["urn", "low_so"]) fun _ _ _ _ _ _ us hl => match us, hl with | [_, _], _ => rfl
  have g8 := PySem.W.mg_of X G a8
  have F9 := fun_mk (st := s__law_cells) l9 c9 k9
  have b9 := F9.binds (ps := ["script", "top"]) fun _ _ _ _ _ _ us hl => match us, hl with | [_, _], _ => rfl
  have g9 := PySem.W.mg_of X G a9
  have F10 := fun_mk (st := s__law_same) l10 c10 k10
  have b10 := F10.binds (ps := ["got", "goal"]) fun _ _ _ _ _ _ us hl => match us, hl with | [_, _], _ => rfl
  have g10 := PySem.W.mg_of X G a10
  have F11 := fun_mk (st := s__law_word) l11 c11 k11
  have b11 := F11.binds (ps := ["urn", "most", "kinds_so"]) fun _ _ _ _ _ _ us hl => match us, hl with | [_, _, _], _ => rfl
  have g11 := PySem.W.mg_of X G a11
  have F12 := fun_mk (st := s__law_heard) l12 c12 k12
  have b12 := F12.binds (ps := ["pair", "word"]) fun _ _ _ _ _ _ us hl => match us, hl with | [_, _], _ => rfl
  have g12 := PySem.W.mg_of X G a12
  have F13 := fun_mk (st := s__law_ways) l13 c13 k13
  have b13 := F13.binds (ps := ["pair", "word"]) fun _ _ _ _ _ _ us hl => match us, hl with | [_, _], _ => rfl
  have g13 := PySem.W.mg_of X G a13
  have F14 := fun_mk (st := s__law_right) l14 c14 k14
  have b14 := F14.binds (ps := ["urn"]) fun _ _ _ _ _ _ us hl => match us, hl with | [_], _ => rfl
  have g14 := PySem.W.mg_of X G a14
  have F15 := fun_mk (st := s__law_by_hand_right) l15 c15 k15
  have b15 := F15.binds (ps := []) fun _ _ _ _ _ _ us hl => match us, hl with | [], _ => rfl
  have g15 := PySem.W.mg_of X G a15
  have F16 := fun_mk (st := s_law) l16 c16 k16
  have b16 := F16.binds (ps := ["script"]) fun _ _ _ _ _ _ us hl => match us, hl with | [_], _ => rfl
  have g16 := PySem.W.mg_of X G a16
  have m_isinstance := PySem.W.mg_none_of X G z_isinstance
  have m_tuple := PySem.W.mg_none_of X G z_tuple
  have m_list := PySem.W.mg_none_of X G z_list
  have m_len := PySem.W.mg_none_of X G z_len
  have m_int := PySem.W.mg_none_of X G z_int
  have m_abs := PySem.W.mg_none_of X G z_abs
  have m_enumerate := PySem.W.mg_none_of X G z_enumerate
  have m_reversed := PySem.W.mg_none_of X G z_reversed
  have m_range := PySem.W.mg_none_of X G z_range
  have m_zip := PySem.W.mg_none_of X G z_zip
  have m_all := PySem.W.mg_none_of X G z_all
  have m_bool := PySem.W.mg_none_of X G z_bool
  have m_str := PySem.W.mg_none_of X G z_str
  have exT : ∀ {A B : Addr} {c : Bool}, PySem.W.subIn K (.ref B) (.type "BaseException") = some true → PySem.W.isClsIn K B = true → PySem.W.typeIn K (.ref B) = some (.type "type") → PySem.W.subIn K (.ref A) (.ref B) = some c → PySem.W.exmOne K (.ref A) (.ref B) = some c := by
    intro A B c h1 h2 h3 h4
    have e1 : (PySem.W.subIn K (.ref B) (.type "BaseException") == some true) = true := by rw [h1]; rfl
    have e2 : ((PySem.W.clsIn K B).isSome && PySem.W.typeIn K (.ref B) == some (.type "type")) = true := by
      have h2' : (PySem.W.clsIn K B).isSome = true := h2
      rw [h2', h3]; rfl
    show (if (PySem.W.subIn K (.ref B) (.type "BaseException") == some true) = true then (if ((PySem.W.clsIn K B).isSome && PySem.W.typeIn K (.ref B) == some (.type "type")) = true then PySem.W.subIn K (.ref A) (.ref B) else none) else none) = some c
    rw [if_pos e1, if_pos e2]
    exact h4
  have eNN := exT bN iN tN sNN
  have eUN := exT bN iN tN sUN
  have eUU := exT bU iU tU sUU
  have gU := PySem.W.mg_of X G aU
  have gN := PySem.W.mg_of X G aN
  refine ⟨PySem.W.fnOf "law" "law" (defArgs s_law) (defBody s_law) (defScope s_law) .none kV16 dc16 pm16 an16 cd16 ct16, fun s u => .of_eq rfl, fun base _ _ => ?_⟩
  have D0 : Df P w K mg base "_holds_list" ["value"] 1 (spP K df_hl) := ⟨_, _, ok__holds_list F0 m_isinstance m_tuple m_list, g0, k0, b0⟩
  have D1 : Df P w K mg base "frozen" ["value"] 2 (spP K df_frozen) := ⟨_, _, ok_frozen F1 D0, g1, k1, b1⟩
  have D2 : Df P w K mg base "require_place" ["place", "many"] 1 (spP K df_place) := ⟨_, _, ok_require_place F2, g2, k2, b2⟩
  have D3 : Df P w K mg base "commute" ["word", "other"] 3 (spP K df_commute) := ⟨_, _, ok_commute F3 D1, g3, k3, b3⟩
  have D4 : Df P w K mg base "row_word" ["words", "row"] 3 (spP K df_row_word) := ⟨_, _, ok_row_word F4 m_len m_tuple D1 D2, g4, k4, b4⟩
  have D6 : Df P w K mg base "_first_places" ["pair", "whole"] 1 (spP K df_first) := ⟨_, _, ok__first_places F6 m_len m_reversed m_range m_enumerate, g6, k6, b6⟩
  have D5 : DfR P w K mg base "row_told" ["words", "word"] 4 (rf_told CU CN) := ⟨_, _, ok_row_told F5 m_len m_tuple xU gU kU bU tU xN gN kN bN tN D1 D3 D6, g5, k5, b5⟩
  have D7 : Df P w K mg base "_law_box" ["script", "k"] 1 (spL K f_box) := ⟨_, _, ok__law_box F7 m_int m_abs m_len, g7, k7, b7⟩
  have D8 : Df P w K mg base "_law_take" ["urn", "low_so"] 1 (spU K uf_take) := ⟨_, _, ok__law_take F8 m_int, g8, k8, b8⟩
  have D9 : Df P w K mg base "_law_cells" ["script", "top"] 1 (spP K df_cells) := ⟨_, _, ok__law_cells F9 m_list m_enumerate m_int, g9, k9, b9⟩
  have D10 : Df P w K mg base "_law_same" ["got", "goal"] 3 (spP K (df_same 3)) := ⟨_, _, ok__law_same F10 m_isinstance m_list m_tuple m_bool m_str m_int m_len m_all m_zip g10 k10 b10 3, g10, k10, b10⟩
  have D11 : Df P w K mg base "_law_word" ["urn", "most", "kinds_so"] 2 (spU K uf_word) := ⟨_, _, ok__law_word F11 m_tuple m_range D8, g11, k11, b11⟩
  have D12 : Df P w K mg base "_law_heard" ["pair", "word"] 5 (spP K df_heard) := ⟨_, _, ok__law_heard F12 gU gN eNN eUN eUU D5, g12, k12, b12⟩
  have D13 : Df P w K mg base "_law_ways" ["pair", "word"] 60 (spP K (df_ways 60)) := ⟨_, _, ok__law_ways F13 m_len g13 k13 b13 60, g13, k13, b13⟩
  have D14 : Df P w K mg base "_law_right" ["urn"] 61 (spU K uf_right) := ⟨_, _, ok__law_right F14 m_len m_tuple m_range D8 D11 D3 D4 D12 D13 D10, g14, k14, b14⟩
  have D15 : Df P w K mg base "_law_by_hand_right" [] 6 (spP K df_hand) := ⟨_, _, ok__law_by_hand_right F15 D4 D12 D10, g15, k15, b15⟩
  exact ok_law F16 m_all m_len m_range D15 D9 D14 D7
theorem start_ok {K : PySem.W.Frag} {H : Hp} {a : Addr} {ns : List Int} (hl : ns.length ≤ 63) (hS : SqL K H a (ns.map V.int)) : spP K df_law [.ref a] H (fun v _ => v = .bl true) fun _ _ _ => False := by
  have e : hide H [] = H := by
    funext b
    exact hide_out (fun z => nomatch z)
  have hd : DqAll K H (ns.map V.int) (ns.map PyData.int) := by
    clear hS hl
    induction ns with
    | nil => exact .nil
    | cons n ns ih => exact .cons (.int n) ih
  refine ⟨[], [.list (ns.map .int)], fun d => d = .bool true, (fun a z => nomatch z), .cons (.lst (xs := ns.map V.int) (by rw [e]; exact hS) (by rw [e]; exact hd)) .nil, ⟨ns, rfl, by omega, rfl⟩, fun d v H' hd _ hq => ?_⟩
  subst hd
  exact dp_bool hq
end K3
open PySem PySem.W PyProof.Rows
set_option maxRecDepth 100000 in
set_option maxHeartbeats 0 in
theorem PySem.Challenge.cw_unwound_k03_whole_rows_of_two_words_holds : PySem.Challenge.rw_unwound_k03_whole_rows_of_two_words.Holds := by
  w_on; o_law; k_head; (case hw => w_witness2)
  k_fill
  refine L2.walk_of (n := 63) (k := 62) (x := "script") (CX := fun _ => L2.CX0) (sp := fun w => DL.spP _ K3.df_law) rfl (by decide) rfl ⟨rfl, by decide, by decide⟩ (fun w h Y => PySem.W.kIn_of Y) ?F (fun _ _ a ns hl _ hS => K3.start_ok hl hS) (fun _ _ _ _ _ z => z)
  case F =>
    intro w mg fa h KX G hmg
    refine' K3.all_mk KX G hmg ?aU ?xU ?kU ?bU ?tU ?iU ?aN ?xN ?kN ?bN ?tN ?iN ?sNN ?sUU ?sUN ?a0 ?l0 ?c0 ?k0 ?a1 ?l1 ?c1 ?k1 ?a2 ?l2 ?c2 ?k2 ?a3 ?l3 ?c3 ?k3 ?a4 ?l4 ?c4 ?k4 ?a5 ?l5 ?c5 ?k5 ?a6 ?l6 ?c6 ?k6 ?a7 ?l7 ?c7 ?k7 ?a8 ?l8 ?c8 ?k8 ?a9 ?l9 ?c9 ?k9 ?a10 ?l10 ?c10 ?k10 ?a11 ?l11 ?c11 ?k11 ?a12 ?l12 ?c12 ?k12 ?a13 ?l13 ?c13 ?k13 ?a14 ?l14 ?c14 ?k14 ?a15 ?l15 ?c15 ?k15 ?a16 ?l16 ?c16 ?k16 ?z_isinstance ?z_tuple ?z_list ?z_len ?z_int ?z_abs ?z_enumerate ?z_reversed ?z_range ?z_zip ?z_all ?z_bool ?z_str
    (case aU => first | k_is | rfl)
    (case xU => k_exc)
    (case kU => first | k_is | rfl)
    (case bU => first | k_is | rfl)
    (case tU => first | k_is | rfl)
    (case iU => first | k_is | rfl)
    (case aN => first | k_is | rfl)
    (case xN => k_exc)
    (case kN => first | k_is | rfl)
    (case bN => first | k_is | rfl)
    (case tN => first | k_is | rfl)
    (case iN => first | k_is | rfl)
    (case sNN => first | k_is | rfl)
    (case sUU => first | k_is | rfl)
    (case sUN => first | k_is | rfl)
    (case a0 => first | k_is | rfl)
    (case l0 => first | k_is | rfl)
    (case c0 => first | k_is | rfl)
    (case k0 => first | k_is | rfl)
    (case a1 => first | k_is | rfl)
    (case l1 => first | k_is | rfl)
    (case c1 => first | k_is | rfl)
    (case k1 => first | k_is | rfl)
    (case a2 => first | k_is | rfl)
    (case l2 => first | k_is | rfl)
    (case c2 => first | k_is | rfl)
    (case k2 => first | k_is | rfl)
    (case a3 => first | k_is | rfl)
    (case l3 => first | k_is | rfl)
    (case c3 => first | k_is | rfl)
    (case k3 => first | k_is | rfl)
    (case a4 => first | k_is | rfl)
    (case l4 => first | k_is | rfl)
    (case c4 => first | k_is | rfl)
    (case k4 => first | k_is | rfl)
    (case a5 => first | k_is | rfl)
    (case l5 => first | k_is | rfl)
    (case c5 => first | k_is | rfl)
    (case k5 => first | k_is | rfl)
    (case a6 => first | k_is | rfl)
    (case l6 => first | k_is | rfl)
    (case c6 => first | k_is | rfl)
    (case k6 => first | k_is | rfl)
    (case a7 => first | k_is | rfl)
    (case l7 => first | k_is | rfl)
    (case c7 => first | k_is | rfl)
    (case k7 => first | k_is | rfl)
    (case a8 => first | k_is | rfl)
    (case l8 => first | k_is | rfl)
    (case c8 => first | k_is | rfl)
    (case k8 => first | k_is | rfl)
    (case a9 => first | k_is | rfl)
    (case l9 => first | k_is | rfl)
    (case c9 => first | k_is | rfl)
    (case k9 => first | k_is | rfl)
    (case a10 => first | k_is | rfl)
    (case l10 => first | k_is | rfl)
    (case c10 => first | k_is | rfl)
    (case k10 => first | k_is | rfl)
    (case a11 => first | k_is | rfl)
    (case l11 => first | k_is | rfl)
    (case c11 => first | k_is | rfl)
    (case k11 => first | k_is | rfl)
    (case a12 => first | k_is | rfl)
    (case l12 => first | k_is | rfl)
    (case c12 => first | k_is | rfl)
    (case k12 => first | k_is | rfl)
    (case a13 => first | k_is | rfl)
    (case l13 => first | k_is | rfl)
    (case c13 => first | k_is | rfl)
    (case k13 => first | k_is | rfl)
    (case a14 => first | k_is | rfl)
    (case l14 => first | k_is | rfl)
    (case c14 => first | k_is | rfl)
    (case k14 => first | k_is | rfl)
    (case a15 => first | k_is | rfl)
    (case l15 => first | k_is | rfl)
    (case c15 => first | k_is | rfl)
    (case k15 => first | k_is | rfl)
    (case a16 => first | k_is | rfl)
    (case l16 => first | k_is | rfl)
    (case c16 => first | k_is | rfl)
    (case k16 => first | k_is | rfl)
    (case z_isinstance => first | k_is | rfl)
    (case z_tuple => first | k_is | rfl)
    (case z_list => first | k_is | rfl)
    (case z_len => first | k_is | rfl)
    (case z_int => first | k_is | rfl)
    (case z_abs => first | k_is | rfl)
    (case z_enumerate => first | k_is | rfl)
    (case z_reversed => first | k_is | rfl)
    (case z_range => first | k_is | rfl)
    (case z_zip => first | k_is | rfl)
    (case z_all => first | k_is | rfl)
    (case z_bool => first | k_is | rfl)
    (case z_str => first | k_is | rfl)
